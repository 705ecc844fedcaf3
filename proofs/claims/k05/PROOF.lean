import PyProof.Rows.All
import Wide.All
import OpenK.AllK
import Wide.FinOn
import PyProof.EqAt
import PyProof.EqKinds
import PyProof.TupleCall
import HandS.Base
import HandS.Call
import HandS.List
import HandS.Comp
import HandS.Ends
import HandS.Text
import HandS.Exc
import HandS.Words
import HandS.WordsList
import HandS.Iter
import HandS.Dict
import HandS.Wide
import HandS.IsInst
import HandS.AnyAll
import HandS.EndBits
import HandS.EndTab
import KE.GoesMore
import KE.GoesEnum
import HandS.Walk
import HandS.DictComp
import HandS.Conv
import HandS.TryMany
import HandS.ExcOwn
import HandS.WordsExc
import HandS.ExcInit
import HandS.ExcField
import HandS.ExcIs
import KE.KExcIs
import KE.KIsAll
import PyProof.Rows.RegFStrParts
import PyProof.Rows.ReprShort
import KE.KEqDict
import HandS.Flow
import PySem.Challenge.RW_onestaff_k05_what_is_asked_refused
set_option Elab.async false
set_option linter.all false
set_option maxRecDepth 100000
set_option maxHeartbeats 4000000
/-! Defs that show lists and tuples: they run where no display is under way. -/
namespace Gd
open PySem PySem.Spec PyProof.Rows L2

/-- a def's promise, kept wherever no display is under way -/
structure GOk (P : Program) (w : World) (K : PySem.W.Frag) (mg : Str → Option Value) (base : Heap) (CX : CXT) (k : Nat) (f : Addr) (fd : FuncData) (ps : List Str) (sp : Sp) : Prop where
  size : ∀ vs H Q E, sp vs H Q E → vs.length = ps.length
  go : ∀ (A : Around) (out : List Env) (s : Shared) (H : Hp) (ar : Args) (us : List Value) (vs : List V) (Q : VK) (E : XK), A.guards = some [] →
    Room k A → Env0 P w K mg base A out s H → BindsTo s fd ar (ps.zip us) → Vals vs us → sp vs H Q E →
    codeAny (model P w) A (.call (.ref f) ar) (CR CX out P w H s Q E) s

section
variable {P : Program} {w : World} {K : PySem.W.Frag} {mg : Str → Option Value} {base : Heap}

/-- by its body -/
theorem gok_body {CX : CXT} {k : Nat} {x qual : Str} {st : Stmt} {f : Addr} {fd : FuncData} {N ps : List Str} {sp : Sp} (F : Fun K x qual st f fd) (S : FnScope N ps (defScope st))
    (size : ∀ vs H Q E, sp vs H Q E → vs.length = ps.length)
    (body : ∀ (cd : Value) (A : Around) (out : List Env) (s : Shared) (H : Hp) (vs : List V) (Q : VK) (E : XK), A.guards = some [] →
      Room k (A.deeper (envOfC qual (defScope st) s.heap.objs.size f cd)) → sp vs H Q E →
      ∃ t, PSs (cxOf CX P w K mg base N qual (defScope st) f cd A out s H E) (defBody st) t ∧ t { nx := fun _ H' => Q .non H', rt := Q } (start N vs) H) :
    GOk P w K mg base CX (k + 1) f fd ps sp := by
  obtain ⟨oc, od, kV, doc, pm, an, cd, ct, osl, rfl, lk, hcd⟩ := F.ex
  refine ⟨size, fun A out s H ar us vs Q E gd hr e0 hb r hsp => ?_⟩
  have hl := size _ _ _ _ hsp
  have KX : K.In s.heap := e0.mod.kin.keeps fun b o z => (e0.bs b o z).1
  have kinds : ∀ y ∈ ps.zip us, (defScope st).names.lookup y.1 = some .local ∨
      ((defScope st).names.lookup y.1 = some .cell ∧ ((cellsFrom (s.heap.objs.size + 1) (defScope st).names []).lookup y.1).isSome = true) := by
    rintro ⟨n, v⟩ hy
    have hm := (List.of_mem_zip hy).1
    cases S.par n hm with
    | inl q => exact .inl q
    | inr q => exact .inr ⟨q, PySem.W.cellsFrom_some _ _ _ (.inl q)⟩
  have Z := PySem.W.codeRec_of KX hcd
  refine codeAny_call_function hr.depth (KX _ _ lk) rfl S.co S.gen rfl Z (hb _ _ _ _ ?_)
  refine wpAny_newFunctionEnv_cells S.kind kinds fun env he s1 ic => ?_
  subst he
  have lim : s.heap.NoLimit := e0.mod.nolimit.keeps fun b o z => (e0.bs b o z).1
  refine ⟨lim.keeps ic.toInCall.keep, codeAny_func ?_⟩
  obtain ⟨t, ht, hq⟩ := body cd A out s H vs Q E gd (hr.deeper _) hsp
  have I := inv_start (CX := CX) (E := E) S hr.hd e0 hl r ic
  refine wpAny_mono (ht.run [] s1 (start N vs) H _ I hq) ?_ (fun _ _ z => z)
  intro fl s' hs
  cases fl with
  | brk => obtain ⟨_, _, _, q⟩ := hs; exact q.elim
  | cont => obtain ⟨_, _, _, q⟩ := hs; exact q.elim
  | next =>
    obtain ⟨σ', H', J, q⟩ := hs
    exact ⟨V.non, H', J.os, J.bare, J.base, J.hok, rfl, q⟩
  | ret u =>
    obtain ⟨v, σ', H', J, rv, q⟩ := hs
    exact ⟨v, H', J.os, J.bare, J.base, J.hok, rv, q⟩
/-- the same where nothing is raised -/
theorem gok {k : Nat} {x qual : Str} {st : Stmt} {f : Addr} {fd : FuncData} {N ps : List Str} {sp : Sp} (F : Fun K x qual st f fd) (S : FnScope N ps (defScope st))
    (size : ∀ vs H Q E, sp vs H Q E → vs.length = ps.length)
    (body : ∀ (cd : Value) (A : Around) (out : List Env) (s : Shared) (H : Hp) (vs : List V) (Q : VK) (E : XK), A.guards = some [] →
      Room k (A.deeper (envOfC qual (defScope st) s.heap.objs.size f cd)) → sp vs H Q E →
      ∃ t, PSs (cxOf CX0 P w K mg base N qual (defScope st) f cd A out s H E).nox (defBody st) t ∧ t { nx := fun _ H' => Q .non H', rt := Q } (start N vs) H) :
    GOk P w K mg base CX0 (k + 1) f fd ps sp := by
  refine gok_body F S size fun cd A out s H vs Q E gd hr q => ?_
  obtain ⟨t, h, z⟩ := body cd A out s H vs Q E gd hr q
  exact ⟨t, h.nox, z⟩
theorem GOk.mono {CX : CXT} {j k : Nat} {f : Addr} {fd : FuncData} {ps : List Str} {sp : Sp} (F : GOk P w K mg base CX j f fd ps sp) (h : j ≤ k) : GOk P w K mg base CX k f fd ps sp :=
  ⟨F.size, fun A out s H ar us vs Q E gd hr => F.go A out s H ar us vs Q E gd (hr.mono h)⟩
theorem gok_of {CX : CXT} {k : Nat} {f : Addr} {fd : FuncData} {ps : List Str} {sp : Sp} (F : FnOk P w K mg base CX k f fd ps sp) : GOk P w K mg base CX k f fd ps sp :=
  ⟨F.len, fun A out s H ar us vs Q E _ hr => F.run A out s H ar us vs Q E hr⟩
end

section
variable {X : Cx} {CX : CXT} {k : Nat} {f : Addr} {fd : FuncData} {ps : List Str} {sp : Sp} {dvs : List V} {ds : List Value} {E : XK} {x : Str} {p pos : Pos} {e : Expr} {es : List Expr} {t : TA}
/-- f(e, ..), f such a def, from a body of such a def -/
theorem pe_gcall (gd : X.A.guards = some []) (F : GOk X.prog X.w X.K X.mg X.base CX k f fd ps sp) (hr : Room k X.A) (hg : Gl X x) (hm : X.mg x = some (.ref f)) (hk : PySem.W.keepIn X.K (.ref f) = true)
    (hb : Binds X.K fd ps ds) (hd : Vals dvs ds) (hx : Passes CX X E) (ha : PA X (e :: es) t) (hdb : (x == ("__debug__" : Str)) = false := by decide)
    (he : starEach (e :: es) X.env = (false, eval e X.env) :: starEach es X.env := by rfl) (hpl : (backTo pos (starEach es X.env)).any (·.1) = false := by rfl) :
    PE X (.Call (.Name x p) (e :: es) [] pos) (tCall sp dvs E t) := by
  refine ⟨fun pins s σ H Q I h => wpAny_Call_Name_kw (ld_glob I hg hm ?_ hdb)⟩
  have A1 := ha.run pos pins s σ H _ I h
  refine PySem.W.callWith_K (h₀ := X.base) I.ok.mod.kin hk (thn A1 ?_) he hpl
  rintro us s1 ⟨vs, H1, I1, r, q⟩
  refine ⟨I1.kIn, ?_⟩
  have both := r.append hd
  have hl : (us ++ ds).length = ps.length := (both.length).symm.trans (F.size _ _ _ _ q)
  have run1 := F.go X.A X.stack s1 H1 ⟨us, []⟩ (us ++ ds) (vs ++ dvs) Q E gd hr I1.env0 (hb s1 us I1.kIn hl) both q
  refine wpAny_call (codeAny_mono run1 ?_)
  intro res s' hq
  match res, hq with
  | .error e, hq => exact hx pins σ H1 s1 e s' I1 hq
  | .ok (.ret u), hq => exact I1.after hq
  | .ok .next, hq => exact hq.elim
  | .ok .brk, hq => exact hq.elim
  | .ok .cont, hq => exact hq.elim

/-! ### repr of data -/
mutual
theorem dp_noDict {K : PySem.W.Frag} {H : Hp} : ∀ {v : V} {d : PyData}, Dp K H v d → d.hasDict = false
  | _, _, .non => by simp only [PyData.hasDict]
  | _, _, .bl _ => by simp only [PyData.hasDict]
  | _, _, .int _ => by simp only [PyData.hasDict]
  | _, _, .str _ => by simp only [PyData.hasDict]
  | _, _, .lst _ h => by simp only [PyData.hasDict]; exact dpAll_noDict h
  | _, _, .tup _ h => by simp only [PyData.hasDict]; exact dpAll_noDict h
theorem dpAll_noDict {K : PySem.W.Frag} {H : Hp} : ∀ {vs : List V} {ds : List PyData}, DpAll K H vs ds → PyData.hasDictAll ds = false
  | _, _, .nil => by simp only [PyData.hasDictAll]
  | _, _, .cons h t => by simp only [PyData.hasDictAll, dp_noDict h, dpAll_noDict t, Bool.or_self]
end
/-- repr(v), v some data d -/
def rRepr (K : PySem.W.Frag) : List V → Hp → VK → Prop := fun xs H Q => ∃ v d, xs = [v] ∧ Dp K H v d ∧ d.showable = true ∧ d.depth ≤ 100 ∧ d.shown.length ≤ sizeLine ∧ Q (.str d.shown) H
theorem call_repr (gd : X.A.guards = some []) (hr : Room k X.A) : CallR X (.builtin "repr") (rRepr X.K) := by
  intro pins s σ H xs us Q I r h
  obtain ⟨v, d, rfl, dp, hs, hdep, hsz, q⟩ := h
  cases r with
  | cons rv rn =>
    cases rn
    have hun := hr.un
    cases dp with
    | non =>
      cases rv
      refine PySem.P.repr_of_none ⟨.str _, H, I.tok _, ⟨_, rfl⟩, ?_⟩
      simpa only [PyData.shown] using q
    | bl b =>
      cases rv
      refine PySem.P.repr_of_bool ⟨.str _, H, I.tok _, ⟨_, rfl⟩, ?_⟩
      simpa only [PyData.shown] using q
    | int i =>
      obtain ⟨t, rfl⟩ := rv
      refine PySem.P.repr_of_int (by simpa [PyData.showable] using hs) ⟨.str _, H, I.tok _, ⟨_, rfl⟩, ?_⟩
      simpa only [PyData.shown] using q
    | str z =>
      obtain ⟨t, rfl⟩ := rv
      refine PySem.P.repr_of_str ⟨.str _, H, I.tok _, ⟨_, rfl⟩, ?_⟩ (by simpa only [PyData.shown] using hsz)
      simpa only [PyData.shown] using q
    | lst hl ha =>
      cases rv
      obtain ⟨as, rd⟩ := Dp.reads I _ _ _ (.lst hl ha) rfl
      refine repr_of_reads' rd hs (PyData.noDict_hsm (dp_noDict (.lst hl ha))) gd (by omega) (fun _ _ z => z) (fun h' u tk hk => ?_) hsz
      exact ⟨.str _, H, I.kept hk, ⟨_, rfl⟩, q⟩
    | tup hl ha =>
      cases rv
      obtain ⟨as, rd⟩ := Dp.reads I _ _ _ (.tup hl ha) rfl
      refine repr_of_reads' rd hs (PyData.noDict_hsm (dp_noDict (.tup hl ha))) gd (by omega) (fun _ _ z => z) (fun h' u tk hk => ?_) hsz
      exact ⟨.str _, H, I.kept hk, ⟨_, rfl⟩, q⟩
end
end Gd

set_option maxRecDepth 100000
set_option maxHeartbeats 4000000
/-! The end of a law whose own def shows data: no display is under way at its call. -/
namespace Gd
open PySem PySem.Spec PyProof.Rows L2 GxR

/-- the script's own object -/
def scriptO (vs : List Value) : Obj := { cls := .type "list", data := .seq vs.toArray }
def tabO : Obj := { cls := .none, data := .fields #[] }
open Classical in
/-- what is tracked at the law's call: the script (where the written part hasn't it), the tables -/
noncomputable def h0 (K : PySem.W.Frag) (a : Addr) (vs : List Value) (ns : List Int) (T : List Addr) : Hp := fun b =>
  if b = a ∧ K.lookup a = none then some (.frz (scriptO vs) (.lst (ns.map V.int))) else if b ∈ T then some (.tbl #[]) else none

theorem h0_inv {K : PySem.W.Frag} {a b : Addr} {vs : List Value} {ns : List Int} {T : List Addr} {u : HO} (h : h0 K a vs ns T b = some u) :
    (b = a ∧ K.lookup a = none ∧ u = .frz (scriptO vs) (.lst (ns.map V.int))) ∨ (b ∈ T ∧ u = .tbl #[]) := by
  unfold h0 at h
  by_cases c1 : b = a ∧ K.lookup a = none
  · rw [if_pos c1] at h
    exact .inl ⟨c1.1, c1.2, (Option.some.inj h).symm⟩
  · rw [if_neg c1] at h
    by_cases c2 : b ∈ T
    · rw [if_pos c2] at h
      exact .inr ⟨c2, (Option.some.inj h).symm⟩
    · rw [if_neg c2] at h
      cases h

section
variable {P : Program} {w : World} {K : PySem.W.Frag} {mg mb : Str → Option Value} {CX : CXT} {k : Nat} {fa a : Addr} {cs : List (Addr × Addr)} {fd : FuncData} {x : Str} {sp : Sp} {s1 : Shared} {vs : List Value} {ns : List Int}
theorem law_gcall (KX : K.In s1.heap) (nsG : s1.heap.Ns mainGlobals mg) (nsB : s1.heap.Ns builtinsNs mb) (isB : ∀ x : Str, x ≠ "__name__" → mb x = bootBuiltins x) (lim : s1.heap.NoLimit) (gens : s1.gens = #[])
    (tabs : ∀ p ∈ cs, s1.heap.get? p.2 = some tabO) (tabK : ∀ p ∈ cs, K.lookup p.2 = none) (codes : ∀ p ∈ cs, PySem.W.CodeHd s1.heap p.1 p.2)
    (bmain : ∃ (bm : Addr) (ob : Obj), mg "__builtins__" = some (.ref bm) ∧ bm ≠ builtinsNs ∧ s1.heap.get? bm = some ob ∧ ob.cls = .type "module" ∧ ob.dict = some builtinsNs ∧ ob.data = .plain)
    (ha : s1.heap.get? a = some (scriptO vs)) (hi : IntsAre vs ns) (hl : ns.length ≤ sizeLine) (hr : Room k callerA)
    (F : ∀ base : Heap, K.In base → base.Ns mainGlobals mg → (∀ p ∈ cs, TabB base mg p.1 p.2) → GOk P w K mg base CX k fa fd [x] sp)
    (hbind : ∀ (s : Shared) (u : Value), BindsTo s fd ⟨[u], []⟩ [(x, u)])
    (hsp : ∀ H : Hp, (∀ p ∈ cs, H p.2 = some (.tbl #[])) → SqL K H a (ns.map V.int) → sp [.ref a] H (fun v _ => v = .bl true) fun _ _ _ => False)
    (hCX : ∀ H e s', CX [] H s1 (fun _ _ _ => False) e s' → False) :
    codeAny (model P w) callerA (.call (.ref fa) ⟨[.ref a], []⟩) (fun r s' => r = .ok (.ret (.bool true)) ∧ OldK s1.heap s'.heap ∧ s'.os = s1.os ∧ AllBare s'.gens) s1 := by
  have rv := vals_ints hi
  have hlen := hi.length
  let T := cs.map Prod.snd
  have inT : ∀ p ∈ cs, p.2 ∈ T := fun p hp => List.mem_map.mpr ⟨p, hp, rfl⟩
  have ofT : ∀ b ∈ T, s1.heap.get? b = some tabO ∧ K.lookup b = none := by
    intro b hb
    obtain ⟨p, hp, rfl⟩ := List.mem_map.mp hb
    exact ⟨tabs p hp, tabK p hp⟩
  have neT : a ∉ T := fun z => by
    have q := (ofT a z).1
    rw [ha] at q
    cases q
  let H := h0 K a vs ns T
  -- a tracked object is the script or a table
  have seen : ∀ {b : Addr} {o : Obj}, s1.heap.get? b = some o → (∀ us n, o.data ≠ .seq us n) → o.data ≠ .fields #[] → H b = none := by
    intro b o e n1 n2
    cases q : H b with
    | none => rfl
    | some u =>
      exfalso
      rcases h0_inv q with ⟨rfl, _, _⟩ | ⟨hb, _⟩
      · rw [ha] at e
        cases e
        exact n1 _ _ rfl
      · rw [(ofT b hb).1] at e
        cases e
        exact n2 rfl
  have keepHid : ∀ {b : Addr} {o : Obj}, s1.heap.get? b = some o → H b = none → (hidT s1.heap H).get? b = some o := fun e n => hidT_get e n
  have dictHid : ∀ {b : Addr} {o : Obj} {es : Array DictEntry} {ep : Nat}, s1.heap.get? b = some o → o.data = .dict es ep → (hidT s1.heap H).get? b = some o := by
    intro b o es ep e d
    refine keepHid e (seen e (fun us n z => ?_) fun z => ?_) <;> (rw [d] at z; cases z)
  have nsHid : ∀ {b : Addr} {m : Str → Option Value}, s1.heap.Ns b m → (hidT s1.heap H).Ns b m := by
    rintro b m ⟨o, es, ep, e, d, rest⟩
    exact ⟨o, es, ep, dictHid e d, d, rest⟩
  have KH : K.In (hidT s1.heap H) := by
    intro b o e
    refine keepHid (KX b o e) ?_
    cases q : H b with
    | none => rfl
    | some u =>
      exfalso
      rcases h0_inv q with ⟨rfl, z, _⟩ | ⟨hb, _⟩
      · rw [z] at e
        cases e
      · rw [(ofT b hb).2] at e
        cases e
  have limH : (hidT s1.heap H).NoLimit := by
    obtain ⟨mc, h1, h2⟩ := lim
    exact ⟨mc, nsHid h1, h2⟩
  have M : L2.Mod K mg (hidT s1.heap H) := ⟨KH, nsHid nsG, ⟨mb, nsHid nsB, isB⟩, limH⟩
  have TB : ∀ p ∈ cs, TabB (hidT s1.heap H) mg p.1 p.2 := by
    intro p hp
    have tp := tabs p hp
    refine ⟨?_, ?_, ?_⟩
    · obtain ⟨o, us, file, tf, flags, tg, inF, text, tt, e1, r1, r2, r3, rest⟩ := codes p hp
      refine ⟨o, us, file, tf, flags, tg, inF, text, tt, keepHid e1 (seen e1 (fun vs n z => ?_) fun z => ?_), r1, r2, r3, rest⟩
      · rw [r2] at z
        cases z
      · rw [r2] at z
        cases z
        simp at r3
    · obtain ⟨bm, ob, b1, b2, b3, b4, b5, b6⟩ := bmain
      have g1 : bm ≠ mainGlobals := by
        rintro rfl
        obtain ⟨o, es, ep, e, d, _⟩ := nsG
        rw [b3] at e
        cases e
        rw [b6] at d
        cases d
      have g2 : bm ≠ p.2 := by
        rintro rfl
        rw [tp] at b3
        cases b3
        cases b6
      refine ⟨bm, ob, b1, b2, g1, g2, keepHid b3 (seen b3 (fun vs n z => ?_) fun z => ?_), b4, b5, b6⟩ <;> (rw [b6] at z; cases z)
    · intro z
      obtain ⟨o, es, ep, e, d, _⟩ := nsG
      rw [z, tp] at e
      cases e
      cases d
  have hH : ∀ p ∈ cs, H p.2 = some (.tbl #[]) := by
    intro p hp
    have n1 : ¬ (p.2 = a ∧ K.lookup a = none) := fun z => neT (z.1 ▸ inT p hp)
    exact (if_neg n1).trans (if_pos (inT p hp))
  have hS : SqL K H a (ns.map V.int) := by
    cases q : K.lookup a with
    | none => exact .inl (.inr ⟨scriptO vs, if_pos ⟨rfl, q⟩⟩)
    | some o =>
      have e := KX a o q
      rw [ha] at e
      cases e
      exact .inr ⟨_, vs.toArray, _, q, rfl, rfl, rfl, by rw [List.size_toArray, hlen]; exact hl, by simpa using rv⟩
  have hok : HOk P w H s1.heap := by
    intro b u q
    rcases h0_inv q with ⟨rfl, _, rfl⟩ | ⟨hb, rfl⟩
    · exact ⟨ha, by rw [List.length_map]; exact hl, vs, _, rv, ha⟩
    · exact (ofT b hb).1
  have e0 : Env0 P w K mg (hidT s1.heap H) callerA [] s1 H :=
    ⟨rfl, M, fun b o e => of_hidT e, Nat.le_of_eq (hidT_size _ _), trivial, (fun b hb => by cases (show b ∈ ([] : List Addr) from hb)), hok, .of_eq gens⟩
  have run := (F _ KH (nsHid nsG) TB).go callerA [] s1 H ⟨[.ref a], []⟩ [.ref a] [.ref a] (fun v _ => v = .bl true) (fun _ _ _ => False) rfl hr e0 (hbind s1 (.ref a)) (.cons rfl .nil) (hsp H hH hS)
  refine codeAny_mono run ?_
  intro r s' h
  match r, h with
  | .error e, h => exact (hCX H e s' h).elim
  | .ok .next, h => exact h.elim
  | .ok .brk, h => exact h.elim
  | .ok .cont, h => exact h.elim
  | .ok (.ret u), h =>
    obtain ⟨v, H', os, bare, un, hok', r', q⟩ := h
    obtain rfl : v = .bl true := q
    obtain rfl : u = Value.bool true := r'
    have plain : ∀ b o, b ∉ T → s1.heap.get? b = some o → s'.heap.get? b = some o := by
      intro b o nb e
      cases q : H b with
      | none => exact un.keep b o e q (fun z => by cases (show b ∈ ([] : List Addr) from z)) (by simp)
      | some y =>
        rcases h0_inv q with ⟨rfl, _, rfl⟩ | ⟨hb, _⟩
        · obtain ⟨e2, _⟩ := hok' b _ (un.frzs b _ _ q)
          rw [ha] at e
          cases e
          exact e2
        · exact absurd hb nb
    have grown : ∀ p ∈ cs, ∃ more : Array Value, s'.heap.get? p.2 = some { cls := .none, data := .fields more } := by
      intro p hp
      obtain ⟨more, z⟩ := un.tbls p.2 #[] (hH p hp)
      exact ⟨_, hok' p.2 _ z⟩
    refine ⟨rfl, ⟨fun b o e => ?_, fun b o e => ?_⟩, os, bare⟩ <;> by_cases hb : b ∈ T
    · obtain ⟨p, hp, rfl⟩ := List.mem_map.mp hb
      obtain ⟨more, hm⟩ := grown p hp
      rw [tabs p hp] at e
      cases e
      exact .inr (.inl ⟨((codes p hp).tab (tabs p hp)).isCodeTable, rfl, #[], more, rfl, by rw [Array.empty_append]; exact hm⟩)
    · exact .inl (plain b o hb e)
    · obtain ⟨p, hp, rfl⟩ := List.mem_map.mp hb
      obtain ⟨more, hm⟩ := grown p hp
      exact ⟨_, hm⟩
    · exact ⟨o, plain b o hb e⟩
end

/-- the tables of the text's own defs are empty behind the top -/
def Empt (q : Program) (K : PySem.W.Frag) (h : Heap) : Prop := ∀ (x : Str) (f c t : Addr) (o : Obj) (fd : FuncData) (e : Value) (dd : Option Addr) (us : Array Value) (sl : Array (Option Value)),
  ((PyProof.Rows.recsOf q).any fun r => r.name == x) = true → PySem.W.nsIn K mainGlobals x = some (some (.ref f)) → K.lookup f = some o → o.data = .func fd → fd.code = .ref c →
  K.lookup c = some ⟨e, dd, .fields us, sl⟩ → us[11]? = some (.ref t) → PySem.W.CodeHd h c t ∧ h.get? t = some tabO
/-- what is to be known of the law at the head's heap -/
def GLaw (l : PySem.W.OpenLaw) (w : World) (K : PySem.W.Frag) (CX : CXT) (k n : Nat) (x : Str) (mg : Str → Option Value) (fa : Addr) (h : Heap) : Prop :=
  ∃ (fd : FuncData) (cs : List (Addr × Addr)) (sp : Sp), (∀ p ∈ cs, h.get? p.2 = some tabO) ∧ (∀ p ∈ cs, K.lookup p.2 = none) ∧ (∀ p ∈ cs, PySem.W.CodeHd h p.1 p.2) ∧
    (∀ (s : Shared) (u : Value), BindsTo s fd ⟨[u], []⟩ [(x, u)]) ∧
    (∀ (H : Hp) (a : Addr) (ns : List Int), ns.length ≤ n → (∀ z ∈ ns, Builtin.Int.intBits z ≤ 1048576) → (∀ p ∈ cs, H p.2 = some (.tbl #[])) → SqL K H a (ns.map V.int) →
      sp [.ref a] H (fun v _ => v = .bl true) fun _ _ _ => False) ∧
    ∀ base : Heap, K.In base → base.Ns mainGlobals mg → (∀ p ∈ cs, TabB base mg p.1 p.2) → GOk l.prog w K mg base CX k fa fd [x] sp
theorem walk_g {l : PySem.W.OpenLaw} {n k : Nat} {q : Program} {loose : List Str} {XP : (Str → Option Value) → Heap → Prop} {YP : World → Heap → Prop} {d : DefRec} {K : Params → PySem.W.Frag} {CX : World → CXT} {x : Str}
    (hn : l.most = some n) (small : n ≤ sizeLine) (hdf : d.params.defaults = []) (hr : Room k callerA) (hY : ∀ (w : World) (h : Heap), YP w h → (K w.params).In h)
    (F : ∀ (w : World) (mg : Str → Option Value) (fa : Addr) (h : Heap), YP w h → (K w.params).In h → h.Ns mainGlobals mg → mg d.name = some (.ref fa) → Empt q (K w.params) h → GLaw l w (K w.params) (CX w) k n x mg fa h)
    (hCX : ∀ (w : World) (H : Hp) (s : Shared) (e : Value) (s' : Shared), CX w [] H s (fun _ _ _ => False) e s' → False) :
    PySem.W.WalkO q loose XP YP l.row.toRowW d [] (fun f vs => PySem.call f vs) := by
  refine Att.attach_callB hn hdf ?_
  intro w sA s1 mg mb fa o pm cd doc a vs ns G Y ho hd hcd hmg hobj hints hlen hbits hg
  have KX := hY w _ Y
  have em : Empt q (K w.params) s1.heap := by
    intro x f c t o1 fd1 e dd us sl hx k1 k2 k3 k4 k5 k6
    obtain ⟨r, hr1, hr2⟩ := List.any_eq_true.mp hx
    have hn1 : r.name = x := beq_iff_eq.mp hr2
    obtain ⟨a1, o2, fd2, c2, t2, y1, y2, y3, y4, y5, y6⟩ := G.T.tab r hr1
    have z1 := PySem.W.mg_of KX G.T.g k1
    rw [hn1, z1] at y1
    cases y1
    have z2 := KX _ _ k2
    rw [z2] at y2
    cases y2
    rw [k3] at y3
    cases y3
    rw [k4] at y4
    cases y4
    have y6b := y6
    obtain ⟨⟨oc, vc, e1, e2, e3, e4⟩, hP⟩ := y6b
    have z5 := KX _ _ k5
    rw [z5] at e1
    cases e1
    cases e3
    rw [k6] at e4
    cases e4
    exact ⟨PySem.W.CodeHd.of y5 y6, hP⟩
  obtain ⟨fd, cs, sp, t1, t2, t3, hb, hsp, hF⟩ := F w mg fa _ Y KX G.T.g hmg em
  exact law_gcall KX G.T.g G.T.b G.T.builtins G.T.nolimit hg t1 t2 t3 G.T.bmain hobj hints (Nat.le_trans hlen small) hr hF hb (fun H a1 a2 => hsp H a ns hlen hbits a1 a2) (fun H e s' => hCX w H s1 e s')
end Gd

set_option maxRecDepth 100000
set_option maxHeartbeats 4000000
/-! Things, boxes, texts: what the laws share, over no program. -/
namespace My
open PySem PySem.Spec PyProof.Rows L2 GxR Gd TL
/-! ### things -/
def Good (z : Str) : Prop := ∀ c ∈ z.cps.toList, c < 1114112
inductive Th (H : Hp) : V → Prop
  | non : Th H .non
  | bl (b : Bool) : Th H (.bl b)
  | int (i : Int) : Th H (.int i)
  | str (z : Str) (h : z.length ≤ 1000000) (g : Good z) : Th H (.str z)
  | lst (a : Addr) (xs : List V) (h : H a = some (.lst xs)) : Th H (.ref a)
  | tup (a : Addr) (xs : List V) (h : H a = some (.tup xs)) : Th H (.ref a)
  | dic (a : Addr) {kvs : List (Key × V)} (h : H a = some (.dK kvs)) : Th H (.ref a)
def lc (c : Nat) : Bool := decide (97 ≤ c) && decide (c ≤ 122)
def nm : V → Bool
  | .str z => decide (1 ≤ z.length) && decide (z.length ≤ 6) && z.cps.toList.all lc
  | _ => false
def wh (lo hi : Int) : V → Bool
  | .int i => decide (lo ≤ i) && decide (i ≤ hi)
  | _ => false
/-- its kind -/
theorem Th.ty {K : PySem.W.Frag} {H : Hp} {v : V} (h : Th H v) : ∃ t, TyX K H v (.type t) ∧
    ((∃ i, v = .int i ∧ t = "int") ∨ (∃ b, v = .bl b ∧ t = "bool") ∨ (∃ z, v = .str z ∧ (z.length ≤ 1000000 ∧ Good z) ∧ t = "str") ∨
     ((∀ i, v ≠ .int i) ∧ (∀ b, v ≠ .bl b) ∧ (∀ z, v ≠ .str z) ∧ (t = "NoneType" ∨ t = "list" ∨ t = "tuple" ∨ t = "dict"))) := by
  cases h with
  | non => exact ⟨_, .base .non, .inr (.inr (.inr ⟨by simp, by simp, by simp, .inl rfl⟩))⟩
  | bl b => exact ⟨_, .base (.bl b), .inr (.inl ⟨b, rfl, rfl⟩)⟩
  | int i => exact ⟨_, .base (.int i), .inl ⟨i, rfl, rfl⟩⟩
  | str z h g => exact ⟨_, .base (.str z), .inr (.inr (.inl ⟨z, rfl, ⟨h, g⟩, rfl⟩))⟩
  | lst a xs h => exact ⟨_, .base (.lst h), .inr (.inr (.inr ⟨by simp, by simp, by simp, .inr (.inl rfl)⟩))⟩
  | tup a xs h => exact ⟨_, .base (.tup h), .inr (.inr (.inr ⟨by simp, by simp, by simp, .inr (.inr (.inl rfl))⟩))⟩
  | dic a h => exact ⟨_, .base (.dK h), .inr (.inr (.inr ⟨by simp, by simp, by simp, .inr (.inr (.inr rfl))⟩))⟩
/-- all but the table stays -/
structure KT (P : Addr) (H H' : Hp) : Prop where
  keep : ∀ c o, c ≠ P → H c = some o → H' c = some o
  tab : TabG H' P
theorem TabG.at {H : Hp} {P : Addr} (t : TabG H P) : ∃ ps, H P = some (.tbl ps) := let ⟨ps, h, _⟩ := t; ⟨ps, h⟩
theorem ne_tab {H : Hp} {P a : Addr} {o : HO} (t : TabG H P) (h : H a = some o) (n : ∀ ps, o ≠ .tbl ps) : a ≠ P := by
  rintro rfl
  obtain ⟨ps, e⟩ := TabG.at t
  rw [h] at e
  exact n ps (Option.some.inj e)
theorem KT.refl {P : Addr} {H : Hp} (t : TabG H P) : KT P H H := ⟨fun _ _ _ h => h, t⟩
theorem KT.trans {P : Addr} {H H1 H2 : Hp} (a : KT P H H1) (b : KT P H1 H2) : KT P H H2 := ⟨fun c o n h => b.keep c o n (a.keep c o n h), b.tab⟩
theorem KT.of {P : Addr} {H H' : Hp} (t : Tabbed P H H') : KT P H H' := ⟨fun c o n h => by rw [t.2 c n]; exact h, t.1⟩
theorem KT.alloc {P p : Addr} {H : Hp} {o : HO} (t : TabG H P) (n : H p = none) : KT P H (upd H p o) := by
  obtain ⟨ps, e, ht⟩ := t
  refine ⟨fun c q _ h => by rw [upd_ne (ne_of_none h n)]; exact h, ps, by rw [upd_ne (ne_of_none e n)]; exact e, ht⟩
theorem Th.kt {P : Addr} {H H' : Hp} (t : TabG H P) (k : KT P H H') {v : V} (h : Th H v) : Th H' v := by
  cases h with
  | non => exact .non
  | bl b => exact .bl b
  | int i => exact .int i
  | str z h g => exact .str z h g
  | lst a xs h => exact .lst a xs (k.keep _ _ (ne_tab t h (by simp)) h)
  | tup a xs h => exact .tup a xs (k.keep _ _ (ne_tab t h (by simp)) h)
  | dic a h => exact .dic a (k.keep _ _ (ne_tab t h (by simp)) h)

theorem elt_between {prog : Program} {w : World} {scope : Scope} {x a b : Str} {j1 j2 : Nat} {p1 p2 p3 p4 : Pos} (hk : scope.kind = .function) (hl : scope.names.lookup x = some .local)
    (hd : (x == ("__debug__" : Str)) = false := by decide) :
    EltP prog w scope x (.Compare (.Constant (.str a) j1 p1) [.LtE, .LtE] [.Name x p2, .Constant (.str b) j2 p3] p4) (fun c => !decide ([c] < a.cps.toList) && !decide (b.cps.toList < [c])) := by
  intro cenv A' E' c t s2 m2 hs hn hm
  refine Compare_chain ?_ (by with_unfolding_all rfl)
  refine Calls.Constant_str (chain_link ?_)
  refine wpAny_Name (wpAny_loadName_local (by rw [hs]; exact hk) (show cenv.scope.names.lookup x = some .local by rw [hs]; exact hl) hn hm ?_) hd
  refine PySem.P.le_str ?_
  refine wpAny_truthy_bool ?_
  cases q : decide ([c] < a.cps.toList) with
  | true =>
    refine ite_ff ⟨?_, keeps_tok _ _⟩
    have q' : decide ((⟨#[c]⟩ : Str).cps.toList < a.cps.toList) = true := q
    simp [q']
  | false =>
    refine ite_tt (chain_last ?_)
    refine Calls.Constant_str ?_
    refine PySem.P.le_str ⟨?_, keeps_tok _ _⟩
    have q2 : ¬ [c] < a.cps.toList := of_decide_eq_false q
    simp [List.not_lt.mp q2]
def genSc : Scope := { kind := ScopeKind.function, names := [(Str.ofString ".0", NameKind.local), (Str.ofString "sign", NameKind.local)], isGenerator := true, isCoroutine := false }
theorem no_free : ∀ y ∈ genSc.names, y.2 ≠ NameKind.free := by decide +kernel
theorem one_lt (c d : Nat) : [c] < [d] ↔ c < d := by
  rw [List.cons_lt_cons_iff]
  constructor
  · rintro (h | ⟨_, h⟩)
    · exact h
    · exact absurd h (List.not_lt_nil _)
  · exact .inl
theorem lc_eq (c : Nat) : (!decide ([c] < [97]) && !decide ([122] < [c])) = lc c := by
  unfold lc
  rw [Bool.eq_iff_iff]
  simp only [Bool.and_eq_true, Bool.not_eq_true', decide_eq_false_iff_not, decide_eq_true_eq, one_lt]
  omega
/-! ### the box -/
def Bx (b : Addr) (n : Int) (H : Hp) : Prop := ∃ x y z : Int, H b = some (.lst [.int x, .int y, .int z]) ∧ 0 ≤ x ∧ 0 ≤ y ∧ y < 2147483629 ∧ 0 ≤ z ∧ z ≤ n
theorem Bx.same {b : Addr} {n : Int} {H H' : Hp} (h : Bx b n H) (e : H' b = H b) : Bx b n H' := by
  obtain ⟨x, y, z, h1, r⟩ := h
  exact ⟨x, y, z, e.trans h1, r⟩
theorem Bx.mono {b : Addr} {n m : Int} {H : Hp} (h : Bx b n H) (e : n ≤ m) : Bx b m H := by
  obtain ⟨x, y, z, h1, h2, h3, h4, h5, h6⟩ := h
  exact ⟨x, y, z, h1, h2, h3, h4, h5, by omega⟩
theorem i0 (a b c : V) : atI [a, b, c] 0 = some a := rfl
theorem i1 (a b c : V) : atI [a, b, c] 1 = some b := rfl
theorem i2 (a b c : V) : atI [a, b, c] 2 = some c := rfl
theorem j0 : ixN 3 0 = some 0 := rfl
theorem j2 : ixN 3 2 = some 2 := rfl
/-! ### lists and texts -/
theorem atI_ex {α : Type} {xs : List α} {d : Int} (h0 : 0 ≤ d) (h1 : d < xs.length) : ∃ v, v ∈ xs ∧ atI xs d = some v := by
  obtain ⟨j, rfl⟩ := Int.eq_ofNat_of_zero_le h0
  have hj : j < xs.length := by omega
  exact ⟨xs[j], List.getElem_mem hj, atI_nat (List.getElem?_eq_getElem hj)⟩
theorem joinL_len (S : List Nat) : ∀ ps : List (List Nat), (joinL S ps).length ≤ (ps.map List.length).sum + ps.length * S.length
  | [] => by simp [joinL]
  | [p] => by simp [joinL]
  | p :: q :: r => by
    have ih := joinL_len S (q :: r)
    have e : joinL S (p :: q :: r) = p ++ (S ++ joinL S (q :: r)) := rfl
    rw [e, List.length_append, List.length_append, List.map_cons, List.sum_cons, List.length_cons, Nat.succ_mul]
    omega
theorem tl_len (z : Str) : (tl z).length = z.length := by
  show z.cps.toList.length = z.cps.size
  simp
theorem join_len (y : Str) (ps : List Str) : (Txt.join y ps).length ≤ (ps.map (·.length)).sum + ps.length * y.length := by
  have h := joinL_len (tl y) (ps.map tl)
  rw [← tl_len, join_eq, tl_join]
  have e : (ps.map tl).map List.length = ps.map (·.length) := by
    rw [List.map_map]
    exact List.map_congr_left fun z _ => tl_len z
  rw [e, List.length_map, tl_len] at h
  exact h
theorem sum_ones (ps : List Str) (h : ∀ z ∈ ps, z.length ≤ 1) : (ps.map (·.length)).sum ≤ ps.length := by
  induction ps with
  | nil => simp
  | cons a r ih =>
    have h1 := h a List.mem_cons_self
    have h2 := ih fun z hz => h z (List.mem_cons_of_mem _ hz)
    simp only [List.map_cons, List.sum_cons, List.length_cons]
    omega
theorem lcY {A : TE} {σ : L2.St} {H : Hp} {G : VK} {B : Hp → Prop} (h : A σ H G) : tYes σ H (fun b H3 => if b = true then A σ H3 G else B H3) := by
  show if true = true then A σ H G else B H
  exact iteT h
theorem good_app {a b : Str} (h : Good a) (k : Good b) : Good (a ++ b) := fun c hc => by
  have e : (a ++ b).cps.toList = a.cps.toList ++ b.cps.toList := tl_append a b
  rw [e] at hc
  exact (List.mem_append.mp hc).elim (h c) (k c)
theorem good_cut {a : Str} (h : Good a) (lo hi : Option Int) : Good (cutS a lo hi) := fun c hc => by
  unfold cutS at hc
  exact h c (List.mem_of_mem_drop (List.mem_of_mem_take (by simpa using hc)))
theorem good_joinL {S : List Nat} (hS : ∀ c ∈ S, c < 1114112) : ∀ ps : List (List Nat), (∀ p ∈ ps, ∀ c ∈ p, c < 1114112) → ∀ c ∈ joinL S ps, c < 1114112
  | [], _, c, h => by simp [joinL] at h
  | [p], hp, c, h => hp p List.mem_cons_self c (by simpa [joinL] using h)
  | p :: q :: r, hp, c, h => by
    have e : joinL S (p :: q :: r) = p ++ (S ++ joinL S (q :: r)) := rfl
    rw [e, List.mem_append, List.mem_append] at h
    rcases h with h | h | h
    · exact hp p List.mem_cons_self c h
    · exact hS c h
    · exact good_joinL hS (q :: r) (fun z hz => hp z (List.mem_cons_of_mem _ hz)) c h
theorem good_join {y : Str} {ps : List Str} (hy : Good y) (h : ∀ z ∈ ps, Good z) : Good (Txt.join y ps) := fun c hc => by
  have e : (Txt.join y ps).cps.toList = joinL (tl y) (ps.map tl) := by rw [join_eq]; exact tl_join y ps
  rw [e] at hc
  refine good_joinL hy _ (fun p hp => ?_) c hc
  obtain ⟨z, hz, rfl⟩ := List.mem_map.mp hp
  exact h z hz
theorem good_of (x : String) : Good (Str.ofString x) := fun c hc => by
  have e : (Str.ofString x).cps.toList = x.toList.map Char.toNat := by
    rw [Str.ofString_eq_toList]
  rw [e] at hc
  obtain ⟨d, _, rfl⟩ := List.mem_map.mp hc
  have := d.valid
  unfold UInt32.isValidChar Nat.isValidChar at this
  show d.val.toNat < 1114112
  omega
theorem good_one {z : Str} {c : Nat} (h : Good z) (hc : c ∈ z.cps.toList) : Good ⟨#[c]⟩ := fun d hd => by
  have e : d = c := by simpa using hd
  rw [e]
  exact h c hc
/-- all but the box stays -/
def KB (b : Addr) (H H' : Hp) : Prop := ∀ c o, c ≠ b → H c = some o → H' c = some o
theorem KB.refl (b : Addr) (H : Hp) : KB b H H := fun _ _ _ h => h
theorem KB.trans {b : Addr} {H H1 H2 : Hp} (a : KB b H H1) (c : KB b H1 H2) : KB b H H2 := fun x o n h => c x o n (a x o n h)
theorem KB.off {b : Addr} {H H' : Hp} (h : ∀ a, a ≠ b → H' a = H a) : KB b H H' := fun c o n e => (h c n).trans e
theorem KB.alloc {b p : Addr} {H : Hp} {o : HO} (n : H p = none) : KB b H (upd H p o) := fun c u _ h => by rw [upd_ne (ne_of_none h n)]; exact h
theorem Bx.alloc {b p : Addr} {n : Int} {H : Hp} {o : HO} (h : Bx b n H) (f : H p = none) : Bx b n (upd H p o) := by
  obtain ⟨x, y, z, h1, r⟩ := h
  exact ⟨x, y, z, by rw [upd_ne (ne_of_none h1 f)]; exact h1, r⟩
theorem Bx.put {b p : Addr} {n : Int} {H : Hp} {o : HO} (h : Bx b n H) (f : p ≠ b) : Bx b n (upd H p o) := by
  obtain ⟨x, y, z, h1, r⟩ := h
  exact ⟨x, y, z, by rw [upd_ne f.symm]; exact h1, r⟩
/-- a comprehension over a text's signs -/
theorem lc_text {z : Str} {g : TG} {tt : TT} {te : TE} {vs : List Nat} {σ : L2.St} {H1 : Hp} {D : Addr} {Qd : Hp → Prop} (Pv : Nat → Hp → Prop) (h0 : Pv 0 (upd H1 D (.lst [])))
    (hs : ∀ i c H, z.cps.toList[i]? = some c → Pv i H → g (.str ⟨#[c]⟩) (wipe σ vs) H fun σ2 H2 => wipe σ2 vs = wipe σ vs ∧ tt σ2 H2 fun b H3 =>
      if b = true then te σ2 H3 fun y H4 => ∃ acc, H4 D = some (.lst acc) ∧ acc.length < sizeLine ∧ Pv (i + 1) (upd H4 D (.lst (acc ++ [y]))) else Pv (i + 1) H3) (hd : ∀ H, Pv z.length H → Qd H) :
    ∃ W : Nat → Nat → Hp → Prop, (∃ m, W 0 m (upd H1 D (.lst []))) ∧ ∀ i m H, W i m H →
      ((Its z).stop i H ∧ Qd H) ∨ ((Its z).go i H ∧ ∃ Nx : Hp → Prop, (∀ H', Nx H' → ∃ m', m' < m ∧ W (i + 1) m' H') ∧ ∀ x H', (Its z).yld i H x H' → g x (wipe σ vs) H' fun σ2 H2 => wipe σ2 vs = wipe σ vs ∧ tt σ2 H2 fun b H3 =>
        if b = true then te σ2 H3 fun y H4 => ∃ acc, H4 D = some (.lst acc) ∧ acc.length < sizeLine ∧ Nx (upd H4 D (.lst (acc ++ [y]))) else Nx H3) := by
  refine ⟨fun i m H => i + m = z.cps.size ∧ Pv i H, ⟨z.cps.size, by simp, h0⟩, fun i m H hW => ?_⟩
  obtain ⟨e, p⟩ := hW
  cases m with
  | zero =>
    have ei : i = z.cps.size := e
    subst ei
    exact .inl ⟨Nat.le_refl _, hd H p⟩
  | succ m =>
    refine .inr ⟨show i < z.cps.size by omega, Pv (i + 1), fun H' q => ⟨m, Nat.lt_succ_self m, by omega, q⟩, ?_⟩
    rintro x H' ⟨rfl, c, hc, rfl⟩
    exact hs i c _ (by rw [← hc]; simp) p
def badOf (l : List Nat) : List V := (l.filter fun c => !lc c).map fun c => V.str ⟨#[c]⟩
theorem bad_data {K : PySem.W.Frag} {H : Hp} : ∀ l : List Nat, DpAll K H (l.map fun c => V.str ⟨#[c]⟩) (l.map fun c => PyData.str ⟨#[c]⟩)
  | [] => .nil
  | c :: r => .cons (.str _) (bad_data r)
theorem one_ok {c : Nat} (h : c < 1114112) : PyData.strOk ⟨#[c]⟩ = true := by
  simp [PyData.strOk, h]
theorem bad_shaped : ∀ l : List Nat, (∀ c ∈ l, c < 1114112) → PyData.canLayAll0 (l.map fun c => PyData.str ⟨#[c]⟩) = true
  | [], _ => by simp [PyData.canLayAll0]
  | c :: r, h => by
    simp only [List.map_cons, PyData.canLayAll0, PyData.canLay0, Bool.and_eq_true]
    exact ⟨one_ok (h c List.mem_cons_self), bad_shaped r fun d hd => h d (List.mem_cons_of_mem _ hd)⟩
theorem bad_depth : ∀ l : List Nat, PyData.depthAll (l.map fun c => PyData.str ⟨#[c]⟩) = 0
  | [] => by simp [PyData.depthAll]
  | c :: r => by
    simp only [List.map_cons, PyData.depthAll, PyData.depth, bad_depth r]
    rfl
theorem letters_mem (c : Nat) : decide (c ∈ (Str.ofString "abcdefghijklmnopqrstuvwxyz").cps.toList) = lc c := by
  have e : (Str.ofString "abcdefghijklmnopqrstuvwxyz").cps.toList = (List.range 26).map (· + 97) := by decide +kernel
  rw [e]
  unfold lc
  rw [Bool.eq_iff_iff]
  simp only [decide_eq_true_eq, List.mem_map, List.mem_range, Bool.and_eq_true]
  constructor
  · rintro ⟨a, h, rfl⟩
    omega
  · intro h
    exact ⟨c - 97, by omega, by omega⟩
/-- a fresh place is no box -/
theorem Bx.fresh {b p : Addr} {n : Int} {H : Hp} (h : Bx b n H) (f : H p = none) : p ≠ b := by
  rintro rfl
  obtain ⟨x, y, z, e, _⟩ := h
  rw [f] at e
  cases e
theorem dec9000 {m : Int} (h0 : 0 < m) (h : m ≤ 10 ^ 30) : m.natAbs.log2 < 9000 := by
  have h1 : m.natAbs ≤ 10 ^ 30 := by omega
  have h2 : m.natAbs < 2 ^ 100 := Nat.lt_of_le_of_lt h1 (by decide)
  have h3 := (Nat.log2_lt (by omega)).mpr h2
  omega
theorem log1900 {m : Int} (h : m.natAbs ≤ 10 ^ 31) : m.natAbs.log2 < 1900 := by
  by_cases h0 : m.natAbs = 0
  · rw [h0]
    decide
  · have h2 : m.natAbs < 2 ^ 110 := Nat.lt_of_le_of_lt h (by decide)
    have h3 := (Nat.log2_lt h0).mpr h2
    omega
/-- a place in a list of the script stays -/
theorem seq_kt {K : PySem.W.Frag} {P a : Addr} {H H' : Hp} {xs : List V} (t : TabG H P) (k : KT P H H') (h : SqL K H a xs) : SqL K H' a xs := by
  rcases h with (h | ⟨o, h⟩) | h
  · exact .inl (.inl (k.keep _ _ (ne_tab t h (by simp)) h))
  · exact .inl (.inr ⟨o, k.keep _ _ (ne_tab t h (by simp)) h⟩)
  · exact .inr h
/-- what a row of steps with the box does to all else -/
theorem KT.box {P b : Addr} {H H' H1 : Hp} (t : TabG H P) (f : H b = none) (e : ∀ a, a ≠ b → H1 a = H a) (k : KB b H1 H') : KT P H H' := by
  obtain ⟨ps, ht, tr⟩ := t
  have nb : P ≠ b := ne_of_none ht f
  exact ⟨fun c o _ h => k c o (ne_of_none h f) ((e c (ne_of_none h f)).trans h), ps, k P _ nb ((e P nb).trans ht), tr⟩
theorem two_bools (a b : Bool) : (PyData.list [.bool a, .bool b]).shown.length ≤ sizeLine := by
  cases a <;> cases b <;> decide +kernel
end My

set_option maxRecDepth 100000
set_option maxHeartbeats 4000000
namespace K5
open PySem PySem.Spec PyProof.Rows L2 GxR Gd TL My
/-! ### the text -/
def top (i : Nat) : Stmt := PySem.Challenge.pw_onestaff_k05_what_is_asked_refused.main.body.getD i (.Pass ⟨0, 0, 0, 0⟩)
abbrev sWhole : Stmt := top 13
abbrev sName : Stmt := top 14
abbrev sList : Stmt := top 15
abbrev sTuple : Stmt := top 16
abbrev sCell : Stmt := top 26
abbrev sBox : Stmt := top 27
abbrev sTake : Stmt := top 28
structure Txt (mg : Str → Option Value) : Prop where
  isinstance_ : mg "isinstance" = none
  int_ : mg "int" = none
  bool_ : mg "bool" = none
  str_ : mg "str" = none
  len_ : mg "len" = none
  all_ : mg "all" = none
  max_ : mg "max" = none
  min_ : mg "min" = none
  range_ : mg "range" = none
  repr_ : mg "repr" = none
  list_ : mg "list" = none
  tuple_ : mg "tuple" = none
  enumerate_ : mg "enumerate" = none
  sorted_ : mg "sorted" = none
  dict_ : mg "dict" = none
structure Fn (K : PySem.W.Frag) (mg : Str → Option Value) (x : Str) (st : Stmt) (ps : List Str) (f : Addr) (fd : FuncData) : Prop where
  fn : Fun K x x st f fd
  g : mg x = some (.ref f)
  b : Binds K fd ps []
theorem Fn.kp {K : PySem.W.Frag} {mg : Str → Option Value} {x : Str} {st : Stmt} {ps : List Str} {f : Addr} {fd : FuncData} (h : Fn K mg x st ps f fd) : PySem.W.keepIn K (.ref f) = true := h.fn.kp
section
variable {P : Program} {w : World} {K : PySem.W.Frag} {mg : Str → Option Value} {base : Heap}
def spWhole : Sp := fun vs H Q _ => ∃ (v : V) (lo hi : Int), vs = [v, .int lo, .int hi] ∧ Th H v ∧ Q (.bl (wh lo hi v)) H
theorem scWhole : FnScope ["thing", "low", "high"] ["thing", "low", "high"] (defScope sWhole) := ⟨rfl, rfl, rfl, by decide +kernel, rfl, by decide +kernel, by decide +kernel⟩
theorem ok_whole {f : Addr} {fd : FuncData} (F : Fun K "is_whole" "is_whole" sWhole f fd) (T : Txt mg) : FnOk P w K mg base CX0 1 f fd ["thing", "low", "high"] spWhole := by
  refine F.ok scWhole (fun vs H Q E h => ?_) (fun cdv A outer s H vs Q E hr h => ?_)
  · obtain ⟨v, lo, hi, rfl, _⟩ := h
    rfl
  · obtain ⟨v, lo, hi, rfl, th, k⟩ := h
    obtain ⟨t, ty, cs⟩ := th.ty (K := K)
    refine ⟨_, pss_cons (ps_if (PW.pt (pw_or (pt_not (pt_val (pe_callB call_isi (by rfl) T.isinstance_ (by decide +kernel) (pa_cons (pv 0) (pa_cons (pe_bltn (v := .ty "int") (by rfl) T.int_ (by decide +kernel) rfl) pa_nil)))))
        (pw_or1 (pt_val (pe_callB call_isi (by rfl) T.isinstance_ (by decide +kernel) (pa_cons (pv 0) (pa_cons (pe_bltn (v := .ty "bool") (by rfl) T.bool_ (by decide +kernel) rfl) pa_nil)))))))
        (pss_one (ps_ret pe_bl)) pss_nil)
      (pss_one (ps_ret (pe_chain op_le op_le (pv 1) (pv 0) (pv 2)))), ?_⟩
    rcases cs with ⟨i, rfl, rfl⟩ | ⟨b, rfl, rfl⟩ | ⟨z, rfl, _, rfl⟩ | ⟨n1, n2, n3, ht⟩
    · refine ⟨_, rfl, _, _, _, _, true, rfl, .ty "int", ty, (by rfl), _, rfl, iteF ?_⟩
      refine ⟨_, rfl, _, _, _, _, false, rfl, .ty "bool", ty, (by rfl), _, rfl, iteF ?_⟩
      refine ⟨_, rfl, _, rfl, _, _, rfl, rfl, _, rfl, ?_⟩
      refine ite2 (fun c => ?_) (fun c => ?_)
      · refine ⟨_, rfl, _, _, rfl, rfl, ?_⟩
        have e : (decide (i ≤ hi)) = wh lo hi (.int i) := by simp [wh, of_decide_eq_true c]
        show Q (.bl (decide (i ≤ hi))) H
        rw [e]; exact k
      · have e : false = wh lo hi (.int i) := by simp at c; simp [wh]; omega
        rw [e]; exact k
    · refine ⟨_, rfl, _, _, _, _, true, rfl, .ty "int", ty, (by rfl), _, rfl, iteF ?_⟩
      refine ⟨_, rfl, _, _, _, _, true, rfl, .ty "bool", ty, (by rfl), _, rfl, iteT ?_⟩
      exact k
    · refine ⟨_, rfl, _, _, _, _, false, rfl, .ty "int", ty, (by rfl), _, rfl, iteT (iteT ?_)⟩
      exact k
    · have e : wh lo hi v = false := by
        cases v with
        | int i => exact absurd rfl (n1 i)
        | _ => rfl
      rw [e] at k
      rcases ht with rfl | rfl | rfl | rfl
      · exact ⟨_, rfl, _, _, _, _, false, rfl, .ty "int", ty, (by rfl), _, rfl, iteT (iteT k)⟩
      · exact ⟨_, rfl, _, _, _, _, false, rfl, .ty "int", ty, (by rfl), _, rfl, iteT (iteT k)⟩
      · exact ⟨_, rfl, _, _, _, _, false, rfl, .ty "int", ty, (by rfl), _, rfl, iteT (iteT k)⟩
      · exact ⟨_, rfl, _, _, _, _, false, rfl, .ty "int", ty, (by rfl), _, rfl, iteT (iteT k)⟩

/-! ### is_name -/
theorem scName : FnScope ["thing"] ["thing"] (defScope sName) := ⟨rfl, rfl, rfl, by decide +kernel, rfl, by decide +kernel, by decide +kernel⟩
def spName (Pt : Addr) : Sp := fun vs H Q _ => ∃ (v : V), vs = [v] ∧ Th H v ∧ TabG H Pt ∧ ∀ H', KT Pt H H' → Q (.bl (nm v)) H'
theorem ok_name {f Pt c : Addr} {oc kV doc pm ct : Value} {od an : Option Addr} {osl : Array (Option Value)}
    (lk : K.lookup f = some ⟨oc, od, .func (PySem.W.fnOf "is_name" "is_name" (defArgs sName) (defBody sName) (defScope sName) .none kV doc pm an (.ref c) ct), osl⟩) (hcd : PySem.W.codeIn K (.ref c) "is_name" = true)
    (T : Txt mg) (TB : TabB base mg c Pt) : FnOk P w K mg base CX0 2 f (PySem.W.fnOf "is_name" "is_name" (defArgs sName) (defBody sName) (defScope sName) .none kV doc pm an (.ref c) ct) ["thing"] (spName Pt) := by
  refine fn_of lk hcd scName (fun vs H Q E h => ?_) (fun A outer s H vs Q E hr h => ?_)
  · obtain ⟨v, rfl, _⟩ := h
    rfl
  · obtain ⟨v, rfl, th, tb, k⟩ := h
    obtain ⟨t, ty, cs⟩ := th.ty (K := K)
    refine ⟨_, (pss_cons (ps_if (PW.pt (pw_or (pt_not (pt_val (pe_callB call_isi (by rfl) T.isinstance_ (by decide +kernel) (pa_cons (pv 0) (pa_cons (pe_bltn (v := .ty "str") (by rfl) T.str_ (by decide +kernel) rfl) pa_nil)))))
        (pw_or1 (pt_not (pt_chain op_le op_le pe_int (pe_callB call_len_str (by rfl) T.len_ PySem.boot_len (pa_cons (pv 0) pa_nil)) pe_int)))))
        (pss_one (ps_ret pe_bl)) pss_nil)
      (pss_one (ps_ret (pe_allS hr (by rfl) T.all_ (by decide +kernel) TB rfl ⟨rfl, rfl, by decide +kernel, by decide +kernel, by decide +kernel, fun y hy e => absurd e (no_free y hy)⟩ (pv 0) (elt_between (by rfl) (by decide +kernel)) (fun _ => rfl))))).nox, ?_⟩
    have no : ∀ e : nm v = false, Q (.bl false) H := fun e => e ▸ k H (KT.refl tb)
    rcases cs with ⟨i, rfl, rfl⟩ | ⟨b, rfl, rfl⟩ | ⟨z, rfl, ⟨hz, _⟩, rfl⟩ | ⟨n1, n2, n3, ht⟩
    · exact ⟨_, rfl, _, _, _, _, false, rfl, .ty "str", ty, (by rfl), _, rfl, iteT (iteT (no rfl))⟩
    · exact ⟨_, rfl, _, _, _, _, false, rfl, .ty "str", ty, (by rfl), _, rfl, iteT (iteT (no rfl))⟩
    · refine ⟨_, rfl, _, _, _, _, true, rfl, .ty "str", ty, (by rfl), _, rfl, iteF ?_⟩
      have hz2 : z.length ≤ sizeLine := Nat.le_trans hz (by decide)
      refine ⟨_, rfl, z, rfl, hz2, _, _, rfl, rfl, _, rfl, ite2 (fun c1 => ?_) (fun c1 => ?_)⟩
      · have c1' : (1 : Int) ≤ z.length := of_decide_eq_true c1
        refine ⟨_, _, rfl, rfl, _, rfl, ?_⟩
        refine ite2 (fun c2 => ?_) (fun c2 => ?_)
        · refine no ?_
          have c2' : ¬ (z.length : Int) ≤ 6 := by simpa using c2
          have n6 : ¬ z.length ≤ 6 := by omega
          simp [nm, n6]
        · have c2' : (z.length : Int) ≤ 6 := by simpa using c2
          have n6 : z.length ≤ 6 := by omega
          have n1 : 1 ≤ z.length := by omega
          refine ⟨_, rfl, z, rfl, tb, fun H2 ht => ?_⟩
          have e : z.cps.toList.all (fun c => !decide ([c] < (Str.ofString "a").cps.toList) && !decide ((Str.ofString "z").cps.toList < [c])) = nm (.str z) := by
            have ea : (Str.ofString "a").cps.toList = [97] := by decide +kernel
            have ez : (Str.ofString "z").cps.toList = [122] := by decide +kernel
            rw [ea, ez]
            simp only [lc_eq]
            simp [nm, n6, n1]
          show Q (.bl (z.cps.toList.all _)) H2
          rw [e]
          exact k H2 (KT.of ht)
      · refine ⟨_, rfl, iteT (no ?_)⟩
        have c1' : ¬ (1 : Int) ≤ z.length := by simpa using c1
        have n1 : ¬ 1 ≤ z.length := by omega
        simp [nm, n1]
    · have e : nm v = false := by
        cases v with
        | str z => exact absurd rfl (n3 z)
        | _ => rfl
      rcases ht with rfl | rfl | rfl | rfl
      · exact ⟨_, rfl, _, _, _, _, false, rfl, .ty "str", ty, (by rfl), _, rfl, iteT (iteT (no e))⟩
      · exact ⟨_, rfl, _, _, _, _, false, rfl, .ty "str", ty, (by rfl), _, rfl, iteT (iteT (no e))⟩
      · exact ⟨_, rfl, _, _, _, _, false, rfl, .ty "str", ty, (by rfl), _, rfl, iteT (iteT (no e))⟩
      · exact ⟨_, rfl, _, _, _, _, false, rfl, .ty "str", ty, (by rfl), _, rfl, iteT (iteT (no e))⟩
def spCell (K : PySem.W.Frag) : Sp := fun vs H Q _ => ∃ (l : Addr) (ns : List Int) (j : Nat), vs = [.ref l, .int (j : Int)] ∧ SqL K H l (ns.map V.int) ∧ ∀ i : Int, Q (.int i) H
theorem scCell : FnScope ["_law_script", "_law_k"] ["_law_script", "_law_k"] (defScope sCell) := ⟨rfl, rfl, rfl, by decide +kernel, rfl, by decide +kernel, by decide +kernel⟩
theorem ok_cell {f : Addr} {fd : FuncData} (F : Fun K "_law_cell" "_law_cell" sCell f fd) (T : Txt mg) : FnOk P w K mg base CX0 1 f fd ["_law_script", "_law_k"] (spCell K) := by
  refine F.ok scCell (fun vs H Q E h => ?_) (fun cdv A outer s H vs Q E hr h => ?_)
  · obtain ⟨l, ns, j, rfl, _⟩ := h
    rfl
  · obtain ⟨l, ns, j, rfl, hS, k⟩ := h
    refine ⟨_, pss_cons (ps_if (pt_cmpR op_lt (pv 1) (pe_callB call_len_seq (by rfl) T.len_ PySem.boot_len (pa_cons (pv 0) pa_nil)) (nomark _)) (pss_one (ps_ret (pe_ix ix_list (pv 0) (pv 1) (fun _ _ => rfl)))) pss_nil)
      (pss_one (ps_ret (pe_op op_add (pe_op op_mul pe_int (pv 1)) pe_int))), ?_⟩
    refine ⟨_, rfl, _, rfl, l, _, rfl, .inl hS, _, _, rfl, rfl, _, rfl, ite2 (fun c => ?_) (fun c => ?_)⟩
    · have c1 : (j : Int) < ((ns.map V.int).length : Nat) := of_decide_eq_true c
      have c2 : j < ns.length := by rw [List.length_map] at c1; omega
      refine ⟨_, rfl, _, rfl, l, _, _, _, rfl, rfl, hS, atI_nat (v := .int ns[j]) ?_, k _⟩
      rw [List.getElem?_map, List.getElem?_eq_getElem c2]
      rfl
    · exact ⟨_, rfl, _, _, rfl, rfl, .inl ⟨by decide, by decide⟩, _, _, rfl, rfl, k _⟩
def spBox : Sp := fun vs H Q _ => ∃ c : Int, vs = [.int c] ∧ ∀ b H', H b = none → (∀ a, a ≠ b → H' a = H a) → Bx b 0 H' → Q (.ref b) H'
theorem scBox : FnScope ["_law_cell_here"] ["_law_cell_here"] (defScope sBox) := ⟨rfl, rfl, rfl, by decide +kernel, rfl, by decide +kernel, by decide +kernel⟩
theorem ok_box {f : Addr} {fd : FuncData} (F : Fun K "_law_box" "_law_box" sBox f fd) (T : Txt mg) : FnOk P w K mg base CX0 1 f fd ["_law_cell_here"] spBox := by
  refine F.ok scBox (fun vs H Q E h => ?_) (fun cdv A outer s H vs Q E hr h => ?_)
  · obtain ⟨c, rfl, _⟩ := h
    rfl
  · obtain ⟨c, rfl, k⟩ := h
    refine ⟨_, pss_one (ps_ret (pe_lst (pa_cons (pe_callB (call_max2 rfl) (by rfl) T.max_ (by decide +kernel) (pa_cons pe_int (pa_cons (pe_op op_sub (pv 0) (pe_op op_pow pe_int pe_int)) pa_nil))) (pa_cons (pe_op op_mod (pv 0) pe_int) (pa_cons pe_int pa_nil))))), ?_⟩
    refine ⟨_, rfl, _, _, rfl, rfl, ⟨by decide, by decide, by decide⟩, _, _, rfl, rfl, _, _, rfl, ?_⟩
    refine ⟨_, rfl, _, _, rfl, rfl, (by show (0 : Int) < 2147483629; decide), ?_⟩
    refine ⟨(by show 3 ≤ sizeLine; decide), fun b hb => ?_⟩
    refine k b _ hb (fun a na => upd_ne na) ⟨_, _, 0, upd_same, ?_, ?_, ?_, Int.le_refl _, Int.le_refl _⟩
    · split <;> omega
    · exact Int.emod_nonneg _ (by decide)
    · exact Int.emod_lt_of_pos _ (by decide)
def spTake : Sp := fun vs H Q _ => ∃ (b : Addr) (many n : Int), vs = [.ref b, .int many] ∧ Bx b n H ∧ n ≤ 100000 ∧ 0 < many ∧ many.natAbs.log2 < 9000 ∧
  ∀ d H', 0 ≤ d → d < many → (∀ a, a ≠ b → H' a = H a) → Bx b (n + 1) H' → Q (.int d) H'
theorem scTake : FnScope ["_law_box_here", "_law_many", "_law_digit", "_law_number"] ["_law_box_here", "_law_many"] (defScope sTake) := ⟨rfl, rfl, rfl, by decide +kernel, rfl, by decide +kernel, by decide +kernel⟩
theorem ok_take {f : Addr} {fd : FuncData} (F : Fun K "_law_take" "_law_take" sTake f fd) : FnOk P w K mg base CX0 1 f fd ["_law_box_here", "_law_many"] spTake := by
  refine F.ok scTake (fun vs H Q E h => ?_) (fun cdv A outer s H vs Q E hr h => ?_)
  · obtain ⟨b, many, n, rfl, _⟩ := h
    rfl
  · obtain ⟨b, many, n, rfl, ⟨x, y, z, hb, x0, y0, y1, z0, zn⟩, hn, m0, ml, k⟩ := h
    refine ⟨_, pss_cons (ps_if (pt_cmpR op_gt (pe_ix ix_list (pv 0) pe_int (fun _ _ => rfl)) pe_int (nomark _))
        (pss_cons (ps_set (i := 2) scTake.nd rfl (Or.inl rfl) (pe_op op_mod (pe_ix ix_list (pv 0) pe_int (fun _ _ => rfl)) (pv 1)))
        (pss_cons (ps_asg (pe_op op_fdivW (pe_ix ix_list (pv 0) pe_int (fun _ _ => rfl)) (pv 1)) (pg_sub (pv 0) pe_int set_list))
        (pss_one (ps_ret (pv 2))))) pss_nil)
      (pss_cons (ps_asg (pe_op op_add (pe_ix ix_list (pv 0) pe_int (fun _ _ => rfl)) pe_int) (pg_sub (pv 0) pe_int set_list))
      (pss_cons (ps_set (i := 3) scTake.nd rfl (Or.inl rfl) (pe_op op_mod (pe_op op_pow (pe_op op_add (pe_op op_add (pe_ix ix_list (pv 0) pe_int (fun _ _ => rfl)) (pe_op op_mul pe_int (pe_ix ix_list (pv 0) pe_int (fun _ _ => rfl)))) pe_int) pe_int) pe_int))
      (pss_cons (ps_set (i := 3) scTake.nd rfl (Or.inl rfl) (pe_op op_mod (pe_op op_pow (pe_op op_add (pv 3) (pe_op op_mul pe_int (pe_ix ix_list (pv 0) pe_int (fun _ _ => rfl)))) pe_int) pe_int))
      (pss_one (ps_ret (pe_op op_mod (pe_op op_fdiv (pv 3) pe_int) (pv 1))))))), ?_⟩
    have hL : SqL K H b [.int x, .int y, .int z] := SqL.of hb
    refine ⟨_, rfl, b, _, _, _, rfl, rfl, hL, i0 _ _ _, _, _, rfl, rfl, _, rfl, ite2 (fun c => ?_) (fun c => ?_)⟩
    · refine ⟨_, rfl, b, _, _, _, rfl, rfl, hL, i0 _ _ _, _, rfl, _, _, rfl, rfl, m0, ?_⟩
      refine ⟨_, rfl, b, _, _, _, rfl, rfl, hL, i0 _ _ _, _, rfl, _, _, rfl, rfl, ⟨m0, ml⟩, ?_⟩
      refine ⟨_, rfl, b, _, _, _, rfl, rfl, hb, j0, ?_⟩
      refine ⟨_, rfl, ?_⟩
      exact k _ _ (Int.emod_nonneg _ (by omega)) (Int.emod_lt_of_pos _ m0) (fun a na => upd_ne na) ⟨_, _, _, upd_same, Int.ediv_nonneg x0 (by omega), y0, y1, z0, by omega⟩
    · refine ⟨_, rfl, b, _, _, _, rfl, rfl, hL, i2 _ _ _, _, _, rfl, rfl, ?_⟩
      refine ⟨_, rfl, b, _, _, _, rfl, rfl, hb, j2, ?_⟩
      have h1 : upd H b (.lst ([V.int x, .int y, .int z].set 2 (.int (z + 1)))) b = some (.lst [.int x, .int y, .int (z + 1)]) := upd_same
      have hL1 : SqL K (upd H b (.lst ([V.int x, .int y, .int z].set 2 (.int (z + 1))))) b [.int x, .int y, .int (z + 1)] := SqL.of h1
      refine ⟨_, rfl, b, _, _, _, rfl, rfl, hL1, i1 _ _ _, _, rfl, b, _, _, _, rfl, rfl, hL1, i2 _ _ _, _, _, rfl, rfl, .inl ⟨by decide, by decide⟩, _, _, rfl, rfl, _, _, rfl, rfl,
        _, _, rfl, rfl, ⟨by decide, by decide, ?_⟩, _, _, rfl, rfl, (by show (0 : Int) < 2147483647; decide), ?_⟩
      · omega
      refine ⟨_, rfl, _, rfl, b, _, _, _, rfl, rfl, hL1, i2 _ _ _, _, _, rfl, rfl, .inl ⟨by decide, by decide⟩, _, _, rfl, rfl,
        _, _, rfl, rfl, ⟨by decide, by decide, ?_⟩, _, _, rfl, rfl, (by show (0 : Int) < 2147483587; decide), ?_⟩
      · have g0 := Int.emod_nonneg ((y + 7919 * (z + 1) + 23) ^ (5 : Int).toNat) (show (2147483647 : Int) ≠ 0 by decide)
        have g1 := Int.emod_lt_of_pos ((y + 7919 * (z + 1) + 23) ^ (5 : Int).toNat) (show (0 : Int) < 2147483647 by decide)
        generalize (y + 7919 * (z + 1) + 23) ^ (5 : Int).toNat % 2147483647 = q at g0 g1 ⊢
        omega
      refine ⟨_, rfl, _, _, rfl, rfl, ⟨by decide, by decide⟩, _, rfl, _, _, rfl, rfl, m0, ?_⟩
      exact k _ _ (Int.emod_nonneg _ (by omega)) (Int.emod_lt_of_pos _ m0) (fun a na => upd_ne na) ⟨_, _, _, h1, x0, y0, y1, by omega, by omega⟩
end
end K5


set_option maxRecDepth 100000
set_option maxHeartbeats 4000000
/-! Data in the heap, kept by steps that change a box, a table. -/
namespace My
open PySem PySem.Spec PyProof.Rows L2 GxR Gd TL
/-- all but tables stays -/
def Nt (H H' : Hp) : Prop := ∀ c o, (∀ ps, o ≠ .tbl ps) → H c = some o → H' c = some o
theorem Nt.refl (H : Hp) : Nt H H := fun _ _ _ h => h
theorem Nt.trans {H H1 H2 : Hp} (a : Nt H H1) (b : Nt H1 H2) : Nt H H2 := fun c o n h => b c o n (a c o n h)
theorem KT.nt {P : Addr} {H H' : Hp} (t : TabG H P) (k : KT P H H') : Nt H H' := fun c o n h => k.keep c o (ne_tab t h n) h
theorem Nt.alloc {H : Hp} {p : Addr} {o : HO} (n : H p = none) : Nt H (upd H p o) := fun c u _ h => by rw [upd_ne (ne_of_none h n)]; exact h
/-- the heap but the box -/
def hide (b : Addr) (H : Hp) : Hp := fun c => if c = b then none else H c
theorem hide_ne {b c : Addr} {H : Hp} (h : c ≠ b) : hide b H c = H c := if_neg h
theorem hide_some {b c : Addr} {H : Hp} {o : HO} (h : hide b H c = some o) : c ≠ b ∧ H c = some o := by
  unfold hide at h
  by_cases q : c = b
  · rw [if_pos q] at h
    cases h
  · rw [if_neg q] at h
    exact ⟨q, h⟩
theorem KB.nt {b : Addr} {H H' : Hp} (k : KB b H H') : Nt (hide b H) (hide b H') := fun c o _ h => by
  obtain ⟨n, h⟩ := hide_some h
  rw [hide_ne n]
  exact k c o n h
theorem hide_nt (b : Addr) (H : Hp) : Nt (hide b H) H := fun c o _ h => (hide_some h).2
theorem Nt.seq {K : PySem.W.Frag} {H H' : Hp} {a : Addr} {xs : List V} (e : Nt H H') (h : SqL K H a xs) : SqL K H' a xs := by
  rcases h with (h | ⟨o, h⟩) | h
  · exact .inl (.inl (e _ _ (by simp) h))
  · exact .inl (.inr ⟨o, e _ _ (by simp) h⟩)
  · exact .inr h
theorem Nt.seqT {K : PySem.W.Frag} {H H' : Hp} {a : Addr} {xs : List V} (e : Nt H H') (h : SqT K H a xs) : SqT K H' a xs := by
  rcases h with (h | ⟨o, h⟩) | h
  · exact .inl (.inl (e _ _ (by simp) h))
  · exact .inl (.inr ⟨o, e _ _ (by simp) h⟩)
  · exact .inr h
section
variable {K : PySem.W.Frag} {H H' : Hp}
mutual
theorem dp_nt (e : Nt H H') : ∀ {v : V} {d : PyData}, Dp K H v d → Dp K H' v d
  | _, _, .non => .non
  | _, _, .bl b => .bl b
  | _, _, .int i => .int i
  | _, _, .str z => .str z
  | _, _, .lst h a => .lst (e.seq h) (dpAll_nt e a)
  | _, _, .tup h a => .tup (e.seqT h) (dpAll_nt e a)
theorem dpAll_nt (e : Nt H H') : ∀ {vs : List V} {ds : List PyData}, DpAll K H vs ds → DpAll K H' vs ds
  | _, _, .nil => .nil
  | _, _, .cons h t => .cons (dp_nt e h) (dpAll_nt e t)
end
theorem dp_list {v : V} {ds : List PyData} (h : Dp K H v (.list ds)) : ∃ a xs, v = .ref a ∧ SqL K H a xs ∧ DpAll K H xs ds := by
  cases h with
  | lst h a => exact ⟨_, _, rfl, h, a⟩
theorem dp_tuple {v : V} {ds : List PyData} (h : Dp K H v (.tuple ds)) : ∃ a xs, v = .ref a ∧ SqT K H a xs ∧ DpAll K H xs ds := by
  cases h with
  | tup h a => exact ⟨_, _, rfl, h, a⟩
theorem dp_str {v : V} {z : Str} (h : Dp K H v (.str z)) : v = .str z := by
  cases h
  rfl
theorem dp_int {v : V} {i : Int} (h : Dp K H v (.int i)) : v = .int i := by
  cases h
  rfl
theorem dp_none {v : V} (h : Dp K H v .none) : v = .non := by
  cases h
  rfl
theorem dpAll_len : ∀ {xs : List V} {ds : List PyData}, DpAll K H xs ds → xs.length = ds.length
  | _, _, .nil => rfl
  | _, _, .cons _ t => congrArg (· + 1) (dpAll_len t)
theorem dpAll_get : ∀ {xs : List V} {ds : List PyData}, DpAll K H xs ds → ∀ {i : Nat} {x : V}, xs[i]? = some x → ∃ d, ds[i]? = some d ∧ Dp K H x d
  | _, _, .nil, _, _, h => by simp at h
  | _, _, .cons a _, 0, _, h => by simp at h; subst h; exact ⟨_, rfl, a⟩
  | _, _, .cons _ t, i + 1, x, h => by
    obtain ⟨d, h1, h2⟩ := dpAll_get t (i := i) (x := x) (by simpa using h)
    exact ⟨d, by simpa using h1, h2⟩
theorem dpAll_at : ∀ {xs : List V} {ds : List PyData}, DpAll K H xs ds → ∀ {i : Nat} {d : PyData}, ds[i]? = some d → ∃ x, xs[i]? = some x ∧ Dp K H x d
  | _, _, .nil, _, _, h => by simp at h
  | _, _, .cons a _, 0, _, h => by simp at h; subst h; exact ⟨_, rfl, a⟩
  | _, _, .cons _ t, i + 1, d, h => by
    obtain ⟨x, h1, h2⟩ := dpAll_at t (i := i) (d := d) (by simpa using h)
    exact ⟨x, by simpa using h1, h2⟩
theorem dpAll_app : ∀ {xs ys : List V} {ds es : List PyData}, DpAll K H xs ds → DpAll K H ys es → DpAll K H (xs ++ ys) (ds ++ es)
  | _, _, _, _, .nil, h => h
  | _, _, _, _, .cons a t, h => .cons a (dpAll_app t h)
theorem dp_two {v : V} {c d : PyData} (h : Dp K H v (.tuple [c, d])) : ∃ a x y, v = .ref a ∧ SqT K H a [x, y] ∧ Dp K H x c ∧ Dp K H y d := by
  obtain ⟨a, xs, rfl, h1, h2⟩ := dp_tuple h
  cases h2 with
  | cons p t =>
    cases t with
    | cons q t =>
      cases t
      exact ⟨a, _, _, rfl, h1, p, q⟩
theorem dp_three {v : V} {c d e : PyData} (h : Dp K H v (.tuple [c, d, e])) : ∃ a x y z, v = .ref a ∧ SqT K H a [x, y, z] ∧ Dp K H x c ∧ Dp K H y d ∧ Dp K H z e := by
  obtain ⟨a, xs, rfl, h1, h2⟩ := dp_tuple h
  cases h2 with
  | cons p t =>
    cases t with
    | cons q t =>
      cases t with
      | cons r t =>
        cases t
        exact ⟨a, _, _, _, rfl, h1, p, q, r⟩
theorem dp_four {v : V} {c d e f : PyData} (h : Dp K H v (.list [c, d, e, f])) : ∃ a x y z u, v = .ref a ∧ SqL K H a [x, y, z, u] ∧ Dp K H x c ∧ Dp K H y d ∧ Dp K H z e ∧ Dp K H u f := by
  obtain ⟨a, xs, rfl, h1, h2⟩ := dp_list h
  cases h2 with
  | cons p t =>
    cases t with
    | cons q t =>
      cases t with
      | cons r t =>
        cases t with
        | cons s t =>
          cases t
          exact ⟨a, _, _, _, _, rfl, h1, p, q, r, s⟩
end
/-! ### names that are good, worlds of lines -/
def NameOk (z : Str) : Prop := 1 ≤ z.length ∧ z.length ≤ 6 ∧ z.cps.toList.all lc = true
theorem NameOk.good {z : Str} (h : NameOk z) : Good z := fun c hc => by
  have := List.all_eq_true.mp h.2.2 c hc
  unfold lc at this
  simp at this
  omega
theorem NameOk.nm {z : Str} (h : NameOk z) : nm (.str z) = true := by
  obtain ⟨h1, h2, h3⟩ := h
  simp [My.nm, h1, h2, h3]
theorem NameOk.th {z : Str} {H : Hp} (h : NameOk z) : Th H (.str z) := .str z (by have := h.2.1; omega) h.good
structure Wd where
  ps : List (Str × Int)
  st : List (Str × Int)
  lo : List (Int × Int × Int)
  sp : Str
def longsOk (top : Int) : Int → List (Int × Int × Int) → Prop
  | _, [] => True
  | low, (f, l, h) :: r => low ≤ f ∧ f + 2 ≤ l ∧ l ≤ top ∧ 0 ≤ h ∧ h ≤ 1 ∧ longsOk top l r
structure Wd.Ok (w : Wd) : Prop where
  p2 : 2 ≤ w.ps.length
  p6 : w.ps.length ≤ 6
  nm : ∀ p ∈ w.ps, NameOk p.1 ∧ 1 ≤ p.2 ∧ p.2 ≤ 3
  nd : (w.ps.map (·.1)).Nodup
  sl : w.st.length + 1 = w.ps.length
  st : ∀ p ∈ w.st, (p.1 = "staff" ∨ p.1 = "ticket") ∧ 0 ≤ p.2 ∧ p.2 ≤ 1
  ll : w.lo.length ≤ 2
  lo : longsOk (w.ps.length - 1 : Nat) 0 w.lo
  sn : NameOk w.sp
  s0 : w.sp ∉ w.ps.map (·.1)
def dP (p : Str × Int) : PyData := .tuple [.str p.1, .int p.2]
def dL (p : Int × Int × Int) : PyData := .tuple [.int p.1, .int p.2.1, .int p.2.2]
def Wd.data (w : Wd) : PyData := .list [.list (w.ps.map dP), .list (w.st.map dP), .list (w.lo.map dL), .str w.sp]
end My

set_option maxRecDepth 100000
set_option maxHeartbeats 4000000
namespace K5
open PySem PySem.Spec PyProof.Rows L2 GxR Gd TL My
/-- a list or a tuple -/
def SqX (K : PySem.W.Frag) (H : Hp) (a : Addr) (xs : List V) : Prop := SqL K H a xs ∨ SqT K H a xs
theorem same_nt {H H' : Hp} (e : Same H H') : Nt H H' := fun c o _ h => e c o h
theorem same_alloc {H : Hp} {p : Addr} {o : HO} (n : H p = none) : Same H (upd H p o) := fun c u h => by rw [upd_ne (ne_of_none h n)]; exact h
theorem same_kt {Pt : Addr} {H H' : Hp} (t : TabG H Pt) (e : Same H H') : KT Pt H H' := by
  obtain ⟨ps, h1, h2⟩ := t
  exact ⟨fun c o _ h => e c o h, ps, e _ _ h1, h2⟩
theorem SqX.nt {K : PySem.W.Frag} {H H' : Hp} {a : Addr} {xs : List V} (e : Nt H H') (h : SqX K H a xs) : SqX K H' a xs := h.elim (fun q => .inl (e.seq q)) fun q => .inr (e.seqT q)
theorem ty_seqL {K : PySem.W.Frag} {H : Hp} {a : Addr} {xs : List V} (h : SqL K H a xs) : TyX K H (.ref a) (.type "list") := by
  rcases h with (h | ⟨o, h⟩) | ⟨o, its, n, h1, h2, _⟩
  · exact .base (.lst h)
  · exact .base (.frz h)
  · exact .kList h1 h2
theorem ty_seqT {K : PySem.W.Frag} {H : Hp} {a : Addr} {xs : List V} (h : SqT K H a xs) : TyX K H (.ref a) (.type "tuple") := by
  rcases h with (h | ⟨o, h⟩) | ⟨o, its, n, h1, h2, _⟩
  · exact .base (.tup h)
  · exact .fTuple h
  · exact .kTuple h1 h2
section
variable {P : Program} {w : World} {K : PySem.W.Frag} {mg : Str → Option Value} {base : Heap}
abbrev s_is_list : Stmt := top 15
theorem sc_is_list : FnScope ["thing", "low", "high"] ["thing", "low", "high"] (defScope s_is_list) := ⟨rfl, rfl, rfl, by decide +kernel, rfl, by decide +kernel, by decide +kernel⟩
def spIsList (K : PySem.W.Frag) : Sp := fun vs H Q _ => ∃ (a : Addr) (lo hi : Int) (xs : List V), vs = [.ref a, .int lo, .int hi] ∧ SqX K H a xs ∧ ∀ H', Same H H' → Q (.bl (decide (lo ≤ (xs.length : Int)) && decide ((xs.length : Int) ≤ hi))) H'
theorem ok_is_list {f : Addr} {fd : FuncData} (F : Fun K "is_list" "is_list" s_is_list f fd) (T : Txt mg) : FnOk P w K mg base CX0 1 f fd ["thing", "low", "high"] (spIsList K) := by
  refine F.ok sc_is_list (fun vs H Q E h => ?_) (fun cdv A outer s H vs Q E hr h => ?_)
  · obtain ⟨a, lo, hi, xs, rfl, _⟩ := h
    rfl
  · obtain ⟨a, lo, hi, xs, rfl, hX, k⟩ := h
    refine ⟨_, pss_one (ps_ret (pe_and (pe_callB call_isiT (by rfl) T.isinstance_ (by decide +kernel) (pa_cons (pv 0) (pa_cons (pe_tup (pa_cons (pe_bltn (v := .ty "list") (by rfl) T.list_ (by decide +kernel) rfl) (pa_cons (pe_bltn (v := .ty "tuple") (by rfl) T.tuple_ (by decide +kernel) rfl) pa_nil))) pa_nil))) (pe_one (pe_chain op_le op_le (pv 1) (pe_callB call_len_seq (by rfl) T.len_ PySem.boot_len (pa_cons (pv 0) pa_nil)) (pv 2))))), ?_⟩
    refine ⟨_, rfl, (by show 2 ≤ sizeLine; decide), fun t ht => ?_⟩
    have e := same_alloc (o := .tup [.ty "list", .ty "tuple"]) ht
    have hX' := SqX.nt (same_nt e) hX
    have fin : ∃ c, V.bl true = .bl c ∧ if c = true then tChain (rI0 fun i j => .bl (decide (i ≤ j))) (rI0 fun i j => .bl (decide (i ≤ j))) (tVar 1) (tCB (fun xs H Q => ∃ p ys, xs = [.ref p] ∧ (SqL K H p ys ∨ SqT K H p ys) ∧ Q (.int ys.length) H) (tCons (tVar 0) tNil)) (tVar 2) [some (.ref a), some (.int lo), some (.int hi)] (upd H t (.tup [.ty "list", .ty "tuple"])) Q else Q (.bl false) (upd H t (.tup [.ty "list", .ty "tuple"])) := by
      refine ⟨_, rfl, iteT ?_⟩
      refine ⟨_, rfl, _, rfl, a, xs, rfl, hX', _, _, rfl, rfl, _, rfl, ite2 (fun c => ?_) (fun c => ?_)⟩
      · refine ⟨_, rfl, _, _, rfl, rfl, ?_⟩
        have q := k _ e
        rw [c, Bool.true_and] at q
        exact q
      · have q := k _ e
        rw [show decide (lo ≤ (xs.length : Int)) = false by simpa using c, Bool.false_and] at q
        exact q
    rcases hX' with hL | hT
    · exact ⟨_, t, _, _, [.type "list", .type "tuple"], true, rfl, upd_same, .cons (.ty _) (.cons (.ty _) .nil), ty_seqL hL, (by rfl), fin⟩
    · exact ⟨_, t, _, _, [.type "list", .type "tuple"], true, rfl, upd_same, .cons (.ty _) (.cons (.ty _) .nil), ty_seqT hT, (by rfl), fin⟩
abbrev s_is_tuple : Stmt := top 16
theorem sc_is_tuple : FnScope ["thing", "many"] ["thing", "many"] (defScope s_is_tuple) := ⟨rfl, rfl, rfl, by decide +kernel, rfl, by decide +kernel, by decide +kernel⟩
def spIsTuple (K : PySem.W.Frag) : Sp := fun vs H Q _ => ∃ (a : Addr) (n : Int) (xs : List V), vs = [.ref a, .int n] ∧ SqT K H a xs ∧ Q (.bl (decide ((xs.length : Int) = n))) H
theorem ok_is_tuple {f : Addr} {fd : FuncData} (F : Fun K "is_tuple" "is_tuple" s_is_tuple f fd) (T : Txt mg) : FnOk P w K mg base CX0 1 f fd ["thing", "many"] (spIsTuple K) := by
  refine F.ok sc_is_tuple (fun vs H Q E h => ?_) (fun cdv A outer s H vs Q E hr h => ?_)
  · obtain ⟨a, n, xs, rfl, _⟩ := h
    rfl
  · obtain ⟨a, n, xs, rfl, hT, k⟩ := h
    refine ⟨_, pss_one (ps_ret (pe_and (pe_callB call_isi (by rfl) T.isinstance_ (by decide +kernel) (pa_cons (pv 0) (pa_cons (pe_bltn (v := .ty "tuple") (by rfl) T.tuple_ (by decide +kernel) rfl) pa_nil))) (pe_one (pe_cmpR op_eq (pe_callB call_len_seq (by rfl) T.len_ PySem.boot_len (pa_cons (pv 0) pa_nil)) (pv 1) (nomark _))))), ?_⟩
    refine ⟨_, rfl, _, _, _, _, true, rfl, .ty "tuple", ty_seqT hT, (by rfl), _, rfl, iteT ?_⟩
    refine ⟨_, rfl, a, xs, rfl, .inr hT, _, rfl, rfl, ?_⟩
    have e : decide (V.int (xs.length : Int) = V.int n) = decide ((xs.length : Int) = n) := by simp
    show Q (.bl (decide (V.int (xs.length : Int) = V.int n))) H
    rw [e]
    exact k
abbrev s_check_place : Stmt := top 19
theorem sc_check_place : FnScope ["place", "ahead", "name", "roads"] ["place", "ahead"] (defScope s_check_place) := ⟨rfl, rfl, rfl, by decide +kernel, rfl, by decide +kernel, by decide +kernel⟩
def spCheckPlace (K : PySem.W.Frag) (Pt : Addr) : Sp := fun vs H Q _ => ∃ (t l : Addr) (z : Str) (r : Int) (as : List Str), vs = [.ref t, .ref l] ∧ SqT K H t [.str z, .int r] ∧ NameOk z ∧ 1 ≤ r ∧ r ≤ 3 ∧ SqL K H l (as.map V.str) ∧ z ∉ as ∧ TabG H Pt ∧ ∀ H', KT Pt H H' → Q .non H'
theorem flat_strs (as : List Str) : (as.map V.str).all flatV = true := by
  induction as with
  | nil => rfl
  | cons a r ih => simpa [flatV] using ih
theorem inV_strs {z : Str} {as : List Str} (h : z ∉ as) : inV (.str z) (as.map V.str) = false := by
  unfold inV
  rw [List.any_map, ← Bool.not_eq_true, List.any_eq_true]
  rintro ⟨y, hy, e⟩
  have e' : (y == z) = true := e
  exact h (eq_of_beq e' ▸ hy)
theorem ok_check_place {f fTu fNa fWh Pt : Addr} {fd fdTu fdNa fdWh : FuncData} (F : Fun K "_check_place" "_check_place" s_check_place f fd) (T : Txt mg)
    (Nis_tuple : Fn K mg "is_tuple" s_is_tuple ["thing", "many"] fTu fdTu) (Gis_tuple : FnOk P w K mg base CX0 1 fTu fdTu ["thing", "many"] (spIsTuple K))
    (Nis_name : Fn K mg "is_name" sName ["thing"] fNa fdNa) (Gis_name : FnOk P w K mg base CX0 2 fNa fdNa ["thing"] (spName Pt))
    (Nis_whole : Fn K mg "is_whole" sWhole ["thing", "low", "high"] fWh fdWh) (Gis_whole : FnOk P w K mg base CX0 1 fWh fdWh ["thing", "low", "high"] spWhole) :
    FnOk P w K mg base CX0 3 f fd ["place", "ahead"] (spCheckPlace K Pt) := by
  refine F.ok sc_check_place (fun vs H Q E h => ?_) (fun cdv A outer s H vs Q E hr h => ?_)
  · obtain ⟨t, l, z, r, as, rfl, _⟩ := h
    rfl
  · obtain ⟨t, l, z, r, as, rfl, hT, hz, r1, r3, hl, hn, tb, k⟩ := h
    refine ⟨_, pss_cons (ps_if (pt_not (pt_val (pe_call Gis_tuple (hr.mono (by decide)) (by rfl) Nis_tuple.g Nis_tuple.kp Nis_tuple.b .nil pass0 (pa_cons (pv 0) (pa_cons pe_int pa_nil))))) (pss_one ps_never) pss_nil)
      (pss_cons (ps_asg (pv 0) (pg_tup (by rfl) (pgs_cons (pg_name (i := 2) sc_check_place.nd rfl (Or.inl rfl)) (pgs_cons (pg_name (i := 3) sc_check_place.nd rfl (Or.inl rfl)) pgs_nil))))
      (pss_cons (ps_if (pt_not (pt_val (pe_call Gis_name (hr.mono (by decide)) (by rfl) Nis_name.g Nis_name.kp Nis_name.b .nil pass0 (pa_cons (pv 2) pa_nil)))) (pss_one ps_never) pss_nil)
      (pss_cons (ps_if (pt_cmpR op_in_seq (pv 2) (pv 1) rfl) (pss_one ps_never) pss_nil)
      (pss_one (ps_if (pt_not (pt_val (pe_call Gis_whole (hr.mono (by decide)) (by rfl) Nis_whole.g Nis_whole.kp Nis_whole.b .nil pass0 (pa_cons (pv 3) (pa_cons pe_int (pa_cons pe_int pa_nil)))))) (pss_one ps_never) pss_nil))))), ?_⟩
    refine ⟨_, rfl, t, 2, _, rfl, hT, _, rfl, iteF ?_⟩
    refine ⟨_, rfl, t, _, rfl, hT, rfl, _, _, rfl, _, _, rfl, rfl, ?_⟩
    refine ⟨_, rfl, .str z, rfl, hz.th, tb, fun H1 k1 => ?_⟩
    rw [hz.nm]
    refine ⟨_, rfl, iteF ?_⟩
    have n1 := KT.nt tb k1
    refine ⟨_, rfl, _, rfl, l, _, rfl, .inl (n1.seq hl), rfl, flat_strs as, ?_⟩
    refine ⟨_, rfl, ?_⟩
    show if inV (.str z) (as.map V.str) = true then _ else _
    rw [inV_strs hn]
    refine iteF ?_
    refine ⟨_, rfl, .int r, 1, 3, rfl, .int r, ?_⟩
    have e : wh 1 3 (.int r) = true := by simp [wh, r1, r3]
    rw [e]
    exact ⟨_, rfl, iteF (k H1 k1)⟩
end
end K5

set_option maxRecDepth 100000
set_option maxHeartbeats 4000000
namespace K5
open PySem PySem.Spec PyProof.Rows L2 GxR Gd TL My
theorem get_map {α β : Type} {f : α → β} {l : List α} {i : Nat} {d : β} (h : (l.map f)[i]? = some d) : ∃ p, l[i]? = some p ∧ d = f p := by
  rw [List.getElem?_map] at h
  cases e : l[i]? with
  | none =>
    rw [e] at h
    cases h
  | some p =>
    rw [e] at h
    exact ⟨p, rfl, (Option.some.inj h).symm⟩
theorem take_at {α : Type} {l : List α} {i : Nat} {x : α} (h : l[i]? = some x) : l.take (i + 1) = l.take i ++ [x] := by
  rw [List.take_add_one, h]
  rfl
theorem fresh_name {ps : List (Str × Int)} (nd : (ps.map (·.1)).Nodup) {i : Nat} {p : Str × Int} (h : ps[i]? = some p) : p.1 ∉ (ps.take i).map (·.1) := by
  have hi := (List.getElem?_eq_some_iff.mp h).1
  intro hm
  obtain ⟨q, hq, e⟩ := List.mem_map.mp hm
  obtain ⟨j, hj, eq⟩ := List.getElem_of_mem hq
  have hj' : j < i := by
    have := hj
    rw [List.length_take] at this
    omega
  rw [List.getElem_take] at eq
  have e1 : (ps.map (·.1))[j]? = some p.1 := by
    rw [List.getElem?_map, List.getElem?_eq_getElem (by omega), eq]
    simp [e]
  have e2 : (ps.map (·.1))[i]? = some p.1 := by
    rw [List.getElem?_map, h]
    rfl
  have nd2 : (ps.map (·.1)).Pairwise (· ≠ ·) := nd
  have hjl : j < (ps.map (·.1)).length := by rw [List.length_map]; omega
  have hil : i < (ps.map (·.1)).length := by rw [List.length_map]; exact hi
  have z := List.pairwise_iff_getElem.mp nd2 j i hjl hil hj'
  rw [List.getElem?_eq_getElem hjl] at e1
  rw [List.getElem?_eq_getElem hil] at e2
  exact z ((Option.some.inj e1).trans (Option.some.inj e2).symm)
theorem KT.put {Pt L : Addr} {H H' : Hp} {o : HO} (k : KT Pt H H') (n : H L = none) (np : L ≠ Pt) : KT Pt H (upd H' L o) := by
  obtain ⟨k1, ps, e, t⟩ := k
  exact ⟨fun c u q h => by rw [upd_ne (ne_of_none h n)]; exact k1 c u q h, ps, by rw [upd_ne np.symm]; exact e, t⟩
theorem longs_get {top : Int} : ∀ {low : Int} {lo : List (Int × Int × Int)}, longsOk top low lo → ∀ {i : Nat} {p : Int × Int × Int}, lo[i]? = some p →
    (((lo.take i).getLast?.map fun q => q.2.1).getD low) ≤ p.1 ∧ p.1 + 2 ≤ p.2.1 ∧ p.2.1 ≤ top ∧ 0 ≤ p.2.2 ∧ p.2.2 ≤ 1
  | _, [], _, _, _, h => by simp at h
  | low, (f, l, h) :: r, hk, 0, p, e => by
    simp at e
    subst e
    obtain ⟨h1, h2, h3, h4, h5, _⟩ := hk
    exact ⟨by simpa using h1, h2, h3, h4, h5⟩
  | low, (f, l, h) :: r, hk, i + 1, p, e => by
    obtain ⟨h1, h2, h3, h4, h5, h6⟩ := hk
    have ih := longs_get h6 (i := i) (p := p) (by simpa using e)
    refine ⟨?_, ih.2⟩
    have e1 : ((f, l, h) :: r).take (i + 1) = (f, l, h) :: r.take i := rfl
    rw [e1, List.getLast?_cons]
    cases q : (r.take i).getLast? with
    | none =>
      have := ih.1
      rw [q] at this
      simpa using this
    | some z =>
      have := ih.1
      rw [q] at this
      simpa using this
section
variable {P : Program} {w : World} {K : PySem.W.Frag} {mg : Str → Option Value} {base : Heap}
abbrev s_check_places : Stmt := top 18
theorem sc_check_places : FnScope ["places", "ahead", "place"] ["places"] (defScope s_check_places) := ⟨rfl, rfl, rfl, by decide +kernel, rfl, by decide +kernel, by decide +kernel⟩
def spCheckPlaces (K : PySem.W.Frag) (Pt : Addr) : Sp := fun vs H Q _ => ∃ (a : Addr) (xs : List V) (ps : List (Str × Int)), vs = [.ref a] ∧ SqX K H a xs ∧ DpAll K H xs (ps.map dP) ∧ 2 ≤ ps.length ∧ ps.length ≤ 6 ∧
  (∀ p ∈ ps, NameOk p.1 ∧ 1 ≤ p.2 ∧ p.2 ≤ 3) ∧ (ps.map (·.1)).Nodup ∧ TabG H Pt ∧ ∀ H', KT Pt H H' → Q .non H'
theorem ok_check_places {f fL fC Pt : Addr} {fd fdL fdC : FuncData} (F : Fun K "_check_places" "_check_places" s_check_places f fd) (T : Txt mg)
    (Nis_list : Fn K mg "is_list" s_is_list ["thing", "low", "high"] fL fdL) (Gis_list : FnOk P w K mg base CX0 1 fL fdL ["thing", "low", "high"] (spIsList K))
    (Ncheck_place : Fn K mg "_check_place" s_check_place ["place", "ahead"] fC fdC) (Gcheck_place : FnOk P w K mg base CX0 3 fC fdC ["place", "ahead"] (spCheckPlace K Pt)) :
    FnOk P w K mg base CX0 4 f fd ["places"] (spCheckPlaces K Pt) := by
  refine F.ok sc_check_places (fun vs H Q E h => ?_) (fun cdv A outer s H vs Q E hr h => ?_)
  · obtain ⟨a, xs, ps, rfl, _⟩ := h
    rfl
  · obtain ⟨a, xs, ps, rfl, hX, hd, p2, p6, ok, nd, tb, k⟩ := h
    rcases id hX with hL | hT
    · skip
      refine ⟨_, pss_cons (ps_if (pt_not (pt_val (pe_call Gis_list (hr.mono (by decide)) (by rfl) Nis_list.g Nis_list.kp Nis_list.b .nil pass0 (pa_cons (pv 0) (pa_cons pe_int (pa_cons pe_int pa_nil)))))) (pss_one ps_never) pss_nil)
      (pss_cons (ps_set (i := 1) sc_check_places.nd rfl (Or.inl rfl) (pe_lst pa_nil))
      (pss_one (ps_for PassesOwn.never rfl (pi_list (pv 0)) (pg_name (i := 2) sc_check_places.nd rfl (Or.inl rfl)) (pss_cons (ps_expr (pe_call Gcheck_place (hr.mono (by decide)) (by rfl) Ncheck_place.g Ncheck_place.kp Ncheck_place.b .nil pass0 (pa_cons (pv 2) (pa_cons (pv 1) pa_nil))))
          (pss_one (ps_expr (pe_bm PySem.F.plainAttrs_list PySem.F.slot_list_append PySem.F.type_list_append mt_append (pv 1) (pa_cons (pe_ix ix_tup (pv 2) pe_int (fun _ _ => rfl)) pa_nil)))))))), ?_⟩
      refine ⟨_, rfl, a, 2, 6, xs, rfl, hX, fun H1 s1 => ?_⟩
      have el : (xs.length : Int) = (ps.length : Int) := by rw [dpAll_len hd, List.length_map]
      rw [el, show decide ((2 : Int) ≤ (ps.length : Int)) = true from decide_eq_true (by omega), show decide ((ps.length : Int) ≤ 6) = true from decide_eq_true (by omega)]
      refine ⟨_, rfl, iteF ?_⟩
      refine ⟨Nat.zero_le _, fun L hL0 => ?_⟩
      have hLn : H L = none := s1.free hL0
      have kA := (same_kt tb s1).trans (KT.alloc (o := .lst []) (same_kt tb s1).tab hL0)
      have HX := Nt.seq (KT.nt tb kA) hL
      refine ⟨_, rfl, a, rfl, ⟨_, HX⟩, for_list (K := K) (a := a) (xs := xs) (fun i σ H' => ∃ v : Option V, σ = [some (.ref a), some (.ref L), v] ∧ H' L = some (.lst (((ps.take i).map (·.1)).map V.str)) ∧ KT Pt H H')
        ⟨_, rfl, upd_same, kA⟩ (fun i σ H' _ ⟨_, _, _, q⟩ => Nt.seq (KT.nt tb q) hL) ?_ ?_⟩
      · rintro i x σ H2 hx ⟨v, rfl, eL, k2⟩
        obtain ⟨d, hd1, hd2⟩ := dpAll_get hd hx
        obtain ⟨p, hp, rfl⟩ := get_map hd1
        obtain ⟨t, x1, x2, rfl, ht, q1, q2⟩ := dp_two hd2
        obtain rfl := dp_str q1
        obtain rfl := dp_int q2
        have ht2 := Nt.seqT (KT.nt tb k2) ht
        have hpm := List.mem_of_getElem? hp
        obtain ⟨m1, m2, m3⟩ := ok p hpm
        refine ⟨_, rfl, _, rfl, t, L, p.1, p.2, (ps.take i).map (·.1), rfl, ht2, m1, m2, m3, SqL.of eL, fresh_name nd hp, k2.tab, fun H3 k3 => ?_⟩
        have eL3 : H3 L = some (.lst (((ps.take i).map (·.1)).map V.str)) := KT.nt k2.tab k3 L _ (by simp) eL
        have ht3 := Nt.seqT (KT.nt tb (k2.trans k3)) ht
        have nLP : L ≠ Pt := ne_tab k3.tab eL3 (by simp)
        have hi := (List.getElem?_eq_some_iff.mp hp).1
        refine ⟨_, rfl, .inl ⟨rfl, _, SqL.of eL3⟩, _, rfl, t, _, 0, .str p.1, rfl, rfl, ht3, rfl, L, _, _, rfl, rfl, eL3, ?_, ?_⟩
        · rw [List.length_map, List.length_map, List.length_take]
          exact small1000 (by omega)
        · refine ⟨_, rfl, ?_, KT.put (k2.trans k3) hLn nLP⟩
          rw [upd_same, take_at hp, List.map_append, List.map_append]
          rfl
      · rintro σ H2 ⟨v, rfl, eL, k2⟩
        exact k H2 k2
    · skip
      refine ⟨_, pss_cons (ps_if (pt_not (pt_val (pe_call Gis_list (hr.mono (by decide)) (by rfl) Nis_list.g Nis_list.kp Nis_list.b .nil pass0 (pa_cons (pv 0) (pa_cons pe_int (pa_cons pe_int pa_nil)))))) (pss_one ps_never) pss_nil)
      (pss_cons (ps_set (i := 1) sc_check_places.nd rfl (Or.inl rfl) (pe_lst pa_nil))
      (pss_one (ps_for PassesOwn.never rfl (pi_tup (pv 0)) (pg_name (i := 2) sc_check_places.nd rfl (Or.inl rfl)) (pss_cons (ps_expr (pe_call Gcheck_place (hr.mono (by decide)) (by rfl) Ncheck_place.g Ncheck_place.kp Ncheck_place.b .nil pass0 (pa_cons (pv 2) (pa_cons (pv 1) pa_nil))))
          (pss_one (ps_expr (pe_bm PySem.F.plainAttrs_list PySem.F.slot_list_append PySem.F.type_list_append mt_append (pv 1) (pa_cons (pe_ix ix_tup (pv 2) pe_int (fun _ _ => rfl)) pa_nil)))))))), ?_⟩
      refine ⟨_, rfl, a, 2, 6, xs, rfl, hX, fun H1 s1 => ?_⟩
      have el : (xs.length : Int) = (ps.length : Int) := by rw [dpAll_len hd, List.length_map]
      rw [el, show decide ((2 : Int) ≤ (ps.length : Int)) = true from decide_eq_true (by omega), show decide ((ps.length : Int) ≤ 6) = true from decide_eq_true (by omega)]
      refine ⟨_, rfl, iteF ?_⟩
      refine ⟨Nat.zero_le _, fun L hL0 => ?_⟩
      have hLn : H L = none := s1.free hL0
      have kA := (same_kt tb s1).trans (KT.alloc (o := .lst []) (same_kt tb s1).tab hL0)
      have HX := Nt.seqT (KT.nt tb kA) hT
      refine ⟨_, rfl, a, rfl, ⟨_, HX⟩, for_tup (K := K) (a := a) (xs := xs) (fun i σ H' => ∃ v : Option V, σ = [some (.ref a), some (.ref L), v] ∧ H' L = some (.lst (((ps.take i).map (·.1)).map V.str)) ∧ KT Pt H H')
        ⟨_, rfl, upd_same, kA⟩ (fun i σ H' _ ⟨_, _, _, q⟩ => Nt.seqT (KT.nt tb q) hT) ?_ ?_⟩
      · rintro i x σ H2 hx ⟨v, rfl, eL, k2⟩
        obtain ⟨d, hd1, hd2⟩ := dpAll_get hd hx
        obtain ⟨p, hp, rfl⟩ := get_map hd1
        obtain ⟨t, x1, x2, rfl, ht, q1, q2⟩ := dp_two hd2
        obtain rfl := dp_str q1
        obtain rfl := dp_int q2
        have ht2 := Nt.seqT (KT.nt tb k2) ht
        have hpm := List.mem_of_getElem? hp
        obtain ⟨m1, m2, m3⟩ := ok p hpm
        refine ⟨_, rfl, _, rfl, t, L, p.1, p.2, (ps.take i).map (·.1), rfl, ht2, m1, m2, m3, SqL.of eL, fresh_name nd hp, k2.tab, fun H3 k3 => ?_⟩
        have eL3 : H3 L = some (.lst (((ps.take i).map (·.1)).map V.str)) := KT.nt k2.tab k3 L _ (by simp) eL
        have ht3 := Nt.seqT (KT.nt tb (k2.trans k3)) ht
        have nLP : L ≠ Pt := ne_tab k3.tab eL3 (by simp)
        have hi := (List.getElem?_eq_some_iff.mp hp).1
        refine ⟨_, rfl, .inl ⟨rfl, _, SqL.of eL3⟩, _, rfl, t, _, 0, .str p.1, rfl, rfl, ht3, rfl, L, _, _, rfl, rfl, eL3, ?_, ?_⟩
        · rw [List.length_map, List.length_map, List.length_take]
          exact small1000 (by omega)
        · refine ⟨_, rfl, ?_, KT.put (k2.trans k3) hLn nLP⟩
          rw [upd_same, take_at hp, List.map_append, List.map_append]
          rfl
      · rintro σ H2 ⟨v, rfl, eL, k2⟩
        exact k H2 k2
abbrev s_is_stretch : Stmt := top 21
theorem sc_is_stretch : FnScope ["thing", "kind", "home"] ["thing"] (defScope s_is_stretch) := ⟨rfl, rfl, rfl, by decide +kernel, rfl, by decide +kernel, by decide +kernel⟩
def spIsStretch (K : PySem.W.Frag) : Sp := fun vs H Q _ => ∃ (t : Addr) (z : Str) (h : Int), vs = [.ref t] ∧ SqT K H t [.str z, .int h] ∧ (z = "staff" ∨ z = "ticket") ∧ 0 ≤ h ∧ h ≤ 1 ∧ ∀ H', Same H H' → Q (.bl true) H'
theorem ok_is_stretch {f fTu fWh : Addr} {fd fdTu fdWh : FuncData} (F : Fun K "_is_stretch" "_is_stretch" s_is_stretch f fd) (T : Txt mg)
    (Nis_tuple : Fn K mg "is_tuple" s_is_tuple ["thing", "many"] fTu fdTu) (Gis_tuple : FnOk P w K mg base CX0 1 fTu fdTu ["thing", "many"] (spIsTuple K))
    (Nis_whole : Fn K mg "is_whole" sWhole ["thing", "low", "high"] fWh fdWh) (Gis_whole : FnOk P w K mg base CX0 1 fWh fdWh ["thing", "low", "high"] spWhole) :
    FnOk P w K mg base CX0 2 f fd ["thing"] (spIsStretch K) := by
  refine F.ok sc_is_stretch (fun vs H Q E h => ?_) (fun cdv A outer s H vs Q E hr h => ?_)
  · obtain ⟨t, z, h, rfl, _⟩ := h
    rfl
  · obtain ⟨t, z, h, rfl, hT, hz, h0, h1, k⟩ := h
    refine ⟨_, pss_cons (ps_if (pt_not (pt_val (pe_call Gis_tuple (hr.mono (by decide)) (by rfl) Nis_tuple.g Nis_tuple.kp Nis_tuple.b .nil pass0 (pa_cons (pv 0) (pa_cons pe_int pa_nil))))) (pss_one (ps_ret pe_bl)) pss_nil)
      (pss_cons (ps_asg (pv 0) (pg_tup (by rfl) (pgs_cons (pg_name (i := 1) sc_is_stretch.nd rfl (Or.inl rfl)) (pgs_cons (pg_name (i := 2) sc_is_stretch.nd rfl (Or.inl rfl)) pgs_nil))))
      (pss_one (ps_ret (pe_and (pe_cmpR op_in_seq (pv 1) (pe_tup (pa_cons pe_str (pa_cons pe_str pa_nil))) rfl) (pe_one (pe_call Gis_whole (hr.mono (by decide)) (by rfl) Nis_whole.g Nis_whole.kp Nis_whole.b .nil pass0 (pa_cons (pv 2) (pa_cons pe_int (pa_cons pe_int pa_nil))))))))), ?_⟩
    refine ⟨_, rfl, t, 2, _, rfl, hT, _, rfl, iteF ?_⟩
    refine ⟨_, rfl, t, _, rfl, hT, rfl, _, _, rfl, _, _, rfl, rfl, ?_⟩
    refine ⟨_, rfl, (by show 2 ≤ sizeLine; decide), fun u hu => ?_⟩
    have e := same_alloc (o := .tup [.str "staff", .str "ticket"]) hu
    refine ⟨u, _, rfl, .inr (SqT.of upd_same), rfl, rfl, _, rfl, ?_⟩
    have ei : inV (.str z) [.str "staff", .str "ticket"] = true := by
      rcases hz with rfl | rfl <;> decide +kernel
    show if inV (.str z) [.str "staff", .str "ticket"] = true then _ else _
    rw [ei]
    refine iteT ?_
    refine ⟨_, rfl, .int h, 0, 1, rfl, .int h, ?_⟩
    have e2 : wh 0 1 (.int h) = true := by simp [wh, h0, h1]
    rw [e2]
    exact k _ e
abbrev s_check_stretches : Stmt := top 20
theorem sc_check_stretches : FnScope ["stretches", "many", "stretch"] ["stretches", "many"] (defScope s_check_stretches) := ⟨rfl, rfl, rfl, by decide +kernel, rfl, by decide +kernel, by decide +kernel⟩
def spCheckStretches (K : PySem.W.Frag) : Sp := fun vs H Q _ => ∃ (a : Addr) (n : Int) (xs : List V) (st : List (Str × Int)), vs = [.ref a, .int n] ∧ SqX K H a xs ∧ DpAll K H xs (st.map dP) ∧ n = st.length ∧
  (∀ p ∈ st, (p.1 = "staff" ∨ p.1 = "ticket") ∧ 0 ≤ p.2 ∧ p.2 ≤ 1) ∧ ∀ H', Same H H' → Q .non H'
theorem ok_check_stretches {f fL fC : Addr} {fd fdL fdC : FuncData} (F : Fun K "_check_stretches" "_check_stretches" s_check_stretches f fd) (T : Txt mg)
    (Nis_list : Fn K mg "is_list" s_is_list ["thing", "low", "high"] fL fdL) (Gis_list : FnOk P w K mg base CX0 1 fL fdL ["thing", "low", "high"] (spIsList K))
    (Nis_stretch : Fn K mg "_is_stretch" s_is_stretch ["thing"] fC fdC) (Gis_stretch : FnOk P w K mg base CX0 2 fC fdC ["thing"] (spIsStretch K)) :
    FnOk P w K mg base CX0 3 f fd ["stretches", "many"] (spCheckStretches K) := by
  refine F.ok sc_check_stretches (fun vs H Q E h => ?_) (fun cdv A outer s H vs Q E hr h => ?_)
  · obtain ⟨a, n, xs, st, rfl, _⟩ := h
    rfl
  · obtain ⟨a, n, xs, st, rfl, hX, hd, hn, ok, k⟩ := h
    rcases id hX with hL | hT
    · skip
      refine ⟨_, pss_cons (ps_if (pt_not (pt_val (pe_call Gis_list (hr.mono (by decide)) (by rfl) Nis_list.g Nis_list.kp Nis_list.b .nil pass0 (pa_cons (pv 0) (pa_cons (pv 1) (pa_cons (pv 1) pa_nil)))))) (pss_one ps_never) pss_nil)
      (pss_one (ps_for PassesOwn.never rfl (pi_list (pv 0)) (pg_name (i := 2) sc_check_stretches.nd rfl (Or.inl rfl)) (pss_one (ps_if (pt_not (pt_val (pe_call Gis_stretch (hr.mono (by decide)) (by rfl) Nis_stretch.g Nis_stretch.kp Nis_stretch.b .nil pass0 (pa_cons (pv 2) pa_nil)))) (pss_one ps_never) pss_nil)))), ?_⟩
      refine ⟨_, rfl, _, rfl, _, rfl, a, n, n, xs, rfl, hX, fun H1 s1 => ?_⟩
      have el : (xs.length : Int) = n := by rw [dpAll_len hd, List.length_map, hn]
      rw [el, show decide (n ≤ n) = true from decide_eq_true (Int.le_refl n)]
      refine ⟨_, rfl, iteF ?_⟩
      refine ⟨_, rfl, a, rfl, ⟨_, Nt.seq (same_nt s1) hL⟩, for_list (K := K) (a := a) (xs := xs) (fun i σ H' => ∃ v : Option V, σ = [some (.ref a), some (.int n), v] ∧ Same H H')
        ⟨_, rfl, s1⟩ (fun i σ H' _ ⟨_, _, q⟩ => Nt.seq (same_nt q) hL) ?_ ?_⟩
      · rintro i x σ H2 hx ⟨v, rfl, k2⟩
        obtain ⟨d, hd1, hd2⟩ := dpAll_get hd hx
        obtain ⟨p, hp, rfl⟩ := get_map hd1
        obtain ⟨t, x1, x2, rfl, ht, q1, q2⟩ := dp_two hd2
        obtain rfl := dp_str q1
        obtain rfl := dp_int q2
        obtain ⟨m1, m2, m3⟩ := ok p (List.mem_of_getElem? hp)
        exact ⟨_, rfl, t, p.1, p.2, rfl, Nt.seqT (same_nt k2) ht, m1, m2, m3, fun H3 k3 => ⟨_, rfl, iteF ⟨_, rfl, k2.trans k3⟩⟩⟩
      · rintro σ H2 ⟨v, rfl, k2⟩
        exact k H2 k2
    · skip
      refine ⟨_, pss_cons (ps_if (pt_not (pt_val (pe_call Gis_list (hr.mono (by decide)) (by rfl) Nis_list.g Nis_list.kp Nis_list.b .nil pass0 (pa_cons (pv 0) (pa_cons (pv 1) (pa_cons (pv 1) pa_nil)))))) (pss_one ps_never) pss_nil)
      (pss_one (ps_for PassesOwn.never rfl (pi_tup (pv 0)) (pg_name (i := 2) sc_check_stretches.nd rfl (Or.inl rfl)) (pss_one (ps_if (pt_not (pt_val (pe_call Gis_stretch (hr.mono (by decide)) (by rfl) Nis_stretch.g Nis_stretch.kp Nis_stretch.b .nil pass0 (pa_cons (pv 2) pa_nil)))) (pss_one ps_never) pss_nil)))), ?_⟩
      refine ⟨_, rfl, _, rfl, _, rfl, a, n, n, xs, rfl, hX, fun H1 s1 => ?_⟩
      have el : (xs.length : Int) = n := by rw [dpAll_len hd, List.length_map, hn]
      rw [el, show decide (n ≤ n) = true from decide_eq_true (Int.le_refl n)]
      refine ⟨_, rfl, iteF ?_⟩
      refine ⟨_, rfl, a, rfl, ⟨_, Nt.seqT (same_nt s1) hT⟩, for_tup (K := K) (a := a) (xs := xs) (fun i σ H' => ∃ v : Option V, σ = [some (.ref a), some (.int n), v] ∧ Same H H')
        ⟨_, rfl, s1⟩ (fun i σ H' _ ⟨_, _, q⟩ => Nt.seqT (same_nt q) hT) ?_ ?_⟩
      · rintro i x σ H2 hx ⟨v, rfl, k2⟩
        obtain ⟨d, hd1, hd2⟩ := dpAll_get hd hx
        obtain ⟨p, hp, rfl⟩ := get_map hd1
        obtain ⟨t, x1, x2, rfl, ht, q1, q2⟩ := dp_two hd2
        obtain rfl := dp_str q1
        obtain rfl := dp_int q2
        obtain ⟨m1, m2, m3⟩ := ok p (List.mem_of_getElem? hp)
        exact ⟨_, rfl, t, p.1, p.2, rfl, Nt.seqT (same_nt k2) ht, m1, m2, m3, fun H3 k3 => ⟨_, rfl, iteF ⟨_, rfl, k2.trans k3⟩⟩⟩
      · rintro σ H2 ⟨v, rfl, k2⟩
        exact k H2 k2
abbrev s_is_long : Stmt := top 23
theorem sc_is_long : FnScope ["thing", "low", "top", "first", "last", "home"] ["thing", "low", "top"] (defScope s_is_long) := ⟨rfl, rfl, rfl, by decide +kernel, rfl, by decide +kernel, by decide +kernel⟩
def spIsLong (K : PySem.W.Frag) : Sp := fun vs H Q _ => ∃ (t : Addr) (f l h low tp : Int), vs = [.ref t, .int low, .int tp] ∧ SqT K H t [.int f, .int l, .int h] ∧ low ≤ f ∧ f + 2 ≤ l ∧ l ≤ tp ∧ 0 ≤ h ∧ h ≤ 1 ∧ Q (.bl true) H
theorem ok_is_long {f fTu fWh : Addr} {fd fdTu fdWh : FuncData} (F : Fun K "_is_long" "_is_long" s_is_long f fd) (T : Txt mg)
    (Nis_tuple : Fn K mg "is_tuple" s_is_tuple ["thing", "many"] fTu fdTu) (Gis_tuple : FnOk P w K mg base CX0 1 fTu fdTu ["thing", "many"] (spIsTuple K))
    (Nis_whole : Fn K mg "is_whole" sWhole ["thing", "low", "high"] fWh fdWh) (Gis_whole : FnOk P w K mg base CX0 1 fWh fdWh ["thing", "low", "high"] spWhole) :
    FnOk P w K mg base CX0 2 f fd ["thing", "low", "top"] (spIsLong K) := by
  refine F.ok sc_is_long (fun vs H Q E h => ?_) (fun cdv A outer s H vs Q E hr h => ?_)
  · obtain ⟨t, fi, la, h, low, tp, rfl, _⟩ := h
    rfl
  · obtain ⟨t, fi, la, h, low, tp, rfl, hT, a1, a2, a3, a4, a5, k⟩ := h
    refine ⟨_, pss_cons (ps_if (pt_not (pt_val (pe_call Gis_tuple (hr.mono (by decide)) (by rfl) Nis_tuple.g Nis_tuple.kp Nis_tuple.b .nil pass0 (pa_cons (pv 0) (pa_cons pe_int pa_nil))))) (pss_one (ps_ret pe_bl)) pss_nil)
      (pss_cons (ps_asg (pv 0) (pg_tup (by rfl) (pgs_cons (pg_name (i := 3) sc_is_long.nd rfl (Or.inl rfl)) (pgs_cons (pg_name (i := 4) sc_is_long.nd rfl (Or.inl rfl)) (pgs_cons (pg_name (i := 5) sc_is_long.nd rfl (Or.inl rfl)) pgs_nil)))))
      (pss_one (ps_ret (pe_and (pe_call Gis_whole (hr.mono (by decide)) (by rfl) Nis_whole.g Nis_whole.kp Nis_whole.b .nil pass0 (pa_cons (pv 3) (pa_cons (pv 1) (pa_cons (pv 2) pa_nil)))) (pe_and (pe_call Gis_whole (hr.mono (by decide)) (by rfl) Nis_whole.g Nis_whole.kp Nis_whole.b .nil pass0 (pa_cons (pv 4) (pa_cons (pe_op op_add (pv 3) pe_int) (pa_cons (pv 2) pa_nil)))) (pe_one (pe_call Gis_whole (hr.mono (by decide)) (by rfl) Nis_whole.g Nis_whole.kp Nis_whole.b .nil pass0 (pa_cons (pv 5) (pa_cons pe_int (pa_cons pe_int pa_nil)))))))))), ?_⟩
    refine ⟨_, rfl, t, 3, _, rfl, hT, _, rfl, iteF ?_⟩
    refine ⟨_, rfl, t, _, rfl, hT, rfl, _, _, rfl, _, _, rfl, _, _, rfl, rfl, ?_⟩
    refine ⟨_, rfl, _, rfl, _, rfl, .int fi, low, tp, rfl, .int fi, ?_⟩
    rw [show wh low tp (.int fi) = true by simp [wh]; omega]
    refine ⟨_, rfl, iteT ?_⟩
    refine ⟨_, rfl, _, rfl, _, _, rfl, rfl, _, rfl, .int la, fi + 2, tp, rfl, .int la, ?_⟩
    rw [show wh (fi + 2) tp (.int la) = true by simp [wh]; omega]
    refine ⟨_, rfl, iteT ?_⟩
    refine ⟨_, rfl, .int h, 0, 1, rfl, .int h, ?_⟩
    rw [show wh 0 1 (.int h) = true by simp [wh]; omega]
    exact k
abbrev s_check_longs : Stmt := top 22
theorem sc_check_longs : FnScope ["longs", "top", "low", "long"] ["longs", "top"] (defScope s_check_longs) := ⟨rfl, rfl, rfl, by decide +kernel, rfl, by decide +kernel, by decide +kernel⟩
def spCheckLongs (K : PySem.W.Frag) : Sp := fun vs H Q _ => ∃ (a : Addr) (tp : Int) (xs : List V) (lo : List (Int × Int × Int)), vs = [.ref a, .int tp] ∧ SqX K H a xs ∧ DpAll K H xs (lo.map dL) ∧ lo.length ≤ 2 ∧ longsOk tp 0 lo ∧ ∀ H', Same H H' → Q .non H'
def lastOf (lo : List (Int × Int × Int)) (i : Nat) : Int := ((lo.take i).getLast?.map fun q => q.2.1).getD 0
theorem ok_check_longs {f fL fC : Addr} {fd fdL fdC : FuncData} (F : Fun K "_check_longs" "_check_longs" s_check_longs f fd) (T : Txt mg)
    (Nis_list : Fn K mg "is_list" s_is_list ["thing", "low", "high"] fL fdL) (Gis_list : FnOk P w K mg base CX0 1 fL fdL ["thing", "low", "high"] (spIsList K))
    (Nis_long : Fn K mg "_is_long" s_is_long ["thing", "low", "top"] fC fdC) (Gis_long : FnOk P w K mg base CX0 2 fC fdC ["thing", "low", "top"] (spIsLong K)) :
    FnOk P w K mg base CX0 3 f fd ["longs", "top"] (spCheckLongs K) := by
  refine F.ok sc_check_longs (fun vs H Q E h => ?_) (fun cdv A outer s H vs Q E hr h => ?_)
  · obtain ⟨a, n, xs, st, rfl, _⟩ := h
    rfl
  · obtain ⟨a, tp, xs, lo, rfl, hX, hd, l2, ok, k⟩ := h
    rcases id hX with hL | hT
    · skip
      refine ⟨_, pss_cons (ps_if (pt_not (pt_val (pe_call Gis_list (hr.mono (by decide)) (by rfl) Nis_list.g Nis_list.kp Nis_list.b .nil pass0 (pa_cons (pv 0) (pa_cons pe_int (pa_cons pe_int pa_nil)))))) (pss_one ps_never) pss_nil)
      (pss_cons (ps_set (i := 2) sc_check_longs.nd rfl (Or.inl rfl) pe_int)
      (pss_one (ps_for PassesOwn.never rfl (pi_list (pv 0)) (pg_name (i := 3) sc_check_longs.nd rfl (Or.inl rfl)) (pss_cons (ps_if (pt_not (pt_val (pe_call Gis_long (hr.mono (by decide)) (by rfl) Nis_long.g Nis_long.kp Nis_long.b .nil pass0 (pa_cons (pv 3) (pa_cons (pv 2) (pa_cons (pv 1) pa_nil)))))) (pss_one ps_never) pss_nil)
          (pss_one (ps_set (i := 2) sc_check_longs.nd rfl (Or.inl rfl) (pe_ix ix_tup (pv 3) pe_int (fun _ _ => rfl)))))))), ?_⟩
      refine ⟨_, rfl, a, 0, 2, xs, rfl, hX, fun H1 s1 => ?_⟩
      have el : (xs.length : Int) = (lo.length : Int) := by rw [dpAll_len hd, List.length_map]
      rw [el, show decide ((0 : Int) ≤ (lo.length : Int)) = true from decide_eq_true (by omega), show decide ((lo.length : Int) ≤ 2) = true from decide_eq_true (by omega)]
      refine ⟨_, rfl, iteF ?_⟩
      refine ⟨_, rfl, a, rfl, ⟨_, Nt.seq (same_nt s1) hL⟩, for_list (K := K) (a := a) (xs := xs) (fun i σ H' => ∃ v : Option V, σ = [some (.ref a), some (.int tp), some (.int (lastOf lo i)), v] ∧ Same H H')
        ⟨_, rfl, s1⟩ (fun i σ H' _ ⟨_, _, q⟩ => Nt.seq (same_nt q) hL) ?_ ?_⟩
      · rintro i x σ H2 hx ⟨v, rfl, k2⟩
        obtain ⟨d, hd1, hd2⟩ := dpAll_get hd hx
        obtain ⟨p, hp, rfl⟩ := get_map hd1
        obtain ⟨t, x1, x2, x3, rfl, ht, q1, q2, q3⟩ := dp_three hd2
        obtain rfl := dp_int q1
        obtain rfl := dp_int q2
        obtain rfl := dp_int q3
        obtain ⟨m1, m2, m3, m4, m5⟩ := longs_get ok hp
        have ht2 := Nt.seqT (same_nt k2) ht
        refine ⟨_, rfl, _, rfl, _, rfl, t, _, _, _, _, _, rfl, ht2, m1, m2, m3, m4, m5, _, rfl, iteF ?_⟩
        refine ⟨_, rfl, t, _, 1, .int p.2.1, rfl, rfl, ht2, rfl, some (.ref t), ?_, k2⟩
        have e : lastOf lo (i + 1) = p.2.1 := by
          unfold lastOf
          rw [take_at hp, List.getLast?_append]
          simp
        rw [e]
        rfl
      · rintro σ H2 ⟨v, rfl, k2⟩
        exact k H2 k2
    · skip
      refine ⟨_, pss_cons (ps_if (pt_not (pt_val (pe_call Gis_list (hr.mono (by decide)) (by rfl) Nis_list.g Nis_list.kp Nis_list.b .nil pass0 (pa_cons (pv 0) (pa_cons pe_int (pa_cons pe_int pa_nil)))))) (pss_one ps_never) pss_nil)
      (pss_cons (ps_set (i := 2) sc_check_longs.nd rfl (Or.inl rfl) pe_int)
      (pss_one (ps_for PassesOwn.never rfl (pi_tup (pv 0)) (pg_name (i := 3) sc_check_longs.nd rfl (Or.inl rfl)) (pss_cons (ps_if (pt_not (pt_val (pe_call Gis_long (hr.mono (by decide)) (by rfl) Nis_long.g Nis_long.kp Nis_long.b .nil pass0 (pa_cons (pv 3) (pa_cons (pv 2) (pa_cons (pv 1) pa_nil)))))) (pss_one ps_never) pss_nil)
          (pss_one (ps_set (i := 2) sc_check_longs.nd rfl (Or.inl rfl) (pe_ix ix_tup (pv 3) pe_int (fun _ _ => rfl)))))))), ?_⟩
      refine ⟨_, rfl, a, 0, 2, xs, rfl, hX, fun H1 s1 => ?_⟩
      have el : (xs.length : Int) = (lo.length : Int) := by rw [dpAll_len hd, List.length_map]
      rw [el, show decide ((0 : Int) ≤ (lo.length : Int)) = true from decide_eq_true (by omega), show decide ((lo.length : Int) ≤ 2) = true from decide_eq_true (by omega)]
      refine ⟨_, rfl, iteF ?_⟩
      refine ⟨_, rfl, a, rfl, ⟨_, Nt.seqT (same_nt s1) hT⟩, for_tup (K := K) (a := a) (xs := xs) (fun i σ H' => ∃ v : Option V, σ = [some (.ref a), some (.int tp), some (.int (lastOf lo i)), v] ∧ Same H H')
        ⟨_, rfl, s1⟩ (fun i σ H' _ ⟨_, _, q⟩ => Nt.seqT (same_nt q) hT) ?_ ?_⟩
      · rintro i x σ H2 hx ⟨v, rfl, k2⟩
        obtain ⟨d, hd1, hd2⟩ := dpAll_get hd hx
        obtain ⟨p, hp, rfl⟩ := get_map hd1
        obtain ⟨t, x1, x2, x3, rfl, ht, q1, q2, q3⟩ := dp_three hd2
        obtain rfl := dp_int q1
        obtain rfl := dp_int q2
        obtain rfl := dp_int q3
        obtain ⟨m1, m2, m3, m4, m5⟩ := longs_get ok hp
        have ht2 := Nt.seqT (same_nt k2) ht
        refine ⟨_, rfl, _, rfl, _, rfl, t, _, _, _, _, _, rfl, ht2, m1, m2, m3, m4, m5, _, rfl, iteF ?_⟩
        refine ⟨_, rfl, t, _, 1, .int p.2.1, rfl, rfl, ht2, rfl, some (.ref t), ?_, k2⟩
        have e : lastOf lo (i + 1) = p.2.1 := by
          unfold lastOf
          rw [take_at hp, List.getLast?_append]
          simp
        rw [e]
        rfl
      · rintro σ H2 ⟨v, rfl, k2⟩
        exact k H2 k2
end
end K5

set_option maxRecDepth 100000
set_option maxHeartbeats 4000000
/-! enumerate(a tuple) -/
namespace My
open PySem PySem.Spec PyProof.Rows L2
open Builtin in
set_option maxHeartbeats 1000000 in
theorem meets_enum_of {v : Value} {o : Obj} {H : Heap → Prop} (B : Begins v o H) :
    Meets (Builtin.«enumerate.__new__» ⟨[.type "enumerate", v], []⟩) (fun _ R s => H s.heap ∧
      R (.ok (.ret (.ref (s.heap.push o).objs.size))) { s with heap := (s.heap.push o).push { cls := .type "enumerate", data := .fields #[.none, .bool false, .ref s.heap.objs.size, rawInt 0, .none, .none] } }) :=
  .of_wp fun prog w A R s hh => by
    obtain ⟨hp, g, d, tk, os⟩ := s
    obtain ⟨hB, hR⟩ := hh
    have hsub := sub_enumerate
    have it1 : ∀ {A' : Around} {E : Value → Shared → Prop} {Q : Value → Shared → Prop}, Q (.ref hp.objs.size) ⟨hp.push o, g, d, tk, os⟩ → wpAny (model prog w) A' (pyIter v) Q E ⟨hp, g, d, tk, os⟩ :=
      fun z => B.iter prog w _ _ ⟨hp, g, d, tk, os⟩ _ hB z
    wp_walk using it1
    refine wpAny_stack_any fun st => wpAny_pure ?_
    split
    · rename_i c _ _ _ _ _
      cases (c == Value.type "enumerate") <;> (wp_walk using it1; exact ⟨_, rfl, hR⟩)
    · wp_walk using it1
      exact ⟨_, rfl, hR⟩
theorem call_enum_tuple {prog : Program} {w : World} {A : Around} {E : Value → Shared → Prop} {s : Shared} {a : Addr} {items : Array Value} {Q : Value → Shared → Prop} (ht : s.heap.IsTuple a items)
    (h : ∀ h', IsEnum h' (s.heap.objs.size + 1) s.heap.objs.size 0 .none → h'.IsTupleIter s.heap.objs.size a 0 → (∀ b o, s.heap.get? b = some o → h'.get? b = some o) →
      Q (.ref (s.heap.objs.size + 1)) { s with heap := h' }) : wpAny (model prog w) A (call (.type "enumerate") [.ref a]) Q E s := by
  refine callType_new F.called_enumerate (by decide) (F.typeCall_enumerate_1 _) (F.newCall_enumerate_1 _) (fun obj => F.args_object_init_2 obj _) F.entry_enumerate_new (meets_enum_of (begins_tuple a items)) ⟨ht, ?_⟩
  have z1 : (s.heap.push { cls := .type "tuple_iterator", data := .fields #[.ref a, .int 0 0] }).objs.size = s.heap.objs.size + 1 := Heap.size_push ..
  have ge := Heap.get?_push_size (s.heap.push { cls := .type "tuple_iterator", data := .fields #[.ref a, .int 0 0] }) (o := { cls := .type "enumerate", data := .fields #[.none, .bool false, .ref s.heap.objs.size, rawInt 0, .none, .none] }) rfl
  rw [z1] at ge
  show _ ∧ _
  rw [z1]
  exact ⟨⟨_, ge, rfl⟩, h _ ge ⟨_, Heap.get?_push_of_some _ (Heap.get?_push_size _ rfl), rfl, rfl⟩ fun b o x => Heap.get?_push_of_some _ (Heap.get?_push_of_some _ x)⟩
/-- the tuple at a, each item in a new pair with its number -/
def IteT (K : PySem.W.Frag) (a : Addr) : It :=
  ⟨fun i H => ∃ (xs : List V) (x : V), SqT K H a xs ∧ xs[i]? = some x,
   fun i H v H' => ∃ T x, v = .ref T ∧ H T = none ∧ H' = upd H T (.tup [.int (i : Nat), x]) ∧ ∀ xs, SqT K H a xs → xs[i]? = some x,
   fun i H => ∃ xs : List V, SqT K H a xs ∧ xs.length ≤ i⟩
theorem turn_enumT {P : Program} {w : World} {K : PySem.W.Frag} {elts : List Expr} {kk : Nat} {tp : Pos} (a e it : Addr) :
    Turn P w K (.Tuple elts kk tp) (IteT K a) [e, it] e (fun i h => (∃ old, IsEnum h e it ((i : Nat) : Int) old) ∧ h.IsTupleIter it a i ∧ e ≠ it) := by
  have two : ∀ {b : Addr}, b ∈ [e, it] → b = e ∨ b = it := fun {b} hb => by simpa using hb
  constructor
  case mem => exact List.mem_cons_self
  case obj =>
    rintro i h ⟨⟨old, he⟩, ⟨o, ho, hc, hd⟩, hne⟩ b hb
    rcases two hb with rfl | rfl
    · exact ⟨_, he, fun v q => nomatch q⟩
    · exact ⟨o, ho, fun v q => by rw [hd] at q; cases q⟩
  case keep =>
    rintro i h h' ⟨⟨old, he⟩, ⟨o, ho, r⟩, hne⟩ k
    exact ⟨⟨old, k e List.mem_cons_self _ he⟩, ⟨o, k it (by simp) _ ho, r⟩, hne⟩
  case self =>
    rintro A i s Q E ⟨⟨_, he⟩, _⟩ hQ
    exact wpAny_pyIter_enum he hQ
  case item =>
    rintro X rfl rfl rfl hc i pins s σ H E I hf ⟨⟨old, he⟩, hit, hne⟩ ⟨xs, x, hq, hx⟩
    obtain ⟨its, rv, p, hz⟩ := I.tuple hq
    have pt : s.heap.IsTuple a its.toArray := let ⟨o, h1, h2, n, h3⟩ := p; ⟨o, h1, h2, n, h3⟩
    obtain ⟨u, hu, ru⟩ := rv.get hx
    have hi : i < its.toArray.size := by
      have := (List.getElem?_eq_some_iff.mp hu).1
      simpa using this
    have ane : a ≠ it := by
      rintro rfl
      obtain ⟨o1, h1, h2, _⟩ := hit
      obtain ⟨o2, h3, h4, _⟩ := pt
      rw [h1] at h3
      cases h3
      rw [h2] at h4
      simp at h4
    have aee : a ≠ e := by
      rintro rfl
      obtain ⟨o2, h3, h4, _⟩ := pt
      have h1 : s.heap.get? a = some _ := he
      rw [h1] at h3
      cases h3
      simp at h4
    have le : e < s.heap.objs.size := Heap.lt_size he
    have li : it < s.heap.objs.size := by
      obtain ⟨_, q, _⟩ := hit
      exact Heap.lt_size q
    have D := Draws.tuple (prog := X.prog) (w := X.w) (A := X.A.in1) (show X.A.in1.handled = none from I.ok.hd hc) it a ane its.toArray
    refine wpAny_pyNext_enum_itemD D he ⟨hit, pt⟩ hi hne (fun z => ?_) fun y h' tk hy ho hst hT hsz hk => ?_
    · rcases List.mem_cons.mp z with z | z
      · exact hne z
      · exact aee (List.mem_singleton.mp z).symm
    · have ey : y = u := by
        have z : its.toArray[i]? = some u := by simpa using hu
        exact Option.some.inj (hy.symm.trans z)
      subst ey
      refine ⟨_, rfl, wpAny_letOwnedTupleGo_enum (s := { s with heap := h', toks := tk + 1 }) ho fun h2 he2 sb => ?_⟩
      have hT2 : h2.get? s.heap.objs.size = some { cls := .type "tuple", data := .seq #[.int i tk, y] } := (sb.2 _ (Nat.ne_of_gt le)).trans hT
      have new : ObjOk X.prog X.w (upd H s.heap.objs.size (.tup [.int (i : Nat), x])) h2 s.heap.objs.size (.tup [.int (i : Nat), x]) :=
        ⟨(by show 2 ≤ sizeLine; decide), [.int i tk, y], .cons ⟨_, rfl⟩ (.cons ru .nil), ⟨_, hT2, rfl, _, rfl⟩⟩
      have I1 := I.turnedNew (t' := tk + 1) (ch := [e, it]) (h' := h2) (fun b o hb q => (sb.2 b (fun z => hb (by simp [z]))).trans (hk b o (fun z => hb (by simp [z])) (fun z => hb (by simp [z])) q)) hf (Nat.le_refl _) new
      refine ⟨.ref s.heap.objs.size, _, I1, rfl, ⟨_, x, rfl, I.hok.fresh (Nat.le_refl _), rfl, fun ys hy => by rw [I.tuple_inj hy hq]; exact hx⟩, ⟨⟨y, ?_⟩, ?_, hne⟩, fun b hb => ?_⟩
      · have e1 : ((i + 1 : Nat) : Int) = (i : Int) + 1 := by omega
        rw [e1]
        exact he2
      · obtain ⟨o, q1, q2⟩ := hst.1
        exact ⟨o, (sb.2 it (Ne.symm hne)).trans q1, q2⟩
      · have lb : b < s.heap.objs.size := by
          rcases two hb with rfl | rfl
          · exact le
          · exact li
        rw [upd_ne (Nat.ne_of_lt lb)]
        exact (hf b hb).1
  case done =>
    rintro X rfl rfl rfl hc i pins s σ H E I hf ⟨⟨old, he⟩, hit, hne⟩ ⟨xs, hq, hx⟩
    obtain ⟨its, rv, p, hz⟩ := I.tuple hq
    have pt : s.heap.IsTuple a its.toArray := let ⟨o, h1, h2, n, h3⟩ := p; ⟨o, h1, h2, n, h3⟩
    have ane : a ≠ it := by
      rintro rfl
      obtain ⟨o1, h1, h2, _⟩ := hit
      obtain ⟨o2, h3, h4, _⟩ := pt
      rw [h1] at h3
      cases h3
      rw [h2] at h4
      simp at h4
    obtain ⟨f0, f1, f2, f3, f4, f5⟩ := hf it (by simp)
    have hl := rv.length
    -- at the end the place is not told by Draws (it stands at any i ≥ the size): the library's end of a tuple's iterator
    have D : Draws X.prog X.w X.A.in1 it [it, a] i (fun _ _ => False) (fun j h => j = i ∧ h.IsTupleIter it a i ∧ h.IsTuple a its.toArray) := by
      constructor
      case live => rintro j h ⟨_, ⟨o, ho, _⟩, _⟩; exact ⟨o, ho⟩
      case frame => rintro j h h' ⟨ej, st1, st2⟩ hk; exact ⟨ej, st1.at fun o e => hk it (by simp) o e, st2.at fun o e => hk a (by simp) o e⟩
      case item => rintro j s Q E hj ⟨ej, _⟩ _; exact absurd hj (by omega)
      case done => rintro s Q E ⟨_, st1, st2⟩ hE; exact wpAny_nextOf_tuple_end (show X.A.in1.handled = none from I.ok.hd hc) st1 st2 (by simp; omega) hE
    exact wpAny_pyNext_enum_endD D he ⟨rfl, hit, pt⟩ fun h' eb => ⟨rfl, I.turned (t' := s.toks) (fun b o hb q => eb b o hb q) f0 f1 f3 f4 f5⟩
def iEnumT (K : PySem.W.Frag) (ta : TA) : TI := fun σ H R => ta σ H fun vs H1 => ∃ a xs, vs = [.ref a] ∧ SqT K H1 a xs ∧ R (IteT K a) H1
theorem pi_enumT {X : Cx} {e : Expr} {ta : TA} {p pos tp : Pos} {elts : List Expr} {kk : Nat} (hg : Gl X "enumerate") (hm : X.mg "enumerate" = none) (ha : PA X [e] ta) (hs : starEach [e] X.env = [(false, eval e X.env)] := by rfl) :
    PI X (.Tuple elts kk tp) (.Call (.Name "enumerate" p) [e] [] pos) (iEnumT X.K ta) := by
  refine ⟨fun pins s σ H R I h => Call_ (ld_blt I hg hm boot_enumerate (PyProof.Rows.callWith_type1 (thn (ha.run pos pins s σ H _ I h) ?_) hs rfl))⟩
  rintro us s1 ⟨vs, H1, I1, r1, a, xs, rfl, hq, q⟩
  cases r1 with
  | cons r rr =>
    cases rr
    cases r
    obtain ⟨its, rv, p, hz⟩ := I1.tuple hq
    have pt : s1.heap.IsTuple a its.toArray := let ⟨o, h1, h2, n, h3⟩ := p; ⟨o, h1, h2, n, h3⟩
    refine call_enum_tuple pt fun h' he hit hk => wpAny_pyIter_enum he ?_
    have I2 : Inv X pins σ H1 { s1 with heap := h' } := I1.kept (t' := s1.toks) hk
    refine ⟨s1.heap.objs.size + 1, [s1.heap.objs.size + 1, s1.heap.objs.size], _, _, H1, rfl, I2, turn_enumT a (s1.heap.objs.size + 1) s1.heap.objs.size, ⟨⟨.none, he⟩, hit, Nat.succ_ne_self _⟩, fun b hb => ?_, q⟩
    have lb : s1.heap.objs.size ≤ b := by
      have e' : b = s1.heap.objs.size + 1 ∨ b = s1.heap.objs.size := by simpa using hb
      rcases e' with z | z
      · rw [z]; exact Nat.le_add_right _ _
      · rw [z]; exact Nat.le_refl _
    exact I1.fpOk lb (I1.hok.fresh lb)
theorem walk_enumT {K : PySem.W.Frag} {a : Addr} {xs : List V} : Walk (IteT K a) xs.length (fun H => SqT K H a xs) (YPair (fun i => some (.int (i : Nat))) (fun i => xs[i]?)) := by
  refine ⟨fun i _ hi q => ⟨xs, xs[i], q, by simp [hi]⟩, fun _ q => ⟨xs, q, Nat.le_refl _⟩, ?_⟩
  rintro i H v H' _ q ⟨T, x, h1, h2, h3, h4⟩
  exact ⟨T, .int (i : Nat), x, h1, h2, h3, rfl, h4 xs q⟩
/-- a dict comprehension over a walk -/
theorem dc_it {J : It} {n : Nat} {G : Hp → Prop} {Y : Nat → Hp → V → Hp → Prop} (w : Walk J n G Y) {g : TG} {tt : TT} {tk tv : TE} {vs : List Nat} {σ : L2.St} {H1 : Hp} {D : Addr} {Qd : Hp → Prop} (Pv : Nat → Hp → Prop) (h0 : Pv 0 (upd H1 D (.dK [])))
    (hG : ∀ i H, i ≤ n → Pv i H → G H)
    (hs : ∀ i x H H', i < n → Pv i H → Y i H x H' → g x (wipe σ vs) H' fun σ2 H2 => wipe σ2 vs = wipe σ vs ∧ tt σ2 H2 fun b H3 =>
      if b = true then tk σ2 H3 fun y H4 => tv σ2 H4 fun z H5 => ∃ kvs k, y = kV k ∧ H5 D = some (.dK kvs) ∧ kvs.length < sizeLine ∧ Pv (i + 1) (upd H5 D (.dK (putK kvs k z))) else Pv (i + 1) H3) (hd : ∀ H, Pv n H → Qd H) :
    ∃ W : Nat → Nat → Hp → Prop, (∃ m, W 0 m (upd H1 D (.dK []))) ∧ ∀ i m H, W i m H →
      (J.stop i H ∧ Qd H) ∨ (J.go i H ∧ ∃ Nx : Hp → Prop, (∀ H', Nx H' → ∃ m', m' < m ∧ W (i + 1) m' H') ∧ ∀ x H', J.yld i H x H' → g x (wipe σ vs) H' fun σ2 H2 => wipe σ2 vs = wipe σ vs ∧ tt σ2 H2 fun b H3 =>
        if b = true then tk σ2 H3 fun y H4 => tv σ2 H4 fun z H5 => ∃ kvs k, y = kV k ∧ H5 D = some (.dK kvs) ∧ kvs.length < sizeLine ∧ Nx (upd H5 D (.dK (putK kvs k z))) else Nx H3) := by
  refine ⟨fun i m H => i + m = n ∧ Pv i H, ⟨n, by simp, h0⟩, ?_⟩
  rintro i m H ⟨ei, p⟩
  have g1 := hG i H (by omega) p
  cases m with
  | zero =>
    have e : i = n := by omega
    subst e
    exact .inl ⟨w.stops H g1, hd H p⟩
  | succ m =>
    refine .inr ⟨w.goes i H (by omega) g1, Pv (i + 1), fun H' q => ⟨m, Nat.lt_succ_self m, by omega, q⟩, fun x H' y => hs i x H H' (by omega) p (w.yields i H x H' (by omega) g1 y)⟩
end My

set_option maxRecDepth 100000
set_option maxHeartbeats 4000000
namespace K5
open PySem PySem.Spec PyProof.Rows L2 GxR Gd TL My
/-! ### a line in the heap -/
def lf (p1 p2 p3 d : Addr) : List (Str × V) := putF "_numbers" (.ref d) (putF "_longs" (.ref p3) (putF "_stretches" (.ref p2) (putF "_places" (.ref p1) [])))
theorem lf_get (p1 p2 p3 d : Addr) (g : Str) : (lf p1 p2 p3 d).lookup g = if g = "_numbers" then some (.ref d) else if g = "_longs" then some (.ref p3) else if g = "_stretches" then some (.ref p2) else if g = "_places" then some (.ref p1) else none := by
  unfold lf
  rw [lookup_putF, lookup_putF, lookup_putF, lookup_putF]
  rfl
def posOf (ps : List (Str × Int)) (z : Str) : Option Nat := ps.findIdx? fun p => decide (p.1 = z)
/-- what stands in the dict of numbers -/
def NumsAt (H : Hp) (d : Addr) (ps : List (Str × Int)) : Prop := ∃ kvs : List (Key × V), H d = some (.dK kvs) ∧ kvs.length ≤ ps.length ∧ ∀ z, valV kvs (Sum.inr z) = (posOf ps z).map fun j => V.int (j : Nat)
structure LineAt (K : PySem.W.Frag) (C : Addr) (w : Wd) (H : Hp) (x : Addr) : Prop where
  ex : ∃ dx p1 p2 p3 d xs1 xs2 xs3, H x = some (.ins C dx (lf p1 p2 p3 d)) ∧ SqT K H p1 xs1 ∧ DpAll K H xs1 (w.ps.map dP) ∧ SqT K H p2 xs2 ∧ DpAll K H xs2 (w.st.map dP) ∧ SqT K H p3 xs3 ∧ DpAll K H xs3 (w.lo.map dL) ∧ NumsAt H d w.ps
theorem NumsAt.nt {H H' : Hp} {d : Addr} {ps : List (Str × Int)} (e : Nt H H') (h : NumsAt H d ps) : NumsAt H' d ps := by
  obtain ⟨kvs, h1, h2⟩ := h
  exact ⟨kvs, e _ _ (by simp) h1, h2⟩
theorem LineAt.nt {K : PySem.W.Frag} {C : Addr} {w : Wd} {H H' : Hp} {x : Addr} (e : Nt H H') (h : LineAt K C w H x) : LineAt K C w H' x := by
  obtain ⟨dx, p1, p2, p3, d, xs1, xs2, xs3, h1, h2, h3, h4, h5, h6, h7, h8⟩ := h
  exact ⟨dx, p1, p2, p3, d, xs1, xs2, xs3, e _ _ (by simp) h1, e.seqT h2, dpAll_nt e h3, e.seqT h4, dpAll_nt e h5, e.seqT h6, dpAll_nt e h7, h8.nt e⟩
structure ClsT (K : PySem.W.Frag) (C : Addr) : Prop where
  cl : Cls K C
  n1 : NoAttr K C "_places"
  n2 : NoAttr K C "_stretches"
  n3 : NoAttr K C "_longs"
  n4 : NoAttr K C "_numbers"
theorem tup_of {K : PySem.W.Frag} {H : Hp} {a : Addr} {xs : List V} {G : VK} (h : SqX K H a xs) (k : ∀ p H', Same H H' → SqT K H' p xs → G (.ref p) H') :
    ∃ p ys, [V.ref a] = [V.ref p] ∧ ((SqL K H p ys ∧ ∀ l, H l = none → G (.ref l) (upd H l (.tup ys))) ∨ (SqT K H p ys ∧ G (.ref p) H)) := by
  rcases h with h | h
  · exact ⟨a, xs, rfl, .inl ⟨h, fun l hl => k l _ (same_alloc hl) (SqT.of upd_same)⟩⟩
  · exact ⟨a, xs, rfl, .inr ⟨h, k a H (Same.refl H) h⟩⟩
/-- lists and tuples stay -/
def Ls (H H' : Hp) : Prop := ∀ c o, (∀ ps, o ≠ .tbl ps) → (∀ C d fs, o ≠ .ins C d fs) → H c = some o → H' c = some o
theorem Ls.trans {H H1 H2 : Hp} (a : Ls H H1) (b : Ls H1 H2) : Ls H H2 := fun c o n m h => b c o n m (a c o n m h)
theorem Ls.seq {K : PySem.W.Frag} {H H' : Hp} {a : Addr} {xs : List V} (e : Ls H H') (h : SqL K H a xs) : SqL K H' a xs := by
  rcases h with (h | ⟨o, h⟩) | h
  · exact .inl (.inl (e _ _ (by simp) (by simp) h))
  · exact .inl (.inr ⟨o, e _ _ (by simp) (by simp) h⟩)
  · exact .inr h
theorem Ls.seqT {K : PySem.W.Frag} {H H' : Hp} {a : Addr} {xs : List V} (e : Ls H H') (h : SqT K H a xs) : SqT K H' a xs := by
  rcases h with (h | ⟨o, h⟩) | h
  · exact .inl (.inl (e _ _ (by simp) (by simp) h))
  · exact .inl (.inr ⟨o, e _ _ (by simp) (by simp) h⟩)
  · exact .inr h
theorem Ls.seqX {K : PySem.W.Frag} {H H' : Hp} {a : Addr} {xs : List V} (e : Ls H H') (h : SqX K H a xs) : SqX K H' a xs := h.elim (fun q => .inl (e.seq q)) fun q => .inr (e.seqT q)
section
variable {K : PySem.W.Frag} {H H' : Hp}
mutual
theorem dp_ls (e : Ls H H') : ∀ {v : V} {d : PyData}, Dp K H v d → Dp K H' v d
  | _, _, .non => .non
  | _, _, .bl b => .bl b
  | _, _, .int i => .int i
  | _, _, .str z => .str z
  | _, _, .lst h a => .lst (e.seq h) (dpAll_ls e a)
  | _, _, .tup h a => .tup (e.seqT h) (dpAll_ls e a)
theorem dpAll_ls (e : Ls H H') : ∀ {vs : List V} {ds : List PyData}, DpAll K H vs ds → DpAll K H' vs ds
  | _, _, .nil => .nil
  | _, _, .cons h t => .cons (dp_ls e h) (dpAll_ls e t)
end
end
/-- all but the new line and the table stays -/
structure KI (x Pt : Addr) (H H' : Hp) : Prop where
  keep : ∀ c o, c ≠ x → c ≠ Pt → H c = some o → H' c = some o
  tab : TabG H' Pt
theorem KI.ls {x Pt C dx : Addr} {fs : List (Str × V)} {H H' : Hp} (hx : H x = some (.ins C dx fs)) (t : TabG H Pt) (k : KI x Pt H H') : Ls H H' := fun c o n m h => by
  refine k.keep c o ?_ (ne_tab t h n) h
  rintro rfl
  rw [hx] at h
  exact m _ _ _ (Option.some.inj h).symm
theorem KI.trans {x Pt : Addr} {H H1 H2 : Hp} (a : KI x Pt H H1) (b : KI x Pt H1 H2) : KI x Pt H H2 := ⟨fun c o n1 n2 h => b.keep c o n1 n2 (a.keep c o n1 n2 h), b.tab⟩
theorem KI.of {x Pt : Addr} {H H' : Hp} (k : KT Pt H H') : KI x Pt H H' := ⟨fun c o _ n h => k.keep c o n h, k.tab⟩
theorem KI.same {x Pt : Addr} {H H' : Hp} (t : TabG H Pt) (s : Same H H') : KI x Pt H H' := KI.of (same_kt t s)
theorem KI.put {x Pt : Addr} {H : Hp} {o : HO} (t : TabG H Pt) (n : x ≠ Pt) : KI x Pt H (upd H x o) := by
  obtain ⟨ps, e, ht⟩ := t
  exact ⟨fun c u nx _ h => by rw [upd_ne nx]; exact h, ps, by rw [upd_ne n.symm]; exact e, ht⟩
theorem posOf_nil (z : Str) : posOf [] z = none := rfl
theorem posOf_snoc (ps : List (Str × Int)) (p : Str × Int) (z : Str) (h : p.1 ∉ ps.map (·.1)) : posOf (ps ++ [p]) z = if p.1 = z then some ps.length else posOf ps z := by
  unfold posOf
  rw [List.findIdx?_append]
  by_cases e : p.1 = z
  · rw [if_pos e]
    have n : ps.findIdx? (fun p => decide (p.1 = z)) = none := by
      rw [List.findIdx?_eq_none_iff]
      intro q hq
      have : q.1 ≠ z := fun eq => h (List.mem_map.mpr ⟨q, hq, eq.trans e.symm⟩)
      simpa using this
    rw [n]
    simp [List.findIdx?_cons, e]
  · rw [if_neg e]
    simp [List.findIdx?_cons, e]
theorem same_ls {H H' : Hp} (e : Same H H') : Ls H H' := fun c o _ _ h => e c o h
theorem KB.seq' {D : Addr} {H H' : Hp} (n : H D = none) (k : KB D H H') : Ls H H' := fun c o _ _ h => k c o (fun e => by rw [e, n] at h; cases h) h
section
variable {P : Program} {w : World} {K : PySem.W.Frag} {mg : Str → Option Value} {base : Heap}
abbrev s_init : Stmt := inClass (top 24) 0
theorem sc_init : FnScope ["self", "places", "stretches", "longs", "top", "rows", "number", "name", "_"] ["self", "places", "stretches", "longs"] (defScope s_init) := ⟨rfl, rfl, rfl, by decide +kernel, rfl, by decide +kernel, by decide +kernel⟩
/-- a def that may have defaults -/
structure FunV (K : PySem.W.Frag) (x qual : Str) (st : Stmt) (f : Addr) (fd : FuncData) : Prop where
  ex : ∃ (oc : Value) (od : Option Addr) (dV kV doc pm : Value) (an : Option Addr) (cdv ct : Value) (osl : Array (Option Value)),
    fd = PySem.W.fnOf x qual (defArgs st) (defBody st) (defScope st) dV kV doc pm an cdv ct ∧ K.lookup f = some ⟨oc, od, .func fd, osl⟩ ∧ PySem.W.codeIn K cdv qual = true
theorem FunV.ok {x qual : Str} {st : Stmt} {f : Addr} {fd : FuncData} {N ps : List Str} {k : Nat} {sp : Sp} (F : FunV K x qual st f fd) (S : FnScope N ps (defScope st)) (len : ∀ vs H Q E, sp vs H Q E → vs.length = ps.length)
    (hbody : ∀ (cdv : Value) (A : Around) (outer : List Env) (s : Shared) (H : Hp) (vs : List V) (Q : VK) (E : XK), Room k (A.deeper (envOfC qual (defScope st) s.heap.objs.size f cdv)) → sp vs H Q E →
      ∃ t, PSs (cxOf CX0 P w K mg base N qual (defScope st) f cdv A outer s H E).nox (defBody st) t ∧ t { nx := fun _ H' => Q .non H', rt := Q } (start N vs) H) : FnOk P w K mg base CX0 (k + 1) f fd ps sp := by
  obtain ⟨oc, od, dV, kV, doc, pm, an, cdv, ct, osl, rfl, lk, hcd⟩ := F.ex
  refine fn_of lk hcd S len fun A outer s H vs Q E hr hsp => ?_
  obtain ⟨t, h, q⟩ := hbody cdv A outer s H vs Q E hr hsp
  exact ⟨t, h.nox, q⟩
/-- what is handed in where longs stand -/
def LongsIn (K : PySem.W.Frag) (H : Hp) (v : V) (lo : List (Int × Int × Int)) : Prop := (v = .non ∧ lo = []) ∨ ∃ a xs, v = .ref a ∧ SqX K H a xs ∧ DpAll K H xs (lo.map dL)
def spInit (K : PySem.W.Frag) (C Pt : Addr) : Sp := fun vs H Q _ => ∃ (x dx a1 a2 : Addr) (v3 : V) (xs1 xs2 : List V) (wd : Wd), vs = [.ref x, .ref a1, .ref a2, v3] ∧ H x = some (.ins C dx []) ∧
  SqX K H a1 xs1 ∧ DpAll K H xs1 (wd.ps.map dP) ∧ SqX K H a2 xs2 ∧ DpAll K H xs2 (wd.st.map dP) ∧ LongsIn K H v3 wd.lo ∧ wd.Ok ∧ TabG H Pt ∧
  ∀ H', KI x Pt H H' → LineAt K C wd H' x → Q .non H'
theorem rows_read {σ : L2.St} {H : Hp} {v : V} {lo : List (Int × Int × Int)} {G : VK} (hv : σ[3]? = some (some v)) (hL : LongsIn K H v lo)
    (k : ∀ a xs H', Same H H' → SqX K H' a xs → DpAll K H' xs (lo.map dL) → G (.ref a) H') :
    tIf (tTest (tOp (fun x y H Q => y = V.non ∧ Q (V.bl (decide (x = V.non))) H) (tVar 3) (tC V.non))) (tTup tNil) (tVar 3) σ H G := by
  refine ⟨v, hv, rfl, _, rfl, ?_⟩
  rcases hL with ⟨rfl, rfl⟩ | ⟨a, xs, rfl, h1, h2⟩
  · refine iteT ⟨Nat.zero_le _, fun p hp => ?_⟩
    exact k p [] _ (same_alloc hp) (.inr (SqT.of upd_same)) .nil
  · have e : decide (V.ref a = V.non) = false := decide_eq_false (by simp)
    rw [e]
    exact iteF ⟨_, hv, k a xs H (Same.refl H) h1 h2⟩
theorem tup_read {σ : L2.St} {H : Hp} {i : Nat} {a : Addr} {xs : List V} {G : VK} (hv : σ[i]? = some (some (.ref a))) (h : SqX K H a xs) (k : ∀ p H', Same H H' → SqT K H' p xs → G (.ref p) H') :
    tCB (fun xs H Q => ∃ p ys, xs = [V.ref p] ∧ ((SqL K H p ys ∧ ∀ l, H l = none → Q (.ref l) (upd H l (.tup ys))) ∨ (SqT K H p ys ∧ Q (.ref p) H))) (tCons (tVar i) tNil) σ H G := by
  refine ⟨_, hv, a, xs, rfl, ?_⟩
  rcases h with h | h
  · exact .inl ⟨h, fun l hl => k l _ (same_alloc hl) (SqT.of upd_same)⟩
  · exact .inr ⟨h, k a H (Same.refl H) h⟩
theorem fld_read {D : Ends} {σ : L2.St} {H : Hp} {i : Nat} {a x C dx : Addr} {xs : List V} {f : Str} {fs : List (Str × V)} (h0 : σ[0]? = some (some (.ref x))) (hv : σ[i]? = some (some (.ref a))) (hx : H x = some (.ins C dx fs)) (c : Cls K C) (n : NoAttr K C f) (l : fs.length < 1000)
    (h : SqX K H a xs) (k : ∀ p H', Same H H' → SqT K H' p xs → D.nx σ (upd H' x (.ins C dx (putF f (.ref p) fs)))) :
    sFld K (tVar 0) (tCB (fun xs H Q => ∃ p ys, xs = [V.ref p] ∧ ((SqL K H p ys ∧ ∀ l, H l = none → Q (.ref l) (upd H l (.tup ys))) ∨ (SqT K H p ys ∧ Q (.ref p) H))) (tCons (tVar i) tNil)) f D σ H :=
  tup_read hv h fun p H' s hp => ⟨_, h0, x, C, dx, fs, rfl, s _ _ hx, c, n, l, k p H' s hp⟩
theorem LongsIn.ls {H H' : Hp} {v : V} {lo : List (Int × Int × Int)} (e : Ls H H') (h : LongsIn K H v lo) : LongsIn K H' v lo := by
  rcases h with ⟨rfl, rfl⟩ | ⟨a, xs, rfl, h1, h2⟩
  · exact .inl ⟨rfl, rfl⟩
  · exact .inr ⟨a, xs, rfl, e.seqX h1, dpAll_ls e h2⟩
theorem ok_init {f fP fS fL C Pt : Addr} {fd fdP fdS fdL : FuncData} (F : FunV K "__init__" "Line.__init__" s_init f fd) (T : Txt mg) (TC : ClsT K C)
    (Ncheck_places : Fn K mg "_check_places" s_check_places ["places"] fP fdP) (Gcheck_places : FnOk P w K mg base CX0 4 fP fdP ["places"] (spCheckPlaces K Pt))
    (Ncheck_stretches : Fn K mg "_check_stretches" s_check_stretches ["stretches", "many"] fS fdS) (Gcheck_stretches : FnOk P w K mg base CX0 3 fS fdS ["stretches", "many"] (spCheckStretches K))
    (Ncheck_longs : Fn K mg "_check_longs" s_check_longs ["longs", "top"] fL fdL) (Gcheck_longs : FnOk P w K mg base CX0 3 fL fdL ["longs", "top"] (spCheckLongs K)) :
    FnOk P w K mg base CX0 5 f fd ["self", "places", "stretches", "longs"] (spInit K C Pt) := by
  refine F.ok sc_init (fun vs H Q E h => ?_) (fun cdv A outer s H vs Q E hr h => ?_)
  · obtain ⟨x, dx, a1, a2, v3, xs1, xs2, wd, rfl, _⟩ := h
    rfl
  · obtain ⟨x, dx, a1, a2, v3, xs1, xs2, wd, rfl, hx, hX1, hd1, hX2, hd2, hX3, ok, tb, k⟩ := h
    have nxP : x ≠ Pt := ne_tab tb hx (by simp)
    have ok' := ok
    have l1 : xs1.length = wd.ps.length := by rw [dpAll_len hd1, List.length_map]
    rcases id hX1 with hL | hT
    · skip
      refine ⟨_, pss_cons (ps_expr (pe_call Gcheck_places (hr.mono (by decide)) (by rfl) Ncheck_places.g Ncheck_places.kp Ncheck_places.b .nil pass0 (pa_cons (pv 1) pa_nil)))
      (pss_cons (ps_set (i := 4) sc_init.nd rfl (Or.inl rfl) (pe_op op_sub (pe_callB call_len_seq (by rfl) T.len_ PySem.boot_len (pa_cons (pv 1) pa_nil)) pe_int))
      (pss_cons (ps_expr (pe_call Gcheck_stretches (hr.mono (by decide)) (by rfl) Ncheck_stretches.g Ncheck_stretches.kp Ncheck_stretches.b .nil pass0 (pa_cons (pv 2) (pa_cons (pv 4) pa_nil))))
      (pss_cons (ps_set (i := 5) sc_init.nd rfl (Or.inl rfl) (pe_ifExp (pt_cmpR op_isN (pv 3) pe_non (nomark _)) (pe_tup pa_nil) (pv 3)))
      (pss_cons (ps_expr (pe_call Gcheck_longs (hr.mono (by decide)) (by rfl) Ncheck_longs.g Ncheck_longs.kp Ncheck_longs.b .nil pass0 (pa_cons (pv 5) (pa_cons (pv 4) pa_nil))))
      (pss_cons (ps_fld (pv 0) (pe_callTy call_tuple_of (by rfl) T.tuple_ (by decide +kernel) (pa_cons (pv 1) pa_nil)) rfl)
      (pss_cons (ps_fld (pv 0) (pe_callTy call_tuple_of (by rfl) T.tuple_ (by decide +kernel) (pa_cons (pv 2) pa_nil)) rfl)
      (pss_cons (ps_fld (pv 0) (pe_callTy call_tuple_of (by rfl) T.tuple_ (by decide +kernel) (pa_cons (pv 5) pa_nil)) rfl)
      (pss_one (ps_fld (pv 0) (pe_dc (own := [("number", 6), ("name", 7), ("_", 8)]) (g := gTup K 2 (gCons (gName 6) (gCons (gTup K 2 (gCons (gName 7) (gCons (gName 8) gNil))) gNil))) (tt := tYes) rfl sc_init.nd (pi_enum (by rfl) T.enumerate_ (pa_cons (pv 1) pa_nil)) (blkOk_by (own := [("number", 6), ("name", 7), ("_", 8)]) (N := ["self", "places", "stretches", "longs", "top", "rows", "number", "name", "_"]) (sc := defScope s_init) (by decide +kernel)) (fun _ _ _ _ _ => (pg_tup (by rfl) (pgs_cons (pg_name (i := 6) sc_init.nd rfl (Or.inl rfl)) (pgs_cons (pg_tup (by rfl) (pgs_cons (pg_name (i := 7) sc_init.nd rfl (Or.inl rfl)) (pgs_cons (pg_name (i := 8) sc_init.nd rfl (Or.inl rfl)) pgs_nil))) pgs_nil)))) (fun _ _ _ _ _ => pts_nil) (fun _ _ _ _ _ => pv 7) (fun _ _ _ _ _ => pv 6)) rfl))))))))), ?_⟩
      refine ⟨_, rfl, a1, xs1, wd.ps, rfl, hX1, hd1, ok.p2, ok.p6, ok.nm, ok.nd, tb, fun H1 k1 => ?_⟩
      have i1 : KI x Pt H H1 := KI.of k1
      have e1 := i1.ls hx tb
      have hx1 := KT.nt tb k1 x _ (by simp) hx
      refine ⟨_, rfl, a1, xs1, rfl, e1.seqX hX1, _, _, rfl, rfl, ?_⟩
      refine ⟨_, rfl, _, rfl, a2, _, xs2, wd.st, rfl, e1.seqX hX2, dpAll_ls e1 hd2, (by have := ok.sl; omega), ok.st, fun H2 s2 => ?_⟩
      have i2 := i1.trans (KI.same (x := x) i1.tab s2)
      have e2 := i2.ls hx tb
      refine rows_read (σ := _) rfl (hX3.ls e2) (fun a3 xs3 H3 s3 hX3' hd3' => ?_)
      have i3 := i2.trans (KI.same (x := x) i2.tab s3)
      refine ⟨_, rfl, _, rfl, a3, _, xs3, wd.lo, rfl, hX3', hd3', ok.ll, (by have q := ok.lo; rw [show ((xs1.length : Int) - 1) = ((wd.ps.length - 1 : Nat) : Int) by have := ok.p2; omega]; exact q), fun H4 s4 => ?_⟩
      have i4 := i3.trans (KI.same (x := x) i3.tab s4)
      have e4 := i4.ls hx tb
      have hx4 := s4 _ _ (s3 _ _ (s2 _ _ hx1))
      refine fld_read (i := 1) rfl rfl hx4 TC.cl TC.n1 (by decide) (e4.seqX hX1) (fun p1 H5 s5 hp1 => ?_)
      have j5 := i4.trans (KI.same (x := x) i4.tab s5)
      have i6 := j5.trans (KI.put (o := .ins C dx (putF "_places" (.ref p1) [])) j5.tab nxP)
      have hx6 : (upd H5 x (.ins C dx (putF "_places" (.ref p1) []))) x = some (.ins C dx (putF "_places" (.ref p1) [])) := upd_same
      have u6 : Ls H5 (upd H5 x (.ins C dx (putF "_places" (.ref p1) []))) := (KI.put j5.tab nxP).ls (s5 _ _ hx4) j5.tab
      generalize upd H5 x (.ins C dx (putF "_places" (.ref p1) [])) = H6 at i6 hx6 u6 ⊢
      have e6 := i6.ls hx tb
      refine fld_read (i := 2) rfl rfl hx6 TC.cl TC.n2 (Nat.lt_of_le_of_lt (length_putF _ _ _) (by decide)) (e6.seqX hX2) (fun p2 H7 s7 hp2 => ?_)
      have j7 := i6.trans (KI.same (x := x) i6.tab s7)
      have i8 := j7.trans (KI.put (o := .ins C dx (putF "_stretches" (.ref p2) (putF "_places" (.ref p1) []))) j7.tab nxP)
      have hx8 : (upd H7 x (.ins C dx (putF "_stretches" (.ref p2) (putF "_places" (.ref p1) [])))) x = some (.ins C dx (putF "_stretches" (.ref p2) (putF "_places" (.ref p1) []))) := upd_same
      have u8 : Ls H7 (upd H7 x (.ins C dx (putF "_stretches" (.ref p2) (putF "_places" (.ref p1) [])))) := (KI.put j7.tab nxP).ls (s7 _ _ hx6) j7.tab
      generalize upd H7 x (.ins C dx (putF "_stretches" (.ref p2) (putF "_places" (.ref p1) []))) = H8 at i8 hx8 u8 ⊢
      have e8 := i8.ls hx tb
      have lf8 : (putF "_stretches" (.ref p2) (putF "_places" (.ref p1) [])).length ≤ 2 := Nat.le_trans (length_putF _ _ _) (Nat.succ_le_succ (length_putF _ _ _))
      have e34 : Ls H3 H8 := (((((same_ls s4).trans (same_ls s5)).trans u6).trans (same_ls s7)).trans u8)
      refine fld_read (i := 5) rfl rfl hx8 TC.cl TC.n3 (Nat.lt_of_le_of_lt lf8 (by decide)) (e34.seqX hX3') (fun p3 H9 s9 hp3 => ?_)
      have j9 := i8.trans (KI.same (x := x) i8.tab s9)
      have iA := j9.trans (KI.put (o := .ins C dx (putF "_longs" (.ref p3) (putF "_stretches" (.ref p2) (putF "_places" (.ref p1) [])))) j9.tab nxP)
      have hxA : (upd H9 x (.ins C dx (putF "_longs" (.ref p3) (putF "_stretches" (.ref p2) (putF "_places" (.ref p1) []))))) x = some (.ins C dx (putF "_longs" (.ref p3) (putF "_stretches" (.ref p2) (putF "_places" (.ref p1) [])))) := upd_same
      have uA : Ls H9 (upd H9 x (.ins C dx (putF "_longs" (.ref p3) (putF "_stretches" (.ref p2) (putF "_places" (.ref p1) []))))) := (KI.put j9.tab nxP).ls (s9 _ _ hx8) j9.tab
      generalize upd H9 x (.ins C dx (putF "_longs" (.ref p3) (putF "_stretches" (.ref p2) (putF "_places" (.ref p1) [])))) = HA at iA hxA uA ⊢
      have eA := iA.ls hx tb
      have hp1A : SqT K HA p1 xs1 := uA.seqT ((same_ls s9).seqT (u8.seqT ((same_ls s7).seqT (u6.seqT hp1))))
      have hp2A : SqT K HA p2 xs2 := uA.seqT ((same_ls s9).seqT (u8.seqT hp2))
      have hp3A : SqT K HA p3 xs3 := uA.seqT hp3
      have hd3A := dpAll_ls (e34.trans ((same_ls s9).trans uA)) hd3'
      have hd1A := dpAll_ls eA hd1
      have hd2A := dpAll_ls eA hd2
      refine ⟨_, rfl, a1, xs1, rfl, eA.seq hL, fun D hD => dc_it (walk_enum (K := K) (xs := xs1)) (fun i H' => KB D HA H' ∧ ∃ kvs : List (Key × V), H' D = some (.dK kvs) ∧ kvs.length ≤ i ∧ ∀ z, valV kvs (Sum.inr z) = (posOf (wd.ps.take i) z).map fun j => V.int (j : Nat)) ?_ ?_ ?_ ?_⟩
      · exact ⟨KB.alloc hD, [], upd_same, Nat.zero_le _, fun z => rfl⟩
      · rintro i H' hi ⟨kb, _⟩
        exact (KB.seq' hD kb).seq (eA.seq hL)
      · rintro i v H' H'' hi ⟨kb, kvs, hk1, hk2, hk3⟩ ⟨T1, X, Y, rfl, hT1, rfl, q1, q2⟩
        obtain rfl := Option.some.inj q1
        obtain ⟨d, hg1, hg2⟩ := dpAll_get hd1A q2
        obtain ⟨p, hp, rfl⟩ := get_map hg1
        obtain ⟨t, x1, x2, rfl, ht, r1, r2⟩ := dp_two hg2
        obtain rfl := dp_str r1
        obtain rfl := dp_int r2
        have nD : D ≠ T1 := fun e => by rw [← e, hk1] at hT1; cases hT1
        have ht1 : SqT K (upd H' T1 (.tup [.int (i : Nat), .ref t])) t [.str p.1, .int p.2] := (same_ls (same_alloc hT1)).seqT ((KB.seq' hD kb).seqT ht)
        refine ⟨T1, _, rfl, SqT.of upd_same, rfl, _, _, rfl, _, _, rfl, t, _, rfl, ht1, rfl, _, _, rfl, _, _, rfl, rfl, rfl, rfl, ?_⟩
        refine lcY ⟨_, rfl, _, rfl, kvs, Sum.inr p.1, rfl, by rw [upd_ne nD]; exact hk1, (by show kvs.length < sizeLine; have := ok.p6; exact Nat.lt_of_le_of_lt hk2 (Nat.lt_trans (Nat.lt_of_lt_of_le hi (by omega : xs1.length ≤ 6)) (by decide))), ?_⟩
        refine ⟨fun c o n h => by rw [upd_ne n]; exact (same_alloc hT1) _ _ (kb c o n h), _, upd_same, Nat.le_trans (length_putK _ _ _) (Nat.succ_le_succ hk2), fun z => ?_⟩
        rw [valV_put, take_at hp, posOf_snoc _ _ _ (fresh_name ok.nd hp)]
        have li : (wd.ps.take i).length = i := by rw [List.length_take]; have := (List.getElem?_eq_some_iff.mp hp).1; omega
        by_cases ez : p.1 = z
        · rw [if_pos ez, if_pos (by rw [ez]), li]
          rfl
        · rw [if_neg ez, if_neg (fun e => ez (Sum.inr.inj e).symm)]
          exact hk3 z
      · rintro H' ⟨kb, kvs, hk1, hk2, hk3⟩
        have nxD : x ≠ D := fun e => by rw [← e, hxA] at hD; cases hD
        have sB : Same HA H' := fun c o h => kb c o (fun e => by rw [e, hD] at h; cases h) h
        have jB := iA.trans (KI.same (x := x) iA.tab sB)
        have iB := jB.trans (KI.put (o := .ins C dx (lf p1 p2 p3 D)) jB.tab nxP)
        have uB : Ls H' (upd H' x (.ins C dx (lf p1 p2 p3 D))) := (KI.put jB.tab nxP).ls (sB _ _ hxA) jB.tab
        have eB := (same_ls sB).trans uB
        refine ⟨_, rfl, x, C, dx, _, rfl, sB _ _ hxA, TC.cl, TC.n4, (Nat.lt_of_le_of_lt (Nat.le_trans (length_putF _ _ _) (Nat.succ_le_succ lf8)) (by decide)), k _ iB ⟨dx, p1, p2, p3, D, xs1, xs2, xs3, upd_same, eB.seqT hp1A, dpAll_ls eB hd1A, eB.seqT hp2A, dpAll_ls eB hd2A, eB.seqT hp3A, dpAll_ls eB hd3A, kvs, ?_, ?_, fun z => ?_⟩⟩
        · rw [upd_ne nxD.symm]
          exact hk1
        · omega
        · rw [hk3 z, List.take_of_length_le (by omega)]
    · skip
      refine ⟨_, pss_cons (ps_expr (pe_call Gcheck_places (hr.mono (by decide)) (by rfl) Ncheck_places.g Ncheck_places.kp Ncheck_places.b .nil pass0 (pa_cons (pv 1) pa_nil)))
      (pss_cons (ps_set (i := 4) sc_init.nd rfl (Or.inl rfl) (pe_op op_sub (pe_callB call_len_seq (by rfl) T.len_ PySem.boot_len (pa_cons (pv 1) pa_nil)) pe_int))
      (pss_cons (ps_expr (pe_call Gcheck_stretches (hr.mono (by decide)) (by rfl) Ncheck_stretches.g Ncheck_stretches.kp Ncheck_stretches.b .nil pass0 (pa_cons (pv 2) (pa_cons (pv 4) pa_nil))))
      (pss_cons (ps_set (i := 5) sc_init.nd rfl (Or.inl rfl) (pe_ifExp (pt_cmpR op_isN (pv 3) pe_non (nomark _)) (pe_tup pa_nil) (pv 3)))
      (pss_cons (ps_expr (pe_call Gcheck_longs (hr.mono (by decide)) (by rfl) Ncheck_longs.g Ncheck_longs.kp Ncheck_longs.b .nil pass0 (pa_cons (pv 5) (pa_cons (pv 4) pa_nil))))
      (pss_cons (ps_fld (pv 0) (pe_callTy call_tuple_of (by rfl) T.tuple_ (by decide +kernel) (pa_cons (pv 1) pa_nil)) rfl)
      (pss_cons (ps_fld (pv 0) (pe_callTy call_tuple_of (by rfl) T.tuple_ (by decide +kernel) (pa_cons (pv 2) pa_nil)) rfl)
      (pss_cons (ps_fld (pv 0) (pe_callTy call_tuple_of (by rfl) T.tuple_ (by decide +kernel) (pa_cons (pv 5) pa_nil)) rfl)
      (pss_one (ps_fld (pv 0) (pe_dc (own := [("number", 6), ("name", 7), ("_", 8)]) (g := gTup K 2 (gCons (gName 6) (gCons (gTup K 2 (gCons (gName 7) (gCons (gName 8) gNil))) gNil))) (tt := tYes) rfl sc_init.nd (pi_enumT (by rfl) T.enumerate_ (pa_cons (pv 1) pa_nil)) (blkOk_by (own := [("number", 6), ("name", 7), ("_", 8)]) (N := ["self", "places", "stretches", "longs", "top", "rows", "number", "name", "_"]) (sc := defScope s_init) (by decide +kernel)) (fun _ _ _ _ _ => (pg_tup (by rfl) (pgs_cons (pg_name (i := 6) sc_init.nd rfl (Or.inl rfl)) (pgs_cons (pg_tup (by rfl) (pgs_cons (pg_name (i := 7) sc_init.nd rfl (Or.inl rfl)) (pgs_cons (pg_name (i := 8) sc_init.nd rfl (Or.inl rfl)) pgs_nil))) pgs_nil)))) (fun _ _ _ _ _ => pts_nil) (fun _ _ _ _ _ => pv 7) (fun _ _ _ _ _ => pv 6)) rfl))))))))), ?_⟩
      refine ⟨_, rfl, a1, xs1, wd.ps, rfl, hX1, hd1, ok.p2, ok.p6, ok.nm, ok.nd, tb, fun H1 k1 => ?_⟩
      have i1 : KI x Pt H H1 := KI.of k1
      have e1 := i1.ls hx tb
      have hx1 := KT.nt tb k1 x _ (by simp) hx
      refine ⟨_, rfl, a1, xs1, rfl, e1.seqX hX1, _, _, rfl, rfl, ?_⟩
      refine ⟨_, rfl, _, rfl, a2, _, xs2, wd.st, rfl, e1.seqX hX2, dpAll_ls e1 hd2, (by have := ok.sl; omega), ok.st, fun H2 s2 => ?_⟩
      have i2 := i1.trans (KI.same (x := x) i1.tab s2)
      have e2 := i2.ls hx tb
      refine rows_read (σ := _) rfl (hX3.ls e2) (fun a3 xs3 H3 s3 hX3' hd3' => ?_)
      have i3 := i2.trans (KI.same (x := x) i2.tab s3)
      refine ⟨_, rfl, _, rfl, a3, _, xs3, wd.lo, rfl, hX3', hd3', ok.ll, (by have q := ok.lo; rw [show ((xs1.length : Int) - 1) = ((wd.ps.length - 1 : Nat) : Int) by have := ok.p2; omega]; exact q), fun H4 s4 => ?_⟩
      have i4 := i3.trans (KI.same (x := x) i3.tab s4)
      have e4 := i4.ls hx tb
      have hx4 := s4 _ _ (s3 _ _ (s2 _ _ hx1))
      refine fld_read (i := 1) rfl rfl hx4 TC.cl TC.n1 (by decide) (e4.seqX hX1) (fun p1 H5 s5 hp1 => ?_)
      have j5 := i4.trans (KI.same (x := x) i4.tab s5)
      have i6 := j5.trans (KI.put (o := .ins C dx (putF "_places" (.ref p1) [])) j5.tab nxP)
      have hx6 : (upd H5 x (.ins C dx (putF "_places" (.ref p1) []))) x = some (.ins C dx (putF "_places" (.ref p1) [])) := upd_same
      have u6 : Ls H5 (upd H5 x (.ins C dx (putF "_places" (.ref p1) []))) := (KI.put j5.tab nxP).ls (s5 _ _ hx4) j5.tab
      generalize upd H5 x (.ins C dx (putF "_places" (.ref p1) [])) = H6 at i6 hx6 u6 ⊢
      have e6 := i6.ls hx tb
      refine fld_read (i := 2) rfl rfl hx6 TC.cl TC.n2 (Nat.lt_of_le_of_lt (length_putF _ _ _) (by decide)) (e6.seqX hX2) (fun p2 H7 s7 hp2 => ?_)
      have j7 := i6.trans (KI.same (x := x) i6.tab s7)
      have i8 := j7.trans (KI.put (o := .ins C dx (putF "_stretches" (.ref p2) (putF "_places" (.ref p1) []))) j7.tab nxP)
      have hx8 : (upd H7 x (.ins C dx (putF "_stretches" (.ref p2) (putF "_places" (.ref p1) [])))) x = some (.ins C dx (putF "_stretches" (.ref p2) (putF "_places" (.ref p1) []))) := upd_same
      have u8 : Ls H7 (upd H7 x (.ins C dx (putF "_stretches" (.ref p2) (putF "_places" (.ref p1) [])))) := (KI.put j7.tab nxP).ls (s7 _ _ hx6) j7.tab
      generalize upd H7 x (.ins C dx (putF "_stretches" (.ref p2) (putF "_places" (.ref p1) []))) = H8 at i8 hx8 u8 ⊢
      have e8 := i8.ls hx tb
      have lf8 : (putF "_stretches" (.ref p2) (putF "_places" (.ref p1) [])).length ≤ 2 := Nat.le_trans (length_putF _ _ _) (Nat.succ_le_succ (length_putF _ _ _))
      have e34 : Ls H3 H8 := (((((same_ls s4).trans (same_ls s5)).trans u6).trans (same_ls s7)).trans u8)
      refine fld_read (i := 5) rfl rfl hx8 TC.cl TC.n3 (Nat.lt_of_le_of_lt lf8 (by decide)) (e34.seqX hX3') (fun p3 H9 s9 hp3 => ?_)
      have j9 := i8.trans (KI.same (x := x) i8.tab s9)
      have iA := j9.trans (KI.put (o := .ins C dx (putF "_longs" (.ref p3) (putF "_stretches" (.ref p2) (putF "_places" (.ref p1) [])))) j9.tab nxP)
      have hxA : (upd H9 x (.ins C dx (putF "_longs" (.ref p3) (putF "_stretches" (.ref p2) (putF "_places" (.ref p1) []))))) x = some (.ins C dx (putF "_longs" (.ref p3) (putF "_stretches" (.ref p2) (putF "_places" (.ref p1) [])))) := upd_same
      have uA : Ls H9 (upd H9 x (.ins C dx (putF "_longs" (.ref p3) (putF "_stretches" (.ref p2) (putF "_places" (.ref p1) []))))) := (KI.put j9.tab nxP).ls (s9 _ _ hx8) j9.tab
      generalize upd H9 x (.ins C dx (putF "_longs" (.ref p3) (putF "_stretches" (.ref p2) (putF "_places" (.ref p1) [])))) = HA at iA hxA uA ⊢
      have eA := iA.ls hx tb
      have hp1A : SqT K HA p1 xs1 := uA.seqT ((same_ls s9).seqT (u8.seqT ((same_ls s7).seqT (u6.seqT hp1))))
      have hp2A : SqT K HA p2 xs2 := uA.seqT ((same_ls s9).seqT (u8.seqT hp2))
      have hp3A : SqT K HA p3 xs3 := uA.seqT hp3
      have hd3A := dpAll_ls (e34.trans ((same_ls s9).trans uA)) hd3'
      have hd1A := dpAll_ls eA hd1
      have hd2A := dpAll_ls eA hd2
      refine ⟨_, rfl, a1, xs1, rfl, eA.seqT hT, fun D hD => dc_it (walk_enumT (K := K) (xs := xs1)) (fun i H' => KB D HA H' ∧ ∃ kvs : List (Key × V), H' D = some (.dK kvs) ∧ kvs.length ≤ i ∧ ∀ z, valV kvs (Sum.inr z) = (posOf (wd.ps.take i) z).map fun j => V.int (j : Nat)) ?_ ?_ ?_ ?_⟩
      · exact ⟨KB.alloc hD, [], upd_same, Nat.zero_le _, fun z => rfl⟩
      · rintro i H' hi ⟨kb, _⟩
        exact (KB.seq' hD kb).seqT (eA.seqT hT)
      · rintro i v H' H'' hi ⟨kb, kvs, hk1, hk2, hk3⟩ ⟨T1, X, Y, rfl, hT1, rfl, q1, q2⟩
        obtain rfl := Option.some.inj q1
        obtain ⟨d, hg1, hg2⟩ := dpAll_get hd1A q2
        obtain ⟨p, hp, rfl⟩ := get_map hg1
        obtain ⟨t, x1, x2, rfl, ht, r1, r2⟩ := dp_two hg2
        obtain rfl := dp_str r1
        obtain rfl := dp_int r2
        have nD : D ≠ T1 := fun e => by rw [← e, hk1] at hT1; cases hT1
        have ht1 : SqT K (upd H' T1 (.tup [.int (i : Nat), .ref t])) t [.str p.1, .int p.2] := (same_ls (same_alloc hT1)).seqT ((KB.seq' hD kb).seqT ht)
        refine ⟨T1, _, rfl, SqT.of upd_same, rfl, _, _, rfl, _, _, rfl, t, _, rfl, ht1, rfl, _, _, rfl, _, _, rfl, rfl, rfl, rfl, ?_⟩
        refine lcY ⟨_, rfl, _, rfl, kvs, Sum.inr p.1, rfl, by rw [upd_ne nD]; exact hk1, (by show kvs.length < sizeLine; have := ok.p6; exact Nat.lt_of_le_of_lt hk2 (Nat.lt_trans (Nat.lt_of_lt_of_le hi (by omega : xs1.length ≤ 6)) (by decide))), ?_⟩
        refine ⟨fun c o n h => by rw [upd_ne n]; exact (same_alloc hT1) _ _ (kb c o n h), _, upd_same, Nat.le_trans (length_putK _ _ _) (Nat.succ_le_succ hk2), fun z => ?_⟩
        rw [valV_put, take_at hp, posOf_snoc _ _ _ (fresh_name ok.nd hp)]
        have li : (wd.ps.take i).length = i := by rw [List.length_take]; have := (List.getElem?_eq_some_iff.mp hp).1; omega
        by_cases ez : p.1 = z
        · rw [if_pos ez, if_pos (by rw [ez]), li]
          rfl
        · rw [if_neg ez, if_neg (fun e => ez (Sum.inr.inj e).symm)]
          exact hk3 z
      · rintro H' ⟨kb, kvs, hk1, hk2, hk3⟩
        have nxD : x ≠ D := fun e => by rw [← e, hxA] at hD; cases hD
        have sB : Same HA H' := fun c o h => kb c o (fun e => by rw [e, hD] at h; cases h) h
        have jB := iA.trans (KI.same (x := x) iA.tab sB)
        have iB := jB.trans (KI.put (o := .ins C dx (lf p1 p2 p3 D)) jB.tab nxP)
        have uB : Ls H' (upd H' x (.ins C dx (lf p1 p2 p3 D))) := (KI.put jB.tab nxP).ls (sB _ _ hxA) jB.tab
        have eB := (same_ls sB).trans uB
        refine ⟨_, rfl, x, C, dx, _, rfl, sB _ _ hxA, TC.cl, TC.n4, (Nat.lt_of_le_of_lt (Nat.le_trans (length_putF _ _ _) (Nat.succ_le_succ lf8)) (by decide)), k _ iB ⟨dx, p1, p2, p3, D, xs1, xs2, xs3, upd_same, eB.seqT hp1A, dpAll_ls eB hd1A, eB.seqT hp2A, dpAll_ls eB hd2A, eB.seqT hp3A, dpAll_ls eB hd3A, kvs, ?_, ?_, fun z => ?_⟩⟩
        · rw [upd_ne nxD.symm]
          exact hk1
        · omega
        · rw [hk3 z, List.take_of_length_le (by omega)]
end
end K5

set_option maxRecDepth 100000
set_option maxHeartbeats 4000000
namespace K5
open PySem PySem.Spec PyProof.Rows L2 GxR Gd TL My
structure Mt (K : PySem.W.Frag) (C : Addr) (m q : Str) (st : Stmt) (ps : List Str) (f : Addr) (fd : FuncData) : Prop where
  fn : Fun K m q st f fd
  m : Meth K C m f
  b : Binds K fd ps []
def betw (i j : Nat) : V := if j = i + 1 then .int (i : Nat) else if i = j + 1 then .int (j : Nat) else .non
def lbt (lo : List (Int × Int × Int)) (a b : Int) : V := match lo.findIdx? fun p => decide (p.1 = a) && decide (p.2.1 = b) with
  | some j => .int (j : Nat)
  | none => .non
theorem lf_numbers (p1 p2 p3 d : Addr) : (lf p1 p2 p3 d).lookup (Str.ofString "_numbers") = some (V.ref d) := by rw [lf_get, if_pos rfl]
theorem lf_longs (p1 p2 p3 d : Addr) : (lf p1 p2 p3 d).lookup (Str.ofString "_longs") = some (V.ref p3) := by rw [lf_get, if_neg (by decide +kernel), if_pos rfl]
theorem lf_no (p1 p2 p3 d : Addr) {m : Str} (h : (decide (m = "_numbers") || decide (m = "_longs") || decide (m = "_stretches") || decide (m = "_places")) = false) : (lf p1 p2 p3 d).lookup m = none := by
  rw [lf_get]
  rw [Bool.or_eq_false_iff, Bool.or_eq_false_iff, Bool.or_eq_false_iff, decide_eq_false_iff_not, decide_eq_false_iff_not, decide_eq_false_iff_not, decide_eq_false_iff_not] at h
  obtain ⟨⟨⟨h1, h2⟩, h3⟩, h4⟩ := h
  rw [if_neg h1, if_neg h2, if_neg h3, if_neg h4]
section
variable {P : Program} {w : World} {K : PySem.W.Frag} {mg : Str → Option Value} {base : Heap}
abbrev s_number_of : Stmt := inClass (top 24) 3
theorem sc_number_of : FnScope ["self", "name"] ["self", "name"] (defScope s_number_of) := ⟨rfl, rfl, rfl, by decide +kernel, rfl, by decide +kernel, by decide +kernel⟩
def spNum (K : PySem.W.Frag) (C : Addr) : Sp := fun vs H Q _ => ∃ (x : Addr) (z : Str) (wd : Wd) (j : Nat), vs = [.ref x, .str z] ∧ LineAt K C wd H x ∧ posOf wd.ps z = some j ∧ Q (.int j) H
theorem ok_num {f C : Addr} {fd : FuncData} (F : Fun K "number_of" "Line.number_of" s_number_of f fd) (T : Txt mg) (TC : ClsT K C) : FnOk P w K mg base CX0 1 f fd ["self", "name"] (spNum K C) := by
  refine F.ok sc_number_of (fun vs H Q E h => ?_) (fun cdv A outer s H vs Q E hr h => ?_)
  · obtain ⟨x, z, wd, j, rfl, _⟩ := h
    rfl
  · obtain ⟨x, z, wd, j, rfl, ⟨dx, p1, p2, p3, d, xs1, xs2, xs3, hx, _, _, _, _, _, _, kvs, hk, hl, hv⟩, hj, k⟩ := h
    have hu := hr.units
    have hu1 := Nat.lt_of_le_of_lt (Nat.add_le_add_left (by decide : 1 ≤ 64) _) hu
    refine ⟨_, pss_cons (ps_if (PW.pt (pw_or (pt_not (pt_val (pe_callB call_isi (by rfl) T.isinstance_ (by decide +kernel) (pa_cons (pv 1) (pa_cons (pe_bltn (v := .ty "str") (by rfl) T.str_ (by decide +kernel) rfl) pa_nil))))) (pw_or1 (pt_cmp (pc_dnotin (hu_of hr) (pv 1) (pe_fld (pv 0) rfl)))))) (pss_one ps_never) pss_nil)
      (pss_one (ps_ret (pe_dget (hu_of hr) (pe_fld (pv 0) rfl) (pv 1) (fun _ _ => rfl)))), ?_⟩
    have e := hv z
    rw [hj] at e
    refine ⟨_, rfl, _, _, _, _, true, rfl, .ty "str", .base (.str z), (by rfl), _, rfl, iteF ?_⟩
    refine ⟨_, rfl, _, rfl, x, C, dx, _, _, rfl, hx, TC.cl, TC.n4, lf_numbers _ _ _ _, d, some (.int j), rfl, .inl ⟨kvs, Sum.inr z, Rd.of hk, rfl, e.symm⟩, _, rfl, iteF ?_⟩
    exact ⟨_, rfl, x, C, dx, _, _, rfl, hx, TC.cl, TC.n4, lf_numbers _ _ _ _, _, rfl, d, .int j, rfl, .inl ⟨kvs, Sum.inr z, Rd.of hk, rfl, e.symm⟩, k⟩
abbrev s_between : Stmt := inClass (top 24) 9
theorem sc_between : FnScope ["self", "one", "other", "number", "apart"] ["self", "one", "other"] (defScope s_between) := ⟨rfl, rfl, rfl, by decide +kernel, rfl, by decide +kernel, by decide +kernel⟩
def spBetween (K : PySem.W.Frag) (C : Addr) : Sp := fun vs H Q _ => ∃ (x : Addr) (z1 z2 : Str) (wd : Wd) (i j : Nat), vs = [.ref x, .str z1, .str z2] ∧ LineAt K C wd H x ∧ posOf wd.ps z1 = some i ∧ posOf wd.ps z2 = some j ∧ Q (betw i j) H
theorem ok_between {f fN C : Addr} {fd fdN : FuncData} (F : Fun K "between" "Line.between" s_between f fd) (T : Txt mg) (TC : ClsT K C)
    (Mnumber_of : Mt K C "number_of" "Line.number_of" s_number_of ["self", "name"] fN fdN) (Gnumber_of : FnOk P w K mg base CX0 1 fN fdN ["self", "name"] (spNum K C)) :
    FnOk P w K mg base CX0 2 f fd ["self", "one", "other"] (spBetween K C) := by
  refine F.ok sc_between (fun vs H Q E h => ?_) (fun cdv A outer s H vs Q E hr h => ?_)
  · obtain ⟨x, z1, z2, wd, i, j, rfl, _⟩ := h
    rfl
  · obtain ⟨x, z1, z2, wd, i, j, rfl, hL, h1, h2, k⟩ := h
    have hL' := hL
    obtain ⟨dx, p1, p2, p3, d, xs1, xs2, xs3, hx, _⟩ := hL'
    refine ⟨_, pss_cons (ps_set (i := 3) sc_between.nd rfl (Or.inl rfl) (pe_meth (pv 0) TC.cl Mnumber_of.m Gnumber_of (hr.mono (by decide)) Mnumber_of.b .nil pass0 (pa_cons (pv 1) pa_nil)))
      (pss_cons (ps_set (i := 4) sc_between.nd rfl (Or.inl rfl) (pe_op op_sub (pe_meth (pv 0) TC.cl Mnumber_of.m Gnumber_of (hr.mono (by decide)) Mnumber_of.b .nil pass0 (pa_cons (pv 2) pa_nil)) (pv 3)))
      (pss_cons (ps_if (pt_cmpR op_eq (pv 4) pe_int (nomark _)) (pss_one (ps_ret (pv 3))) pss_nil)
      (pss_cons (ps_if (pt_cmpR op_eq (pv 4) (pe_un un_neg pe_int) (nomark _)) (pss_one (ps_ret (pe_op op_sub (pv 3) pe_int))) pss_nil)
      (pss_one (ps_ret pe_non))))), ?_⟩
    have no : (lf p1 p2 p3 d).lookup (Str.ofString "number_of") = none := lf_no _ _ _ _ (by decide +kernel)
    refine ⟨_, rfl, x, dx, _, rfl, hx, no, _, rfl, x, z1, wd, i, rfl, hL, h1, ?_⟩
    refine ⟨_, rfl, x, dx, _, rfl, hx, no, _, rfl, x, z2, wd, j, rfl, hL, h2, _, rfl, _, _, rfl, rfl, ?_⟩
    refine ⟨_, rfl, rfl, _, rfl, ite2 (fun c => ?_) (fun c => ?_)⟩
    · have c' : ((j : Int) - i) = 1 := by simpa using c
      have e : betw i j = .int (i : Nat) := by unfold betw; rw [if_pos (by omega)]
      rw [e] at k
      exact ⟨_, rfl, k⟩
    · have c' : ((j : Int) - i) ≠ 1 := by simpa using c
      refine ⟨_, rfl, _, rfl, rfl, _, rfl, ite2 (fun c2 => ?_) (fun c2 => ?_)⟩
      · have c2' : ((j : Int) - i) = -1 := by simpa using c2
        have e : betw i j = .int (j : Nat) := by unfold betw; rw [if_neg (by omega), if_pos (by omega)]
        rw [e] at k
        refine ⟨_, rfl, _, _, rfl, rfl, ?_⟩
        have e3 : ((i : Int) - 1) = (j : Nat) := by omega
        show Q (.int ((i : Int) - 1)) H
        rw [e3]
        exact k
      · have c2' : ((j : Int) - i) ≠ -1 := by simpa using c2
        have e : betw i j = .non := by unfold betw; rw [if_neg (by omega), if_neg (by omega)]
        rw [e] at k
        exact k
abbrev s_long_between : Stmt := inClass (top 24) 15
theorem sc_long_between : FnScope ["self", "one", "other", "asked", "j", "first", "last", "_"] ["self", "one", "other"] (defScope s_long_between) := ⟨rfl, rfl, rfl, by decide +kernel, rfl, by decide +kernel, by decide +kernel⟩
def spLongBetween (K : PySem.W.Frag) (C : Addr) : Sp := fun vs H Q _ => ∃ (x : Addr) (z1 z2 : Str) (wd : Wd) (i j : Nat), vs = [.ref x, .str z1, .str z2] ∧ LineAt K C wd H x ∧ posOf wd.ps z1 = some i ∧ posOf wd.ps z2 = some j ∧
  ∀ H', Same H H' → Q (lbt wd.lo (min i j : Nat) (max i j : Nat)) H'
theorem perm2 {a b : Int} {l : List Int} (p : l.Perm [a, b]) (s : l.Pairwise (· ≤ ·)) : l = [min a b, max a b] := by
  have hl := p.length_eq
  match l, hl, p, s with
  | [u, v], _, p, s =>
    have su : u ≤ v := by simpa using s
    have m1 : u ∈ [a, b] := p.subset (by simp)
    have m2 : v ∈ [a, b] := p.subset (by simp)
    have m3 : a ∈ [u, v] := p.symm.subset (by simp)
    have m4 : b ∈ [u, v] := p.symm.subset (by simp)
    simp at m1 m2 m3 m4
    have e1 : u = min a b := by omega
    have e2 : v = max a b := by omega
    rw [e1, e2]
theorem eqv2 (a b f l : Int) : PyData.eqv (.list [.int a, .int b]) (.list [.int f, .int l]) = (decide (a = f) && decide (b = l)) := by
  simp [PyData.eqv, PyData.eqvAll]
  rw [Bool.eq_iff_iff]
  simp
theorem ok_long_between {f fN C : Addr} {fd fdN : FuncData} (F : Fun K "long_between" "Line.long_between" s_long_between f fd) (T : Txt mg) (TC : ClsT K C)
    (Mnumber_of : Mt K C "number_of" "Line.number_of" s_number_of ["self", "name"] fN fdN) (Gnumber_of : FnOk P w K mg base CX0 1 fN fdN ["self", "name"] (spNum K C)) :
    FnOk P w K mg base CX0 2 f fd ["self", "one", "other"] (spLongBetween K C) := by
  refine F.ok sc_long_between (fun vs H Q E h => ?_) (fun cdv A outer s H vs Q E hr h => ?_)
  · obtain ⟨x, z1, z2, wd, i, j, rfl, _⟩ := h
    rfl
  · obtain ⟨x, z1, z2, wd, i, j, rfl, hL, h1, h2, k⟩ := h
    have hL' := hL
    obtain ⟨dx, p1, p2, p3, d, xs1, xs2, xs3, hx, hp1, hd1, hp2, hd2, hp3, hd3, hN⟩ := hL'
    have hu := hr.units
    refine ⟨_, pss_cons (ps_set (i := 3) sc_long_between.nd rfl (Or.inl rfl) (pe_callB cr_sorted (by rfl) T.sorted_ (by decide +kernel) (pa_cons (pe_lst (pa_cons (pe_meth (pv 0) TC.cl Mnumber_of.m Gnumber_of (hr.mono (by decide)) Mnumber_of.b .nil pass0 (pa_cons (pv 1) pa_nil)) (pa_cons (pe_meth (pv 0) TC.cl Mnumber_of.m Gnumber_of (hr.mono (by decide)) Mnumber_of.b .nil pass0 (pa_cons (pv 2) pa_nil)) pa_nil))) pa_nil)))
      (pss_cons (ps_for PassesOwn.never rfl (pi_enumT (by rfl) T.enumerate_ (pa_cons (pe_fld (pv 0) rfl) pa_nil)) (pg_tup (by rfl) (pgs_cons (pg_name (i := 4) sc_long_between.nd rfl (Or.inl rfl)) (pgs_cons (pg_tup (by rfl) (pgs_cons (pg_name (i := 5) sc_long_between.nd rfl (Or.inl rfl)) (pgs_cons (pg_name (i := 6) sc_long_between.nd rfl (Or.inl rfl)) (pgs_cons (pg_name (i := 7) sc_long_between.nd rfl (Or.inl rfl)) pgs_nil)))) pgs_nil))) (pss_one (ps_if (pt_cmpR (op_eqD hu) (pv 3) (pe_lst (pa_cons (pv 5) (pa_cons (pv 6) pa_nil))) (nomark _)) (pss_one (ps_ret (pv 4))) pss_nil)))
      (pss_one (ps_ret pe_non))), ?_⟩
    have no : (lf p1 p2 p3 d).lookup (Str.ofString "number_of") = none := lf_no _ _ _ _ (by decide +kernel)
    refine ⟨_, rfl, x, dx, _, rfl, hx, no, _, rfl, x, z1, wd, i, rfl, hL, h1, ?_⟩
    refine ⟨_, rfl, x, dx, _, rfl, hx, no, _, rfl, x, z2, wd, j, rfl, hL, h2, ?_⟩
    refine ⟨(by show 2 ≤ sizeLine; decide), fun L hL0 => ?_⟩
    have e1 := same_alloc (o := .lst [.int (i : Nat), .int (j : Nat)]) hL0
    refine ⟨L, [(i : Nat), (j : Nat)], rfl, SqL.of upd_same, (by show 2 < 64; decide), fun ns q pm ps hq => ?_⟩
    obtain rfl := perm2 pm ps
    have e2 := same_alloc (o := .lst ([min (i : Int) j, max (i : Int) j].map V.int)) hq
    have e12 : Same H _ := e1.trans e2
    have hs2 : (upd (upd H L (.lst [.int (i : Nat), .int (j : Nat)])) q (.lst ([min (i : Int) j, max (i : Int) j].map V.int))) q = some (.lst ([min (i : Int) j, max (i : Int) j].map V.int)) := upd_same
    generalize upd (upd H L (.lst [.int (i : Nat), .int (j : Nat)])) q (.lst ([min (i : Int) j, max (i : Int) j].map V.int)) = H2 at e12 hs2 ⊢
    have hp3' := (same_nt e12).seqT hp3
    have k' : ∀ H', Same H H' → Q (lbt wd.lo (min (i : Int) j) (max (i : Int) j)) H' := by
      have a1 : ((min i j : Nat) : Int) = min (i : Int) j := by omega
      have a2 : ((max i j : Nat) : Int) = max (i : Int) j := by omega
      rw [← a1, ← a2]
      exact k
    generalize min (i : Int) j = mn at hs2 k' ⊢
    generalize max (i : Int) j = mx at hs2 k' ⊢
    refine ⟨_, rfl, x, C, dx, _, _, rfl, e12 _ _ hx, TC.cl, TC.n3, lf_longs _ _ _ _, p3, xs3, rfl, hp3', for_it (walk_enumT (K := K) (xs := xs3)) (fun i σ H' => ∃ v4 v5 v6 v7 : Option V, σ = [some (.ref x), some (.str z1), some (.str z2), some (.ref q), v4, v5, v6, v7] ∧ Same H2 H' ∧ ∀ (j : Nat) (p : Int × Int × Int), j < i → wd.lo[j]? = some p → ¬ (p.1 = mn ∧ p.2.1 = mx)) ?_ ?_ ?_ ?_⟩
    · exact ⟨_, _, _, _, rfl, Same.refl _, fun j p h => absurd h (Nat.not_lt_zero j)⟩
    · rintro i' σ H' hi ⟨_, _, _, _, _, s, _⟩
      exact (same_nt s).seqT hp3'
    · rintro i' v σ H' H'' hi ⟨_, _, _, _, rfl, s, hn⟩ ⟨T1, X, Y, rfl, hT1, rfl, q1, q2⟩
      obtain rfl := Option.some.inj q1
      obtain ⟨d', hg1, hg2⟩ := dpAll_get hd3 q2
      obtain ⟨p, hp, rfl⟩ := get_map hg1
      obtain ⟨t, x1, x2, x3, rfl, ht, r1, r2, r3⟩ := dp_three hg2
      obtain rfl := dp_int r1
      obtain rfl := dp_int r2
      obtain rfl := dp_int r3
      have s2 := s.trans (same_alloc (o := .tup [.int (i' : Nat), .ref t]) hT1)
      have ht2 := (same_nt (e12.trans s2)).seqT ht
      refine ⟨T1, _, rfl, SqT.of upd_same, rfl, _, _, rfl, _, _, rfl, t, _, rfl, ht2, rfl, _, _, rfl, _, _, rfl, _, _, rfl, rfl, rfl, ?_⟩
      refine ⟨_, rfl, _, rfl, _, rfl, (by show 2 ≤ sizeLine; decide), fun u hu0 => ?_⟩
      have s3 := s2.trans (same_alloc (o := .lst [.int p.1, .int p.2.1]) hu0)
      refine ⟨.list [.int mn, .int mx], .list [.int p.1, .int p.2.1], .lst (SqL.of (s3 _ _ hs2)) (.cons (.int _) (.cons (.int _) .nil)), .lst (SqL.of upd_same) (.cons (.int _) (.cons (.int _) .nil)), rfl, rfl, _, rfl, ?_⟩
      rw [eqv2]
      refine ite2 (fun c => ?_) (fun c => ?_)
      · simp at c
        refine ⟨_, rfl, ?_⟩
        have e : lbt wd.lo mn mx = .int (i' : Nat) := by
          unfold lbt
          have f : wd.lo.findIdx? (fun p => decide (p.1 = mn) && decide (p.2.1 = mx)) = some i' := by
            rw [List.findIdx?_eq_some_iff_getElem]
            obtain ⟨hi1, hi2⟩ := List.getElem?_eq_some_iff.mp hp
            refine ⟨hi1, by rw [hi2]; simp [c.1, c.2], fun j hj hc => ?_⟩
            refine hn j wd.lo[j] hj (List.getElem?_eq_getElem _) ?_
            simpa using hc
          rw [f]
        have z := k' _ (e12.trans s3)
        rw [e] at z
        exact z
      · refine ⟨_, _, _, _, rfl, s3, fun j p' hj hp' hc => ?_⟩
        rcases Nat.lt_succ_iff_lt_or_eq.mp hj with h | rfl
        · exact hn j p' h hp' hc
        · rw [hp] at hp'
          obtain rfl := Option.some.inj hp'
          simp [hc.1, hc.2] at c
    · rintro σ H' ⟨_, _, _, _, rfl, s, hn⟩
      have e : lbt wd.lo mn mx = .non := by
        unfold lbt
        have f : wd.lo.findIdx? (fun p => decide (p.1 = mn) && decide (p.2.1 = mx)) = none := by
          rw [List.findIdx?_eq_none_iff]
          intro p hp
          obtain ⟨j, hj, e⟩ := List.getElem_of_mem hp
          have z := hn j p (by rw [dpAll_len hd3, List.length_map]; exact hj) (by rw [List.getElem?_eq_getElem hj, e])
          simpa using z
        rw [f]
      have z := k' _ (e12.trans s)
      rw [e] at z
      exact z
end
end K5

set_option maxRecDepth 100000
set_option maxHeartbeats 4000000
/-! the names that a law draws: three ways, all good, all apart -/
namespace My
open PySem PySem.Spec PyProof.Rows L2 GxR Gd TL
theorem tl_inj {a b : Str} (h : tl a = tl b) : a = b := by
  obtain ⟨⟨x⟩⟩ := a
  obtain ⟨⟨y⟩⟩ := b
  have e : x = y := h
  rw [e]
theorem name_of {z : Str} (h1 : 1 ≤ (tl z).length) (h2 : (tl z).length ≤ 6) (h3 : ∀ c ∈ tl z, lc c = true) : NameOk z := by
  rw [tl_len] at h1 h2
  exact ⟨h1, h2, List.all_eq_true.mpr h3⟩
theorem tl_to {z : Str} {j : Nat} (h : j ≤ (tl z).length) : tl (cutS z none (some (j : Int))) = (tl z).take j := by
  show (((tl z).drop (HT.sIx z.length 0 none)).take (HT.sIx z.length z.length (some (j : Int)) - HT.sIx z.length 0 none)) = _
  rw [HT.sIx_none, HT.sIx_nat, ← tl_len, Nat.min_eq_left h]
  simp
theorem tl_cut {z : Str} {a b : Nat} (h : b ≤ (tl z).length) (ha : a ≤ b) : tl (cutS z (some (a : Int)) (some (b : Int))) = ((tl z).drop a).take (b - a) := by
  show (((tl z).drop (HT.sIx z.length 0 (some (a : Int)))).take (HT.sIx z.length z.length (some (b : Int)) - HT.sIx z.length 0 (some (a : Int)))) = _
  rw [HT.sIx_nat, HT.sIx_nat, ← tl_len, Nat.min_eq_left h, Nat.min_eq_left (Nat.le_trans ha h)]
theorem joinL_ones : ∀ cs : List Nat, joinL [] (cs.map fun c => [c]) = cs
  | [] => rfl
  | [c] => rfl
  | c :: d :: r => by
    have ih := joinL_ones (d :: r)
    show [c] ++ ([] ++ joinL [] ((d :: r).map fun c => [c])) = _
    rw [ih]
    rfl
theorem tl_ones (cs : List Nat) : tl (Txt.join (Str.ofString "") (cs.map fun c => ⟨#[c]⟩)) = cs := by
  rw [join_eq, tl_join, List.map_map]
  have e : tl (Str.ofString "") = [] := by decide +kernel
  rw [e]
  exact joinL_ones cs
/-- all good, all apart -/
structure Nms (ns : List Str) : Prop where
  ok : ∀ z ∈ ns, NameOk z
  nd : ns.Nodup
theorem nms_of {f : Nat → Str} {n : Nat} (ok : ∀ k, k < n → NameOk (f k)) (ap : ∀ j k, j < k → k < n → f j ≠ f k) : Nms ((List.range n).map f) := by
  refine ⟨fun z hz => ?_, ?_⟩
  · obtain ⟨k, hk, rfl⟩ := List.mem_map.mp hz
    exact ok k (List.mem_range.mp hk)
  · show ((List.range n).map f).Pairwise (· ≠ ·)
    rw [List.pairwise_map]
    have p : (List.range n).Pairwise (fun a b => a < b) := List.pairwise_lt_range
    refine List.Pairwise.imp_of_mem ?_ p
    intro a b ha hb hab
    exact ap a b hab (List.mem_range.mp hb)
/-! the first way -/
def wds : List Str := ["place", "staff", "ticket", "low", "high", "long", "pilot", "train", "at", "to", "in", "get", "a"]
theorem wds_ok : ∀ z ∈ wds, NameOk z := by
  intro z hz
  have h : (wds.all fun z => decide (1 ≤ (tl z).length) && decide ((tl z).length ≤ 6) && (tl z).all lc) = true := by decide +kernel
  have q := List.all_eq_true.mp h z hz
  rw [Bool.and_eq_true, Bool.and_eq_true, decide_eq_true_eq, decide_eq_true_eq] at q
  exact name_of q.1.1 q.1.2 (List.all_eq_true.mp q.2)
theorem wds_nd : wds.Nodup := by decide +kernel
def nm0 (a : Int) (k : Nat) : Str := (wds[((a + 5 * (k : Int)) % 13).toNat]?).getD ⟨#[]⟩
theorem nm0_at (a : Int) (k : Nat) : atI wds ((a + 5 * (k : Int)) % 13) = some (nm0 a k) := by
  have h0 := Int.emod_nonneg (a + 5 * (k : Int)) (by decide : (13 : Int) ≠ 0)
  have h1 := Int.emod_lt_of_pos (a + 5 * (k : Int)) (by decide : (0 : Int) < 13)
  have hl : wds.length = 13 := by decide +kernel
  generalize e : (a + 5 * (k : Int)) % 13 = m at h0 h1
  obtain ⟨j, rfl⟩ := Int.eq_ofNat_of_zero_le h0
  have hj : j < wds.length := by omega
  unfold nm0
  rw [e, Int.toNat_natCast, List.getElem?_eq_getElem hj]
  exact atI_nat (List.getElem?_eq_getElem hj)
theorem nm0_ok (a : Int) (n : Nat) (hn : n ≤ 7) : Nms ((List.range n).map (nm0 a)) := by
  have hl : wds.length = 13 := by decide +kernel
  have key : ∀ k : Nat, ∃ j : Nat, ((j : Nat) : Int) = (a + 5 * (k : Int)) % 13 ∧ ∃ h : j < wds.length, nm0 a k = wds[j] := fun k => by
    have h0 := Int.emod_nonneg (a + 5 * (k : Int)) (by decide : (13 : Int) ≠ 0)
    have h1 := Int.emod_lt_of_pos (a + 5 * (k : Int)) (by decide : (0 : Int) < 13)
    unfold nm0
    generalize (a + 5 * (k : Int)) % 13 = m at h0 h1
    obtain ⟨j, rfl⟩ := Int.eq_ofNat_of_zero_le h0
    have hj : j < wds.length := by omega
    exact ⟨j, rfl, hj, by rw [Int.toNat_natCast, List.getElem?_eq_getElem hj]; rfl⟩
  refine nms_of (fun k hk => ?_) (fun j k hjk hk e => ?_)
  · obtain ⟨j, _, hj, e⟩ := key k
    rw [e]
    exact wds_ok _ (List.getElem_mem hj)
  · obtain ⟨j1, a1, b1, c1⟩ := key j
    obtain ⟨j2, a2, b2, c2⟩ := key k
    rw [c1, c2] at e
    have nd : wds.Pairwise (· ≠ ·) := wds_nd
    rcases Nat.lt_trichotomy j1 j2 with h | h | h
    · exact List.pairwise_iff_getElem.mp nd j1 j2 b1 b2 h e
    · omega
    · exact List.pairwise_iff_getElem.mp nd j2 j1 b2 b1 h e.symm
/-! the second way -/
structure Stem (z : Str) : Prop where
  len : (tl z).length = 6
  ok : ∀ c ∈ tl z, lc c = true
def nm1 (z : Str) (a : Int) (k : Nat) : Str := cutS z none (some (1 + (a + 5 * (k : Int)) % 6))
theorem nm1_ok {z : Str} (h : Stem z) (a : Int) (n : Nat) (hn : n < 7) : Nms ((List.range n).map (nm1 z a)) := by
  have key : ∀ k : Nat, ∃ j : Nat, ((j : Nat) : Int) = 1 + (a + 5 * (k : Int)) % 6 ∧ 1 ≤ j ∧ j ≤ 6 ∧ tl (nm1 z a k) = (tl z).take j := fun k => by
    have h0 := Int.emod_nonneg (a + 5 * (k : Int)) (by decide : (6 : Int) ≠ 0)
    have h1 := Int.emod_lt_of_pos (a + 5 * (k : Int)) (by decide : (0 : Int) < 6)
    unfold nm1
    generalize (a + 5 * (k : Int)) % 6 = m at h0 h1
    obtain ⟨j, rfl⟩ := Int.eq_ofNat_of_zero_le h0
    refine ⟨1 + j, by omega, by omega, by omega, ?_⟩
    have e : (1 + (j : Int)) = ((1 + j : Nat) : Int) := by omega
    rw [e]
    exact tl_to (by rw [h.len]; omega)
  refine nms_of (fun k hk => ?_) (fun j k hjk hk e => ?_)
  · obtain ⟨j, _, j1, j6, e⟩ := key k
    have hl := h.len
    refine name_of ?_ ?_ (fun c hc => h.ok c (by rw [e] at hc; exact List.mem_of_mem_take hc)) <;> rw [e, List.length_take] <;> omega
  · obtain ⟨j1, a1, _, b1, c1⟩ := key j
    obtain ⟨j2, a2, _, b2, c2⟩ := key k
    have l := congrArg (fun z => (tl z).length) e
    have hl := h.len
    simp only [c1, c2, List.length_take] at l
    omega
/-! the third way -/
def abc : Str := "abcdefghijklmnopqrstuvwxyz"
def lt1 (a : Int) (k : Nat) : Nat := 97 + ((a + 7 * (k : Int)) % 26).toNat
theorem abc_at {i : Int} (h0 : 0 ≤ i) (h1 : i < 26) : atI abc.cps.toList i = some (97 + i.toNat) := by
  obtain ⟨j, rfl⟩ := Int.eq_ofNat_of_zero_le h0
  have h : ∀ j : Fin 26, abc.cps.toList[j.1]? = some (97 + j.1) := by decide +kernel
  rw [Int.toNat_natCast]
  exact atI_nat (h ⟨j, by omega⟩)
theorem lt1_at (a : Int) (k : Nat) : atI abc.cps.toList ((a + 7 * (k : Int)) % 26) = some (lt1 a k) := abc_at (Int.emod_nonneg _ (by decide)) (Int.emod_lt_of_pos _ (by decide))
theorem lt1_lc (a : Int) (k : Nat) : lc (lt1 a k) = true := by
  have h0 := Int.emod_nonneg (a + 7 * (k : Int)) (by decide : (26 : Int) ≠ 0)
  have h1 := Int.emod_lt_of_pos (a + 7 * (k : Int)) (by decide : (0 : Int) < 26)
  unfold lt1 lc
  rw [Bool.and_eq_true, decide_eq_true_eq, decide_eq_true_eq]
  omega
def nm2 (z : Str) (a t : Int) (k : Nat) : Str := cutS z none (some t) ++ ⟨#[lt1 a k]⟩ ++ cutS z (some t) (some (t + (a + (k : Int)) % (6 - t)))
theorem nm2_ok {z : Str} (h : Stem z) (a t : Int) (t0 : 0 ≤ t) (t6 : t < 6) (n : Nat) (hn : n ≤ 7) : Nms ((List.range n).map (nm2 z a t)) := by
  obtain ⟨t, rfl⟩ := Int.eq_ofNat_of_zero_le t0
  have hl := h.len
  have key : ∀ k : Nat, ∃ m : Nat, t + m < 6 ∧ tl (nm2 z a t k) = (tl z).take t ++ ([lt1 a k] ++ ((tl z).drop t).take m) := fun k => by
    have h0 := Int.emod_nonneg (a + (k : Int)) (show (6 - (t : Int)) ≠ 0 by omega)
    have h1 := Int.emod_lt_of_pos (a + (k : Int)) (show (0 : Int) < 6 - (t : Int) by omega)
    unfold nm2
    generalize (a + (k : Int)) % (6 - (t : Int)) = m at h0 h1
    obtain ⟨m, rfl⟩ := Int.eq_ofNat_of_zero_le h0
    refine ⟨m, by omega, ?_⟩
    rw [tl_append, tl_append, tl_to (by omega), show ((t : Int) + (m : Int)) = ((t + m : Nat) : Int) by omega, tl_cut (by omega) (by omega), show t + m - t = m by omega, List.append_assoc]
  refine nms_of (fun k hk => ?_) (fun j k hjk hk e => ?_)
  · obtain ⟨m, hm, e⟩ := key k
    refine name_of ?_ ?_ (fun c hc => ?_)
    · rw [e, List.length_append, List.length_append]
      simp
      omega
    · rw [e, List.length_append, List.length_append, List.length_take, List.length_take, List.length_drop]
      simp
      omega
    · rw [e] at hc
      rcases List.mem_append.mp hc with q | q
      · exact h.ok c (List.mem_of_mem_take q)
      · rcases List.mem_append.mp q with q | q
        · rw [List.mem_singleton.mp q]
          exact lt1_lc a k
        · exact h.ok c (List.mem_of_mem_drop (List.mem_of_mem_take q))
  · obtain ⟨m1, hm1, c1⟩ := key j
    obtain ⟨m2, hm2, c2⟩ := key k
    have l := congrArg (fun z => (tl z)[t]?) e
    simp only [c1, c2] at l
    have lt : ((tl z).take t).length = t := by rw [List.length_take]; omega
    have g : ∀ (c : Nat) (r : List Nat), ((tl z).take t ++ ([c] ++ r))[t]? = some c := fun c r => by
      rw [List.getElem?_append_right (by omega), lt, Nat.sub_self]
      rfl
    rw [g, g] at l
    have l := Option.some.inj l
    unfold lt1 at l
    have h0 := Int.emod_nonneg (a + 7 * (j : Int)) (by decide : (26 : Int) ≠ 0)
    have h1 := Int.emod_nonneg (a + 7 * (k : Int)) (by decide : (26 : Int) ≠ 0)
    omega
end My

set_option maxRecDepth 100000
set_option maxHeartbeats 4000000
namespace K5
open PySem PySem.Spec PyProof.Rows L2 GxR Gd TL My
theorem range_snoc (f : Nat → Str) (i : Nat) : ((List.range (i + 1)).map f).map V.str = ((List.range i).map f).map V.str ++ [V.str (f i)] := by
  rw [List.range_succ, List.map_append, List.map_append]
  rfl
theorem ixL {X : Cx} {K : PySem.W.Frag} (h : X.K = K) : IxR X (rIxL K) := h ▸ ix_list
theorem cmul {m : Nat} (i : Nat) (h : i < m) (hm : m ≤ 7) : CMul 5 (0 + (i : Int)) := .inl ⟨by decide, by decide⟩
theorem cmul7 (i : Nat) : CMul 7 (0 + (i : Int)) := .inl ⟨by decide, by decide⟩
theorem atI_map {α β : Type} {f : α → β} {xs : List α} {i : Int} {v : α} (h : atI xs i = some v) : atI (xs.map f) i = some (f v) := by
  unfold atI at h ⊢
  rw [List.length_map]
  cases e : ixN xs.length i with
  | none => rw [e] at h; cases h
  | some j =>
    rw [e] at h
    show (xs.map f)[j]? = _
    rw [List.getElem?_map, show xs[j]? = some v from h]
    rfl
theorem lt_line (i : Nat) (h : i ≤ 100) : i < sizeLine := Nat.lt_of_le_of_lt h (by decide)
section
variable {P : Program} {w : World} {K : PySem.W.Frag} {mg : Str → Option Value} {base : Heap}
abbrev s_law_names : Stmt := top 29
theorem sc_law_names : FnScope ["_law_box_here", "_law_many", "_law_letters", "_law_words", "_law_way", "_law_first", "_law_stem", "_law_at", "_law_k"] ["_law_box_here", "_law_many"] (defScope s_law_names) := ⟨rfl, rfl, rfl, by decide +kernel, rfl, by decide +kernel, by decide +kernel⟩
def spNames : Sp := fun vs H Q _ => ∃ (b : Addr) (m : Nat) (n : Int), vs = [.ref b, .int (m : Nat)] ∧ Bx b n H ∧ n ≤ 90000 ∧ m ≤ 7 ∧
  ∀ (ns : List Str) (a : Addr) (H' : Hp), KB b H H' → Bx b (n + 20) H' → H' a = some (.lst (ns.map V.str)) → ns.length = m → Nms ns → Q (.ref a) H'
theorem ok_names {f fT : Addr} {fd fdT : FuncData} (F : Fun K "_law_names" "_law_names" s_law_names f fd) (T : Txt mg)
    (Nlaw_take : Fn K mg "_law_take" sTake ["_law_box_here", "_law_many"] fT fdT) (Glaw_take : FnOk P w K mg base CX0 1 fT fdT ["_law_box_here", "_law_many"] spTake) :
    FnOk P w K mg base CX0 2 f fd ["_law_box_here", "_law_many"] spNames := by
  refine F.ok sc_law_names (fun vs H Q E h => ?_) (fun cdv A outer s H vs Q E hr h => ?_)
  · obtain ⟨b, m, n, rfl, _⟩ := h
    rfl
  · obtain ⟨b, m, n, rfl, hB, hn, hm, k⟩ := h
    refine ⟨_, pss_cons (ps_set (i := 2) sc_law_names.nd rfl (Or.inr rfl) pe_str)
      (pss_cons (ps_set (i := 3) sc_law_names.nd rfl (Or.inr rfl) (pe_lst (pa_cons pe_str (pa_cons pe_str (pa_cons pe_str (pa_cons pe_str (pa_cons pe_str (pa_cons pe_str (pa_cons pe_str (pa_cons pe_str (pa_cons pe_str (pa_cons pe_str (pa_cons pe_str (pa_cons pe_str (pa_cons pe_str pa_nil)))))))))))))))
      (pss_cons (ps_set (i := 4) sc_law_names.nd rfl (Or.inl rfl) (pe_call Glaw_take (hr.mono (by decide)) (by rfl) Nlaw_take.g Nlaw_take.kp Nlaw_take.b .nil pass0 (pa_cons (pv 0) (pa_cons pe_int pa_nil))))
      (pss_cons (ps_set (i := 5) sc_law_names.nd rfl (Or.inr rfl) (pe_call Glaw_take (hr.mono (by decide)) (by rfl) Nlaw_take.g Nlaw_take.kp Nlaw_take.b .nil pass0 (pa_cons (pv 0) (pa_cons pe_int pa_nil))))
      (pss_cons (ps_if (pt_cmpR op_eq (pv 4) pe_int (nomark _)) (pss_one (ps_ret (pe_lc (own := [("_law_k", 8)]) (g := gName 8) (tt := tYes) rfl sc_law_names.nd (pi_range1 (by rfl) T.range_ (pa_cons (pv 1) pa_nil)) (blkOk_by (own := [("_law_k", 8)]) (N := ["_law_box_here", "_law_many", "_law_letters", "_law_words", "_law_way", "_law_first", "_law_stem", "_law_at", "_law_k"]) (sc := defScope s_law_names) (by decide +kernel)) (fun _ _ _ _ _ => (pg_name (i := 8) sc_law_names.nd rfl (Or.inl rfl))) (fun _ _ _ _ _ => pts_nil) (fun _ _ _ _ _ => (pe_ix (ixL (K := K) rfl) (pv 3) (pe_op op_mod (pe_op op_add (pv 5) (pe_op op_mul pe_int (pv 8))) pe_int) (fun _ _ => rfl)))))) pss_nil)
      (pss_cons (ps_set (i := 6) sc_law_names.nd rfl (Or.inr rfl) (pe_join pe_str (pe_lc (own := [("_law_k", 8)]) (g := gName 8) (tt := tYes) rfl sc_law_names.nd (pi_range1 (by rfl) T.range_ (pa_cons pe_int pa_nil)) (blkOk_by (own := [("_law_k", 8)]) (N := ["_law_box_here", "_law_many", "_law_letters", "_law_words", "_law_way", "_law_first", "_law_stem", "_law_at", "_law_k"]) (sc := defScope s_law_names) (by decide +kernel)) (fun _ _ _ _ _ => (pg_name (i := 8) sc_law_names.nd rfl (Or.inl rfl))) (fun _ _ _ _ _ => pts_nil) (fun _ _ _ _ _ => (pe_ix ix_str (pv 2) (pe_call Glaw_take (hr.mono (by decide)) (by rfl) Nlaw_take.g Nlaw_take.kp Nlaw_take.b .nil pass0 (pa_cons (pv 0) (pa_cons pe_int pa_nil))) (fun _ _ => rfl))))))
      (pss_cons (ps_if (PW.pt (pw_and (pt_cmpR op_eq (pv 4) pe_int (nomark _)) (pw_and1 (pt_cmpR op_lt (pv 1) pe_int (nomark _))))) (pss_one (ps_ret (pe_lc (own := [("_law_k", 8)]) (g := gName 8) (tt := tYes) rfl sc_law_names.nd (pi_range1 (by rfl) T.range_ (pa_cons (pv 1) pa_nil)) (blkOk_by (own := [("_law_k", 8)]) (N := ["_law_box_here", "_law_many", "_law_letters", "_law_words", "_law_way", "_law_first", "_law_stem", "_law_at", "_law_k"]) (sc := defScope s_law_names) (by decide +kernel)) (fun _ _ _ _ _ => (pg_name (i := 8) sc_law_names.nd rfl (Or.inl rfl))) (fun _ _ _ _ _ => pts_nil) (fun _ _ _ _ _ => (pe_slice sl_str (pv 6) po_none (po_some (pe_op op_add pe_int (pe_op op_mod (pe_op op_add (pv 5) (pe_op op_mul pe_int (pv 8))) pe_int)))))))) pss_nil)
      (pss_cons (ps_set (i := 7) sc_law_names.nd rfl (Or.inr rfl) (pe_call Glaw_take (hr.mono (by decide)) (by rfl) Nlaw_take.g Nlaw_take.kp Nlaw_take.b .nil pass0 (pa_cons (pv 0) (pa_cons pe_int pa_nil))))
      (pss_one (ps_ret (pe_lc (own := [("_law_k", 8)]) (g := gName 8) (tt := tYes) rfl sc_law_names.nd (pi_range1 (by rfl) T.range_ (pa_cons (pv 1) pa_nil)) (blkOk_by (own := [("_law_k", 8)]) (N := ["_law_box_here", "_law_many", "_law_letters", "_law_words", "_law_way", "_law_first", "_law_stem", "_law_at", "_law_k"]) (sc := defScope s_law_names) (by decide +kernel)) (fun _ _ _ _ _ => (pg_name (i := 8) sc_law_names.nd rfl (Or.inl rfl))) (fun _ _ _ _ _ => pts_nil) (fun _ _ _ _ _ => (pe_op op_add_str (pe_op op_add_str (pe_slice sl_str (pv 6) po_none (po_some (pv 7))) (pe_ix ix_str (pv 2) (pe_op op_mod (pe_op op_add (pv 5) (pe_op op_mul pe_int (pv 8))) pe_int) (fun _ _ => rfl))) (pe_slice sl_str (pv 6) (po_some (pv 7)) (po_some (pe_op op_add (pv 7) (pe_op op_mod (pe_op op_add (pv 5) (pv 8)) (pe_op op_sub pe_int (pv 7)))))))))))))))))), ?_⟩
    refine ⟨(by show 13 ≤ sizeLine; decide), fun L hL => ?_⟩
    have k0 : KB b H _ := KB.alloc (o := .lst [.str "place", .str "staff", .str "ticket", .str "low", .str "high", .str "long", .str "pilot", .str "train", .str "at", .str "to", .str "in", .str "get", .str "a"]) hL
    have B0 := hB.alloc (o := .lst [.str "place", .str "staff", .str "ticket", .str "low", .str "high", .str "long", .str "pilot", .str "train", .str "at", .str "to", .str "in", .str "get", .str "a"]) hL
    have nLb : L ≠ b := hB.fresh hL
    have hW : (upd H L (.lst [.str "place", .str "staff", .str "ticket", .str "low", .str "high", .str "long", .str "pilot", .str "train", .str "at", .str "to", .str "in", .str "get", .str "a"])) L = some (.lst (wds.map V.str)) := upd_same
    generalize upd H L (.lst [.str "place", .str "staff", .str "ticket", .str "low", .str "high", .str "long", .str "pilot", .str "train", .str "at", .str "to", .str "in", .str "get", .str "a"]) = H0 at k0 B0 hW ⊢
    refine ⟨_, rfl, b, 4, n, rfl, B0, by omega, by decide, by decide, fun way H1 w0 w1 off1 B1 => ?_⟩
    refine ⟨_, rfl, b, 26, n + 1, rfl, B1, by omega, by decide, by decide, fun a H2 a0 a1 off2 B2 => ?_⟩
    have k2 : KB b H H2 := (k0.trans (KB.off off1)).trans (KB.off off2)
    have hW2 : H2 L = some (.lst (wds.map V.str)) := by rw [off2 L nLb, off1 L nLb]; exact hW
    clear hW k0 B0 B1 off1 off2
    refine ⟨_, rfl, rfl, _, rfl, ite2 (fun c => ?_) (fun c => ?_)⟩
    · refine ⟨_, rfl, m, rfl, by omega, by omega, fun D hD => ?_⟩
      have nD : L ≠ D := ne_of_none hW2 hD
      refine lc_range (lo := 0) (n := m) (fun i H' => H' = upd H2 D (.lst (((List.range i).map (nm0 a)).map V.str))) rfl ?_ ?_
      · rintro i H' hi rfl
        refine ⟨rfl, lcY ?_⟩
        refine ⟨_, rfl, _, rfl, _, rfl, _, _, rfl, rfl, cmul i hi hm, _, _, rfl, rfl, _, _, rfl, rfl, (by show (0 : Int) < 13; decide), L, wds.map V.str, _, .str (nm0 a i), rfl, rfl, SqL.of (by rw [upd_ne nD]; exact hW2), ?_, _, upd_same, ?_, ?_⟩
        · rw [Int.zero_add]
          exact atI_map (nm0_at a i)
        · rw [List.length_map, List.length_map, List.length_range]
          exact lt_line i (by omega)
        · rw [upd_upd, range_snoc]
      · rintro H' rfl
        exact k _ D _ (k2.trans (KB.alloc hD)) ((B2.alloc hD).mono (by omega)) upd_same (by simp) (nm0_ok a m hm)
    · clear c
      refine ⟨⟨_, rfl⟩, 6, rfl, by decide, by decide, fun D hD => ?_⟩
      have nDb : D ≠ b := B2.fresh hD
      refine lc_range (lo := 0) (n := 6) (fun i H' => ∃ cs : List Nat, H' D = some (.lst ((cs.map fun c => (⟨#[c]⟩ : Str)).map V.str)) ∧ cs.length = i ∧ (∀ c ∈ cs, lc c = true) ∧ KB b H2 H' ∧ Bx b (n + 2 + i) H')
        ⟨[], upd_same, rfl, by simp, KB.alloc hD, (B2.alloc hD).mono (by simp; omega)⟩ ?_ ?_
      · rintro i H3 hi ⟨cs, hz, hl, h1, k3, B3⟩
        refine ⟨rfl, lcY ?_⟩
        refine ⟨_, rfl, _, rfl, b, 26, n + 2 + i, rfl, B3, by omega, by decide, by decide, fun d' H4 e0 e1 off4 B4 => ?_⟩
        have hz4 : H4 D = some (.lst ((cs.map fun c => (⟨#[c]⟩ : Str)).map V.str)) := by rw [off4 D nDb]; exact hz
        refine ⟨_, d', 97 + d'.toNat, rfl, rfl, by decide +kernel, abc_at e0 e1, _, hz4, ?_, cs ++ [97 + d'.toNat], ?_, ?_, ?_, ?_, ?_⟩
        · rw [List.length_map, List.length_map, hl]
          exact lt_line i (by omega)
        · rw [upd_same, List.map_append, List.map_append]
          rfl
        · rw [List.length_append, hl]
          rfl
        · intro z hz
          rcases List.mem_append.mp hz with q | q
          · exact h1 z q
          · rw [List.mem_singleton.mp q]
            unfold lc
            rw [Bool.and_eq_true, decide_eq_true_eq, decide_eq_true_eq]
            omega
        · intro c o nc e
          rw [upd_ne (ne_of_none e hD)]
          exact (k3.trans (KB.off off4)) c o nc e
        · exact (B4.put nDb).mono (by push_cast; omega)
      · rintro H3 ⟨cs, hz, hl, h1, k3, B3⟩
        have et := tl_ones cs
        have jl : (Txt.join (Str.ofString "") (cs.map fun c => (⟨#[c]⟩ : Str))).length = 6 := by rw [← tl_len, et, hl]
        have hS : Stem (Txt.join (Str.ofString "") (cs.map fun c => (⟨#[c]⟩ : Str))) := ⟨by rw [et, hl], by rw [et]; exact h1⟩
        refine ⟨_, D, _, rfl, rfl, .inl (SqL.of hz), ?_, ?_⟩
        · have e0 : (Str.ofString "").length = 0 := by decide +kernel
          have hs := sum_ones (cs.map fun c => (⟨#[c]⟩ : Str)) (fun z hz => by obtain ⟨c, _, rfl⟩ := List.mem_map.mp hz; exact Nat.le_refl 1)
          rw [List.length_map] at hs
          rw [e0]
          omega
        generalize Txt.join (Str.ofString "") (cs.map fun c => (⟨#[c]⟩ : Str)) = st at hS jl ⊢
        have hW3 : H3 L = some (.lst (wds.map V.str)) := k3 L _ nLb hW2
        have kH := k2.trans k3
        clear hz et h1 k3
        have w2 : ∀ t : Int, 0 ≤ t → t < 6 → ∀ H4, (∀ a, a ≠ b → H4 a = H3 a) → Bx b (n + 2 + 6 + 1) H4 → tRet (tLc (iRng1 (tCons (tVar 1) tNil)) (gName 8) tYes
            (tOp (fun x y H Q => ∃ i j, x = V.str i ∧ y = V.str j ∧ i.length + j.length ≤ sizeLine ∧ Q (V.str (i ++ j)) H)
              (tOp (fun x y H Q => ∃ i j, x = V.str i ∧ y = V.str j ∧ i.length + j.length ≤ sizeLine ∧ Q (V.str (i ++ j)) H) (tSl rSlS (tVar 6) tNoPart (tPart (tVar 7)))
                (tOp rIxS (tVar 2) (tOp (rI (fun x j => 0 < j) fun i j => V.int (i % j)) (tOp (rI0 fun i j => V.int (i + j)) (tVar 5) (tOp (rI CMul fun i j => V.int (i * j)) (tC (V.int 7)) (tVar 8))) (tC (V.int 26)))))
              (tSl rSlS (tVar 6) (tPart (tVar 7)) (tPart (tOp (rI0 fun i j => V.int (i + j)) (tVar 7) (tOp (rI (fun x j => 0 < j) fun i j => V.int (i % j)) (tOp (rI0 fun i j => V.int (i + j)) (tVar 5) (tVar 8)) (tOp (rI0 fun i j => V.int (i - j)) (tC (V.int 6)) (tVar 7)))))))
            [8]) { nx := fun x H' => Q V.non H', rt := Q } [some (.ref b), some (.int (m : Nat)), some (.str abc), some (.ref L), some (.int way), some (.int a), some (.str st), some (.int t), none] H4 := by
          intro t t0 t6 H4 off4 B4
          refine ⟨_, rfl, m, rfl, by omega, by omega, fun D2 hD2 => ?_⟩
          refine lc_range (lo := 0) (n := m) (fun i H' => H' = upd H4 D2 (.lst (((List.range i).map (nm2 st a t)).map V.str))) rfl ?_ ?_
          · rintro i H' hi rfl
            refine ⟨rfl, lcY ?_⟩
            refine ⟨_, rfl, _, rfl, _, rfl, st, rfl, (by rw [jl]; decide), _, rfl, _, rfl, _, rfl, _, _, rfl, rfl, cmul7 i, _, _, rfl, rfl, _, _, rfl, rfl, (by show (0 : Int) < 26; decide), abc, _, lt1 a i, rfl, rfl, by decide +kernel, ?_, _, _, rfl, rfl, ?_,
              _, rfl, _, rfl, _, rfl, _, rfl, _, rfl, _, rfl, _, _, rfl, rfl, _, rfl, _, _, rfl, rfl, _, _, rfl, rfl, (by show (0 : Int) < 6 - t; omega), _, _, rfl, rfl, _, rfl, st, rfl, (by rw [jl]; decide), _, _, rfl, rfl, ?_, _, upd_same, ?_, ?_⟩
            · rw [Int.zero_add]
              exact lt1_at a i
            · have := cutS_length st none (some t)
              rw [jl] at this
              exact Nat.le_trans (Nat.add_le_add this (Nat.le_refl 1)) (by decide)
            · have q1 := cutS_length st none (some t)
              have q2 := cutS_length st (some t) (some (t + (a + (0 + (i : Int))) % (6 - t)))
              rw [jl] at q1 q2
              rw [← tl_len, tl_append, List.length_append, tl_len]
              exact Nat.le_trans (Nat.add_le_add (Nat.add_le_add q1 (Nat.le_refl 1)) q2) (by decide)
            · rw [List.length_map, List.length_map, List.length_range]
              exact lt_line i (by omega)
            · rw [upd_upd, range_snoc]
              unfold nm2
              rw [Int.zero_add]
          · rintro H' rfl
            exact k _ D2 _ ((kH.trans (KB.off off4)).trans (KB.alloc hD2)) ((B4.alloc hD2).mono (by omega)) upd_same (by simp) (nm2_ok hS a t t0 t6 m hm)
        refine ⟨_, rfl, rfl, _, rfl, ite2 (fun c1 => ⟨_, rfl, _, _, rfl, rfl, _, rfl, ite2 (fun c2 => ?_) (fun c2 => ?_)⟩) (fun c1 => iteF ?_)⟩
        · have c2' : (m : Int) < 7 := of_decide_eq_true c2
          refine ⟨_, rfl, m, rfl, by omega, by omega, fun D2 hD2 => ?_⟩
          refine lc_range (lo := 0) (n := m) (fun i H' => H' = upd H3 D2 (.lst (((List.range i).map (nm1 st a)).map V.str))) rfl ?_ ?_
          · rintro i H' hi rfl
            refine ⟨rfl, lcY ?_⟩
            refine ⟨_, rfl, _, rfl, _, rfl, _, _, rfl, rfl, cmul i hi hm, _, _, rfl, rfl, _, _, rfl, rfl, (by show (0 : Int) < 6; decide), _, _, rfl, rfl, _, rfl, st, rfl, (by rw [jl]; decide), _, upd_same, ?_, ?_⟩
            · rw [List.length_map, List.length_map, List.length_range]
              exact lt_line i (by omega)
            · rw [upd_upd, range_snoc]
              unfold nm1
              rw [Int.zero_add]
          · rintro H' rfl
            exact k _ D2 _ (kH.trans (KB.alloc hD2)) ((B3.alloc hD2).mono (by omega)) upd_same (by simp) (nm1_ok hS a m (by omega))
        · exact ⟨_, rfl, b, 6, n + 2 + 6, rfl, B3, by omega, by decide, by decide, fun t H4 t0 t6 off4 B4 => w2 t t0 t6 H4 off4 B4⟩
        · exact ⟨_, rfl, b, 6, n + 2 + 6, rfl, B3, by omega, by decide, by decide, fun t H4 t0 t6 off4 B4 => w2 t t0 t6 H4 off4 B4⟩
end
end K5

set_option maxRecDepth 100000
set_option maxHeartbeats 4000000
namespace K5
open PySem PySem.Spec PyProof.Rows L2 GxR Gd TL My
theorem hide_mono {D : Addr} {A B : Hp} (e : Nt A B) : Nt (hide D A) (hide D B) := fun c o n h => by
  obtain ⟨q, h⟩ := hide_some h
  rw [hide_ne q]
  exact e c o n h
/-- what is new in H since H0 -/
def nw (H0 H : Hp) : Hp := fun c => match H0 c with
  | none => H c
  | some _ => none
theorem nw_none {H0 H : Hp} {c : Addr} (h : H0 c = none) : nw H0 H c = H c := by unfold nw; rw [h]
theorem nw_some {H0 H : Hp} {c : Addr} {o : HO} (h : nw H0 H c = some o) : H0 c = none ∧ H c = some o := by
  unfold nw at h
  cases e : H0 c with
  | none => rw [e] at h; exact ⟨rfl, h⟩
  | some _ => rw [e] at h; cases h
theorem nw_mono {H0 A B : Hp} {b : Addr} (hb : H0 b ≠ none) (k : KB b A B) : Nt (nw H0 A) (nw H0 B) := fun c o _ h => by
  obtain ⟨h1, h2⟩ := nw_some h
  rw [nw_none h1]
  exact k c o (fun e => hb (e ▸ h1)) h2
theorem nw_put {D : Addr} {H0 H : Hp} {o : HO} : Nt (hide D (nw H0 H)) (hide D (nw H0 (upd H D o))) := fun c u n h => by
  obtain ⟨q, h⟩ := hide_some h
  obtain ⟨h1, h2⟩ := nw_some h
  rw [hide_ne q, nw_none h1, upd_ne q]
  exact h2
theorem nw_new {K : PySem.W.Frag} {p D : Addr} {H0 H : Hp} {xs : List V} (h1 : p ≠ D) (h2 : H0 p = none) : SqT K (hide D (nw H0 (upd H p (.tup xs)))) p xs := SqT.of (by rw [hide_ne h1, nw_none h2]; exact upd_same)
theorem fresh0 {H A : Hp} {b p : Addr} (k : KB b H A) (n : p ≠ b) (h : A p = none) : H p = none := by
  cases e : H p with
  | none => rfl
  | some o => rw [k p o n e] at h; cases h
theorem hide_put {D b : Addr} {H : Hp} {o : HO} : Nt (hide D (hide b H)) (hide D (hide b (upd H D o))) := fun c u n h => by
  obtain ⟨q, h⟩ := hide_some h
  obtain ⟨q2, h⟩ := hide_some h
  rw [hide_ne q, hide_ne q2, upd_ne q]
  exact h
theorem dp_new {K : PySem.W.Frag} {p D b : Addr} {H : Hp} {xs : List V} (h1 : p ≠ D) (h2 : p ≠ b) : SqT K (hide D (hide b (upd H p (.tup xs)))) p xs := SqT.of (by rw [hide_ne h1, hide_ne h2]; exact upd_same)
theorem cut_last {xs : List V} : cutV xs none (some (-1)) = xs.dropLast := by
  unfold cutV
  rw [List.dropLast_eq_take, HT.sIx_none, List.drop_zero]
  have e : HT.sIx xs.length xs.length (some (-1)) = ((-1 : Int) + (xs.length : Int)).toNat := rfl
  rw [e]
  congr 1
  omega
def lastL (l0 : Int) (lo : List (Int × Int × Int)) : Int := (lo.getLast?.map fun q => q.2.1).getD l0
theorem longsOk_snoc {top : Int} : ∀ {l0 : Int} {lo : List (Int × Int × Int)} {f l h : Int}, longsOk top l0 lo → lastL l0 lo ≤ f → f + 2 ≤ l → l ≤ top → 0 ≤ h → h ≤ 1 → longsOk top l0 (lo ++ [(f, l, h)])
  | l0, [], f, l, h, _, a, b, c, d, e => ⟨a, b, c, d, e, True.intro⟩
  | l0, (f0, x, h0) :: r, f, l, h, q, a, b, c, d, e => by
    obtain ⟨q1, q2, q3, q4, q5, q6⟩ := q
    refine ⟨q1, q2, q3, q4, q5, longsOk_snoc q6 ?_ b c d e⟩
    unfold lastL at a ⊢
    rw [List.getLast?_cons] at a
    cases z : r.getLast? with
    | none => rw [z] at a; simpa using a
    | some y => rw [z] at a; simpa using a
theorem lastL_snoc (l0 : Int) (lo : List (Int × Int × Int)) (p : Int × Int × Int) : lastL l0 (lo ++ [p]) = p.2.1 := by
  unfold lastL
  rw [List.getLast?_append]
  simp
theorem last_at {xs : List V} {v : V} (h : xs.getLast? = some v) : atI xs (-1) = some v := by
  unfold atI
  have hp : 0 < xs.length := by
    cases xs with
    | nil => simp at h
    | cons a r => simp
  have e : ixN xs.length (-1) = some (xs.length - 1) := by
    unfold ixN
    rw [if_neg (by decide)]
    split
    · congr 1
      omega
    · omega
  rw [e]
  rw [List.getLast?_eq_getElem?] at h
  exact h
section
variable {P : Program} {w : World} {K : PySem.W.Frag} {mg : Str → Option Value} {base : Heap}
abbrev s_law_world : Stmt := top 30
theorem sc_law_world : FnScope ["_law_box_here", "_law_many", "_law_names_here", "_law_places", "_law_stretches", "_law_longs", "_law_low", "_law_turn", "_law_first", "_law_last", "_law_name", "_law_k"] ["_law_box_here"] (defScope s_law_world) := ⟨rfl, rfl, rfl, by decide +kernel, rfl, by decide +kernel, by decide +kernel⟩
def spWorld (K : PySem.W.Frag) : Sp := fun vs H Q _ => ∃ (b : Addr) (n : Int), vs = [.ref b] ∧ Bx b n H ∧ n ≤ 1000 ∧
  ∀ (wd : Wd) (v : V) (H' : Hp), wd.Ok → KB b H H' → Dp K (nw H H') v wd.data → Bx b (n + 100) H' → Q v H'
theorem ok_world {f fT fN : Addr} {fd fdT fdN : FuncData} (F : Fun K "_law_world" "_law_world" s_law_world f fd) (T : Txt mg)
    (Nlaw_take : Fn K mg "_law_take" sTake ["_law_box_here", "_law_many"] fT fdT) (Glaw_take : FnOk P w K mg base CX0 1 fT fdT ["_law_box_here", "_law_many"] spTake)
    (Nlaw_names : Fn K mg "_law_names" s_law_names ["_law_box_here", "_law_many"] fN fdN) (Glaw_names : FnOk P w K mg base CX0 2 fN fdN ["_law_box_here", "_law_many"] spNames) :
    FnOk P w K mg base CX0 3 f fd ["_law_box_here"] (spWorld K) := by
  refine F.ok sc_law_world (fun vs H Q E h => ?_) (fun cdv A outer s H vs Q E hr h => ?_)
  · obtain ⟨b, n, rfl, _⟩ := h
    rfl
  · obtain ⟨b, n, rfl, hB, hn, k⟩ := h
    have hbn : H b ≠ none := by
      obtain ⟨_, _, _, h, _⟩ := hB
      rw [h]
      simp
    refine ⟨_, pss_cons (ps_set (i := 1) sc_law_world.nd rfl (Or.inl rfl) (pe_op op_add pe_int (pe_call Glaw_take (hr.mono (by decide)) (by rfl) Nlaw_take.g Nlaw_take.kp Nlaw_take.b .nil pass0 (pa_cons (pv 0) (pa_cons pe_int pa_nil)))))
      (pss_cons (ps_set (i := 2) sc_law_world.nd rfl (Or.inl rfl) (pe_call Glaw_names (hr.mono (by decide)) (by rfl) Nlaw_names.g Nlaw_names.kp Nlaw_names.b .nil pass0 (pa_cons (pv 0) (pa_cons (pe_op op_add (pv 1) pe_int) pa_nil))))
      (pss_cons (ps_setLc (i := 3) (own := [("_law_name", 10)]) (g := gName 10) (tt := tYes) rfl sc_law_world.nd rfl rfl (sw_true rfl rfl rfl (by decide +kernel)) (pi_list (pe_slice sl_list (pv 2) po_none (po_some (pe_un un_neg pe_int)))) (blkOk_by (own := [("_law_name", 10)]) (N := ["_law_box_here", "_law_many", "_law_names_here", "_law_places", "_law_stretches", "_law_longs", "_law_low", "_law_turn", "_law_first", "_law_last", "_law_name", "_law_k"]) (sc := defScope s_law_world) (by decide +kernel)) (fun _ _ _ _ _ => (pg_name (i := 10) sc_law_world.nd rfl (Or.inl rfl))) (fun _ _ _ _ _ => pts_nil) (fun _ _ _ _ _ => (pe_tup (pa_cons (pv 10) (pa_cons (pe_op op_add pe_int (pe_call Glaw_take (hr.mono (by decide)) (by rfl) Nlaw_take.g Nlaw_take.kp Nlaw_take.b .nil pass0 (pa_cons (pv 0) (pa_cons pe_int pa_nil)))) pa_nil)))))
      (pss_cons (ps_setLc (i := 4) (own := [("_law_k", 11)]) (g := gName 11) (tt := tYes) rfl sc_law_world.nd rfl rfl (sw_true rfl rfl rfl (by decide +kernel)) (pi_range1 (by rfl) T.range_ (pa_cons (pe_op op_sub (pv 1) pe_int) pa_nil)) (blkOk_by (own := [("_law_k", 11)]) (N := ["_law_box_here", "_law_many", "_law_names_here", "_law_places", "_law_stretches", "_law_longs", "_law_low", "_law_turn", "_law_first", "_law_last", "_law_name", "_law_k"]) (sc := defScope s_law_world) (by decide +kernel)) (fun _ _ _ _ _ => (pg_name (i := 11) sc_law_world.nd rfl (Or.inl rfl))) (fun _ _ _ _ _ => pts_nil) (fun _ _ _ _ _ => (pe_tup (pa_cons (pe_ix (ixL (K := K) rfl) (pe_lst (pa_cons pe_str (pa_cons pe_str pa_nil))) (pe_call Glaw_take (hr.mono (by decide)) (by rfl) Nlaw_take.g Nlaw_take.kp Nlaw_take.b .nil pass0 (pa_cons (pv 0) (pa_cons pe_int pa_nil))) (fun _ _ => rfl)) (pa_cons (pe_call Glaw_take (hr.mono (by decide)) (by rfl) Nlaw_take.g Nlaw_take.kp Nlaw_take.b .nil pass0 (pa_cons (pv 0) (pa_cons pe_int pa_nil))) pa_nil)))))
      (pss_cons (ps_set (i := 5) sc_law_world.nd rfl (Or.inl rfl) (pe_lst pa_nil))
      (pss_cons (ps_set (i := 6) sc_law_world.nd rfl (Or.inl rfl) pe_int)
      (pss_cons (ps_for PassesOwn.never rfl (pi_range1 (by rfl) T.range_ (pa_cons (pe_call Glaw_take (hr.mono (by decide)) (by rfl) Nlaw_take.g Nlaw_take.kp Nlaw_take.b .nil pass0 (pa_cons (pv 0) (pa_cons pe_int pa_nil))) pa_nil)) (pg_name (i := 7) sc_law_world.nd rfl (Or.inl rfl)) (pss_one (ps_if (pt_cmpR op_lt (pe_op op_add (pv 6) pe_int) (pv 1) (nomark _)) (pss_cons (ps_set (i := 8) sc_law_world.nd rfl (Or.inl rfl) (pe_op op_add (pv 6) (pe_call Glaw_take (hr.mono (by decide)) (by rfl) Nlaw_take.g Nlaw_take.kp Nlaw_take.b .nil pass0 (pa_cons (pv 0) (pa_cons (pe_op op_sub (pe_op op_sub (pv 1) pe_int) (pv 6)) pa_nil)))))
              (pss_cons (ps_set (i := 9) sc_law_world.nd rfl (Or.inl rfl) (pe_op op_add (pe_op op_add (pv 8) pe_int) (pe_call Glaw_take (hr.mono (by decide)) (by rfl) Nlaw_take.g Nlaw_take.kp Nlaw_take.b .nil pass0 (pa_cons (pv 0) (pa_cons (pe_op op_sub (pe_op op_sub (pv 1) pe_int) (pv 8)) pa_nil)))))
              (pss_cons (ps_expr (pe_bm PySem.F.plainAttrs_list PySem.F.slot_list_append PySem.F.type_list_append mt_append (pv 5) (pa_cons (pe_tup (pa_cons (pv 8) (pa_cons (pv 9) (pa_cons (pe_call Glaw_take (hr.mono (by decide)) (by rfl) Nlaw_take.g Nlaw_take.kp Nlaw_take.b .nil pass0 (pa_cons (pv 0) (pa_cons pe_int pa_nil))) pa_nil)))) pa_nil)))
              (pss_one (ps_set (i := 6) sc_law_world.nd rfl (Or.inl rfl) (pv 9)))))) pss_nil)))
      (pss_one (ps_ret (pe_lst (pa_cons (pv 3) (pa_cons (pv 4) (pa_cons (pv 5) (pa_cons (pe_ix ix_list (pv 2) (pe_un un_neg pe_int) (fun _ _ => rfl)) pa_nil))))))))))))), ?_⟩
    refine ⟨_, rfl, b, 5, n, rfl, hB, by omega, by decide, by decide, fun d H1 d0 d1 off1 B1 => ?_⟩
    obtain ⟨d, rfl⟩ := Int.eq_ofNat_of_zero_le d0
    refine ⟨_, _, rfl, rfl, ?_⟩
    have em : (2 + (d : Int)) = ((2 + d : Nat) : Int) := by omega
    have hm7 : 2 + d + 1 ≤ 7 := by omega
    have hm2 : 2 ≤ 2 + d := by omega
    show tSeq _ _ _ (List.set _ 1 (some (.int (2 + (d : Int))))) H1
    rw [em]
    generalize 2 + d = m at hm7 hm2
    refine ⟨_, rfl, _, rfl, _, _, rfl, rfl, b, m + 1, n + 1, rfl, B1, by omega, hm7, fun ns La H2 k2 B2 hLa hl hns => ?_⟩
    obtain ⟨nm, sp, rfl⟩ : ∃ nm sp, ns = nm ++ [sp] := by
      rcases List.eq_nil_or_concat ns with e | ⟨nm, sp, e⟩
      · rw [e] at hl
        cases hl
      · exact ⟨nm, sp, by rw [e, List.concat_eq_append]⟩
    have hlm : nm.length = m := by rw [List.length_append] at hl; exact Nat.succ.inj hl
    have hnd := List.nodup_append.mp hns.nd
    have hsp : sp ∉ nm := fun h => hnd.2.2 sp h sp (List.mem_singleton.mpr rfl) rfl
    have ecut : cutV ((nm ++ [sp]).map V.str) none (some (-1)) = nm.map V.str := by
      rw [cut_last, List.map_append]
      exact List.dropLast_concat
    have nLb : La ≠ b := fun e => by
      obtain ⟨_, _, _, h, _⟩ := B1
      obtain ⟨_, _, _, h2, _⟩ := B2
      rw [e, h2] at hLa
      cases nm with
      | nil => simp at hLa
      | cons a r => simp at hLa
    have k02 : KB b H H2 := (KB.off off1).trans k2
    refine ⟨_, rfl, _, rfl, _, rfl, La, _, rfl, SqL.of hLa, fun p1 hp1 => ⟨p1, rfl, ⟨_, SqL.of upd_same⟩, fun D hD => ?_⟩⟩
    have n1b : p1 ≠ b := B2.fresh hp1
    have hp1' : (upd H2 p1 (.lst (cutV ((nm ++ [sp]).map V.str) none (some (-1))))) p1 = some (.lst (nm.map V.str)) := by rw [upd_same, ecut]
    have k03 : KB b H2 (upd H2 p1 (.lst (cutV ((nm ++ [sp]).map V.str) none (some (-1))))) := KB.alloc hp1
    have B3 := B2.alloc (o := .lst (cutV ((nm ++ [sp]).map V.str) none (some (-1)))) hp1
    generalize upd H2 p1 (.lst (cutV ((nm ++ [sp]).map V.str) none (some (-1)))) = H3 at hp1' k03 B3 hD ⊢
    have nDb : D ≠ b := B3.fresh hD
    have nD0 : H D = none := fresh0 (k02.trans k03) nDb hD
    refine lc_it (walk_list (K := K) (xs := nm.map V.str)) (fun i H' => ∃ (ps : List (Str × Int)) (xs : List V), ps.map (·.1) = nm.take i ∧ (∀ p ∈ ps, 1 ≤ p.2 ∧ p.2 ≤ 3) ∧ H' D = some (.lst xs) ∧ DpAll K (hide D (nw H H')) xs (ps.map dP) ∧ KB b H3 H' ∧ Bx b (n + 21 + i) H')
      ⟨[], [], by simp, by simp, upd_same, .nil, KB.alloc hD, (B3.alloc hD).mono (by simp; omega)⟩ ?_ ?_ ?_
    · rintro i H' hi ⟨ps, xs, _, _, _, _, kb, _⟩
      exact SqL.of (kb _ _ n1b hp1')
    · rintro i x H' H'' hi ⟨ps, xs, e1, e2, e3, e4, kb, B'⟩ ⟨rfl, hx⟩
      obtain ⟨z, hz, rfl⟩ := get_map hx
      rw [List.length_map] at hi
      have lx : xs.length = i := by
        rw [dpAll_len e4, List.length_map, ← List.length_map (f := (·.1)), e1, List.length_take]
        omega
      refine ⟨rfl, lcY ?_⟩
      refine ⟨_, rfl, _, rfl, b, 3, _, rfl, B', by omega, by decide, by decide, fun r H4 r0 r1 off4 B4 => ⟨_, _, rfl, rfl, (by show 2 ≤ sizeLine; decide), fun p hp => ?_⟩⟩
      have e34 : H4 D = some (.lst xs) := by rw [off4 D nDb]; exact e3
      have npD : D ≠ p := ne_of_none e34 hp
      have npb : p ≠ b := B4.fresh hp
      have np0 : H p = none := fresh0 (((k02.trans k03).trans kb).trans (KB.off off4)) npb hp
      have eN := (hide_mono (D := D) (nw_mono hbn ((KB.off off4).trans (KB.alloc (o := .tup [.str z, .int (1 + r)]) hp)))).trans (nw_put (o := .lst (xs ++ [.ref p])))
      refine ⟨xs, by rw [upd_ne npD]; exact e34, by rw [lx]; exact lt_line i (by omega), ps ++ [(z, 1 + r)], xs ++ [.ref p], ?_, ?_, upd_same, ?_, ?_, ?_⟩
      · rw [List.map_append, e1, take_at hz]
        rfl
      · intro q hq
        rcases List.mem_append.mp hq with h | h
        · exact e2 q h
        · rw [List.mem_singleton.mp h]
          exact ⟨by show 1 ≤ 1 + r; omega, by show 1 + r ≤ 3; omega⟩
      · rw [List.map_append]
        exact dpAll_app (dpAll_nt eN e4) (.cons (.tup (nw_put.seqT (nw_new npD.symm np0)) (.cons (.str _) (.cons (.int _) .nil))) .nil)
      · intro c o nc e
        rw [upd_ne (ne_of_none e hD)]
        exact ((kb.trans (KB.off off4)).trans (KB.alloc hp)) c o nc e
      · exact ((B4.alloc hp).put nDb).mono (by push_cast; omega)
    · rintro H4 ⟨ps, xsP, e1, e2, e3, e4, kb4, B4⟩
      rw [List.length_map, List.take_of_length_le (Nat.le_refl _)] at e1
      rw [List.length_map, hlm] at B4
      have dpP := dpAll_nt (hide_nt D _) e4
      have lps : ps.length = m := by rw [← List.length_map (f := (·.1)), e1, hlm]
      have k04 := (k02.trans k03).trans kb4
      have hLa4 := (k03.trans kb4) _ _ nLb hLa
      clear e4 k02 k03 kb4 hp1' hD hLa k2 B3 B2 B1 hB
      have em1 : ((m : Int) - 1) = ((m - 1 : Nat) : Int) := by omega
      refine ⟨_, rfl, _, _, rfl, rfl, ((m - 1 : Nat) : Int), (by show [V.int ((m : Int) - 1)] = _; rw [em1]), by omega, by omega, fun D2 hD2 => ?_⟩
      have nD2b : D2 ≠ b := B4.fresh hD2
      have nD20 : H D2 = none := fresh0 k04 nD2b hD2
      refine lc_range (lo := 0) (n := m - 1) (fun i H' => ∃ (st : List (Str × Int)) (xs : List V), st.length = i ∧ (∀ p ∈ st, (p.1 = "staff" ∨ p.1 = "ticket") ∧ 0 ≤ p.2 ∧ p.2 ≤ 1) ∧ H' D2 = some (.lst xs) ∧ DpAll K (hide D2 (nw H H')) xs (st.map dP) ∧ KB b H4 H' ∧ Bx b (n + 40 + 2 * i) H')
        ⟨[], [], rfl, by simp, upd_same, .nil, KB.alloc hD2, (B4.alloc hD2).mono (by omega)⟩ ?_ ?_
      · rintro i H' hi ⟨st, xs, e1, e2, e3, e4, kb, B'⟩
        have lx : xs.length = i := by rw [dpAll_len e4, List.length_map, e1]
        refine ⟨rfl, lcY ?_⟩
        refine ⟨(by show 2 ≤ sizeLine; decide), fun L hL => ⟨_, rfl, b, 2, _, rfl, B'.alloc hL, by omega, by decide, by decide, fun i1 H5 i0 i2 off5 B5 => ?_⟩⟩
        have hL5 : H5 L = some (.lst [.str "staff", .str "ticket"]) := by rw [off5 L (B'.fresh hL)]; exact upd_same
        have hz : ∃ z : Str, atI [V.str "staff", V.str "ticket"] i1 = some (.str z) ∧ (z = "staff" ∨ z = "ticket") := by
          rcases (by omega : i1 = 0 ∨ i1 = 1) with rfl | rfl
          · exact ⟨_, rfl, .inl rfl⟩
          · exact ⟨_, rfl, .inr rfl⟩
        obtain ⟨z, hz1, hz2⟩ := hz
        refine ⟨L, _, i1, .str z, rfl, rfl, SqL.of hL5, hz1, _, rfl, b, 2, _, rfl, B5, by omega, by decide, by decide, fun h6 H6 h0 h1 off6 B6 => ⟨(by show 2 ≤ sizeLine; decide), fun p hp => ?_⟩⟩
        have k5 : KB b H' H6 := ((KB.alloc (o := .lst [.str "staff", .str "ticket"]) hL).trans (KB.off off5)).trans (KB.off off6)
        have e36 : H6 D2 = some (.lst xs) := k5 _ _ nD2b e3
        have npD : D2 ≠ p := ne_of_none e36 hp
        have npb : p ≠ b := B6.fresh hp
        have np0 : H p = none := fresh0 ((k04.trans kb).trans k5) npb hp
        have eN := (hide_mono (D := D2) (nw_mono hbn (k5.trans (KB.alloc (o := .tup [.str z, .int h6]) hp)))).trans (nw_put (o := .lst (xs ++ [.ref p])))
        refine ⟨xs, by rw [upd_ne npD]; exact e36, by rw [lx]; exact lt_line i (by omega), st ++ [(z, h6)], xs ++ [.ref p], ?_, ?_, upd_same, ?_, ?_, ?_⟩
        · rw [List.length_append, e1]
          rfl
        · intro q hq
          rcases List.mem_append.mp hq with h | h
          · exact e2 q h
          · rw [List.mem_singleton.mp h]
            exact ⟨hz2, h0, by show h6 ≤ 1; omega⟩
        · rw [List.map_append]
          exact dpAll_app (dpAll_nt eN e4) (.cons (.tup (nw_put.seqT (nw_new npD.symm np0)) (.cons (.str _) (.cons (.int _) .nil))) .nil)
        · intro c o nc e
          rw [upd_ne (ne_of_none e hD2)]
          exact ((kb.trans k5).trans (KB.alloc hp)) c o nc e
        · exact ((B6.alloc hp).put nD2b).mono (by push_cast; omega)
      · rintro H5 ⟨st, xsS, f1, f2, f3, f4, kb5, B5⟩
        have dpS := dpAll_nt (hide_nt D2 _) f4
        have dpP5 := dpAll_nt (nw_mono hbn kb5) dpP
        have e35 := kb5 _ _ nDb e3
        have hLa5 := kb5 _ _ nLb hLa4
        have k05 := k04.trans kb5
        clear f4 dpP e3 hLa4 k04 kb5 B4 hD2
        refine ⟨Nat.zero_le _, fun L5 h5 => ?_⟩
        have nL5b : L5 ≠ b := B5.fresh h5
        have nL50 : H L5 = none := fresh0 k05 nL5b h5
        have kA : KB b H5 (upd H5 L5 (.lst [])) := KB.alloc h5
        have hL5' : (upd H5 L5 (.lst [])) L5 = some (.lst []) := upd_same
        have BA := B5.alloc (o := .lst []) h5
        have nhL5 : ∀ c o, H5 c = some o → c ≠ L5 := fun c o h => ne_of_none h h5
        generalize upd H5 L5 (.lst []) = HA at kA hL5' BA ⊢
        refine ⟨_, rfl, b, 3, _, rfl, BA, by omega, by decide, by decide, fun tn H6 t0 t3 off6 B6 => ?_⟩
        have kA6 := kA.trans (KB.off off6)
        have hL56 : H6 L5 = some (.lst []) := by rw [off6 L5 nL5b]; exact hL5'
        refine ⟨tn, rfl, by omega, by omega, for_it (walk_range (lo := 0) (n := tn.toNat)) (fun i σ H' => ∃ (v7 v8 v9 v10 v11 : Option V) (lo : List (Int × Int × Int)) (xs : List V), σ = [some (.ref b), some (.int (m : Nat)), some (.ref La), some (.ref D), some (.ref D2), some (.ref L5), some (.int (lastL 0 lo)), v7, v8, v9, v10, v11] ∧
          H' L5 = some (.lst xs) ∧ DpAll K (hide L5 (nw H H')) xs (lo.map dL) ∧ lo.length ≤ i ∧ longsOk ((m - 1 : Nat) : Int) 0 lo ∧ 0 ≤ lastL 0 lo ∧ lastL 0 lo ≤ ((m - 1 : Nat) : Int) ∧ (∀ c o, c ≠ L5 → c ≠ b → H6 c = some o → H' c = some o) ∧ Bx b (n + 60 + 3 * i) H') ?_ ?_ ?_ ?_⟩
        · refine ⟨_, _, _, _, _, [], [], rfl, hL56, .nil, Nat.zero_le _, True.intro, Int.le_refl 0, ?_, fun c o _ _ h => h, B6.mono (by omega)⟩
          show (0 : Int) ≤ _
          omega
        · intros; trivial
        · rintro i x σ H' H'' hi ⟨v7, v8, v9, v10, v11, lo, xs, rfl, e1, e2, e3, e4, e5, e6, e7, B'⟩ ⟨rfl, rfl⟩
          have lx : xs.length = lo.length := by rw [dpAll_len e2, List.length_map]
          refine ⟨_, rfl, _, _, rfl, rfl, _, rfl, _, _, rfl, rfl, _, rfl, ite2 (fun c => ?_) (fun c => ?_)⟩
          · have c' : lastL 0 lo + 2 < (m : Int) := of_decide_eq_true c
            generalize hlow : lastL 0 lo = low at e5 e6 c' ⊢
            refine ⟨_, rfl, _, rfl, _, rfl, _, _, rfl, rfl, _, rfl, _, _, rfl, rfl, b, (m : Int) - 2 - low, _, rfl, B', by omega, by omega, dec9000 (by omega) (by omega), fun r1 H7 r10 r11 off7 B7 => ⟨_, _, rfl, rfl, ?_⟩⟩
            refine ⟨_, rfl, _, _, rfl, rfl, _, rfl, _, rfl, _, _, rfl, rfl, _, rfl, _, _, rfl, rfl, b, (m : Int) - 2 - (low + r1), _, rfl, B7, by omega, by omega, dec9000 (by omega) (by omega), fun r2 H8 r20 r21 off8 B8 => ⟨_, _, rfl, rfl, ?_⟩⟩
            have e18 : H8 L5 = some (.lst xs) := by rw [off8 L5 nL5b, off7 L5 nL5b]; exact e1
            refine ⟨_, rfl, .inl ⟨rfl, _, SqL.of e18⟩, _, rfl, _, rfl, _, rfl, b, 2, _, rfl, B8, by omega, by decide, by decide, fun h H9 h0 h1 off9 B9 => ⟨(by show 3 ≤ sizeLine; decide), fun p hp => ?_⟩⟩
            have e19 : H9 L5 = some (.lst xs) := by rw [off9 L5 nL5b]; exact e18
            have npL : L5 ≠ p := ne_of_none e19 hp
            have npb : p ≠ b := B9.fresh hp
            have k9 : KB b _ H9 := ((KB.off off7).trans (KB.off off8)).trans (KB.off off9)
            have np0 : H p = none := by
              cases e : H p with
              | none => rfl
              | some o =>
                have z5 := k05 _ _ npb e
                have z9 := k9 _ _ npb (e7 _ _ (nhL5 _ _ z5) npb (kA6 _ _ npb z5))
                rw [z9] at hp
                cases hp
            have eN := (hide_mono (D := L5) (nw_mono hbn (k9.trans (KB.alloc (o := .tup [.int (low + r1), .int (low + r1 + 2 + r2), .int h]) hp)))).trans (nw_put (o := .lst (xs ++ [.ref p])))
            refine ⟨L5, xs, .ref p, rfl, rfl, by rw [upd_ne npL]; exact e19, by rw [lx]; exact lt_line _ (by omega), ?_⟩
            refine ⟨_, rfl, some (.int (0 + (i : Nat))), some (.int (low + r1)), some (.int (low + r1 + 2 + r2)), v10, v11, lo ++ [(low + r1, low + r1 + 2 + r2, h)], xs ++ [.ref p], ?_, upd_same, ?_, ?_, ?_, ?_, ?_, ?_, ?_⟩
            · rw [lastL_snoc]
              rfl
            · rw [List.map_append]
              exact dpAll_app (dpAll_nt eN e2) (.cons (.tup (nw_put.seqT (nw_new npL.symm np0)) (.cons (.int _) (.cons (.int _) (.cons (.int _) .nil)))) .nil)
            · rw [List.length_append]
              exact Nat.succ_le_succ e3
            · refine longsOk_snoc e4 (by rw [hlow]; omega) (by omega) (by omega) h0 (by omega)
            · rw [lastL_snoc]
              show 0 ≤ low + r1 + 2 + r2
              omega
            · rw [lastL_snoc]
              show low + r1 + 2 + r2 ≤ _
              omega
            · intro c o nc nb e
              rw [upd_ne nc]
              have z := k9 _ _ nb (e7 c o nc nb e)
              rw [upd_ne (ne_of_none z hp)]
              exact z
            · exact ((B9.alloc hp).put nL5b).mono (by push_cast; omega)
          · exact ⟨_, _, _, _, _, lo, xs, rfl, e1, e2, Nat.le_succ_of_le e3, e4, e5, e6, e7, B'.mono (by push_cast; omega)⟩
        · rintro σ H7 ⟨v7, v8, v9, v10, v11, lo, xsL, rfl, g1, g2, g3, g4, g5, g6, g7, B7⟩
          have k57 : KB b H5 H7 := fun c o nc h => g7 c o (nhL5 c o h) nc (kA6 c o nc h)
          have dpL := dpAll_nt (hide_nt L5 _) g2
          have dpP7 := dpAll_nt (nw_mono hbn k57) dpP5
          have dpS7 := dpAll_nt (nw_mono hbn k57) dpS
          have e37 := k57 _ _ nDb e35
          have f37 := k57 _ _ nD2b f3
          have hLa7 := k57 _ _ nLb hLa5
          refine ⟨_, rfl, _, rfl, _, rfl, _, rfl, _, rfl, La, _, _, .str sp, rfl, rfl, SqL.of hLa7, last_at (by rw [List.map_append]; simp), (by show 4 ≤ sizeLine; decide), fun R hR => ?_⟩
          have eR := nw_mono hbn (KB.alloc (b := b) (o := .lst [.ref D, .ref D2, .ref L5, .str sp]) hR)
          have nR0 : H R = none := fresh0 (k05.trans k57) (B7.fresh hR) hR
          refine k ⟨ps, st, lo, sp⟩ _ _ ?_ ((k05.trans k57).trans (KB.alloc hR)) (.lst (SqL.of (by rw [nw_none nR0]; exact upd_same)) (.cons (.lst (eR.seq (SqL.of (by rw [nw_none nD0]; exact e37))) (dpAll_nt eR dpP7)) (.cons (.lst (eR.seq (SqL.of (by rw [nw_none nD20]; exact f37))) (dpAll_nt eR dpS7)) (.cons (.lst (eR.seq (SqL.of (by rw [nw_none nL50]; exact g1))) (dpAll_nt eR dpL)) (.cons (.str _) .nil))))) ((B7.alloc hR).mono (by omega))
          refine ⟨?_, ?_, ?_, ?_, ?_, f2, ?_, ?_, hns.ok sp (by simp), ?_⟩
          · show 2 ≤ ps.length
            omega
          · show ps.length ≤ 6
            omega
          · intro p hp
            refine ⟨hns.ok p.1 (List.mem_append_left _ ?_), e2 p hp⟩
            rw [← e1]
            exact List.mem_map.mpr ⟨p, hp, rfl⟩
          · show (ps.map (·.1)).Nodup
            rw [e1]
            exact hnd.1
          · show st.length + 1 = ps.length
            omega
          · show lo.length ≤ 2
            omega
          · show longsOk ((ps.length - 1 : Nat) : Int) 0 lo
            rw [lps]
            exact g4
          · show sp ∉ ps.map (·.1)
            rw [e1]
            exact hsp
end
end K5

set_option maxRecDepth 100000
set_option maxHeartbeats 400000
namespace K5
open PySem PySem.Spec PyProof.Rows L2 GxR Gd TL My
theorem lf_places (p1 p2 p3 d : Addr) : (lf p1 p2 p3 d).lookup (Str.ofString "_places") = some (V.ref p1) := by rw [lf_get, if_neg (by decide +kernel), if_neg (by decide +kernel), if_neg (by decide +kernel), if_pos rfl]
theorem lf_stretches (p1 p2 p3 d : Addr) : (lf p1 p2 p3 d).lookup (Str.ofString "_stretches") = some (V.ref p2) := by rw [lf_get, if_neg (by decide +kernel), if_neg (by decide +kernel), if_pos rfl]
theorem pair_at {K : PySem.W.Frag} {H : Hp} {xs : List V} {ps : List (Str × Int)} (h : DpAll K H xs (ps.map dP)) {i : Nat} {p : Str × Int} (e : ps[i]? = some p) : ∃ t, xs[i]? = some (.ref t) ∧ SqT K H t [.str p.1, .int p.2] := by
  obtain ⟨x, h1, h2⟩ := dpAll_at h (i := i) (d := dP p) (by rw [List.getElem?_map, e]; rfl)
  obtain ⟨t, y1, y2, rfl, ht, q1, q2⟩ := dp_two h2
  obtain rfl := dp_str q1
  obtain rfl := dp_int q2
  exact ⟨t, h1, ht⟩
theorem long_at {K : PySem.W.Frag} {H : Hp} {xs : List V} {lo : List (Int × Int × Int)} (h : DpAll K H xs (lo.map dL)) {i : Nat} {p : Int × Int × Int} (e : lo[i]? = some p) : ∃ t, xs[i]? = some (.ref t) ∧ SqT K H t [.int p.1, .int p.2.1, .int p.2.2] := by
  obtain ⟨x, h1, h2⟩ := dpAll_at h (i := i) (d := dL p) (by rw [List.getElem?_map, e]; rfl)
  obtain ⟨t, y1, y2, y3, rfl, ht, q1, q2, q3⟩ := dp_three h2
  obtain rfl := dp_int q1
  obtain rfl := dp_int q2
  obtain rfl := dp_int q3
  exact ⟨t, h1, ht⟩
section
variable {P : Program} {w : World} {K : PySem.W.Frag} {mg : Str → Option Value} {base : Heap}
abbrev s_check_stretch : Stmt := inClass (top 24) 8
theorem sc_check_stretch : FnScope ["self", "k"] ["self", "k"] (defScope s_check_stretch) := ⟨rfl, rfl, rfl, by decide +kernel, rfl, by decide +kernel, by decide +kernel⟩
abbrev s_kind : Stmt := inClass (top 24) 6
theorem sc_kind : FnScope ["self", "k"] ["self", "k"] (defScope s_kind) := ⟨rfl, rfl, rfl, by decide +kernel, rfl, by decide +kernel, by decide +kernel⟩
abbrev s_ends : Stmt := inClass (top 24) 5
theorem sc_ends : FnScope ["self", "k"] ["self", "k"] (defScope s_ends) := ⟨rfl, rfl, rfl, by decide +kernel, rfl, by decide +kernel, by decide +kernel⟩
abbrev s_roads : Stmt := inClass (top 24) 2
theorem sc_roads : FnScope ["self", "name"] ["self", "name"] (defScope s_roads) := ⟨rfl, rfl, rfl, by decide +kernel, rfl, by decide +kernel, by decide +kernel⟩
def spCheckStretch (K : PySem.W.Frag) (C : Addr) : Sp := fun vs H Q _ => ∃ (x : Addr) (wd : Wd) (i : Nat), vs = [.ref x, .int (i : Nat)] ∧ LineAt K C wd H x ∧ i < wd.st.length ∧ Q .non H
theorem ok_check_stretch {f fW C : Addr} {fd fdW : FuncData} (F : Fun K "_check_stretch" "Line._check_stretch" s_check_stretch f fd) (T : Txt mg) (TC : ClsT K C)
    (Nis_whole : Fn K mg "is_whole" sWhole ["thing", "low", "high"] fW fdW) (Gis_whole : FnOk P w K mg base CX0 1 fW fdW ["thing", "low", "high"] spWhole) : FnOk P w K mg base CX0 2 f fd ["self", "k"] (spCheckStretch K C) := by
  refine F.ok sc_check_stretch (fun vs H Q E h => ?_) (fun cdv A outer s H vs Q E hr h => ?_)
  · obtain ⟨x, wd, i, rfl, _⟩ := h
    rfl
  · obtain ⟨x, wd, i, rfl, ⟨dx, p1, p2, p3, d, xs1, xs2, xs3, hx, hp1, hd1, hp2, hd2, hp3, hd3, hN⟩, hi, k⟩ := h
    have l2 : xs2.length = wd.st.length := by rw [dpAll_len hd2, List.length_map]
    refine ⟨_, pss_one (ps_if (pt_not (pt_val (pe_call Gis_whole (hr.mono (by decide)) (by rfl) Nis_whole.g Nis_whole.kp Nis_whole.b .nil pass0 (pa_cons (pv 1) (pa_cons pe_int (pa_cons (pe_op op_sub (pe_callB call_len_seq (by rfl) T.len_ PySem.boot_len (pa_cons (pe_fld (pv 0) rfl) pa_nil)) pe_int) pa_nil)))))) (pss_one ps_never) pss_nil), ?_⟩
    refine ⟨_, rfl, _, rfl, x, C, dx, _, _, rfl, hx, TC.cl, TC.n2, lf_stretches _ _ _ _, p2, xs2, rfl, .inr hp2, _, _, rfl, rfl, .int (i : Nat), 0, (xs2.length : Int) - 1, rfl, .int _, ?_⟩
    rw [show wh 0 ((xs2.length : Int) - 1) (.int (i : Nat)) = true by simp [wh]; omega]
    exact ⟨_, rfl, iteF k⟩
def spKind (K : PySem.W.Frag) (C : Addr) : Sp := fun vs H Q _ => ∃ (x : Addr) (wd : Wd) (i : Nat) (p : Str × Int), vs = [.ref x, .int (i : Nat)] ∧ LineAt K C wd H x ∧ wd.st[i]? = some p ∧ Q (.str p.1) H
theorem ok_kind {f fC C : Addr} {fd fdC : FuncData} (F : Fun K "kind" "Line.kind" s_kind f fd) (T : Txt mg) (TC : ClsT K C)
    (Mcheck_stretch : Mt K C "_check_stretch" "Line._check_stretch" s_check_stretch ["self", "k"] fC fdC) (Gcheck_stretch : FnOk P w K mg base CX0 2 fC fdC ["self", "k"] (spCheckStretch K C)) : FnOk P w K mg base CX0 3 f fd ["self", "k"] (spKind K C) := by
  refine F.ok sc_kind (fun vs H Q E h => ?_) (fun cdv A outer s H vs Q E hr h => ?_)
  · obtain ⟨x, wd, i, p, rfl, _⟩ := h
    rfl
  · obtain ⟨x, wd, i, p, rfl, hL, hi, k⟩ := h
    obtain ⟨dx, p1, p2, p3, d, xs1, xs2, xs3, hx, hp1, hd1, hp2, hd2, hp3, hd3, hN⟩ := id hL
    obtain ⟨t, a1, a2⟩ := pair_at hd2 hi
    refine ⟨_, pss_cons (ps_expr (pe_meth (pv 0) TC.cl Mcheck_stretch.m Gcheck_stretch (hr.mono (by decide)) Mcheck_stretch.b .nil pass0 (pa_cons (pv 1) pa_nil)))
      (pss_one (ps_ret (pe_ix ix_tup (pe_ix ix_tup (pe_fld (pv 0) rfl) (pv 1) (fun _ _ => rfl)) pe_int (fun _ _ => rfl)))), ?_⟩
    refine ⟨_, rfl, x, dx, _, rfl, hx, lf_no _ _ _ _ (by decide +kernel), _, rfl, x, wd, i, rfl, hL, (List.getElem?_eq_some_iff.mp hi).1, ?_⟩
    exact ⟨_, rfl, x, C, dx, _, _, rfl, hx, TC.cl, TC.n2, lf_stretches _ _ _ _, _, rfl, p2, xs2, _, .ref t, rfl, rfl, hp2, atI_nat a1, t, _, 0, _, rfl, rfl, a2, rfl, k⟩
def spEnds (K : PySem.W.Frag) (C : Addr) : Sp := fun vs H Q _ => ∃ (x : Addr) (wd : Wd) (i : Nat) (p q : Str × Int), vs = [.ref x, .int (i : Nat)] ∧ LineAt K C wd H x ∧ i < wd.st.length ∧ wd.ps[i]? = some p ∧ wd.ps[i + 1]? = some q ∧
  ∀ t H', Same H H' → H' t = some (.tup [.str p.1, .str q.1]) → Q (.ref t) H'
theorem ok_ends {f fC C : Addr} {fd fdC : FuncData} (F : Fun K "ends" "Line.ends" s_ends f fd) (T : Txt mg) (TC : ClsT K C)
    (Mcheck_stretch : Mt K C "_check_stretch" "Line._check_stretch" s_check_stretch ["self", "k"] fC fdC) (Gcheck_stretch : FnOk P w K mg base CX0 2 fC fdC ["self", "k"] (spCheckStretch K C)) : FnOk P w K mg base CX0 3 f fd ["self", "k"] (spEnds K C) := by
  refine F.ok sc_ends (fun vs H Q E h => ?_) (fun cdv A outer s H vs Q E hr h => ?_)
  · obtain ⟨x, wd, i, p, q, rfl, _⟩ := h
    rfl
  · obtain ⟨x, wd, i, p, q, rfl, hL, hi, ep, eq, k⟩ := h
    obtain ⟨dx, p1, p2, p3, d, xs1, xs2, xs3, hx, hp1, hd1, hp2, hd2, hp3, hd3, hN⟩ := id hL
    obtain ⟨t, a1, a2⟩ := pair_at hd1 ep
    obtain ⟨u, c1, c2⟩ := pair_at hd1 eq
    refine ⟨_, pss_cons (ps_expr (pe_meth (pv 0) TC.cl Mcheck_stretch.m Gcheck_stretch (hr.mono (by decide)) Mcheck_stretch.b .nil pass0 (pa_cons (pv 1) pa_nil)))
      (pss_one (ps_ret (pe_tup (pa_cons (pe_ix ix_tup (pe_ix ix_tup (pe_fld (pv 0) rfl) (pv 1) (fun _ _ => rfl)) pe_int (fun _ _ => rfl)) (pa_cons (pe_ix ix_tup (pe_ix ix_tup (pe_fld (pv 0) rfl) (pe_op op_add (pv 1) pe_int) (fun _ _ => rfl)) pe_int (fun _ _ => rfl)) pa_nil))))), ?_⟩
    refine ⟨_, rfl, x, dx, _, rfl, hx, lf_no _ _ _ _ (by decide +kernel), _, rfl, x, wd, i, rfl, hL, hi, ?_⟩
    refine ⟨_, rfl, x, C, dx, _, _, rfl, hx, TC.cl, TC.n1, lf_places _ _ _ _, _, rfl, p1, xs1, _, .ref t, rfl, rfl, hp1, atI_nat a1, t, _, 0, _, rfl, rfl, a2, rfl, ?_⟩
    refine ⟨_, rfl, x, C, dx, _, _, rfl, hx, TC.cl, TC.n1, lf_places _ _ _ _, _, rfl, _, _, rfl, rfl, p1, xs1, ((i + 1 : Nat) : Int), .ref u, rfl, (by show V.int ((i : Int) + 1) = _; rw [show ((i : Int) + 1) = ((i + 1 : Nat) : Int) by omega]), hp1, atI_nat c1, u, _, 0, _, rfl, rfl, c2, rfl, ?_⟩
    exact ⟨(by show 2 ≤ sizeLine; decide), fun z hz => k z _ (same_alloc hz) upd_same⟩
def spRoads (K : PySem.W.Frag) (C : Addr) : Sp := fun vs H Q _ => ∃ (x : Addr) (wd : Wd) (z : Str) (i : Nat) (p : Str × Int), vs = [.ref x, .str z] ∧ LineAt K C wd H x ∧ posOf wd.ps z = some i ∧ wd.ps[i]? = some p ∧ Q (.int p.2) H
theorem ok_roads {f fN C : Addr} {fd fdN : FuncData} (F : Fun K "roads" "Line.roads" s_roads f fd) (T : Txt mg) (TC : ClsT K C)
    (Mnumber_of : Mt K C "number_of" "Line.number_of" s_number_of ["self", "name"] fN fdN) (Gnumber_of : FnOk P w K mg base CX0 1 fN fdN ["self", "name"] (spNum K C)) : FnOk P w K mg base CX0 2 f fd ["self", "name"] (spRoads K C) := by
  refine F.ok sc_roads (fun vs H Q E h => ?_) (fun cdv A outer s H vs Q E hr h => ?_)
  · obtain ⟨x, wd, z, i, p, rfl, _⟩ := h
    rfl
  · obtain ⟨x, wd, z, i, p, rfl, hL, hz, ep, k⟩ := h
    obtain ⟨dx, p1, p2, p3, d, xs1, xs2, xs3, hx, hp1, hd1, hp2, hd2, hp3, hd3, hN⟩ := id hL
    obtain ⟨t, a1, a2⟩ := pair_at hd1 ep
    refine ⟨_, pss_one (ps_ret (pe_ix ix_tup (pe_ix ix_tup (pe_fld (pv 0) rfl) (pe_meth (pv 0) TC.cl Mnumber_of.m Gnumber_of (hr.mono (by decide)) Mnumber_of.b .nil pass0 (pa_cons (pv 1) pa_nil)) (fun _ _ => rfl)) pe_int (fun _ _ => rfl))), ?_⟩
    refine ⟨_, rfl, x, C, dx, _, _, rfl, hx, TC.cl, TC.n1, lf_places _ _ _ _, _, rfl, x, dx, _, rfl, hx, lf_no _ _ _ _ (by decide +kernel), _, rfl, x, z, wd, i, rfl, hL, hz, ?_⟩
    exact ⟨p1, xs1, _, .ref t, rfl, rfl, hp1, atI_nat a1, t, _, 1, _, rfl, rfl, a2, rfl, k⟩
end
end K5

set_option maxRecDepth 100000
set_option maxHeartbeats 400000
namespace K5
open PySem PySem.Spec PyProof.Rows L2 GxR Gd TL My
section
variable {P : Program} {w : World} {K : PySem.W.Frag} {mg : Str → Option Value} {base : Heap}
abbrev s_home : Stmt := inClass (top 24) 7
theorem sc_home : FnScope ["self", "k"] ["self", "k"] (defScope s_home) := ⟨rfl, rfl, rfl, by decide +kernel, rfl, by decide +kernel, by decide +kernel⟩
abbrev s_long : Stmt := inClass (top 24) 14
theorem sc_long : FnScope ["self", "j"] ["self", "j"] (defScope s_long) := ⟨rfl, rfl, rfl, by decide +kernel, rfl, by decide +kernel, by decide +kernel⟩
abbrev s_long_ends : Stmt := inClass (top 24) 11
theorem sc_long_ends : FnScope ["self", "j", "first", "last", "_"] ["self", "j"] (defScope s_long_ends) := ⟨rfl, rfl, rfl, by decide +kernel, rfl, by decide +kernel, by decide +kernel⟩
abbrev s_long_home : Stmt := inClass (top 24) 13
theorem sc_long_home : FnScope ["self", "j"] ["self", "j"] (defScope s_long_home) := ⟨rfl, rfl, rfl, by decide +kernel, rfl, by decide +kernel, by decide +kernel⟩
abbrev s_long_stretches : Stmt := inClass (top 24) 12
theorem sc_long_stretches : FnScope ["self", "j", "first", "last", "_"] ["self", "j"] (defScope s_long_stretches) := ⟨rfl, rfl, rfl, by decide +kernel, rfl, by decide +kernel, by decide +kernel⟩
abbrev s_told : Stmt := inClass (top 24) 17
theorem sc_told : FnScope ["self"] ["self"] (defScope s_told) := ⟨rfl, rfl, rfl, by decide +kernel, rfl, by decide +kernel, by decide +kernel⟩
def pick (h : Int) (a b : Str) : Str := if h = 0 then a else b
theorem pick_at {h : Int} (h0 : 0 ≤ h) (h1 : h ≤ 1) (a b : Str) : atI [V.str a, V.str b] h = some (.str (pick h a b)) := by
  rcases (by omega : h = 0 ∨ h = 1) with rfl | rfl <;> rfl
def spHome (K : PySem.W.Frag) (C : Addr) : Sp := fun vs H Q _ => ∃ (x : Addr) (wd : Wd) (i : Nat) (r p q : Str × Int), vs = [.ref x, .int (i : Nat)] ∧ LineAt K C wd H x ∧ wd.st[i]? = some r ∧ 0 ≤ r.2 ∧ r.2 ≤ 1 ∧ wd.ps[i]? = some p ∧ wd.ps[i + 1]? = some q ∧
  ∀ H', Same H H' → Q (.str (pick r.2 p.1 q.1)) H'
theorem ok_home {f fE C : Addr} {fd fdE : FuncData} (F : Fun K "home" "Line.home" s_home f fd) (T : Txt mg) (TC : ClsT K C)
    (Mends : Mt K C "ends" "Line.ends" s_ends ["self", "k"] fE fdE) (Gends : FnOk P w K mg base CX0 3 fE fdE ["self", "k"] (spEnds K C)) : FnOk P w K mg base CX0 4 f fd ["self", "k"] (spHome K C) := by
  refine F.ok sc_home (fun vs H Q E h => ?_) (fun cdv A outer s H vs Q E hr h => ?_)
  · obtain ⟨x, wd, i, r, p, q, rfl, _⟩ := h
    rfl
  · obtain ⟨x, wd, i, r, p, q, rfl, hL, hi, r0, r1, ep, eq, k⟩ := h
    obtain ⟨dx, p1, p2, p3, d, xs1, xs2, xs3, hx, hp1, hd1, hp2, hd2, hp3, hd3, hN⟩ := id hL
    obtain ⟨t, a1, a2⟩ := pair_at hd2 hi
    refine ⟨_, pss_one (ps_ret (pe_ix ix_tup (pe_meth (pv 0) TC.cl Mends.m Gends (hr.mono (by decide)) Mends.b .nil pass0 (pa_cons (pv 1) pa_nil)) (pe_ix ix_tup (pe_ix ix_tup (pe_fld (pv 0) rfl) (pv 1) (fun _ _ => rfl)) pe_int (fun _ _ => rfl)) (fun _ _ => rfl))), ?_⟩
    refine ⟨_, rfl, x, dx, _, rfl, hx, lf_no _ _ _ _ (by decide +kernel), _, rfl, x, wd, i, p, q, rfl, hL, (List.getElem?_eq_some_iff.mp hi).1, ep, eq, fun u H' s hu => ?_⟩
    exact ⟨_, rfl, x, C, dx, _, _, rfl, s _ _ hx, TC.cl, TC.n2, lf_stretches _ _ _ _, _, rfl, p2, xs2, _, .ref t, rfl, rfl, (same_nt s).seqT hp2, atI_nat a1, t, _, 1, _, rfl, rfl, (same_nt s).seqT a2, rfl, u, _, r.2, _, rfl, rfl, SqT.of hu, pick_at r0 r1 _ _, k _ s⟩
def spLongJ (K : PySem.W.Frag) (C : Addr) : Sp := fun vs H Q _ => ∃ (x : Addr) (wd : Wd) (j : Nat) (l : Int × Int × Int), vs = [.ref x, .int (j : Nat)] ∧ LineAt K C wd H x ∧ wd.lo[j]? = some l ∧ ∀ t, SqT K H t [.int l.1, .int l.2.1, .int l.2.2] → Q (.ref t) H
theorem ok_long {f fW C : Addr} {fd fdW : FuncData} (F : Fun K "_long" "Line._long" s_long f fd) (T : Txt mg) (TC : ClsT K C)
    (Nis_whole : Fn K mg "is_whole" sWhole ["thing", "low", "high"] fW fdW) (Gis_whole : FnOk P w K mg base CX0 1 fW fdW ["thing", "low", "high"] spWhole) : FnOk P w K mg base CX0 2 f fd ["self", "j"] (spLongJ K C) := by
  refine F.ok sc_long (fun vs H Q E h => ?_) (fun cdv A outer s H vs Q E hr h => ?_)
  · obtain ⟨x, wd, j, l, rfl, _⟩ := h
    rfl
  · obtain ⟨x, wd, j, l, rfl, ⟨dx, p1, p2, p3, d, xs1, xs2, xs3, hx, hp1, hd1, hp2, hd2, hp3, hd3, hN⟩, hj, k⟩ := h
    have l3 : xs3.length = wd.lo.length := by rw [dpAll_len hd3, List.length_map]
    have hj' := (List.getElem?_eq_some_iff.mp hj).1
    obtain ⟨t, a1, a2⟩ := long_at hd3 hj
    refine ⟨_, pss_cons (ps_if (pt_not (pt_val (pe_call Gis_whole (hr.mono (by decide)) (by rfl) Nis_whole.g Nis_whole.kp Nis_whole.b .nil pass0 (pa_cons (pv 1) (pa_cons pe_int (pa_cons (pe_op op_sub (pe_callB call_len_seq (by rfl) T.len_ PySem.boot_len (pa_cons (pe_fld (pv 0) rfl) pa_nil)) pe_int) pa_nil)))))) (pss_one ps_never) pss_nil)
      (pss_one (ps_ret (pe_ix ix_tup (pe_fld (pv 0) rfl) (pv 1) (fun _ _ => rfl)))), ?_⟩
    refine ⟨_, rfl, _, rfl, x, C, dx, _, _, rfl, hx, TC.cl, TC.n3, lf_longs _ _ _ _, p3, xs3, rfl, .inr hp3, _, _, rfl, rfl, .int (j : Nat), 0, (xs3.length : Int) - 1, rfl, .int _, ?_⟩
    rw [show wh 0 ((xs3.length : Int) - 1) (.int (j : Nat)) = true by simp [wh]; omega]
    exact ⟨_, rfl, iteF ⟨_, rfl, x, C, dx, _, _, rfl, hx, TC.cl, TC.n3, lf_longs _ _ _ _, _, rfl, p3, xs3, _, .ref t, rfl, rfl, hp3, atI_nat a1, k t a2⟩⟩
def spLongEnds (K : PySem.W.Frag) (C : Addr) : Sp := fun vs H Q _ => ∃ (x : Addr) (wd : Wd) (j a c : Nat) (h : Int) (p q : Str × Int), vs = [.ref x, .int (j : Nat)] ∧ LineAt K C wd H x ∧ wd.lo[j]? = some ((a : Int), (c : Int), h) ∧ wd.ps[a]? = some p ∧ wd.ps[c]? = some q ∧
  ∀ t H', Same H H' → H' t = some (.tup [.str p.1, .str q.1]) → Q (.ref t) H'
theorem ok_long_ends {f fL C : Addr} {fd fdL : FuncData} (F : Fun K "long_ends" "Line.long_ends" s_long_ends f fd) (T : Txt mg) (TC : ClsT K C)
    (Mlong : Mt K C "_long" "Line._long" s_long ["self", "j"] fL fdL) (Glong : FnOk P w K mg base CX0 2 fL fdL ["self", "j"] (spLongJ K C)) : FnOk P w K mg base CX0 3 f fd ["self", "j"] (spLongEnds K C) := by
  refine F.ok sc_long_ends (fun vs H Q E h => ?_) (fun cdv A outer s H vs Q E hr h => ?_)
  · obtain ⟨x, wd, j, a, c, h, p, q, rfl, _⟩ := h
    rfl
  · obtain ⟨x, wd, j, a, c, h, p, q, rfl, hL, hj, ep, eq, k⟩ := h
    obtain ⟨dx, p1, p2, p3, d, xs1, xs2, xs3, hx, hp1, hd1, hp2, hd2, hp3, hd3, hN⟩ := id hL
    obtain ⟨t, a1, a2⟩ := pair_at hd1 ep
    obtain ⟨u, c1, c2⟩ := pair_at hd1 eq
    refine ⟨_, pss_cons (ps_asg (pe_meth (pv 0) TC.cl Mlong.m Glong (hr.mono (by decide)) Mlong.b .nil pass0 (pa_cons (pv 1) pa_nil)) (pg_tup (by rfl) (pgs_cons (pg_name (i := 2) sc_long_ends.nd rfl (Or.inl rfl)) (pgs_cons (pg_name (i := 3) sc_long_ends.nd rfl (Or.inl rfl)) (pgs_cons (pg_name (i := 4) sc_long_ends.nd rfl (Or.inl rfl)) pgs_nil)))))
      (pss_one (ps_ret (pe_tup (pa_cons (pe_ix ix_tup (pe_ix ix_tup (pe_fld (pv 0) rfl) (pv 2) (fun _ _ => rfl)) pe_int (fun _ _ => rfl)) (pa_cons (pe_ix ix_tup (pe_ix ix_tup (pe_fld (pv 0) rfl) (pv 3) (fun _ _ => rfl)) pe_int (fun _ _ => rfl)) pa_nil))))), ?_⟩
    refine ⟨_, rfl, x, dx, _, rfl, hx, lf_no _ _ _ _ (by decide +kernel), _, rfl, x, wd, j, _, rfl, hL, hj, fun tl ht => ?_⟩
    refine ⟨tl, _, rfl, ht, rfl, _, _, rfl, _, _, rfl, _, _, rfl, rfl, ?_⟩
    refine ⟨_, rfl, x, C, dx, _, _, rfl, hx, TC.cl, TC.n1, lf_places _ _ _ _, _, rfl, p1, xs1, _, .ref t, rfl, rfl, hp1, atI_nat a1, t, _, 0, _, rfl, rfl, a2, rfl, ?_⟩
    refine ⟨_, rfl, x, C, dx, _, _, rfl, hx, TC.cl, TC.n1, lf_places _ _ _ _, _, rfl, p1, xs1, _, .ref u, rfl, rfl, hp1, atI_nat c1, u, _, 0, _, rfl, rfl, c2, rfl, ?_⟩
    exact ⟨(by show 2 ≤ sizeLine; decide), fun z hz => k z _ (same_alloc hz) upd_same⟩
def spLongHome (K : PySem.W.Frag) (C : Addr) : Sp := fun vs H Q _ => ∃ (x : Addr) (wd : Wd) (j a c : Nat) (h : Int) (p q : Str × Int), vs = [.ref x, .int (j : Nat)] ∧ LineAt K C wd H x ∧ wd.lo[j]? = some ((a : Int), (c : Int), h) ∧ 0 ≤ h ∧ h ≤ 1 ∧ wd.ps[a]? = some p ∧ wd.ps[c]? = some q ∧
  ∀ H', Same H H' → Q (.str (pick h p.1 q.1)) H'
theorem ok_long_home {f fE C : Addr} {fd fdE : FuncData} (F : Fun K "long_home" "Line.long_home" s_long_home f fd) (T : Txt mg) (TC : ClsT K C)
    (Mlong_ends : Mt K C "long_ends" "Line.long_ends" s_long_ends ["self", "j"] fE fdE) (Glong_ends : FnOk P w K mg base CX0 3 fE fdE ["self", "j"] (spLongEnds K C)) : FnOk P w K mg base CX0 4 f fd ["self", "j"] (spLongHome K C) := by
  refine F.ok sc_long_home (fun vs H Q E h => ?_) (fun cdv A outer s H vs Q E hr h => ?_)
  · obtain ⟨x, wd, j, a, c, h, p, q, rfl, _⟩ := h
    rfl
  · obtain ⟨x, wd, j, a, c, h, p, q, rfl, hL, hj, h0, h1, ep, eq, k⟩ := h
    obtain ⟨dx, p1, p2, p3, d, xs1, xs2, xs3, hx, hp1, hd1, hp2, hd2, hp3, hd3, hN⟩ := id hL
    obtain ⟨t, a1, a2⟩ := long_at hd3 hj
    refine ⟨_, pss_one (ps_ret (pe_ix ix_tup (pe_meth (pv 0) TC.cl Mlong_ends.m Glong_ends (hr.mono (by decide)) Mlong_ends.b .nil pass0 (pa_cons (pv 1) pa_nil)) (pe_ix ix_tup (pe_ix ix_tup (pe_fld (pv 0) rfl) (pv 1) (fun _ _ => rfl)) pe_int (fun _ _ => rfl)) (fun _ _ => rfl))), ?_⟩
    refine ⟨_, rfl, x, dx, _, rfl, hx, lf_no _ _ _ _ (by decide +kernel), _, rfl, x, wd, j, a, c, h, p, q, rfl, hL, hj, ep, eq, fun u H' s hu => ?_⟩
    exact ⟨_, rfl, x, C, dx, _, _, rfl, s _ _ hx, TC.cl, TC.n3, lf_longs _ _ _ _, _, rfl, p3, xs3, _, .ref t, rfl, rfl, (same_nt s).seqT hp3, atI_nat a1, t, _, 2, _, rfl, rfl, (same_nt s).seqT a2, rfl, u, _, h, _, rfl, rfl, SqT.of hu, pick_at h0 h1 _ _, k _ s⟩
def spLongStretches (K : PySem.W.Frag) (C : Addr) : Sp := fun vs H Q _ => ∃ (x : Addr) (wd : Wd) (j : Nat) (l : Int × Int × Int), vs = [.ref x, .int (j : Nat)] ∧ LineAt K C wd H x ∧ wd.lo[j]? = some l ∧ RgOk l.1 l.2.1 ∧ ∀ a, H a = none → Q (.ref a) (upd H a (.lst (rgV l.1 l.2.1)))
theorem ok_long_stretches {f fL C : Addr} {fd fdL : FuncData} (F : Fun K "long_stretches" "Line.long_stretches" s_long_stretches f fd) (T : Txt mg) (TC : ClsT K C)
    (Mlong : Mt K C "_long" "Line._long" s_long ["self", "j"] fL fdL) (Glong : FnOk P w K mg base CX0 2 fL fdL ["self", "j"] (spLongJ K C)) : FnOk P w K mg base CX0 3 f fd ["self", "j"] (spLongStretches K C) := by
  refine F.ok sc_long_stretches (fun vs H Q E h => ?_) (fun cdv A outer s H vs Q E hr h => ?_)
  · obtain ⟨x, wd, j, l, rfl, _⟩ := h
    rfl
  · obtain ⟨x, wd, j, l, rfl, hL, hj, ho, k⟩ := h
    obtain ⟨dx, p1, p2, p3, d, xs1, xs2, xs3, hx, _⟩ := id hL
    refine ⟨_, pss_cons (ps_asg (pe_meth (pv 0) TC.cl Mlong.m Glong (hr.mono (by decide)) Mlong.b .nil pass0 (pa_cons (pv 1) pa_nil)) (pg_tup (by rfl) (pgs_cons (pg_name (i := 2) sc_long_stretches.nd rfl (Or.inl rfl)) (pgs_cons (pg_name (i := 3) sc_long_stretches.nd rfl (Or.inl rfl)) (pgs_cons (pg_name (i := 4) sc_long_stretches.nd rfl (Or.inl rfl)) pgs_nil)))))
      (pss_one (ps_ret (pe_listRg rfl (by rfl) T.list_ (prg_2 (by rfl) T.range_ (pv 2) (pv 3))))), ?_⟩
    refine ⟨_, rfl, x, dx, _, rfl, hx, lf_no _ _ _ _ (by decide +kernel), _, rfl, x, wd, j, l, rfl, hL, hj, fun tl ht => ?_⟩
    exact ⟨tl, _, rfl, ht, rfl, _, _, rfl, _, _, rfl, _, _, rfl, rfl, _, rfl, _, rfl, _, _, rfl, rfl, ho, fun q hq => k q hq⟩
def spTold (K : PySem.W.Frag) (C : Addr) : Sp := fun vs H Q _ => ∃ (x : Addr) (wd : Wd), vs = [.ref x] ∧ LineAt K C wd H x ∧ ∀ t H', Same H H' → Dp K H' (.ref t) (.tuple [.tuple (wd.ps.map dP), .tuple (wd.st.map dP), .tuple (wd.lo.map dL)]) → Q (.ref t) H'
theorem ok_told {f C : Addr} {fd : FuncData} (F : Fun K "told" "Line.told" s_told f fd) (T : Txt mg) (TC : ClsT K C) : FnOk P w K mg base CX0 1 f fd ["self"] (spTold K C) := by
  refine F.ok sc_told (fun vs H Q E h => ?_) (fun cdv A outer s H vs Q E hr h => ?_)
  · obtain ⟨x, wd, rfl, _⟩ := h
    rfl
  · obtain ⟨x, wd, rfl, ⟨dx, p1, p2, p3, d, xs1, xs2, xs3, hx, hp1, hd1, hp2, hd2, hp3, hd3, hN⟩, k⟩ := h
    refine ⟨_, pss_one (ps_ret (pe_tup (pa_cons (pe_fld (pv 0) rfl) (pa_cons (pe_fld (pv 0) rfl) (pa_cons (pe_fld (pv 0) rfl) pa_nil))))), ?_⟩
    refine ⟨_, rfl, x, C, dx, _, _, rfl, hx, TC.cl, TC.n1, lf_places _ _ _ _, _, rfl, x, C, dx, _, _, rfl, hx, TC.cl, TC.n2, lf_stretches _ _ _ _, _, rfl, x, C, dx, _, _, rfl, hx, TC.cl, TC.n3, lf_longs _ _ _ _, (by show 3 ≤ sizeLine; decide), fun t ht => ?_⟩
    have e := same_nt (same_alloc (o := .tup [.ref p1, .ref p2, .ref p3]) ht)
    exact k t _ (same_alloc ht) (.tup (SqT.of upd_same) (.cons (.tup (e.seqT hp1) (dpAll_nt e hd1)) (.cons (.tup (e.seqT hp2) (dpAll_nt e hd2)) (.cons (.tup (e.seqT hp3) (dpAll_nt e hd3)) .nil))))
end
end K5

set_option maxRecDepth 100000
set_option maxHeartbeats 400000
namespace K5
open PySem PySem.Spec PyProof.Rows L2 GxR Gd TL My
/-- the long stretch of whose own ones it is -/
def lof (lo : List (Int × Int × Int)) (k : Int) : V := match lo.findIdx? fun p => decide (p.1 ≤ k) && decide (k < p.2.1) with
  | some j => .int (j : Nat)
  | none => .non
section
variable {P : Program} {w : World} {K : PySem.W.Frag} {mg : Str → Option Value} {base : Heap}
abbrev s_long_of : Stmt := inClass (top 24) 16
theorem sc_long_of : FnScope ["self", "k", "j", "first", "last", "_"] ["self", "k"] (defScope s_long_of) := ⟨rfl, rfl, rfl, by decide +kernel, rfl, by decide +kernel, by decide +kernel⟩
def spLongOf (K : PySem.W.Frag) (C : Addr) : Sp := fun vs H Q _ => ∃ (x : Addr) (wd : Wd) (i : Nat), vs = [.ref x, .int (i : Nat)] ∧ LineAt K C wd H x ∧ i < wd.st.length ∧ ∀ H', Same H H' → Q (lof wd.lo (i : Nat)) H'
theorem ok_long_of {f fC C : Addr} {fd fdC : FuncData} (F : Fun K "long_of" "Line.long_of" s_long_of f fd) (T : Txt mg) (TC : ClsT K C)
    (Mcheck_stretch : Mt K C "_check_stretch" "Line._check_stretch" s_check_stretch ["self", "k"] fC fdC) (Gcheck_stretch : FnOk P w K mg base CX0 2 fC fdC ["self", "k"] (spCheckStretch K C)) : FnOk P w K mg base CX0 3 f fd ["self", "k"] (spLongOf K C) := by
  refine F.ok sc_long_of (fun vs H Q E h => ?_) (fun cdv A outer s H vs Q E hr h => ?_)
  · obtain ⟨x, wd, i, rfl, _⟩ := h
    rfl
  · obtain ⟨x, wd, n, rfl, hL, hi, k⟩ := h
    obtain ⟨dx, p1, p2, p3, d, xs1, xs2, xs3, hx, hp1, hd1, hp2, hd2, hp3, hd3, hN⟩ := id hL
    refine ⟨_, pss_cons (ps_expr (pe_meth (pv 0) TC.cl Mcheck_stretch.m Gcheck_stretch (hr.mono (by decide)) Mcheck_stretch.b .nil pass0 (pa_cons (pv 1) pa_nil)))
      (pss_cons (ps_for PassesOwn.never rfl (pi_enumT (by rfl) T.enumerate_ (pa_cons (pe_fld (pv 0) rfl) pa_nil)) (pg_tup (by rfl) (pgs_cons (pg_name (i := 2) sc_long_of.nd rfl (Or.inl rfl)) (pgs_cons (pg_tup (by rfl) (pgs_cons (pg_name (i := 3) sc_long_of.nd rfl (Or.inl rfl)) (pgs_cons (pg_name (i := 4) sc_long_of.nd rfl (Or.inl rfl)) (pgs_cons (pg_name (i := 5) sc_long_of.nd rfl (Or.inl rfl)) pgs_nil)))) pgs_nil))) (pss_one (ps_if (pt_chain op_le op_lt (pv 3) (pv 1) (pv 4)) (pss_one (ps_ret (pv 2))) pss_nil)))
      (pss_one (ps_ret pe_non))), ?_⟩
    refine ⟨_, rfl, x, dx, _, rfl, hx, lf_no _ _ _ _ (by decide +kernel), _, rfl, x, wd, n, rfl, hL, hi, ?_⟩
    refine ⟨_, rfl, x, C, dx, _, _, rfl, hx, TC.cl, TC.n3, lf_longs _ _ _ _, p3, xs3, rfl, hp3, for_it (walk_enumT (K := K) (xs := xs3)) (fun i σ H' => ∃ v2 v3 v4 v5 : Option V, σ = [some (.ref x), some (.int (n : Nat)), v2, v3, v4, v5] ∧ Same H H' ∧ ∀ (j : Nat) (p : Int × Int × Int), j < i → wd.lo[j]? = some p → ¬ (p.1 ≤ (n : Int) ∧ (n : Int) < p.2.1)) ?_ ?_ ?_ ?_⟩
    · exact ⟨_, _, _, _, rfl, Same.refl _, fun j p h => absurd h (Nat.not_lt_zero j)⟩
    · rintro i' σ H' hi ⟨_, _, _, _, _, s, _⟩
      exact (same_nt s).seqT hp3
    · rintro i' v σ H' H'' hi ⟨_, _, _, _, rfl, s, hn⟩ ⟨T1, X, Y, rfl, hT1, rfl, q1, q2⟩
      obtain rfl := Option.some.inj q1
      obtain ⟨d', hg1, hg2⟩ := dpAll_get hd3 q2
      obtain ⟨p, hp, rfl⟩ := get_map hg1
      obtain ⟨t, x1, x2, x3, rfl, ht, r1, r2, r3⟩ := dp_three hg2
      obtain rfl := dp_int r1
      obtain rfl := dp_int r2
      obtain rfl := dp_int r3
      have s2 := s.trans (same_alloc (o := .tup [.int (i' : Nat), .ref t]) hT1)
      have ht2 := (same_nt s2).seqT ht
      have nx : ¬ (p.1 ≤ (n : Int) ∧ (n : Int) < p.2.1) → ∀ (j : Nat) (p' : Int × Int × Int), j < i' + 1 → wd.lo[j]? = some p' → ¬ (p'.1 ≤ (n : Int) ∧ (n : Int) < p'.2.1) := by
        intro hc j p' hj hp'
        rcases Nat.lt_succ_iff_lt_or_eq.mp hj with h | rfl
        · exact hn j p' h hp'
        · rw [hp] at hp'
          obtain rfl := Option.some.inj hp'
          exact hc
      refine ⟨T1, _, rfl, SqT.of upd_same, rfl, _, _, rfl, _, _, rfl, t, _, rfl, ht2, rfl, _, _, rfl, _, _, rfl, _, _, rfl, rfl, rfl, ?_⟩
      refine ⟨_, rfl, _, rfl, _, _, rfl, rfl, _, rfl, ite2 (fun c => ?_) (fun c => ?_)⟩
      · have c' : p.1 ≤ (n : Int) := of_decide_eq_true c
        refine ⟨_, rfl, _, _, rfl, rfl, _, rfl, ite2 (fun c2 => ?_) (fun c2 => ?_)⟩
        · have c2' : (n : Int) < p.2.1 := of_decide_eq_true c2
          refine ⟨_, rfl, ?_⟩
          have e : lof wd.lo (n : Nat) = .int (i' : Nat) := by
            unfold lof
            have f : wd.lo.findIdx? (fun p => decide (p.1 ≤ ((n : Nat) : Int)) && decide (((n : Nat) : Int) < p.2.1)) = some i' := by
              rw [List.findIdx?_eq_some_iff_getElem]
              obtain ⟨hi1, hi2⟩ := List.getElem?_eq_some_iff.mp hp
              refine ⟨hi1, by rw [hi2]; simp [c', c2'], fun j hj hc => ?_⟩
              refine hn j wd.lo[j] hj (List.getElem?_eq_getElem _) ?_
              simpa using hc
            rw [f]
          have z := k _ s2
          rw [e] at z
          exact z
        · exact ⟨_, _, _, _, rfl, s2, nx (fun h => c2 (decide_eq_true h.2))⟩
      · exact ⟨_, rfl, iteF ⟨_, _, _, _, rfl, s2, nx (fun h => c (decide_eq_true h.1))⟩⟩
    · rintro σ H' ⟨_, _, _, _, rfl, s, hn⟩
      have e : lof wd.lo (n : Nat) = .non := by
        unfold lof
        have f : wd.lo.findIdx? (fun p => decide (p.1 ≤ ((n : Nat) : Int)) && decide (((n : Nat) : Int) < p.2.1)) = none := by
          rw [List.findIdx?_eq_none_iff]
          intro p hp
          obtain ⟨j, hj, e⟩ := List.getElem_of_mem hp
          have z := hn j p (by rw [dpAll_len hd3, List.length_map]; exact hj) (by rw [List.getElem?_eq_getElem hj, e])
          simpa using z
        rw [f]
      have z := k _ s
      rw [e] at z
      exact z
end
end K5

set_option maxRecDepth 100000
set_option maxHeartbeats 1000000
/-! Refusals: a try with clauses, named or not, in any order; a class's def called by the class; isinstance of what was caught. -/
namespace My
open PySem PySem.Spec PyProof.Rows L2 GxR
/-! ### a try with clauses, named or not -/
abbrev Cl := Value × Option Nat × (Addr → Value → Option Addr → TS)
/-- what follows is the same by two ways: I holds there -/
theorem cutR {A : Prop} {G : Hp → Prop} (I : Hp → Prop) (main : (∀ H, I H → G H) → A) (last : ∀ H, I H → G H) : A := main last
def endsOff (i : Nat) (D : Ends) : Ends :=
  { nx := fun τ G => D.nx (τ.set i none) G, rt := D.rt, bk := fun τ G => D.bk (τ.set i none) G, ct := fun τ G => D.ct (τ.set i none) G }
def suiteOf (i : Option Nat) (t : TS) (a : Addr) (D : Ends) (σ : L2.St) (H : Hp) : Prop :=
  match i with
  | none => t D σ H
  | some i => t (endsOff i D) (σ.set i (some (.ref a))) H
/-- what the clauses wish, one behind the other -/
def wCl (K : PySem.W.Frag) (Wout : WX) (D : Ends) : List Cl → WX
  | [] => Wout
  | p :: l => fun cls d σ H => ∃ b, PySem.W.exmOne K cls p.1 = some b ∧
      (b = true → ∀ a, H a = none → suiteOf p.2.1 (p.2.2 a cls d) a D σ H) ∧ (b = false → wCl K Wout D l cls d σ H)
def SuiteOk (X : Cx) (ss : List Stmt) (ts : Addr → Value → Option Addr → TS) : Prop :=
  ∀ (a : Addr) (oe : Obj) (cls : Value) (d : Option Addr) (pn : List (Addr × Obj)), Zc cls d oe → (∃ fv, oe.data = .fields fv) → PSs (X.suite a ((a, oe) :: pn)) ss (ts a cls d)
inductive Clauses (X : Cx) : List ExceptHandler → List Cl → Prop
  | nil : Clauses X [] []
  | plain {x : Str} {c : Value} {ts : Addr → Value → Option Addr → TS} {st : Stmt} {ss : List Stmt} {p q : Pos} {hds : List ExceptHandler} {l : List Cl}
      (hc : Names X x c) (hsu : SuiteOk X (st :: ss) ts) (r : Clauses X hds l) : Clauses X (.ExceptHandler (some (.Name x p)) none (st :: ss) q :: hds) ((c, none, ts) :: l)
  | named {x n : Str} {i : Nat} {c : Value} {ts : Addr → Value → Option Addr → TS} {st : Stmt} {ss : List Stmt} {p q : Pos} {hds : List ExceptHandler} {l : List Cl}
      (hc : Names X x c) (hi : X.N[i]? = some n) (hn : X.env.kindOf n = some .local) (hsu : SuiteOk X (st :: ss) ts) (r : Clauses X hds l) :
      Clauses X (.ExceptHandler (some (.Name x p)) (some n) (st :: ss) q :: hds) ((c, some i, ts) :: l)
/-- an exception in hand -/
structure InHand (X : Cx) (pins : List (Addr × Obj)) (σ : L2.St) (H : Hp) (cls : Value) (d : Option Addr) (a : Addr) (B : Heap) (sI s : Shared) : Prop where
  inv : Inv X pins σ H sI
  grd : ∀ b o, sI.heap.get? b = some o → b ∉ frs X.stack → B.get? b = some o
  up : sI.heap.UpToSlots s.heap
  fly : HandSPX.FlyingZ B (X.env :: X.outer) a (Zc cls d) s.heap
  new : H a = none
  os : s.os = sI.os
  ag : AllBare s.gens
section
variable {X : Cx} {pins : List (Addr × Obj)} {σ : L2.St} {H : Hp} {cls : Value} {d : Option Addr} {a : Addr} {B : Heap} {sI s : Shared}
theorem InHand.now (h : InHand X pins σ H cls d a B sI s) : Inv X pins σ H s := h.inv.landed h.grd h.fly.1 h.up h.os h.ag
theorem InHand.move (h : InHand X pins σ H cls d a B sI s) {g : Heap} (f : HandSPX.FlyingZ B (X.env :: X.outer) a (Zc cls d) g) (u : s.heap.UpToSlots g) :
    InHand X pins σ H cls d a B sI { s with heap := g } := ⟨h.inv, h.grd, h.up.trans u, f, h.new, h.os, h.ag⟩
theorem InHand.seen (h : InHand X pins σ H cls d a B sI s) (hf : X.env.frame = some X.env.locals) :
    ∃ oe fv, s.heap.get? a = some oe ∧ Zc cls d oe ∧ oe.data = .fields fv ∧ a ≠ X.env.locals ∧ a ∉ X.fs := by
  obtain ⟨oe, fv, e1, e2, e3⟩ := h.fly.there
  have off : a ∉ frs (X.env :: X.outer) := by
    intro m
    obtain ⟨_, o2, e4, no⟩ := h.fly.2.2.1.mem m
    rw [e1] at e4
    obtain rfl := Option.some.inj e4
    exact no _ e3
  refine ⟨oe, fv, e1, e2, e3, fun z => off ?_, fun z => off ?_⟩
  · rw [z]
    exact List.mem_filterMap.mpr ⟨X.env, by simp, hf⟩
  · obtain ⟨v, hv, q⟩ := List.mem_filterMap.mp z
    exact List.mem_filterMap.mpr ⟨v, by simp [hv], q⟩
/-- the suite of a clause behind the try's own end -/
theorem InHand.leave (ok : X.Ok) {oe : Obj} {D : Ends} {f : Flow} {s2 : Shared} (h : SP (X.suite a ((a, oe) :: (X.pn ++ pins))) [] D f s2) : SP X pins D f s2 := by
  cases f with
  | ret u => obtain ⟨v, τ, G, J, r, q⟩ := h; exact ⟨v, τ, G, J.unsuite ok, r, q⟩
  | next => obtain ⟨τ, G, J, q⟩ := h; exact ⟨τ, G, J.unsuite ok, q⟩
  | brk => obtain ⟨τ, G, J, q⟩ := h; exact ⟨τ, G, J.unsuite ok, q⟩
  | cont => obtain ⟨τ, G, J, q⟩ := h; exact ⟨τ, G, J.unsuite ok, q⟩
/-- no clause took it -/
theorem InHand.out (hs : X.stack = X.env :: X.outer) (hf : X.env.frame = some X.env.locals) {Wout : WX} (tk : Takes X Wout) (h : InHand X pins σ H cls d a B sI s) (w : Wout cls d σ H) {Q : Flow → Shared → Prop} :
    wpAny (model X.prog X.w) X.A (handleBy (.ref a) X.env []) Q X.xe s := by
  have fly := h.fly
  refine wpAny_handleBy_nil ?_
  obtain ⟨_, _, _, oe, fv, T, _, _, e1, _, e2, e3, _⟩ := id h.fly
  unfold PySem.passOn
  refine wpAny_bind (wpAny_field e1 e2 e3 ?_)
  rw [if_neg (by simp)]
  have last : wpAny (model X.prog X.w) X.A (setFlight (.ref a) X.env.frame) (fun _ z => wpAny (model X.prog X.w) X.A (throw (.ref a) : Sem Flow) Q X.xe z) X.xe s := by
    rw [hf]
    refine HandSPX.setFlight_upZ fly fun g held up => wpAny_throw (tk _ _ ⟨a, B, sI, pins, σ, H, cls, d, rfl, h.inv, h.grd, h.up.trans up, .inr (.inr ?_), h.new, h.os, h.ag, w⟩)
    rw [hs]
    exact held
  first
    | exact wpAny_bind last
    | exact wpAny_bind (wpAny_pure (wpAny_bind last))
/-- the class that a clause names, told -/
theorem InHand.named (h : InHand X pins σ H cls d a B sI s) (hf : X.env.frame = some X.env.locals) {x : Str} {c : Value} {p : Pos} (hc : Names X x c) {Q : Value → Shared → Prop} {E : Value → Shared → Prop} (q : Q c s) :
    wpAny (model X.prog X.w) (X.A.mark (some (.ref a))) (eval (.Name x p) X.env) Q E s := by
  obtain ⟨oe, fv, e1, _, e3, n1, n2⟩ := h.seen hf
  have S := h.now.suite e1 e3 h.new n1 n2
  obtain ⟨hg, hd, hm | ⟨hm, hv, hn⟩⟩ := hc
  · exact ld_glob (X := X.suite a ((a, oe) :: (X.pn ++ pins))) S hg hm q hd
  · exact ld_blt (X := X.suite a ((a, oe) :: (X.pn ++ pins))) S hg hm hv q hn hd
theorem InHand.through (hs : X.stack = X.env :: X.outer) (hf : X.env.frame = some X.env.locals) (hN : X.N.Nodup) {Wout : WX} (tk : Takes X Wout) {D : Ends} {hds : List ExceptHandler} {l : List Cl}
    (ck : Clauses X hds l) : ∀ {s : Shared}, InHand X pins σ H cls d a B sI s → wCl X.K Wout D l cls d σ H → wpAny (model X.prog X.w) X.A (handleBy (.ref a) X.env hds) (SP X pins D) X.xe s := by
  induction ck with
  | nil => exact fun h w => h.out hs hf tk w
  | @plain x c ts st ss p q hds l hc hsu r ih =>
    rintro s h ⟨b, hb, yes, no⟩
    have fly := h.fly
    obtain ⟨oe, fv, e1, e2, _⟩ := h.seen hf
    have own : PySem.W.Looks (model X.prog X.w) s.heap (typeOf (.ref a)) cls := fun _ _ _ z k q => wpAny_typeOf_ref (k _ _ e1) (by rw [e2.1]; exact q)
    refine wpAny_handleBy_cons (codeAny_handlers_test (h.named hf hc ((PySem.W.exm_one h.now.kIn own hb).here ?_))) (fun z => by cases z)
    cases b with
    | false => exact ih h (no rfl)
    | true =>
      refine codeAny_handlers_suite (HandSPX.lands_againZ fly fun g f2 u2 => ?_)
      have h2 := h.move f2 u2
      obtain ⟨oe2, fv2, i1, i2, i3, i4, i5⟩ := h2.seen hf
      exact wpAny_mono ((hsu a oe2 cls d (X.pn ++ pins) i2 ⟨_, i3⟩).run [] _ _ _ _ (h2.now.suite i1 i3 h.new i4 i5) (yes rfl a h.new)) (fun f z y => InHand.leave h.inv.ok y) fun _ _ z => z.elim
  | @named x n i c ts st ss p q hds l hc hi hn hsu r ih =>
    rintro s h ⟨b, hb, yes, no⟩
    have fly := h.fly
    obtain ⟨oe, fv, e1, e2, _⟩ := h.seen hf
    have own : PySem.W.Looks (model X.prog X.w) s.heap (typeOf (.ref a)) cls := fun _ _ _ z k q => wpAny_typeOf_ref (k _ _ e1) (by rw [e2.1]; exact q)
    refine wpAny_handleBy_cons (codeAny_handlers_test (h.named hf hc ((PySem.W.exm_one h.now.kIn own hb).here ?_))) (fun z => by cases z)
    cases b with
    | false => exact ih h (no rfl)
    | true =>
      refine codeAny_handlers_suite_as (HandSPX.lands_againZ fly fun g f2 u2 => ?_)
      have h2 := h.move f2 u2
      obtain ⟨oe2, fv2, i1, i2, i3, i4, i5⟩ := h2.seen hf
      refine store_ok (X := X.suite a ((a, oe2) :: (X.pn ++ pins))) (v := .ref a) (h2.now.suite i1 i3 h.new i4 i5) hN hi (.inl hn) rfl (fun z J => ?_) (.inr hn)
      refine wpAny_mono ((hsu a oe2 cls d (X.pn ++ pins) i2 ⟨_, i3⟩).run [] z _ _ _ J (yes rfl a h.new)) (fun f y k => ?_) fun _ _ z => z.elim
      have k' := InHand.leave h.inv.ok k
      cases f with
      | next => obtain ⟨τ, G, J2, q2⟩ := k'; exact gone_ok J2 hN hi hn fun _ J3 => ⟨_, _, J3, q2⟩
      | brk => obtain ⟨τ, G, J2, q2⟩ := k'; exact gone_ok J2 hN hi hn fun _ J3 => ⟨_, _, J3, q2⟩
      | cont => obtain ⟨τ, G, J2, q2⟩ := k'; exact gone_ok J2 hN hi hn fun _ J3 => ⟨_, _, J3, q2⟩
      | ret u => obtain ⟨v, τ, G, J2, r2, q2⟩ := k'; exact gone_ok J2 hN hi hn fun _ J3 => ⟨_, _, _, J3, r2, q2⟩
end
/-- try: body, any clauses -/
theorem ps_try_cl {X : Cx} {body : List Stmt} {hd : ExceptHandler} {hds : List ExceptHandler} {l : List Cl} {pos : Pos} {tb : WX → TS} {Wout : WX} (hs : X.stack = X.env :: X.outer) (hf : X.env.frame = some X.env.locals) (hN : X.N.Nodup)
    (tk : Takes X Wout) (ck : Clauses X (hd :: hds) l)
    (hb : ∀ (W : WX) (pn : List (Addr × Obj)) (xe : Value → Shared → Prop), Takes (X.tr pn xe) W → PassesOwn (model X.prog X.w) X.A X.env xe → PSs (X.tr pn xe) body (tb W)) :
    PS X (.Try body (hd :: hds) [] [] pos) (fun D σ H => tb (wCl X.K Wout D l) D σ H) := by
  refine ⟨fun pins s σ H D I h => wpAny_Try_except ?_⟩
  have ok := I.ok
  have fr : X.A.frames = some (X.env :: X.outer) := by rw [ok.frames, hs]
  let xe : Value → Shared → Prop := fun e z => wpAny (model X.prog X.w) X.A (noteFrame e X.env) (fun _ z2 => wpAny (model X.prog X.w) X.A (setFlight e none)
    (fun _ z3 => wpAny (model X.prog X.w) X.A (handleBy e X.env (hd :: hds)) (SP X pins D) X.xe z3) X.xe z2) X.xe z
  have take : Takes (X.tr (X.pn ++ pins) xe) (wCl X.K Wout D l) := by
    rintro _ z ⟨a, B, sI, pn, τ, G, cls, d, rfl, J, grd, up, sky, new, os, ag, w⟩
    rw [show (X.tr (X.pn ++ pins) xe).stack = X.env :: X.outer from hs] at sky
    refine Sky.land Zc.steady fr hf sky fun g fly u => ?_
    exact InHand.through hs hf hN tk ck (s := { z with heap := g }) ⟨J.ofTry ok, grd, up.trans u, fly, new, os, ag⟩ w
  refine wpAny_mono ((hb _ _ xe take PassesOwn.looking).run [] s σ H D (I.toTry _) h) (fun f z k => ?_) fun _ _ z => z
  cases f with
  | next => obtain ⟨τ, G, J, q⟩ := k; exact wpAny_execs_nil ⟨τ, G, J.ofTry ok, q⟩
  | brk => obtain ⟨τ, G, J, q⟩ := k; exact ⟨τ, G, J.ofTry ok, q⟩
  | cont => obtain ⟨τ, G, J, q⟩ := k; exact ⟨τ, G, J.ofTry ok, q⟩
  | ret u => obtain ⟨v, τ, G, J, r, q⟩ := k; exact ⟨v, τ, G, J.ofTry ok, r, q⟩
/-! ### C.m(e, ..), C a class of the program -/
/-- what the written part says of a def f that a class at C tells by its name -/
structure ClsDef (K : PySem.W.Frag) (C f : Addr) (n : Str) : Prop where
  ga : PySem.W.specialIn K (.ref C) "__getattribute__" = some (some (.builtin "type.__getattribute__"))
  rd : PySem.W.readsIn K C (.type "type") = true
  at_ : PySem.W.findCls K (.ref C) (.type "type") n = some (.val (.ref f))
section
variable {X : Cx} {CX : CXT} {k : Nat} {C f : Addr} {fd : FuncData} {ps : List Str} {sp : Sp} {dvs : List V} {ds : List Value} {E : XK} {x n : Str} {p1 p2 pos : Pos} {e : Expr} {es : List Expr} {t : TA}
theorem pe_ccall {pl : Sem Bool} (T : ClsDef X.K C f n) (F : FnOk X.prog X.w X.K X.mg X.base CX k f fd ps sp) (hr : Room k X.A) (hg : Gl X x) (hm : X.mg x = some (.ref C)) (hk : PySem.W.keepIn X.K (.ref f) = true)
    (hb : Binds X.K fd ps ds) (hd : Vals dvs ds) (hx : Passes CX X E) (ha : PA X (e :: es) t) (hdb : (x == ("__debug__" : Str)) = false := by decide)
    (hc : eval (.Call (.Attribute (.Name x p1) n p2) (e :: es) [] pos) X.env = (do
      let ov ← eval (.Name x p1) X.env
      standAt p2.atName
      let (f, first) ← holding [ov] (getMethod ov n pl)
      callWith pos f first (backTo pos (starEach (e :: es) X.env)) (backToKw pos (keywordEach [] X.env))) := by rfl)
    (he : starEach (e :: es) X.env = (false, eval e X.env) :: starEach es X.env := by rfl) (hpl : (backTo pos (starEach es X.env)).any (·.1) = false := by rfl) :
    PE X (.Call (.Attribute (.Name x p1) n p2) (e :: es) [] pos) (tCall sp dvs E t) := by
  refine ⟨fun pins s σ H Q I h => PySem.W.methodCall_KW (ld_glob I hg hm ?_ hdb) hc⟩
  refine PySem.W.method_cls I.kIn T.ga (PySem.W.cls_value I.kIn T.rd T.at_ rfl ?_)
  refine PySem.W.callWith_K (h₀ := X.base) I.ok.mod.kin hk (thn (ha.run pos pins _ σ H _ (I.tok _) h) ?_) he hpl
  rintro us s1 ⟨vs, H1, I1, r, q⟩
  refine ⟨I1.kIn, ?_⟩
  have both := r.append hd
  have len : (us ++ ds).length = ps.length := (both.length).symm.trans (F.len _ _ _ _ q)
  refine wpAny_call (codeAny_mono (F.run X.A X.stack s1 H1 ⟨us, []⟩ (us ++ ds) (vs ++ dvs) Q E hr I1.env0 (hb s1 us I1.kIn len) both q) ?_)
  intro res z hz
  match res, hz with
  | .ok (.ret u), hz => exact I1.after hz
  | .error e, hz => exact hx pins σ H1 s1 e z I1 hz
  | .ok .next, hz => exact hz.elim
  | .ok .brk, hz => exact hz.elim
  | .ok .cont, hz => exact hz.elim
end
/-! ### o.m(e, ..) in a try's body -/
section
variable {X : Cx} {CX : CXT} {k : Nat} {C f : Addr} {fd : FuncData} {ps : List Str} {sp : Sp} {E : L2.St → XK} {m : Str} {pos apos : Pos} {e o : Expr} {es : List Expr} {ta : TE} {t : TA}
def tMethX (C : Addr) (m : Str) (sp : Sp) (E : L2.St → XK) (ta : TE) (t : TA) : TE := fun σ H Q => ta σ H fun x G => ∃ a dx fs, x = .ref a ∧ G a = some (.ins C dx fs) ∧ fs.lookup m = none ∧
  t σ G fun vs G2 => sp (x :: vs) G2 Q (E σ)
theorem pe_methX {pl : Sem Bool} (he : PE X o ta) (c : Cls X.K C) (hm : Meth X.K C m f) (F : FnOk X.prog X.w X.K X.mg X.base CX k f fd ps sp) (hr : Room k X.A) (hb : Binds X.K fd ps []) (hx : ∀ σ, PassesAt CX X σ (E σ)) (ha : PA X (e :: es) t)
    (hst : starEach (e :: es) X.env = (false, eval e X.env) :: starEach es X.env := by rfl) (hpl : (backTo pos (starEach es X.env)).any (·.1) = false := by rfl)
    (ht : eval (.Call (.Attribute o m apos) (e :: es) [] pos) X.env = (do
      let ov ← eval o X.env
      standAt apos.atName
      let (f, first) ← holding [ov] (getMethod ov m pl)
      callWith pos f first (backTo pos (starEach (e :: es) X.env)) (backToKw pos (keywordEach [] X.env))) := by rfl) :
    PE X (.Call (.Attribute o m apos) (e :: es) [] pos) (tMethX C m sp E ta t) := by
  refine ⟨fun pins s σ H Q I h => PySem.W.methodCall_KW (pl := pl) (thn (he.run pins s σ H _ I h) ?_) ht⟩
  rintro u z ⟨x, G, J, rx, a, dx, fs, rfl, ea, l, q⟩
  obtain rfl : u = Value.ref a := rx
  refine getmeth_ok J ea c hm l (PySem.W.callWith_K (first := [.ref a]) (h₀ := X.base) I.ok.mod.kin hm.kp (thn (ha.run pos pins z σ G _ J q) ?_) hst hpl)
  rintro us y ⟨vs, G2, J2, r, q2⟩
  exact ⟨J2.kIn, run_fnS (us := .ref a :: us) (vs := .ref a :: vs) F hr hb (hx σ) J2 (.cons rfl r) q2⟩
end
/-! ### the family: an __init__ over another class's, one field -/
/-- StaffError.__init__(self, text) and the like -/
def spUp (K : PySem.W.Frag) : Sp := fun vs H Q _ => ∃ (a C : Addr) (z : Str), vs = [.ref a, .str z] ∧ OexC K C ∧ H a = some (exo a C none) ∧ Q .non H
/-- C.__init__(self, x), its one field f -/
def spOne (K : PySem.W.Frag) (C : Addr) (f : Str) : Sp := fun vs H Q _ => ∃ (a : Addr) (v : V), vs = [.ref a, v] ∧ H a = some (exo a C none) ∧
  ∀ dx, H dx = none → dx ≠ a → Q .non (upd (upd H dx (exd dx [(f, v)])) a (exo a C (some dx)))
/-- what is left of a made exception: its dict alone -/
theorem made_eq {H : Hp} {a d C : Addr} {fs : List (Str × V)} (n : H a = none) (ne : d ≠ a) :
    upd (del (upd (upd (upd H a (exo a C none)) d (exd d fs)) a (exo a C (some d))) a) d (.xd fs) = upd H d (.xd fs) := by
  funext b
  by_cases hd : b = d
  · rw [hd, upd_same, upd_same]
  · rw [upd_ne hd, upd_ne hd]
    by_cases ha : b = a
    · rw [ha, del_same, n]
    · rw [del_ne ha, upd_ne ha, upd_ne hd, upd_ne ha]
/-- raise C(x): what is to be shown -/
theorem made_one {K : PySem.W.Frag} {C : Addr} {f : Str} {v : V} {H : Hp} {W : Value → Option Addr → Hp → Prop} (k : ∀ d, H d = none → W (.ref C) (some d) (upd H d (.xd [(f, v)]))) :
    ([v] : List V).length ≤ 1000 ∧ ∀ a, H a = none → spOne K C f (.ref a :: ([v] ++ [])) (upd H a (exo a C none))
      (fun u H2 => u = .non ∧ ∃ (d : Addr) (fs : List (Str × V)), H2 a = some (exo a C (some d)) ∧ H2 d = some (exd d fs) ∧ H d = none ∧ W (.ref C) (some d) (upd (del H2 a) d (.xd fs))) (fun _ _ _ => False) := by
  refine ⟨by simp, fun a n => ⟨a, v, rfl, upd_same, fun dx hdx ne => ⟨rfl, dx, [(f, v)], upd_same, ?_, ?_, ?_⟩⟩⟩
  · rw [upd_ne ne, upd_same]
  · rw [upd_ne ne] at hdx
    exact hdx
  · rw [made_eq n ne]
    rw [upd_ne ne] at hdx
    exact k dx hdx
/-- a class is its own -/
theorem sub_self {K : PySem.W.Frag} {C : Addr} {cd : ClassData} {r : List Value} (h : PySem.W.clsIn K C = some cd) (e : cd.mro = .ref C :: r) : PySem.W.subIn K (.ref C) (.ref C) = some true := by
  show PySem.W.mroIn K C (.ref C) = some true
  unfold PySem.W.mroIn
  rw [h]
  simp [e]
/-! ### isinstance of what was caught -/
structure CauC (K : PySem.W.Frag) (D : Addr) : Prop where
  cl : (PySem.W.clsIn K D).isSome = true
  ga : PySem.W.findIn K (.ref D) "__getattribute__" = some (some (.builtin "BaseException.__getattribute__"))
  gg : PySem.W.findIn K (.ref D) "__getattr__" = some none
  sub : PySem.W.subIn K (.ref D) (.type "BaseException") = some true
  co : PySem.W.findIn K (.ref D) "__class__" = some (some (.builtin "object.__class__"))
  cg : PySem.W.specialIn K (.builtin "object.__class__") "__get__" = some (some (.builtin "getset_descriptor.__get__"))
  ct : PySem.W.takesIn K (.builtin "object.__class__") = some true
  mo : PySem.W.mroIn K D (.type "object") = some true
/-- isinstance(e, c), e what the suite holds (cls its class, d its dict) -/
def rIsD (K : PySem.W.Frag) (D a : Addr) (cls : Value) (d : Option Addr) : List V → Hp → VK → Prop := fun xs H Q => ∃ (c : V) (cv : Value) (b : Bool) (dd : Addr) (fs : List (Str × V)),
  xs = [.ref a, c] ∧ (∀ u, RelV c u → u = cv) ∧ PySem.W.kitOne K (.ref D) cv = some b ∧ cls = .ref D ∧ d = some dd ∧ H dd = some (.xd fs) ∧ Q (.bl b) H
theorem call_isD {X : Cx} {a D : Addr} {cls : Value} {d : Option Addr} {oe : Obj} {pn : List (Addr × Obj)} (T : CauC X.K D) (hz : Zc cls d oe) (hf : ∃ fv, oe.data = .fields fv) :
    CallR (X.suite a ((a, oe) :: pn)) (.builtin "isinstance") (rIsD X.K D a cls d) := by
  rintro pins s σ H xs us Q I r ⟨c, cv, b, dd, fs, rfl, hcv, e, rfl, rfl, ed, q⟩
  cases r with
  | cons rx rr =>
    cases rr with
    | cons rt rr =>
      cases rr
      cases rx
      obtain rfl := hcv _ rt
      obtain ⟨hget, _⟩ := I.pin (a, oe) (by simp)
      obtain ⟨fv, hv⟩ := hf
      have hx : ObjOk X.prog X.w H s.heap dd (.xd fs) := I.hok dd _ ed
      obtain ⟨mA, hns, _⟩ := hx
      obtain ⟨od, ho, _⟩ := lookIn_ns hns
      have J : PySem.W.InstAt s.heap a oe D (some od) := ⟨hget, hz.1, by unfold PySem.W.notCls; rw [hv] <;> rfl, by rw [hz.2]; exact ho⟩
      exact PySem.W.kia_one (PySem.W.kitx_exc T.cl T.ga T.gg T.sub T.co T.cg T.ct T.mo) I.kIn J e (fun z => nomatch z) fun tk => ⟨.bl b, H, I.tok _, rfl, q⟩
/-- a call of a def that may raise, where it does not -/
theorem pass_no {X : Cx} : Passes (L2.CX X.prog X.w) X E0 := fun _ _ _ _ _ _ _ ⟨_, _, _, _, _, _, _, _, _, _, _, _, z⟩ => z.elim
theorem takes_never {X : Cx} : Takes X (fun _ _ _ _ => False) := fun _ _ ⟨_, _, _, _, _, _, _, _, _, _, _, _, _, _, _, _, z⟩ => z.elim
end My

set_option maxRecDepth 100000
set_option maxHeartbeats 400000
/-! Several refusals of one family: what the written part says of each. -/
namespace My
open PySem PySem.Spec PyProof.Rows L2 GxR Gd TL
/-- the class above them -/
structure SeT (K : PySem.W.Frag) (mg : Str → Option Value) (CS fS : Addr) (fdS : FuncData) (st : Stmt) : Prop where
  ve : mg "ValueError" = none
  vi : PySem.W.findCls K (.type "ValueError") (.type "type") "__init__" = some (.val (.builtin "ValueError.__init__"))
  g : mg "StaffError" = some (.ref CS)
  c : ClsDef K CS fS "__init__"
  k : PySem.W.keepIn K (.ref fS) = true
  F : Fun K "__init__" "StaffError.__init__" st fS fdS
  b : Binds K fdS ["self", "text"] []
/-- one of them -/
structure ExC (K : PySem.W.Frag) (mg : Str → Option Value) (x q : Str) (st : Stmt) (C f : Addr) (fd : FuncData) : Prop where
  g : mg x = some (.ref C)
  F : Fun K "__init__" q st f fd
  b : Binds K fd ["self", "found"] []
  o : OexC K C
  i : PySem.W.findIn K (.ref C) "__init__" = some (some (.ref f))
  t : PySem.W.typeIn K (.ref f) = some (.type "function")
  n : PySem.W.findIn K (.ref C) "found" = some none
  e : PySem.W.exmOne K (.ref C) (.ref C) = some true
  x : XfC K C
  u : CauC K C
section
variable {X : Cx} {CX : CXT} {k : Nat} {C f : Addr} {fd : FuncData} {ps : List Str} {sp : Sp} {E : L2.St → XK} {m : Str} {pos apos : Pos} {o : Expr} {ta : TE}
def tMethX0 (C : Addr) (m : Str) (sp : Sp) (E : L2.St → XK) (ta : TE) : TE := fun σ H Q => ta σ H fun x G => ∃ a dx fs, x = .ref a ∧ G a = some (.ins C dx fs) ∧ fs.lookup m = none ∧ sp [x] G Q (E σ)
/-- o.m() in a try's body -/
theorem pe_methX0 {pl : Sem Bool} (he : PE X o ta) (c : Cls X.K C) (hm : Meth X.K C m f) (F : FnOk X.prog X.w X.K X.mg X.base CX k f fd ps sp) (hr : Room k X.A) (hb : Binds X.K fd ps []) (hx : ∀ σ, PassesAt CX X σ (E σ))
    (ht : eval (.Call (.Attribute o m apos) [] [] pos) X.env = (do
      let who ← eval o X.env
      standAt apos.atName
      let (g, ahead) ← holding [who] (getMethod who m pl)
      callWith pos g ahead (backTo pos (starEach [] X.env)) (backToKw pos (keywordEach [] X.env))) := by rfl) :
    PE X (.Call (.Attribute o m apos) [] [] pos) (tMethX0 C m sp E ta) := by
  refine ⟨fun pins s σ H Q I h => PySem.W.methodCall_KW (pl := pl) (thn (he.run pins s σ H _ I h) ?_) ht⟩
  rintro u z ⟨x, G, J, rx, a, dx, fs, rfl, ea, l, q⟩
  obtain rfl := show u = Value.ref a from rx
  refine getmeth_ok J ea c hm l ?_
  exact PySem.W.callWith_K0 (first := [.ref a]) J.kIn hm.kp (run_fnS (us := [.ref a]) (vs := [.ref a]) F hr hb (hx σ) J (.cons rfl .nil) q)
end
end My

set_option maxRecDepth 100000
set_option maxHeartbeats 400000
namespace K5
open PySem PySem.Spec PyProof.Rows L2 GxR Gd TL My
theorem fn_or {P : Program} {w : World} {K : PySem.W.Frag} {mg : Str → Option Value} {base : Heap} {CX : CXT} {j k : Nat} {f : Addr} {fd : FuncData} {ps : List Str} {sp1 sp2 : Sp} (A : FnOk P w K mg base CX0 j f fd ps sp1) (B : FnOk P w K mg base CX k f fd ps sp2) (h : j ≤ k) :
    FnOk P w K mg base CX k f fd ps (fun vs H Q E => sp1 vs H Q E ∨ sp2 vs H Q E) := by
  refine ⟨fun vs H Q E h => h.elim (A.len vs H Q E) (B.len vs H Q E), fun Ar out s H ar us vs Q E hr e0 hb r hsp => ?_⟩
  rcases hsp with hsp | hsp
  · refine codeAny_mono (A.run Ar out s H ar us vs Q E (hr.mono h) e0 hb r hsp) fun x s' q => ?_
    match x, q with
    | .error e, q => exact False.elim q
    | .ok (.ret u), q => exact q
    | .ok .next, q => exact q
    | .ok .brk, q => exact q
    | .ok .cont, q => exact q
  · exact B.run Ar out s H ar us vs Q E hr e0 hb r hsp
theorem ixT {X : Cx} {K : PySem.W.Frag} (h : X.K = K) : IxR X (rIxT K) := h ▸ ix_tup
/-! ### the refusals -/
abbrev sSE : Stmt := inClass (top 2) 0
theorem scSE : FnScope ["self", "text"] ["self", "text"] (defScope sSE) := ⟨rfl, rfl, rfl, by decide +kernel, rfl, by decide +kernel, by decide +kernel⟩
abbrev sNoPlace : Stmt := inClass (top 4) 0
theorem scNoPlace : FnScope ["self", "found"] ["self", "found"] (defScope sNoPlace) := ⟨rfl, rfl, rfl, by decide +kernel, rfl, by decide +kernel, by decide +kernel⟩
abbrev sNoStretch : Stmt := inClass (top 5) 0
theorem scNoStretch : FnScope ["self", "found"] ["self", "found"] (defScope sNoStretch) := ⟨rfl, rfl, rfl, by decide +kernel, rfl, by decide +kernel, by decide +kernel⟩
abbrev sNoLong : Stmt := inClass (top 6) 0
theorem scNoLong : FnScope ["self", "found"] ["self", "found"] (defScope sNoLong) := ⟨rfl, rfl, rfl, by decide +kernel, rfl, by decide +kernel, by decide +kernel⟩
section
variable {P : Program} {w : World} {K : PySem.W.Frag} {mg : Str → Option Value} {base : Heap} {CS fS C fN : Addr} {fdS fdN : FuncData}
theorem ok_SE (T : SeT K mg CS fS fdS sSE) {CX : CXT} : FnOk P w K mg base CX0 1 fS fdS ["self", "text"] (spUp K) := by
  refine T.F.ok scSE (fun vs H Q E h => ?_) (fun cdv A outer s H vs Q E hr h => ?_)
  · obtain ⟨a, C, z, rfl, _⟩ := h
    rfl
  · obtain ⟨a, C, z, rfl, o, e, k⟩ := h
    refine ⟨_, pss_one (ps_expr (pe_veinit (by rfl) T.ve T.vi (pa_cons (pv 0) (pa_cons (pv 1) pa_nil)))), ?_⟩
    exact ⟨_, rfl, _, rfl, a, C, _, rfl, by simp, o, e, k⟩
theorem ok_NoPlace (S : SeT K mg CS fS fdS sSE) (T : ExC K mg "NoPlace" "NoPlace.__init__" sNoPlace C fN fdN) : FnOk P w K mg base CX0 2 fN fdN ["self", "found"] (spOne K C "found") := by
  refine T.F.ok scNoPlace (fun vs H Q E h => ?_) (fun cdv A outer s H vs Q E hr h => ?_)
  · obtain ⟨a, v, rfl, _⟩ := h
    rfl
  · obtain ⟨a, v, rfl, e, k⟩ := h
    refine ⟨_, pss_cons (ps_expr (pe_ccall S.c (ok_SE (CX := CX0) S) hr (by rfl) S.g S.k S.b .nil pass0 (pa_cons (pv 0) (pa_cons pe_str pa_nil))))
      (pss_one (ps_ost (pv 0) (pv 1))), ?_⟩
    refine ⟨_, rfl, a, C, _, rfl, T.o, e, ?_⟩
    exact ⟨_, rfl, _, rfl, a, C, rfl, T.o, T.n, .inl ⟨e, fun dx h1 h2 => k dx h1 h2⟩⟩
theorem ok_NoStretch (S : SeT K mg CS fS fdS sSE) (T : ExC K mg "NoStretch" "NoStretch.__init__" sNoStretch C fN fdN) : FnOk P w K mg base CX0 2 fN fdN ["self", "found"] (spOne K C "found") := by
  refine T.F.ok scNoStretch (fun vs H Q E h => ?_) (fun cdv A outer s H vs Q E hr h => ?_)
  · obtain ⟨a, v, rfl, _⟩ := h
    rfl
  · obtain ⟨a, v, rfl, e, k⟩ := h
    refine ⟨_, pss_cons (ps_expr (pe_ccall S.c (ok_SE (CX := CX0) S) hr (by rfl) S.g S.k S.b .nil pass0 (pa_cons (pv 0) (pa_cons pe_str pa_nil))))
      (pss_one (ps_ost (pv 0) (pv 1))), ?_⟩
    refine ⟨_, rfl, a, C, _, rfl, T.o, e, ?_⟩
    exact ⟨_, rfl, _, rfl, a, C, rfl, T.o, T.n, .inl ⟨e, fun dx h1 h2 => k dx h1 h2⟩⟩
theorem ok_NoLong (S : SeT K mg CS fS fdS sSE) (T : ExC K mg "NoLong" "NoLong.__init__" sNoLong C fN fdN) : FnOk P w K mg base CX0 2 fN fdN ["self", "found"] (spOne K C "found") := by
  refine T.F.ok scNoLong (fun vs H Q E h => ?_) (fun cdv A outer s H vs Q E hr h => ?_)
  · obtain ⟨a, v, rfl, _⟩ := h
    rfl
  · obtain ⟨a, v, rfl, e, k⟩ := h
    refine ⟨_, pss_cons (ps_expr (pe_ccall S.c (ok_SE (CX := CX0) S) hr (by rfl) S.g S.k S.b .nil pass0 (pa_cons (pv 0) (pa_cons pe_str pa_nil))))
      (pss_one (ps_ost (pv 0) (pv 1))), ?_⟩
    refine ⟨_, rfl, a, C, _, rfl, T.o, e, ?_⟩
    exact ⟨_, rfl, _, rfl, a, C, rfl, T.o, T.n, .inl ⟨e, fun dx h1 h2 => k dx h1 h2⟩⟩
end
def badN (wd : Wd) (v : V) : Prop := ∀ z, v = .str z → posOf wd.ps z = none
def badS (wd : Wd) (v : V) : Prop := ∀ i : Nat, v = .int i → ¬ i < wd.st.length
def badL (wd : Wd) (v : V) : Prop := ∀ i : Nat, v = .int i → ¬ i < wd.lo.length
theorem bad_wh {n : Nat} {v : V} (h : ∀ i : Nat, v = .int i → ¬ i < n) : wh 0 ((n : Int) - 1) v = false := by
  cases v with
  | int i =>
    unfold wh
    by_cases h0 : 0 ≤ i
    · obtain ⟨j, rfl⟩ := Int.eq_ofNat_of_zero_le h0
      have := h j rfl
      simp
      omega
    · simp [h0]
  | _ => rfl
def spBad (K : PySem.W.Frag) (C CE : Addr) (bad : Wd → V → Prop) : Sp := fun vs H _ E => ∃ (x : Addr) (v : V) (wd : Wd), vs = [.ref x, v] ∧ LineAt K C wd H x ∧ Th H v ∧ bad wd v ∧ ∀ e, H e = none → E (.ref CE) (some e) (upd H e (.xd [("found", v)]))
abbrev orS (a b : Sp) : Sp := fun vs H Q E => a vs H Q E ∨ b vs H Q E
section
variable {P : Program} {w : World} {K : PySem.W.Frag} {mg : Str → Option Value} {base : Heap} {C CE CS fS fE f1 f2 : Addr} {fdS fdE fd1 fd2 : FuncData}
theorem ok_numB {f : Addr} {fd : FuncData} (F : Fun K "number_of" "Line.number_of" s_number_of f fd) (T : Txt mg) (TC : ClsT K C) (ES : SeT K mg CS fS fdS sSE) (ENoPlace : ExC K mg "NoPlace" "NoPlace.__init__" sNoPlace CE fE fdE) :
    FnOk P w K mg base (CX P w) 4 f fd ["self", "name"] (spBad K C CE badN) := by
  refine F.okX sc_number_of (fun vs H Q E h => ?_) (fun cdv A outer s H vs Q E hr h => ?_)
  · obtain ⟨x, v, wd, rfl, _⟩ := h
    rfl
  · obtain ⟨x, v, wd, rfl, ⟨dx, p1, p2, p3, d, xs1, xs2, xs3, hx, _, _, _, _, _, _, kvs, hk, hl, hv⟩, th, bad, k⟩ := h
    refine ⟨_, pss_cons (ps_if (PW.pt (pw_or (pt_not (pt_val (pe_callB call_isi (by rfl) T.isinstance_ (by decide +kernel) (pa_cons (pv 1) (pa_cons (pe_bltn (v := .ty "str") (by rfl) T.str_ (by decide +kernel) rfl) pa_nil))))) (pw_or1 (pt_cmp (pc_dnotin (hu_of hr) (pv 1) (pe_fld (pv 0) rfl)))))) (pss_one (ps_raise rfl (takes_of rfl rfl rfl rfl) (pmk_oex ENoPlace.o ENoPlace.i ENoPlace.t (ok_NoPlace ES ENoPlace) (hr.mono (by decide)) ENoPlace.b .nil pass0 (by rfl) ENoPlace.g (pa_cons (pv 1) pa_nil)))) pss_nil)
      (pss_one (ps_ret (pe_dget (hu_of hr) (pe_fld (pv 0) rfl) (pv 1) (fun _ _ => rfl)))), ?_⟩
    obtain ⟨t, ty, cs⟩ := th.ty (K := K)
    rcases cs with ⟨i, rfl, rfl⟩ | ⟨b, rfl, rfl⟩ | ⟨z, rfl, _, rfl⟩ | ⟨n1, n2, n3, ht⟩
    · exact ⟨_, rfl, _, _, _, _, false, rfl, .ty "str", ty, (by rfl), _, rfl, iteT (iteT ⟨_, rfl, made_one k⟩)⟩
    · exact ⟨_, rfl, _, _, _, _, false, rfl, .ty "str", ty, (by rfl), _, rfl, iteT (iteT ⟨_, rfl, made_one k⟩)⟩
    · have e := hv z
      rw [bad z rfl] at e
      refine ⟨_, rfl, _, _, _, _, true, rfl, .ty "str", ty, (by rfl), _, rfl, iteF ?_⟩
      exact ⟨_, rfl, _, rfl, x, C, dx, _, _, rfl, hx, TC.cl, TC.n4, lf_numbers _ _ _ _, d, none, rfl, .inl ⟨kvs, Sum.inr z, Rd.of hk, rfl, e.symm⟩, _, rfl, iteT ⟨_, rfl, made_one k⟩⟩
    · rcases ht with rfl | rfl | rfl | rfl
      · exact ⟨_, rfl, _, _, _, _, false, rfl, .ty "str", ty, (by rfl), _, rfl, iteT (iteT ⟨_, rfl, made_one k⟩)⟩
      · exact ⟨_, rfl, _, _, _, _, false, rfl, .ty "str", ty, (by rfl), _, rfl, iteT (iteT ⟨_, rfl, made_one k⟩)⟩
      · exact ⟨_, rfl, _, _, _, _, false, rfl, .ty "str", ty, (by rfl), _, rfl, iteT (iteT ⟨_, rfl, made_one k⟩)⟩
      · exact ⟨_, rfl, _, _, _, _, false, rfl, .ty "str", ty, (by rfl), _, rfl, iteT (iteT ⟨_, rfl, made_one k⟩)⟩
theorem ok_roadsB {f : Addr} {fd : FuncData} (F : Fun K "roads" "Line.roads" s_roads f fd) (T : Txt mg) (TC : ClsT K C)
    (Mnumber_of : Mt K C "number_of" "Line.number_of" s_number_of ["self", "name"] f1 fd1) (GnumX : FnOk P w K mg base (CX P w) 4 f1 fd1 ["self", "name"] (orS (spNum K C) (spBad K C CE badN))) :
    FnOk P w K mg base (CX P w) 5 f fd ["self", "name"] (spBad K C CE badN) := by
  refine F.okX sc_roads (fun vs H Q E h => ?_) (fun cdv A outer s H vs Q E hr h => ?_)
  · obtain ⟨x, v, wd, rfl, _⟩ := h
    rfl
  · obtain ⟨x, v, wd, rfl, hL, th, bad, k⟩ := h
    obtain ⟨dx, p1, p2, p3, d, xs1, xs2, xs3, hx, hp1, hd1, hp2, hd2, hp3, hd3, hN⟩ := id hL
    refine ⟨_, pss_one (ps_ret (pe_ix (ixT (K := K) rfl) (pe_ix (ixT (K := K) rfl) (pe_fld (pv 0) rfl) (pe_meth (pv 0) TC.cl Mnumber_of.m GnumX (hr.mono (by decide)) Mnumber_of.b .nil (passes_call (takes_of rfl rfl rfl rfl) (fun _ _ _ _ h => h)) (pa_cons (pv 1) pa_nil)) (fun _ _ => rfl)) pe_int (fun _ _ => rfl))), ?_⟩
    exact ⟨_, rfl, x, C, dx, _, _, rfl, hx, TC.cl, TC.n1, lf_places _ _ _ _, _, rfl, x, dx, _, rfl, hx, lf_no _ _ _ _ (by decide +kernel), _, rfl, .inr ⟨x, v, wd, rfl, hL, th, bad, k⟩⟩
def spBadB (K : PySem.W.Frag) (C CE : Addr) : Sp := fun vs H _ E => ∃ (x : Addr) (v1 v2 : V) (wd : Wd), vs = [.ref x, v1, v2] ∧ LineAt K C wd H x ∧ Th H v1 ∧ Th H v2 ∧
  ((badN wd v1 ∧ ∀ e, H e = none → E (.ref CE) (some e) (upd H e (.xd [("found", v1)]))) ∨ ((∃ z i, v1 = .str z ∧ posOf wd.ps z = some i) ∧ badN wd v2 ∧ ∀ e, H e = none → E (.ref CE) (some e) (upd H e (.xd [("found", v2)]))))
theorem ok_betweenB {f : Addr} {fd : FuncData} (F : Fun K "between" "Line.between" s_between f fd) (T : Txt mg) (TC : ClsT K C)
    (Mnumber_of : Mt K C "number_of" "Line.number_of" s_number_of ["self", "name"] f1 fd1) (GnumX : FnOk P w K mg base (CX P w) 4 f1 fd1 ["self", "name"] (orS (spNum K C) (spBad K C CE badN))) :
    FnOk P w K mg base (CX P w) 5 f fd ["self", "one", "other"] (spBadB K C CE) := by
  refine F.okX sc_between (fun vs H Q E h => ?_) (fun cdv A outer s H vs Q E hr h => ?_)
  · obtain ⟨x, v1, v2, wd, rfl, _⟩ := h
    rfl
  · obtain ⟨x, v1, v2, wd, rfl, hL, th1, th2, cs⟩ := h
    obtain ⟨dx, p1, p2, p3, d, xs1, xs2, xs3, hx, hp1, hd1, hp2, hd2, hp3, hd3, hN⟩ := id hL
    have no : (lf p1 p2 p3 d).lookup (Str.ofString "number_of") = none := lf_no _ _ _ _ (by decide +kernel)
    refine ⟨_, pss_cons (ps_set (i := 3) sc_between.nd rfl (Or.inl rfl) (pe_meth (pv 0) TC.cl Mnumber_of.m GnumX (hr.mono (by decide)) Mnumber_of.b .nil (passes_call (takes_of rfl rfl rfl rfl) (fun _ _ _ _ h => h)) (pa_cons (pv 1) pa_nil)))
      (pss_cons (ps_set (i := 4) sc_between.nd rfl (Or.inl rfl) (pe_op op_sub (pe_meth (pv 0) TC.cl Mnumber_of.m GnumX (hr.mono (by decide)) Mnumber_of.b .nil (passes_call (takes_of rfl rfl rfl rfl) (fun _ _ _ _ h => h)) (pa_cons (pv 2) pa_nil)) (pv 3)))
      (pss_cons (ps_if (pt_cmpR op_eq (pv 4) pe_int (nomark _)) (pss_one (ps_ret (pv 3))) pss_nil)
      (pss_cons (ps_if (pt_cmpR op_eq (pv 4) (pe_un un_neg pe_int) (nomark _)) (pss_one (ps_ret (pe_op op_sub (pv 3) pe_int))) pss_nil)
      (pss_one (ps_ret pe_non))))), ?_⟩
    rcases cs with ⟨bad, k⟩ | ⟨⟨z, i, rfl, hi⟩, bad, k⟩
    · exact ⟨_, rfl, x, dx, _, rfl, hx, no, _, rfl, .inr ⟨x, v1, wd, rfl, hL, th1, bad, k⟩⟩
    · refine ⟨_, rfl, x, dx, _, rfl, hx, no, _, rfl, .inl ⟨x, z, wd, i, rfl, hL, hi, ?_⟩⟩
      exact ⟨_, rfl, x, dx, _, rfl, hx, no, _, rfl, .inr ⟨x, v2, wd, rfl, hL, th2, bad, k⟩⟩
theorem ok_long_betweenB {f : Addr} {fd : FuncData} (F : Fun K "long_between" "Line.long_between" s_long_between f fd) (T : Txt mg) (TC : ClsT K C)
    (Mnumber_of : Mt K C "number_of" "Line.number_of" s_number_of ["self", "name"] f1 fd1) (GnumX : FnOk P w K mg base (CX P w) 4 f1 fd1 ["self", "name"] (orS (spNum K C) (spBad K C CE badN))) :
    FnOk P w K mg base (CX P w) 5 f fd ["self", "one", "other"] (spBadB K C CE) := by
  refine F.okX sc_long_between (fun vs H Q E h => ?_) (fun cdv A outer s H vs Q E hr h => ?_)
  · obtain ⟨x, v1, v2, wd, rfl, _⟩ := h
    rfl
  · obtain ⟨x, v1, v2, wd, rfl, hL, th1, th2, cs⟩ := h
    obtain ⟨dx, p1, p2, p3, d, xs1, xs2, xs3, hx, hp1, hd1, hp2, hd2, hp3, hd3, hN⟩ := id hL
    have hu := hr.units
    have no : (lf p1 p2 p3 d).lookup (Str.ofString "number_of") = none := lf_no _ _ _ _ (by decide +kernel)
    refine ⟨_, pss_cons (ps_set (i := 3) sc_long_between.nd rfl (Or.inl rfl) (pe_callB cr_sorted (by rfl) T.sorted_ (by decide +kernel) (pa_cons (pe_lst (pa_cons (pe_meth (pv 0) TC.cl Mnumber_of.m GnumX (hr.mono (by decide)) Mnumber_of.b .nil (passes_call (takes_of rfl rfl rfl rfl) (fun _ _ _ _ h => h)) (pa_cons (pv 1) pa_nil)) (pa_cons (pe_meth (pv 0) TC.cl Mnumber_of.m GnumX (hr.mono (by decide)) Mnumber_of.b .nil (passes_call (takes_of rfl rfl rfl rfl) (fun _ _ _ _ h => h)) (pa_cons (pv 2) pa_nil)) pa_nil))) pa_nil)))
      (pss_cons (ps_for (passes_of rfl) rfl (pi_enumT (by rfl) T.enumerate_ (pa_cons (pe_fld (pv 0) rfl) pa_nil)) (pg_tup (by rfl) (pgs_cons (pg_name (i := 4) sc_long_between.nd rfl (Or.inl rfl)) (pgs_cons (pg_tup (by rfl) (pgs_cons (pg_name (i := 5) sc_long_between.nd rfl (Or.inl rfl)) (pgs_cons (pg_name (i := 6) sc_long_between.nd rfl (Or.inl rfl)) (pgs_cons (pg_name (i := 7) sc_long_between.nd rfl (Or.inl rfl)) pgs_nil)))) pgs_nil))) (pss_one (ps_if (pt_cmpR op_eq (pv 3) (pe_lst (pa_cons (pv 5) (pa_cons (pv 6) pa_nil))) (nomark _)) (pss_one (ps_ret (pv 4))) pss_nil)))
      (pss_one (ps_ret pe_non))), ?_⟩
    rcases cs with ⟨bad, k⟩ | ⟨⟨z, i, rfl, hi⟩, bad, k⟩
    · exact ⟨_, rfl, x, dx, _, rfl, hx, no, _, rfl, .inr ⟨x, v1, wd, rfl, hL, th1, bad, k⟩⟩
    · refine ⟨_, rfl, x, dx, _, rfl, hx, no, _, rfl, .inl ⟨x, z, wd, i, rfl, hL, hi, ?_⟩⟩
      exact ⟨_, rfl, x, dx, _, rfl, hx, no, _, rfl, .inr ⟨x, v2, wd, rfl, hL, th2, bad, k⟩⟩
theorem ok_check_stretchB {f : Addr} {fd : FuncData} (F : Fun K "_check_stretch" "Line._check_stretch" s_check_stretch f fd) (T : Txt mg) (TC : ClsT K C) (ES : SeT K mg CS fS fdS sSE) (ENoStretch : ExC K mg "NoStretch" "NoStretch.__init__" sNoStretch CE fE fdE)
    (Nis_whole : Fn K mg "is_whole" sWhole ["thing", "low", "high"] f1 fd1) (Gis_whole : FnOk P w K mg base CX0 1 f1 fd1 ["thing", "low", "high"] spWhole) : FnOk P w K mg base (CX P w) 4 f fd ["self", "k"] (spBad K C CE badS) := by
  refine F.okX sc_check_stretch (fun vs H Q E h => ?_) (fun cdv A outer s H vs Q E hr h => ?_)
  · obtain ⟨x, v, wd, rfl, _⟩ := h
    rfl
  · obtain ⟨x, v, wd, rfl, ⟨dx, p1, p2, p3, d, xs1, xs2, xs3, hx, hp1, hd1, hp2, hd2, hp3, hd3, hN⟩, th, bad, k⟩ := h
    have l2 : xs2.length = wd.st.length := by rw [dpAll_len hd2, List.length_map]
    refine ⟨_, pss_one (ps_if (pt_not (pt_val (pe_call Gis_whole (hr.mono (by decide)) (by rfl) Nis_whole.g Nis_whole.kp Nis_whole.b .nil pass0 (pa_cons (pv 1) (pa_cons pe_int (pa_cons (pe_op op_sub (pe_callB call_len_seq (by rfl) T.len_ PySem.boot_len (pa_cons (pe_fld (pv 0) rfl) pa_nil)) pe_int) pa_nil)))))) (pss_one (ps_raise rfl (takes_of rfl rfl rfl rfl) (pmk_oex ENoStretch.o ENoStretch.i ENoStretch.t (ok_NoStretch ES ENoStretch) (hr.mono (by decide)) ENoStretch.b .nil pass0 (by rfl) ENoStretch.g (pa_cons (pv 1) pa_nil)))) pss_nil), ?_⟩
    refine ⟨_, rfl, _, rfl, x, C, dx, _, _, rfl, hx, TC.cl, TC.n2, lf_stretches _ _ _ _, p2, xs2, rfl, .inr hp2, _, _, rfl, rfl, v, 0, (xs2.length : Int) - 1, rfl, th, ?_⟩
    rw [l2, bad_wh bad]
    exact ⟨_, rfl, iteT ⟨_, rfl, made_one k⟩⟩
theorem ok_longB {f : Addr} {fd : FuncData} (F : Fun K "_long" "Line._long" s_long f fd) (T : Txt mg) (TC : ClsT K C) (ES : SeT K mg CS fS fdS sSE) (ENoLong : ExC K mg "NoLong" "NoLong.__init__" sNoLong CE fE fdE)
    (Nis_whole : Fn K mg "is_whole" sWhole ["thing", "low", "high"] f1 fd1) (Gis_whole : FnOk P w K mg base CX0 1 f1 fd1 ["thing", "low", "high"] spWhole) : FnOk P w K mg base (CX P w) 4 f fd ["self", "j"] (spBad K C CE badL) := by
  refine F.okX sc_long (fun vs H Q E h => ?_) (fun cdv A outer s H vs Q E hr h => ?_)
  · obtain ⟨x, v, wd, rfl, _⟩ := h
    rfl
  · obtain ⟨x, v, wd, rfl, ⟨dx, p1, p2, p3, d, xs1, xs2, xs3, hx, hp1, hd1, hp2, hd2, hp3, hd3, hN⟩, th, bad, k⟩ := h
    have l3 : xs3.length = wd.lo.length := by rw [dpAll_len hd3, List.length_map]
    refine ⟨_, pss_cons (ps_if (pt_not (pt_val (pe_call Gis_whole (hr.mono (by decide)) (by rfl) Nis_whole.g Nis_whole.kp Nis_whole.b .nil pass0 (pa_cons (pv 1) (pa_cons pe_int (pa_cons (pe_op op_sub (pe_callB call_len_seq (by rfl) T.len_ PySem.boot_len (pa_cons (pe_fld (pv 0) rfl) pa_nil)) pe_int) pa_nil)))))) (pss_one (ps_raise rfl (takes_of rfl rfl rfl rfl) (pmk_oex ENoLong.o ENoLong.i ENoLong.t (ok_NoLong ES ENoLong) (hr.mono (by decide)) ENoLong.b .nil pass0 (by rfl) ENoLong.g (pa_cons (pv 1) pa_nil)))) pss_nil)
      (pss_one (ps_ret (pe_ix (ixT (K := K) rfl) (pe_fld (pv 0) rfl) (pv 1) (fun _ _ => rfl)))), ?_⟩
    refine ⟨_, rfl, _, rfl, x, C, dx, _, _, rfl, hx, TC.cl, TC.n3, lf_longs _ _ _ _, p3, xs3, rfl, .inr hp3, _, _, rfl, rfl, v, 0, (xs3.length : Int) - 1, rfl, th, ?_⟩
    rw [l3, bad_wh bad]
    exact ⟨_, rfl, iteT ⟨_, rfl, made_one k⟩⟩
theorem ok_endsB {f : Addr} {fd : FuncData} (F : Fun K "ends" "Line.ends" s_ends f fd) (T : Txt mg) (TC : ClsT K C)
    (Mcheck_stretch : Mt K C "_check_stretch" "Line._check_stretch" s_check_stretch ["self", "k"] f1 fd1) (GchkX : FnOk P w K mg base (CX P w) 4 f1 fd1 ["self", "k"] (orS (spCheckStretch K C) (spBad K C CE badS))) :
    FnOk P w K mg base (CX P w) 5 f fd ["self", "k"] (spBad K C CE badS) := by
  refine F.okX sc_ends (fun vs H Q E h => ?_) (fun cdv A outer s H vs Q E hr h => ?_)
  · obtain ⟨x, v, wd, rfl, _⟩ := h
    rfl
  · obtain ⟨x, v, wd, rfl, hL, th, bad, k⟩ := h
    obtain ⟨dx, p1, p2, p3, d, xs1, xs2, xs3, hx, hp1, hd1, hp2, hd2, hp3, hd3, hN⟩ := id hL
    refine ⟨_, pss_cons (ps_expr (pe_meth (pv 0) TC.cl Mcheck_stretch.m GchkX (hr.mono (by decide)) Mcheck_stretch.b .nil (passes_call (takes_of rfl rfl rfl rfl) (fun _ _ _ _ h => h)) (pa_cons (pv 1) pa_nil)))
      (pss_one (ps_ret (pe_tup (pa_cons (pe_ix (ixT (K := K) rfl) (pe_ix (ixT (K := K) rfl) (pe_fld (pv 0) rfl) (pv 1) (fun _ _ => rfl)) pe_int (fun _ _ => rfl)) (pa_cons (pe_ix (ixT (K := K) rfl) (pe_ix (ixT (K := K) rfl) (pe_fld (pv 0) rfl) (pe_op op_add (pv 1) pe_int) (fun _ _ => rfl)) pe_int (fun _ _ => rfl)) pa_nil))))), ?_⟩
    exact ⟨_, rfl, x, dx, _, rfl, hx, lf_no _ _ _ _ (by decide +kernel), _, rfl, .inr ⟨x, v, wd, rfl, hL, th, bad, k⟩⟩
theorem ok_kindB {f : Addr} {fd : FuncData} (F : Fun K "kind" "Line.kind" s_kind f fd) (T : Txt mg) (TC : ClsT K C)
    (Mcheck_stretch : Mt K C "_check_stretch" "Line._check_stretch" s_check_stretch ["self", "k"] f1 fd1) (GchkX : FnOk P w K mg base (CX P w) 4 f1 fd1 ["self", "k"] (orS (spCheckStretch K C) (spBad K C CE badS))) :
    FnOk P w K mg base (CX P w) 5 f fd ["self", "k"] (spBad K C CE badS) := by
  refine F.okX sc_kind (fun vs H Q E h => ?_) (fun cdv A outer s H vs Q E hr h => ?_)
  · obtain ⟨x, v, wd, rfl, _⟩ := h
    rfl
  · obtain ⟨x, v, wd, rfl, hL, th, bad, k⟩ := h
    obtain ⟨dx, p1, p2, p3, d, xs1, xs2, xs3, hx, hp1, hd1, hp2, hd2, hp3, hd3, hN⟩ := id hL
    refine ⟨_, pss_cons (ps_expr (pe_meth (pv 0) TC.cl Mcheck_stretch.m GchkX (hr.mono (by decide)) Mcheck_stretch.b .nil (passes_call (takes_of rfl rfl rfl rfl) (fun _ _ _ _ h => h)) (pa_cons (pv 1) pa_nil)))
      (pss_one (ps_ret (pe_ix (ixT (K := K) rfl) (pe_ix (ixT (K := K) rfl) (pe_fld (pv 0) rfl) (pv 1) (fun _ _ => rfl)) pe_int (fun _ _ => rfl)))), ?_⟩
    exact ⟨_, rfl, x, dx, _, rfl, hx, lf_no _ _ _ _ (by decide +kernel), _, rfl, .inr ⟨x, v, wd, rfl, hL, th, bad, k⟩⟩
theorem ok_long_ofB {f : Addr} {fd : FuncData} (F : Fun K "long_of" "Line.long_of" s_long_of f fd) (T : Txt mg) (TC : ClsT K C)
    (Mcheck_stretch : Mt K C "_check_stretch" "Line._check_stretch" s_check_stretch ["self", "k"] f1 fd1) (GchkX : FnOk P w K mg base (CX P w) 4 f1 fd1 ["self", "k"] (orS (spCheckStretch K C) (spBad K C CE badS))) :
    FnOk P w K mg base (CX P w) 5 f fd ["self", "k"] (spBad K C CE badS) := by
  refine F.okX sc_long_of (fun vs H Q E h => ?_) (fun cdv A outer s H vs Q E hr h => ?_)
  · obtain ⟨x, v, wd, rfl, _⟩ := h
    rfl
  · obtain ⟨x, v, wd, rfl, hL, th, bad, k⟩ := h
    obtain ⟨dx, p1, p2, p3, d, xs1, xs2, xs3, hx, hp1, hd1, hp2, hd2, hp3, hd3, hN⟩ := id hL
    refine ⟨_, pss_cons (ps_expr (pe_meth (pv 0) TC.cl Mcheck_stretch.m GchkX (hr.mono (by decide)) Mcheck_stretch.b .nil (passes_call (takes_of rfl rfl rfl rfl) (fun _ _ _ _ h => h)) (pa_cons (pv 1) pa_nil)))
      (pss_cons (ps_for (passes_of rfl) rfl (pi_enumT (by rfl) T.enumerate_ (pa_cons (pe_fld (pv 0) rfl) pa_nil)) (pg_tup (by rfl) (pgs_cons (pg_name (i := 2) sc_long_of.nd rfl (Or.inl rfl)) (pgs_cons (pg_tup (by rfl) (pgs_cons (pg_name (i := 3) sc_long_of.nd rfl (Or.inl rfl)) (pgs_cons (pg_name (i := 4) sc_long_of.nd rfl (Or.inl rfl)) (pgs_cons (pg_name (i := 5) sc_long_of.nd rfl (Or.inl rfl)) pgs_nil)))) pgs_nil))) (pss_one (ps_if (pt_chain op_le op_lt (pv 3) (pv 1) (pv 4)) (pss_one (ps_ret (pv 2))) pss_nil)))
      (pss_one (ps_ret pe_non))), ?_⟩
    exact ⟨_, rfl, x, dx, _, rfl, hx, lf_no _ _ _ _ (by decide +kernel), _, rfl, .inr ⟨x, v, wd, rfl, hL, th, bad, k⟩⟩
theorem ok_homeB {f : Addr} {fd : FuncData} (F : Fun K "home" "Line.home" s_home f fd) (T : Txt mg) (TC : ClsT K C)
    (Mends : Mt K C "ends" "Line.ends" s_ends ["self", "k"] f1 fd1) (GendsX : FnOk P w K mg base (CX P w) 5 f1 fd1 ["self", "k"] (orS (spEnds K C) (spBad K C CE badS))) :
    FnOk P w K mg base (CX P w) 6 f fd ["self", "k"] (spBad K C CE badS) := by
  refine F.okX sc_home (fun vs H Q E h => ?_) (fun cdv A outer s H vs Q E hr h => ?_)
  · obtain ⟨x, v, wd, rfl, _⟩ := h
    rfl
  · obtain ⟨x, v, wd, rfl, hL, th, bad, k⟩ := h
    obtain ⟨dx, p1, p2, p3, d, xs1, xs2, xs3, hx, hp1, hd1, hp2, hd2, hp3, hd3, hN⟩ := id hL
    refine ⟨_, pss_one (ps_ret (pe_ix (ixT (K := K) rfl) (pe_meth (pv 0) TC.cl Mends.m GendsX (hr.mono (by decide)) Mends.b .nil (passes_call (takes_of rfl rfl rfl rfl) (fun _ _ _ _ h => h)) (pa_cons (pv 1) pa_nil)) (pe_ix (ixT (K := K) rfl) (pe_ix (ixT (K := K) rfl) (pe_fld (pv 0) rfl) (pv 1) (fun _ _ => rfl)) pe_int (fun _ _ => rfl)) (fun _ _ => rfl))), ?_⟩
    exact ⟨_, rfl, x, dx, _, rfl, hx, lf_no _ _ _ _ (by decide +kernel), _, rfl, .inr ⟨x, v, wd, rfl, hL, th, bad, k⟩⟩
theorem ok_long_endsB {f : Addr} {fd : FuncData} (F : Fun K "long_ends" "Line.long_ends" s_long_ends f fd) (T : Txt mg) (TC : ClsT K C)
    (Mlong : Mt K C "_long" "Line._long" s_long ["self", "j"] f1 fd1) (GlongX : FnOk P w K mg base (CX P w) 4 f1 fd1 ["self", "j"] (orS (spLongJ K C) (spBad K C CE badL))) :
    FnOk P w K mg base (CX P w) 5 f fd ["self", "j"] (spBad K C CE badL) := by
  refine F.okX sc_long_ends (fun vs H Q E h => ?_) (fun cdv A outer s H vs Q E hr h => ?_)
  · obtain ⟨x, v, wd, rfl, _⟩ := h
    rfl
  · obtain ⟨x, v, wd, rfl, hL, th, bad, k⟩ := h
    obtain ⟨dx, p1, p2, p3, d, xs1, xs2, xs3, hx, hp1, hd1, hp2, hd2, hp3, hd3, hN⟩ := id hL
    refine ⟨_, pss_cons (ps_asg (pe_meth (pv 0) TC.cl Mlong.m GlongX (hr.mono (by decide)) Mlong.b .nil (passes_call (takes_of rfl rfl rfl rfl) (fun _ _ _ _ h => h)) (pa_cons (pv 1) pa_nil)) (pg_tup (by rfl) (pgs_cons (pg_name (i := 2) sc_long_ends.nd rfl (Or.inl rfl)) (pgs_cons (pg_name (i := 3) sc_long_ends.nd rfl (Or.inl rfl)) (pgs_cons (pg_name (i := 4) sc_long_ends.nd rfl (Or.inl rfl)) pgs_nil)))))
      (pss_one (ps_ret (pe_tup (pa_cons (pe_ix (ixT (K := K) rfl) (pe_ix (ixT (K := K) rfl) (pe_fld (pv 0) rfl) (pv 2) (fun _ _ => rfl)) pe_int (fun _ _ => rfl)) (pa_cons (pe_ix (ixT (K := K) rfl) (pe_ix (ixT (K := K) rfl) (pe_fld (pv 0) rfl) (pv 3) (fun _ _ => rfl)) pe_int (fun _ _ => rfl)) pa_nil))))), ?_⟩
    exact ⟨_, rfl, x, dx, _, rfl, hx, lf_no _ _ _ _ (by decide +kernel), _, rfl, .inr ⟨x, v, wd, rfl, hL, th, bad, k⟩⟩
theorem ok_long_stretchesB {f : Addr} {fd : FuncData} (F : Fun K "long_stretches" "Line.long_stretches" s_long_stretches f fd) (T : Txt mg) (TC : ClsT K C)
    (Mlong : Mt K C "_long" "Line._long" s_long ["self", "j"] f1 fd1) (GlongX : FnOk P w K mg base (CX P w) 4 f1 fd1 ["self", "j"] (orS (spLongJ K C) (spBad K C CE badL))) :
    FnOk P w K mg base (CX P w) 5 f fd ["self", "j"] (spBad K C CE badL) := by
  refine F.okX sc_long_stretches (fun vs H Q E h => ?_) (fun cdv A outer s H vs Q E hr h => ?_)
  · obtain ⟨x, v, wd, rfl, _⟩ := h
    rfl
  · obtain ⟨x, v, wd, rfl, hL, th, bad, k⟩ := h
    obtain ⟨dx, p1, p2, p3, d, xs1, xs2, xs3, hx, hp1, hd1, hp2, hd2, hp3, hd3, hN⟩ := id hL
    refine ⟨_, pss_cons (ps_asg (pe_meth (pv 0) TC.cl Mlong.m GlongX (hr.mono (by decide)) Mlong.b .nil (passes_call (takes_of rfl rfl rfl rfl) (fun _ _ _ _ h => h)) (pa_cons (pv 1) pa_nil)) (pg_tup (by rfl) (pgs_cons (pg_name (i := 2) sc_long_stretches.nd rfl (Or.inl rfl)) (pgs_cons (pg_name (i := 3) sc_long_stretches.nd rfl (Or.inl rfl)) (pgs_cons (pg_name (i := 4) sc_long_stretches.nd rfl (Or.inl rfl)) pgs_nil)))))
      (pss_one (ps_ret (pe_listRg rfl (by rfl) T.list_ (prg_2 (by rfl) T.range_ (pv 2) (pv 3))))), ?_⟩
    exact ⟨_, rfl, x, dx, _, rfl, hx, lf_no _ _ _ _ (by decide +kernel), _, rfl, .inr ⟨x, v, wd, rfl, hL, th, bad, k⟩⟩
theorem ok_long_homeB {f : Addr} {fd : FuncData} (F : Fun K "long_home" "Line.long_home" s_long_home f fd) (T : Txt mg) (TC : ClsT K C)
    (Mlong_ends : Mt K C "long_ends" "Line.long_ends" s_long_ends ["self", "j"] f1 fd1) (GlongEX : FnOk P w K mg base (CX P w) 5 f1 fd1 ["self", "j"] (orS (spLongEnds K C) (spBad K C CE badL))) :
    FnOk P w K mg base (CX P w) 6 f fd ["self", "j"] (spBad K C CE badL) := by
  refine F.okX sc_long_home (fun vs H Q E h => ?_) (fun cdv A outer s H vs Q E hr h => ?_)
  · obtain ⟨x, v, wd, rfl, _⟩ := h
    rfl
  · obtain ⟨x, v, wd, rfl, hL, th, bad, k⟩ := h
    obtain ⟨dx, p1, p2, p3, d, xs1, xs2, xs3, hx, hp1, hd1, hp2, hd2, hp3, hd3, hN⟩ := id hL
    refine ⟨_, pss_one (ps_ret (pe_ix (ixT (K := K) rfl) (pe_meth (pv 0) TC.cl Mlong_ends.m GlongEX (hr.mono (by decide)) Mlong_ends.b .nil (passes_call (takes_of rfl rfl rfl rfl) (fun _ _ _ _ h => h)) (pa_cons (pv 1) pa_nil)) (pe_ix (ixT (K := K) rfl) (pe_ix (ixT (K := K) rfl) (pe_fld (pv 0) rfl) (pv 1) (fun _ _ => rfl)) pe_int (fun _ _ => rfl)) (fun _ _ => rfl))), ?_⟩
    exact ⟨_, rfl, x, dx, _, rfl, hx, lf_no _ _ _ _ (by decide +kernel), _, rfl, .inr ⟨x, v, wd, rfl, hL, th, bad, k⟩⟩
end
end K5

set_option maxRecDepth 100000
set_option maxHeartbeats 400000
namespace K5
open PySem PySem.Spec PyProof.Rows L2 GxR Gd TL My
/-! ### asking -/
def nameV (wd : Wd) (way : Int) (i j : Nat) : V := if way = 0 then .int ((wd.ps[i]?.map (·.2)).getD 0) else if way = 1 then .int i else if way = 2 then betw i j else lbt wd.lo (min i j : Nat) (max i j : Nat)
def spNameX (K : PySem.W.Frag) (C CP : Addr) : Sp := fun vs H Q E => ∃ (x : Addr) (way : Int) (v1 v2 : V) (wd : Wd), vs = [.ref x, .int way, v1, v2] ∧ LineAt K C wd H x ∧ 0 ≤ way ∧ way ≤ 3 ∧ Th H v1 ∧ Th H v2 ∧
  ((∃ z1 i j, v1 = .str z1 ∧ posOf wd.ps z1 = some i ∧ (2 ≤ way → ∃ z2, v2 = .str z2 ∧ posOf wd.ps z2 = some j) ∧ ∀ H', Same H H' → Q (nameV wd way i j) H') ∨
   (badN wd v1 ∧ ∀ e, H e = none → E (.ref CP) (some e) (upd H e (.xd [("found", v1)]))) ∨
   (2 ≤ way ∧ (∃ z1 i, v1 = .str z1 ∧ posOf wd.ps z1 = some i) ∧ badN wd v2 ∧ ∀ e, H e = none → E (.ref CP) (some e) (upd H e (.xd [("found", v2)]))))
def spNumberX (K : PySem.W.Frag) (C CT CL : Addr) : Sp := fun vs H Q E => ∃ (x : Addr) (way : Int) (v : V) (wd : Wd), vs = [.ref x, .int way, v] ∧ LineAt K C wd H x ∧ wd.Ok ∧ 0 ≤ way ∧ way ≤ 6 ∧ Th H v ∧
  (((∃ i : Nat, v = .int i ∧ (way ≤ 3 → i < wd.st.length) ∧ (3 < way → i < wd.lo.length)) ∧ ∀ a H', Same H H' → Q a H') ∨
   (way ≤ 3 ∧ badS wd v ∧ ∀ e, H e = none → E (.ref CT) (some e) (upd H e (.xd [("found", v)]))) ∨
   (3 < way ∧ badL wd v ∧ ∀ e, H e = none → E (.ref CL) (some e) (upd H e (.xd [("found", v)]))))
theorem posOf_lt {ps : List (Str × Int)} {z : Str} {i : Nat} (h : posOf ps z = some i) : i < ps.length := by
  obtain ⟨h1, _⟩ := List.findIdx?_eq_some_iff_getElem.mp h
  exact h1
theorem ops_in {top : Int} : ∀ {low : Int} {lo : List (Int × Int × Int)}, 0 ≤ low → longsOk top low lo → ∀ {i : Nat} {p : Int × Int × Int}, lo[i]? = some p → 0 ≤ p.1 ∧ p.1 + 2 ≤ p.2.1 ∧ p.2.1 ≤ top ∧ 0 ≤ p.2.2 ∧ p.2.2 ≤ 1
  | low, (f, l, h) :: r, l0, ok, 0, p, e => by
    obtain ⟨a1, a2, a3, a4, a5, _⟩ := ok
    obtain rfl := Option.some.inj e
    exact ⟨by show 0 ≤ f; omega, a2, a3, a4, a5⟩
  | low, (f, l, h) :: r, l0, ok, i + 1, p, e => by
    obtain ⟨a1, a2, a3, a4, a5, a6⟩ := ok
    exact ops_in (by omega) a6 (i := i) (by simpa using e)
section
variable {P : Program} {w : World} {K : PySem.W.Frag} {mg : Str → Option Value} {base : Heap} {C CP CT CL : Addr} {f1 f2 f3 f4 f5 f6 f7 : Addr} {fd1 fd2 fd3 fd4 fd5 fd6 fd7 : FuncData}
abbrev s_law_name_asked : Stmt := top 31
theorem sc_law_name_asked : FnScope ["_law_line", "_law_way", "_law_one", "_law_other"] ["_law_line", "_law_way", "_law_one", "_law_other"] (defScope s_law_name_asked) := ⟨rfl, rfl, rfl, by decide +kernel, rfl, by decide +kernel, by decide +kernel⟩
theorem ok_name_asked {f : Addr} {fd : FuncData} (F : Fun K "_law_name_asked" "_law_name_asked" s_law_name_asked f fd) (T : Txt mg) (TC : ClsT K C)
    (Mroads : Mt K C "roads" "Line.roads" s_roads ["self", "name"] f1 fd1) (GroadsX : FnOk P w K mg base (CX P w) 5 f1 fd1 ["self", "name"] (orS (spRoads K C) (spBad K C CP badN)))
    (Mnumber_of : Mt K C "number_of" "Line.number_of" s_number_of ["self", "name"] f2 fd2) (GnumX : FnOk P w K mg base (CX P w) 4 f2 fd2 ["self", "name"] (orS (spNum K C) (spBad K C CP badN)))
    (Mbetween : Mt K C "between" "Line.between" s_between ["self", "one", "other"] f3 fd3) (GbetX : FnOk P w K mg base (CX P w) 5 f3 fd3 ["self", "one", "other"] (orS (spBetween K C) (spBadB K C CP)))
    (Mlong_between : Mt K C "long_between" "Line.long_between" s_long_between ["self", "one", "other"] f4 fd4) (GlbtX : FnOk P w K mg base (CX P w) 5 f4 fd4 ["self", "one", "other"] (orS (spLongBetween K C) (spBadB K C CP))) :
    FnOk P w K mg base (CX P w) 6 f fd ["_law_line", "_law_way", "_law_one", "_law_other"] (spNameX K C CP) := by
  refine F.okX sc_law_name_asked (fun vs H Q E h => ?_) (fun cdv A outer s H vs Q E hr h => ?_)
  · obtain ⟨x, way, v1, v2, wd, rfl, _⟩ := h
    rfl
  · obtain ⟨x, way, v1, v2, wd, rfl, hL, w0, w3, th1, th2, cs⟩ := h
    obtain ⟨dx, p1, p2, p3, d, xs1, xs2, xs3, hx, hp1, hd1, hp2, hd2, hp3, hd3, hN⟩ := id hL
    refine ⟨_, pss_cons (ps_if (pt_cmpR op_eq (pv 1) pe_int (nomark _)) (pss_one (ps_ret (pe_meth (pv 0) TC.cl Mroads.m GroadsX (hr.mono (by decide)) Mroads.b .nil (passes_call (takes_of rfl rfl rfl rfl) (fun _ _ _ _ h => h)) (pa_cons (pv 2) pa_nil)))) pss_nil)
      (pss_cons (ps_if (pt_cmpR op_eq (pv 1) pe_int (nomark _)) (pss_one (ps_ret (pe_meth (pv 0) TC.cl Mnumber_of.m GnumX (hr.mono (by decide)) Mnumber_of.b .nil (passes_call (takes_of rfl rfl rfl rfl) (fun _ _ _ _ h => h)) (pa_cons (pv 2) pa_nil)))) pss_nil)
      (pss_cons (ps_if (pt_cmpR op_eq (pv 1) pe_int (nomark _)) (pss_one (ps_ret (pe_meth (pv 0) TC.cl Mbetween.m GbetX (hr.mono (by decide)) Mbetween.b .nil (passes_call (takes_of rfl rfl rfl rfl) (fun _ _ _ _ h => h)) (pa_cons (pv 2) (pa_cons (pv 3) pa_nil))))) pss_nil)
      (pss_one (ps_ret (pe_meth (pv 0) TC.cl Mlong_between.m GlbtX (hr.mono (by decide)) Mlong_between.b .nil (passes_call (takes_of rfl rfl rfl rfl) (fun _ _ _ _ h => h)) (pa_cons (pv 2) (pa_cons (pv 3) pa_nil))))))), ?_⟩
    refine ⟨_, rfl, rfl, _, rfl, ite2 (fun c => ?_) (fun c => ?_)⟩
    · have c : way = 0 := by simpa using c
      subst c
      refine ⟨_, rfl, x, dx, _, rfl, hx, lf_no _ _ _ _ (by decide +kernel), _, rfl, ?_⟩
      rcases cs with ⟨z1, i, j, rfl, hi, _, k⟩ | ⟨bad, k⟩ | ⟨c, _⟩
      · obtain ⟨p, hp⟩ : ∃ p, wd.ps[i]? = some p := ⟨_, List.getElem?_eq_getElem (posOf_lt hi)⟩
        refine .inl ⟨x, wd, z1, i, p, rfl, hL, hi, hp, ?_⟩
        have := k H (Same.refl _)
        unfold nameV at this
        rw [if_pos rfl, hp] at this
        exact this
      · exact .inr ⟨x, v1, wd, rfl, hL, th1, bad, k⟩
      · omega
    · have c : ¬ way = 0 := by simpa using c
      refine ⟨_, rfl, rfl, _, rfl, ite2 (fun c1 => ?_) (fun c1 => ?_)⟩
      · have c1 : way = 1 := by simpa using c1
        subst c1
        refine ⟨_, rfl, x, dx, _, rfl, hx, lf_no _ _ _ _ (by decide +kernel), _, rfl, ?_⟩
        rcases cs with ⟨z1, i, j, rfl, hi, _, k⟩ | ⟨bad, k⟩ | ⟨c, _⟩
        · refine .inl ⟨x, z1, wd, i, rfl, hL, hi, ?_⟩
          have := k H (Same.refl _)
          unfold nameV at this
          rw [if_neg (by decide), if_pos rfl] at this
          exact this
        · exact .inr ⟨x, v1, wd, rfl, hL, th1, bad, k⟩
        · omega
      · have c1 : ¬ way = 1 := by simpa using c1
        refine ⟨_, rfl, rfl, _, rfl, ite2 (fun c2 => ?_) (fun c2 => ?_)⟩
        · have c2 : way = 2 := by simpa using c2
          subst c2
          refine ⟨_, rfl, x, dx, _, rfl, hx, lf_no _ _ _ _ (by decide +kernel), _, rfl, _, rfl, ?_⟩
          rcases cs with ⟨z1, i, j, rfl, hi, h2, k⟩ | ⟨bad, k⟩ | ⟨_, ⟨z1, i, rfl, hi⟩, bad, k⟩
          · obtain ⟨z2, rfl, hj⟩ := h2 (by omega)
            refine .inl ⟨x, z1, z2, wd, i, j, rfl, hL, hi, hj, ?_⟩
            have := k H (Same.refl _)
            unfold nameV at this
            rw [if_neg (by decide), if_neg (by decide), if_pos rfl] at this
            exact this
          · exact .inr ⟨x, v1, v2, wd, rfl, hL, th1, th2, .inl ⟨bad, k⟩⟩
          · exact .inr ⟨x, _, v2, wd, rfl, hL, th1, th2, .inr ⟨⟨z1, i, rfl, hi⟩, bad, k⟩⟩
        · have c2 : ¬ way = 2 := by simpa using c2
          have c3 : way = 3 := by omega
          subst c3
          refine ⟨_, rfl, x, dx, _, rfl, hx, lf_no _ _ _ _ (by decide +kernel), _, rfl, _, rfl, ?_⟩
          rcases cs with ⟨z1, i, j, rfl, hi, h2, k⟩ | ⟨bad, k⟩ | ⟨_, ⟨z1, i, rfl, hi⟩, bad, k⟩
          · obtain ⟨z2, rfl, hj⟩ := h2 (by omega)
            refine .inl ⟨x, z1, z2, wd, i, j, rfl, hL, hi, hj, fun H' s => ?_⟩
            have := k H' s
            unfold nameV at this
            rw [if_neg (by decide), if_neg (by decide), if_neg (by decide)] at this
            exact this
          · exact .inr ⟨x, v1, v2, wd, rfl, hL, th1, th2, .inl ⟨bad, k⟩⟩
          · exact .inr ⟨x, _, v2, wd, rfl, hL, th1, th2, .inr ⟨⟨z1, i, rfl, hi⟩, bad, k⟩⟩
abbrev s_law_number_asked : Stmt := top 32
theorem sc_law_number_asked : FnScope ["_law_line", "_law_way", "_law_number"] ["_law_line", "_law_way", "_law_number"] (defScope s_law_number_asked) := ⟨rfl, rfl, rfl, by decide +kernel, rfl, by decide +kernel, by decide +kernel⟩
theorem ok_number_asked {f : Addr} {fd : FuncData} (F : Fun K "_law_number_asked" "_law_number_asked" s_law_number_asked f fd) (T : Txt mg) (TC : ClsT K C)
    (Mends : Mt K C "ends" "Line.ends" s_ends ["self", "k"] f1 fd1) (GendsX : FnOk P w K mg base (CX P w) 5 f1 fd1 ["self", "k"] (orS (spEnds K C) (spBad K C CT badS)))
    (Mkind : Mt K C "kind" "Line.kind" s_kind ["self", "k"] f2 fd2) (GkindX : FnOk P w K mg base (CX P w) 5 f2 fd2 ["self", "k"] (orS (spKind K C) (spBad K C CT badS)))
    (Mhome : Mt K C "home" "Line.home" s_home ["self", "k"] f3 fd3) (GhomeX : FnOk P w K mg base (CX P w) 6 f3 fd3 ["self", "k"] (orS (spHome K C) (spBad K C CT badS)))
    (Mlong_of : Mt K C "long_of" "Line.long_of" s_long_of ["self", "k"] f4 fd4) (GlofX : FnOk P w K mg base (CX P w) 5 f4 fd4 ["self", "k"] (orS (spLongOf K C) (spBad K C CT badS)))
    (Mlong_ends : Mt K C "long_ends" "Line.long_ends" s_long_ends ["self", "j"] f5 fd5) (GlendX : FnOk P w K mg base (CX P w) 5 f5 fd5 ["self", "j"] (orS (spLongEnds K C) (spBad K C CL badL)))
    (Mlong_stretches : Mt K C "long_stretches" "Line.long_stretches" s_long_stretches ["self", "j"] f6 fd6) (GlstX : FnOk P w K mg base (CX P w) 5 f6 fd6 ["self", "j"] (orS (spLongStretches K C) (spBad K C CL badL)))
    (Mlong_home : Mt K C "long_home" "Line.long_home" s_long_home ["self", "j"] f7 fd7) (GlhomX : FnOk P w K mg base (CX P w) 6 f7 fd7 ["self", "j"] (orS (spLongHome K C) (spBad K C CL badL))) :
    FnOk P w K mg base (CX P w) 7 f fd ["_law_line", "_law_way", "_law_number"] (spNumberX K C CT CL) := by
  refine F.okX sc_law_number_asked (fun vs H Q E h => ?_) (fun cdv A outer s H vs Q E hr h => ?_)
  · obtain ⟨x, way, v, wd, rfl, _⟩ := h
    rfl
  · obtain ⟨x, way, v, wd, rfl, hL, ok, w0, w6, th, cs⟩ := h
    obtain ⟨dx, p1, p2, p3, d, xs1, xs2, xs3, hx, hp1, hd1, hp2, hd2, hp3, hd3, hN⟩ := id hL
    have sl := ok.sl
    have pAt : ∀ {i : Nat}, i < wd.ps.length → ∃ p, wd.ps[i]? = some p := fun h => ⟨_, List.getElem?_eq_getElem h⟩
    have lAt : ∀ {i : Nat}, i < wd.lo.length → ∃ (a c : Nat) (h : Int) (p q : Str × Int), wd.lo[i]? = some ((a : Int), (c : Int), h) ∧ 0 ≤ h ∧ h ≤ 1 ∧ a < c ∧ c < wd.ps.length ∧ wd.ps[a]? = some p ∧ wd.ps[c]? = some q := fun {i} h => by
      have e : wd.lo[i]? = some wd.lo[i] := List.getElem?_eq_getElem h
      obtain ⟨q1, q2, q3, q4, q5⟩ := ops_in (Int.le_refl 0) ok.lo e
      generalize wd.lo[i] = l at e q1 q2 q3 q4 q5
      obtain ⟨a, c, h⟩ := l
      simp only at q1 q2 q3 q4 q5
      obtain ⟨a, rfl⟩ := Int.eq_ofNat_of_zero_le q1
      obtain ⟨c, rfl⟩ := Int.eq_ofNat_of_zero_le (a := c) (by omega)
      have hc : c < wd.ps.length := by have := ok.p2; omega
      obtain ⟨p, hp⟩ := pAt (i := a) (by omega)
      obtain ⟨q, hq⟩ := pAt hc
      exact ⟨a, c, h, p, q, e, q4, q5, by omega, hc, hp, hq⟩
    refine ⟨_, pss_cons (ps_if (pt_cmpR op_eq (pv 1) pe_int (nomark _)) (pss_one (ps_ret (pe_meth (pv 0) TC.cl Mends.m GendsX (hr.mono (by decide)) Mends.b .nil (passes_call (takes_of rfl rfl rfl rfl) (fun _ _ _ _ h => h)) (pa_cons (pv 2) pa_nil)))) pss_nil)
      (pss_cons (ps_if (pt_cmpR op_eq (pv 1) pe_int (nomark _)) (pss_one (ps_ret (pe_meth (pv 0) TC.cl Mkind.m GkindX (hr.mono (by decide)) Mkind.b .nil (passes_call (takes_of rfl rfl rfl rfl) (fun _ _ _ _ h => h)) (pa_cons (pv 2) pa_nil)))) pss_nil)
      (pss_cons (ps_if (pt_cmpR op_eq (pv 1) pe_int (nomark _)) (pss_one (ps_ret (pe_meth (pv 0) TC.cl Mhome.m GhomeX (hr.mono (by decide)) Mhome.b .nil (passes_call (takes_of rfl rfl rfl rfl) (fun _ _ _ _ h => h)) (pa_cons (pv 2) pa_nil)))) pss_nil)
      (pss_cons (ps_if (pt_cmpR op_eq (pv 1) pe_int (nomark _)) (pss_one (ps_ret (pe_meth (pv 0) TC.cl Mlong_of.m GlofX (hr.mono (by decide)) Mlong_of.b .nil (passes_call (takes_of rfl rfl rfl rfl) (fun _ _ _ _ h => h)) (pa_cons (pv 2) pa_nil)))) pss_nil)
      (pss_cons (ps_if (pt_cmpR op_eq (pv 1) pe_int (nomark _)) (pss_one (ps_ret (pe_meth (pv 0) TC.cl Mlong_ends.m GlendX (hr.mono (by decide)) Mlong_ends.b .nil (passes_call (takes_of rfl rfl rfl rfl) (fun _ _ _ _ h => h)) (pa_cons (pv 2) pa_nil)))) pss_nil)
      (pss_cons (ps_if (pt_cmpR op_eq (pv 1) pe_int (nomark _)) (pss_one (ps_ret (pe_meth (pv 0) TC.cl Mlong_stretches.m GlstX (hr.mono (by decide)) Mlong_stretches.b .nil (passes_call (takes_of rfl rfl rfl rfl) (fun _ _ _ _ h => h)) (pa_cons (pv 2) pa_nil)))) pss_nil)
      (pss_one (ps_ret (pe_meth (pv 0) TC.cl Mlong_home.m GlhomX (hr.mono (by decide)) Mlong_home.b .nil (passes_call (takes_of rfl rfl rfl rfl) (fun _ _ _ _ h => h)) (pa_cons (pv 2) pa_nil))))))))), ?_⟩
    refine ⟨_, rfl, rfl, _, rfl, ite2 (fun c => ?_) (fun c => ?_)⟩
    · have c : way = 0 := by simpa using c
      refine ⟨_, rfl, x, dx, _, rfl, hx, lf_no _ _ _ _ (by decide +kernel), _, rfl, ?_⟩
      rcases cs with ⟨⟨i, rfl, h1, _⟩, k⟩ | ⟨_, bad, k⟩ | ⟨c', _⟩
      · have hi := h1 (by omega)
        obtain ⟨p, hp⟩ := pAt (i := i) (by omega)
        obtain ⟨q, hq⟩ := pAt (i := i + 1) (by omega)
        exact .inl ⟨x, wd, i, p, q, rfl, hL, hi, hp, hq, fun t H' s _ => k _ _ s⟩
      · exact .inr ⟨x, v, wd, rfl, hL, th, bad, k⟩
      · omega
    have c : ¬ way = 0 := by simpa using c
    refine ⟨_, rfl, rfl, _, rfl, ite2 (fun c1 => ?_) (fun c1 => ?_)⟩
    · have c1 : way = 1 := by simpa using c1
      refine ⟨_, rfl, x, dx, _, rfl, hx, lf_no _ _ _ _ (by decide +kernel), _, rfl, ?_⟩
      rcases cs with ⟨⟨i, rfl, h1, _⟩, k⟩ | ⟨_, bad, k⟩ | ⟨c', _⟩
      · exact .inl ⟨x, wd, i, _, rfl, hL, List.getElem?_eq_getElem (h1 (by omega)), k _ _ (Same.refl _)⟩
      · exact .inr ⟨x, v, wd, rfl, hL, th, bad, k⟩
      · omega
    have c1 : ¬ way = 1 := by simpa using c1
    refine ⟨_, rfl, rfl, _, rfl, ite2 (fun c2 => ?_) (fun c2 => ?_)⟩
    · have c2 : way = 2 := by simpa using c2
      refine ⟨_, rfl, x, dx, _, rfl, hx, lf_no _ _ _ _ (by decide +kernel), _, rfl, ?_⟩
      rcases cs with ⟨⟨i, rfl, h1, _⟩, k⟩ | ⟨_, bad, k⟩ | ⟨c', _⟩
      · have hi := h1 (by omega)
        obtain ⟨p, hp⟩ := pAt (i := i) (by omega)
        obtain ⟨q, hq⟩ := pAt (i := i + 1) (by omega)
        have hr := List.getElem?_eq_getElem hi
        obtain ⟨_, r0, r1⟩ := ok.st _ (List.getElem_mem hi)
        exact .inl ⟨x, wd, i, _, p, q, rfl, hL, hr, r0, r1, hp, hq, fun H' s => k _ _ s⟩
      · exact .inr ⟨x, v, wd, rfl, hL, th, bad, k⟩
      · omega
    have c2 : ¬ way = 2 := by simpa using c2
    refine ⟨_, rfl, rfl, _, rfl, ite2 (fun c3 => ?_) (fun c3 => ?_)⟩
    · have c3 : way = 3 := by simpa using c3
      refine ⟨_, rfl, x, dx, _, rfl, hx, lf_no _ _ _ _ (by decide +kernel), _, rfl, ?_⟩
      rcases cs with ⟨⟨i, rfl, h1, _⟩, k⟩ | ⟨_, bad, k⟩ | ⟨c', _⟩
      · exact .inl ⟨x, wd, i, rfl, hL, h1 (by omega), fun H' s => k _ _ s⟩
      · exact .inr ⟨x, v, wd, rfl, hL, th, bad, k⟩
      · omega
    have c3 : ¬ way = 3 := by simpa using c3
    refine ⟨_, rfl, rfl, _, rfl, ite2 (fun c4 => ?_) (fun c4 => ?_)⟩
    · have c4 : way = 4 := by simpa using c4
      refine ⟨_, rfl, x, dx, _, rfl, hx, lf_no _ _ _ _ (by decide +kernel), _, rfl, ?_⟩
      rcases cs with ⟨⟨i, rfl, _, h1⟩, k⟩ | ⟨c', _⟩ | ⟨_, bad, k⟩
      · obtain ⟨a, b, h, p, q, e, _, _, _, _, hp, hq⟩ := lAt (h1 (by omega))
        exact .inl ⟨x, wd, i, a, b, h, p, q, rfl, hL, e, hp, hq, fun t H' s _ => k _ _ s⟩
      · omega
      · exact .inr ⟨x, v, wd, rfl, hL, th, bad, k⟩
    have c4 : ¬ way = 4 := by simpa using c4
    refine ⟨_, rfl, rfl, _, rfl, ite2 (fun c5 => ?_) (fun c5 => ?_)⟩
    · have c5 : way = 5 := by simpa using c5
      refine ⟨_, rfl, x, dx, _, rfl, hx, lf_no _ _ _ _ (by decide +kernel), _, rfl, ?_⟩
      rcases cs with ⟨⟨i, rfl, _, h1⟩, k⟩ | ⟨c', _⟩ | ⟨_, bad, k⟩
      · obtain ⟨a, b, h, p, q, e, _, _, ab, bl, hp, hq⟩ := lAt (h1 (by omega))
        have p6 := ok.p6
        exact .inl ⟨x, wd, i, _, rfl, hL, e, RgOk.of_le (by show (0 : Int) ≤ a; omega) (by show (b : Int) ≤ _; omega) (by show (a : Int) ≤ _; omega) (by show (0 : Int) ≤ b; omega), fun t ht => k _ _ (same_alloc ht)⟩
      · omega
      · exact .inr ⟨x, v, wd, rfl, hL, th, bad, k⟩
    have c5 : ¬ way = 5 := by simpa using c5
    refine ⟨_, rfl, x, dx, _, rfl, hx, lf_no _ _ _ _ (by decide +kernel), _, rfl, ?_⟩
    rcases cs with ⟨⟨i, rfl, _, h1⟩, k⟩ | ⟨c', _⟩ | ⟨_, bad, k⟩
    · obtain ⟨a, b, h, p, q, e, h0, h1', _, _, hp, hq⟩ := lAt (h1 (by omega))
      exact .inl ⟨x, wd, i, a, b, h, p, q, rfl, hL, e, h0, h1', hp, hq, fun H' s => k _ _ s⟩
    · omega
    · exact .inr ⟨x, v, wd, rfl, hL, th, bad, k⟩
end
end K5

set_option maxRecDepth 100000
set_option maxHeartbeats 1000000
/-! The end of a law whose own def shows dicts: the module table is tracked, so that no new thing is it. For laws without tables. -/
namespace Gd
open PySem PySem.Spec PyProof.Rows L2 GxR
/-- the module table: it is there -/
def smU : HO := .ext fun h => ∃ o, h.get? sysModules = some o
def SmAt (H : Hp) : Prop := ∃ o, H sysModules = some (.frz o smU)
theorem SmAt.same {H H' : Hp} (h : SmAt H) (s : Same H H') : SmAt H' := let ⟨o, e⟩ := h; ⟨o, s _ _ e⟩
theorem smU_ne {u : HO} (n : ∀ φ, u ≠ .ext φ) : smU ≠ u := fun z => n _ z.symm
open Classical in
noncomputable def hs0 (K : PySem.W.Frag) (a : Addr) (vs : List Value) (ns : List Int) (o1 : Obj) : Hp := fun b =>
  if b = sysModules then some (.frz o1 smU) else if b = a ∧ K.lookup a = none then some (.frz (scriptO vs) (.lst (ns.map V.int))) else none
theorem hs0_inv {K : PySem.W.Frag} {a b : Addr} {vs : List Value} {ns : List Int} {o1 : Obj} {u : HO} (h : hs0 K a vs ns o1 b = some u) :
    (b = sysModules ∧ u = .frz o1 smU) ∨ (b = a ∧ K.lookup a = none ∧ u = .frz (scriptO vs) (.lst (ns.map V.int))) := by
  unfold hs0 at h
  split at h
  · rename_i c
    exact .inl ⟨c, (Option.some.inj h).symm⟩
  · split at h
    · rename_i c
      exact .inr ⟨c.1, c.2, (Option.some.inj h).symm⟩
    · cases h
section
variable {P : Program} {w : World} {K : PySem.W.Frag} {mg mb : Str → Option Value} {CX : CXT} {k : Nat} {fa a : Addr} {fd : FuncData} {x : Str} {sp : Sp} {s1 : Shared} {vs : List Value} {ns : List Int}
theorem law_scall (KX : K.In s1.heap) (nsG : s1.heap.Ns mainGlobals mg) (nsB : s1.heap.Ns builtinsNs mb) (isB : ∀ x : Str, x ≠ "__name__" → mb x = bootBuiltins x) (lim : s1.heap.NoLimit) (gens : s1.gens = #[])
    (hsm : ∃ o, s1.heap.get? sysModules = some o) (k1 : K.lookup sysModules = none) (na : a ≠ sysModules) (ha : s1.heap.get? a = some (scriptO vs)) (hi : IntsAre vs ns) (hl : ns.length ≤ sizeLine) (hr : Room k callerA)
    (F : ∀ base : Heap, K.In base → base.Ns mainGlobals mg → GOk P w K mg base CX k fa fd [x] sp) (hbind : ∀ (s : Shared) (u : Value), BindsTo s fd ⟨[u], []⟩ [(x, u)])
    (hsp : ∀ H : Hp, SmAt H → SqL K H a (ns.map V.int) → sp [.ref a] H (fun v _ => v = .bl true) fun _ _ _ => False) (hCX : ∀ H e s', CX [] H s1 (fun _ _ _ => False) e s' → False) :
    codeAny (model P w) callerA (.call (.ref fa) ⟨[.ref a], []⟩) (fun r s' => r = .ok (.ret (.bool true)) ∧ OldK s1.heap s'.heap ∧ s'.os = s1.os ∧ AllBare s'.gens) s1 := by
  have rv := vals_ints hi
  have hlen := hi.length
  obtain ⟨o1, ho1⟩ := hsm
  let H := hs0 K a vs ns o1
  have off : ∀ {b : Addr}, b ≠ sysModules → b ≠ a → H b = none := fun {b} n1 n2 => by
    cases q : H b with
    | none => rfl
    | some u =>
      rcases hs0_inv q with ⟨e, _⟩ | ⟨e, _⟩
      · exact absurd e n1
      · exact absurd e n2
  have dic : ∀ {b : Addr} {m : Str → Option Value}, b ≠ sysModules → s1.heap.Ns b m → (hidT s1.heap H).Ns b m := by
    rintro b m n1 ⟨o, es, ep, e, d, rest⟩
    refine ⟨o, es, ep, hidT_get e (off n1 ?_), d, rest⟩
    rintro rfl
    rw [ha] at e
    obtain rfl := Option.some.inj e
    cases d
  have KH : K.In (hidT s1.heap H) := by
    intro b o e
    refine hidT_get (KX b o e) ?_
    cases q : H b with
    | none => rfl
    | some u =>
      rcases hs0_inv q with ⟨rfl, _⟩ | ⟨rfl, z, _⟩
      · rw [k1] at e
        cases e
      · rw [z] at e
        cases e
  have limH : (hidT s1.heap H).NoLimit := let ⟨mc, h1, h2⟩ := lim; ⟨mc, dic (by decide) h1, h2⟩
  have M : L2.Mod K mg (hidT s1.heap H) := ⟨KH, dic (by decide) nsG, ⟨mb, dic (by decide) nsB, isB⟩, limH⟩
  have hS : SqL K H a (ns.map V.int) := by
    cases q : K.lookup a with
    | none => exact .inl (.inr ⟨scriptO vs, (if_neg na).trans (if_pos ⟨rfl, q⟩)⟩)
    | some o =>
      have e := KX a o q
      rw [ha] at e
      obtain rfl := Option.some.inj e
      exact .inr ⟨_, vs.toArray, _, q, rfl, rfl, rfl, by rw [List.size_toArray, hlen]; exact hl, by simpa using rv⟩
  have hok : HOk P w H s1.heap := by
    intro b u q
    rcases hs0_inv q with ⟨rfl, rfl⟩ | ⟨rfl, _, rfl⟩
    · exact ⟨ho1, ⟨_, ho1⟩, ⟨_, ho1⟩, fun h1 h2 ⟨o, z⟩ k => ⟨o, k _ z⟩⟩
    · exact ⟨ha, by rw [List.length_map]; exact hl, vs, _, rv, ha⟩
  have e0 : Env0 P w K mg (hidT s1.heap H) callerA [] s1 H :=
    ⟨rfl, M, fun b o e => of_hidT e, Nat.le_of_eq (hidT_size _ _), trivial, (fun b hb => by cases (show b ∈ ([] : List Addr) from hb)), hok, .of_eq gens⟩
  refine codeAny_mono ((F _ KH (dic (by decide) nsG)).go callerA [] s1 H ⟨[.ref a], []⟩ [.ref a] [.ref a] (fun v _ => v = .bl true) (fun _ _ _ => False) rfl hr e0 (hbind s1 (.ref a)) (.cons rfl .nil) (hsp H ⟨o1, if_pos rfl⟩ hS)) ?_
  intro r z h
  match r, h with
  | .ok .next, h => exact h.elim
  | .ok .brk, h => exact h.elim
  | .ok .cont, h => exact h.elim
  | .error e, h => exact (hCX H e z h).elim
  | .ok (.ret u), h =>
    obtain ⟨v, G, os, bare, un, hokG, rv', q⟩ := h
    obtain rfl : v = .bl true := q
    obtain rfl : u = Value.bool true := rv'
    have plain : ∀ b o, s1.heap.get? b = some o → z.heap.get? b = some o := by
      intro b o e
      cases q : H b with
      | none => exact un.keep b o e q (fun y => by cases (show b ∈ ([] : List Addr) from y)) (by simp)
      | some y =>
        rcases hs0_inv q with ⟨rfl, rfl⟩ | ⟨rfl, _, rfl⟩
        · obtain ⟨e2, _⟩ := hokG sysModules _ (un.frzs _ _ _ q)
          rw [ho1] at e
          exact Option.some.inj e ▸ e2
        · obtain ⟨e2, _⟩ := hokG b _ (un.frzs b _ _ q)
          rw [ha] at e
          exact Option.some.inj e ▸ e2
    exact ⟨rfl, ⟨fun b o e => .inl (plain b o e), fun b o e => ⟨o, plain b o e⟩⟩, os, bare⟩
end
/-- what is to be known of such a law -/
def GLawS (l : PySem.W.OpenLaw) (w : World) (K : PySem.W.Frag) (CX : CXT) (k n : Nat) (x : Str) (mg : Str → Option Value) (fa : Addr) : Prop :=
  ∃ (fd : FuncData) (sp : Sp), K.lookup sysModules = none ∧ (∀ (s : Shared) (u : Value), BindsTo s fd ⟨[u], []⟩ [(x, u)]) ∧
    (∀ (H : Hp) (a : Addr) (ns : List Int), ns.length ≤ n → SmAt H → SqL K H a (ns.map V.int) → sp [.ref a] H (fun v _ => v = .bl true) fun _ _ _ => False) ∧
    ∀ base : Heap, K.In base → base.Ns mainGlobals mg → GOk l.prog w K mg base CX k fa fd [x] sp
open PySem.W in
theorem walk_s {l : PySem.W.OpenLaw} {n k : Nat} {q : Program} {loose : List Str} {XP : (Str → Option Value) → Heap → Prop} {YP : World → Heap → Prop} {d : DefRec} {K : Params → PySem.W.Frag} {CX : World → CXT} {x : Str}
    (no : importsNone q = true) (hn : l.most = some n) (small : n ≤ sizeLine) (hdf : d.params.defaults = []) (hr : Room k callerA) (hY : ∀ (w : World) (h : Heap), YP w h → (K w.params).In h)
    (F : ∀ (w : World) (mg : Str → Option Value) (fa : Addr) (h : Heap), YP w h → (K w.params).In h → h.Ns mainGlobals mg → mg d.name = some (.ref fa) → GLawS l w (K w.params) (CX w) k n x mg fa)
    (hCX : ∀ (w : World) (H : Hp) (s : Shared) (e : Value) (s' : Shared), CX w [] H s (fun _ _ _ => False) e s' → False) :
    PySem.W.WalkO q loose XP YP l.row.toRowW d [] (fun f vs => PySem.call f vs) := by
  intro w s0 s1 mg mb G Y fa o pm cd doc dV kV ho hd hcd hD hmg hg args vals as pre lay rd well low
  obtain ⟨a, vs, ns, rfl, rfl, hobj, hints, hlen⟩ := Att.script_of hn pre well
  have na : a ≠ sysModules := by
    cases rd with
    | cons r1 r2 =>
      cases r1 with
      | list _ _ _ _ => exact beq_eq_false_iff_ne.mp (low a (by simp))
  have KX := hY w _ Y
  obtain ⟨fd, sp, k1, hb, hsp, hF⟩ := F w mg fa _ Y KX G.T.g hmg
  have run := law_scall KX G.T.g G.T.b G.T.builtins G.T.nolimit hg (let ⟨_, ⟨o, _, _, e, _⟩, _⟩ := (G.T.seer no).mods; ⟨o, e⟩) k1 na hobj hints (Nat.le_trans hlen small) hr hF hb (fun H a1 a2 => hsp H a ns hlen a1 a2) (fun H e s' => hCX w H s1 e s')
  refine enter_call (codeAny_mono run ?_)
  rintro r z ⟨rfl, old, os, bare⟩
  exact ⟨.inl ⟨.bool true, .bool true, [], rfl, fun _ => rfl, .bool true, Att.post_true l _, fun _ => ⟨List.Pairwise.nil, fun _ m => (nomatch m)⟩⟩, old, os, bare⟩
end Gd

set_option maxRecDepth 100000
set_option maxHeartbeats 1000000
/-! Data with dicts: what repr asks of them. -/
namespace My
open PySem PySem.Spec PyProof.Rows L2 GxR Gd TL
theorem same_new {H : Hp} {p : Addr} {o : HO} (n : H p = none) : Same H (upd H p o) := fun b u e => by rw [upd_ne (ne_of_none e n)]; exact e
theorem sameT {K : PySem.W.Frag} {H H' : Hp} {a : Addr} {xs : List V} (s : Same H H') (h : SqT K H a xs) : SqT K H' a xs := by
  rcases h with (h | ⟨o, h⟩) | h
  · exact .inl (.inl (s _ _ h))
  · exact .inl (.inr ⟨o, s _ _ h⟩)
  · exact .inr h
def keyD : Key → PyData
  | .inl i => .int i
  | .inr x => .str x
mutual
/-- v is the data d, dicts too -/
inductive Dq (K : PySem.W.Frag) (H : Hp) : V → PyData → Prop
  | non : Dq K H .non .none
  | bl (b : Bool) : Dq K H (.bl b) (.bool b)
  | int (i : Int) : Dq K H (.int i) (.int i)
  | str (z : Str) : Dq K H (.str z) (.str z)
  | lst {a : Addr} {xs : List V} {ds : List PyData} (e : SqL K H a xs) (h : DqAll K H xs ds) : Dq K H (.ref a) (.list ds)
  | tup {a : Addr} {xs : List V} {ds : List PyData} (e : SqT K H a xs) (h : DqAll K H xs ds) : Dq K H (.ref a) (.tuple ds)
  | dic {a : Addr} {kvs : List (Key × V)} {ds : List (PyData × PyData)} (e : H a = some (.dK kvs)) (h : DqKv K H kvs ds) : Dq K H (.ref a) (.dict ds)
inductive DqAll (K : PySem.W.Frag) (H : Hp) : List V → List PyData → Prop
  | nil : DqAll K H [] []
  | cons {v : V} {vs : List V} {d : PyData} {ds : List PyData} (h : Dq K H v d) (t : DqAll K H vs ds) : DqAll K H (v :: vs) (d :: ds)
inductive DqKv (K : PySem.W.Frag) (H : Hp) : List (Key × V) → List (PyData × PyData) → Prop
  | nil : DqKv K H [] []
  | cons {k : Key} {v : V} {r : List (Key × V)} {d : PyData} {ds : List (PyData × PyData)} (h : Dq K H v d) (t : DqKv K H r ds) : DqKv K H ((k, v) :: r) ((keyD k, d) :: ds)
end
mutual
theorem Dq.of {K : PySem.W.Frag} {H : Hp} : ∀ {v : V} {d : PyData}, Dp K H v d → Dq K H v d
  | _, _, .non => .non
  | _, _, .bl b => .bl b
  | _, _, .int i => .int i
  | _, _, .str z => .str z
  | _, _, .lst e h => .lst e (DqAll.of h)
  | _, _, .tup e h => .tup e (DqAll.of h)
theorem DqAll.of {K : PySem.W.Frag} {H : Hp} : ∀ {vs : List V} {ds : List PyData}, DpAll K H vs ds → DqAll K H vs ds
  | _, _, .nil => .nil
  | _, _, .cons h t => .cons (Dq.of h) (DqAll.of t)
end
mutual
theorem Dq.same {K : PySem.W.Frag} {H H' : Hp} (s : Same H H') : ∀ {v : V} {d : PyData}, Dq K H v d → Dq K H' v d
  | _, _, .non => .non
  | _, _, .bl b => .bl b
  | _, _, .int i => .int i
  | _, _, .str z => .str z
  | _, _, .lst e h => .lst (s.seq e) (DqAll.same s h)
  | _, _, .tup e h => .tup (sameT s e) (DqAll.same s h)
  | _, _, .dic e h => .dic (s _ _ e) (DqKv.same s h)
theorem DqAll.same {K : PySem.W.Frag} {H H' : Hp} (s : Same H H') : ∀ {vs : List V} {ds : List PyData}, DqAll K H vs ds → DqAll K H' vs ds
  | _, _, .nil => .nil
  | _, _, .cons h t => .cons (Dq.same s h) (DqAll.same s t)
theorem DqKv.same {K : PySem.W.Frag} {H H' : Hp} (s : Same H H') : ∀ {kvs : List (Key × V)} {ds : List (PyData × PyData)}, DqKv K H kvs ds → DqKv K H' kvs ds
  | _, _, .nil => .nil
  | _, _, .cons h t => .cons (Dq.same s h) (DqKv.same s t)
end
theorem keyD_reads {h : Heap} {k : Key} {v : Value} (e : keyIs k v = true) : Reads h v (keyD k) [] := by
  rcases keyIs_shape e with ⟨i, t, rfl, rfl⟩ | ⟨x, t, rfl, rfl⟩
  · exact .int i t
  · exact .str x t
section
variable {X : Cx} {pins : List (Addr × Obj)} {σ : L2.St} {H : Hp} {s : Shared}
theorem ne_sm {K : PySem.W.Frag} {H : Hp} {a : Addr} {xs : List V} (n : K.lookup sysModules = none) (sm : SmAt H) (h : SqL K H a xs) : a ≠ sysModules := by
  rintro rfl
  obtain ⟨o, e⟩ := sm
  rcases h with (h | ⟨u, h⟩) | ⟨u, _, _, h, _⟩
  · rw [e] at h
    cases h
  · rw [e] at h
    cases h
  · rw [n] at h
    cases h
mutual
theorem Dq.reads (n : X.K.lookup sysModules = none) (sm : SmAt H) (I : Inv X pins σ H s) : ∀ (d : PyData) (v : V) (u : Value), Dq X.K H v d → RelV v u → ∃ as, Reads s.heap u d as ∧ sysModules ∉ as
  | .none, _, _, h, r => by
    cases h
    cases r
    exact ⟨_, .none, by simp⟩
  | .bool b, _, _, h, r => by
    cases h
    cases r
    exact ⟨_, .bool b, by simp⟩
  | .int i, _, _, h, r => by
    cases h
    obtain ⟨t, rfl⟩ := r
    exact ⟨_, .int i t, by simp⟩
  | .str z, _, _, h, r => by
    cases h
    obtain ⟨t, rfl⟩ := r
    exact ⟨_, .str z t, by simp⟩
  | .list ds, _, _, h, r => by
    cases h with
    | lst hs ha =>
      cases r
      obtain ⟨its, rv, ⟨o, m, ho, hc, _, hd⟩, _⟩ := I.list hs
      obtain ⟨as, hr, no⟩ := Dq.readsAll n sm I ds _ its ha rv
      exact ⟨_, .list ho hc hd hr, fun m => (List.mem_cons.mp m).elim (ne_sm n sm hs).symm no⟩
  | .tuple ds, _, _, h, r => by
    cases h with
    | tup hs ha =>
      cases r
      obtain ⟨its, rv, ⟨o, ho, hc, m, hd⟩, _⟩ := I.tuple hs
      obtain ⟨as, hr, no⟩ := Dq.readsAll n sm I ds _ its ha rv
      exact ⟨_, .tuple ho hc hd hr, no⟩
  | .dict ds, _, _, h, r => by
    cases h with
    | dic e hk =>
      cases r
      obtain ⟨_, ne, vs, rel, o, es, ep, ho, hx, hd, _, hp, _⟩ := dk_of I.hok e
      obtain ⟨as, bs, h1, h2, n1, n2⟩ := Dq.readsKv n sm I ds _ vs es.toList hk rel hp
      refine ⟨_, .dict ho hx.1 hd h1 h2, fun m => ?_⟩
      rw [List.cons_append] at m
      rcases List.mem_cons.mp m with m | m
      · exact (beq_eq_false_iff_ne.mp ne) m.symm
      · exact (List.mem_append.mp m).elim n1 n2
theorem Dq.readsAll (n : X.K.lookup sysModules = none) (sm : SmAt H) (I : Inv X pins σ H s) : ∀ (ds : List PyData) (vs : List V) (us : List Value), DqAll X.K H vs ds → Vals vs us → ∃ as, ReadsAll s.heap us ds as ∧ sysModules ∉ as
  | [], _, _, h, r => by
    cases h
    cases r
    exact ⟨_, .nil, by simp⟩
  | d :: ds, _, _, h, r => by
    cases h with
    | cons h1 h2 =>
      cases r with
      | cons r1 r2 =>
        obtain ⟨as, q1, n1⟩ := Dq.reads n sm I d _ _ h1 r1
        obtain ⟨bs, q2, n2⟩ := Dq.readsAll n sm I ds _ _ h2 r2
        exact ⟨_, .cons q1 q2, fun m => (List.mem_append.mp m).elim n1 n2⟩
theorem Dq.readsKv (n : X.K.lookup sysModules = none) (sm : SmAt H) (I : Inv X pins σ H s) : ∀ (ds : List (PyData × PyData)) (kvs : List (Key × V)) (vs : List (Key × Value)) (es : List DictEntry), DqKv X.K H kvs ds → KV kvs vs → Pairs (mixKind X.prog X.w) es vs →
    ∃ as bs, ReadsAll s.heap (es.map (·.key)) (ds.map (·.1)) as ∧ ReadsAll s.heap (es.map (·.val)) (ds.map (·.2)) bs ∧ sysModules ∉ as ∧ sysModules ∉ bs
  | [], _, _, _, h, r, p => by
    cases h
    cases r
    cases p
    exact ⟨_, _, .nil, .nil, by simp, by simp⟩
  | (_, d) :: ds, _, _, _, h, r, p => by
    cases h with
    | cons h1 h2 =>
      cases r with
      | cons r1 r2 =>
        cases p with
        | cons p1 p2 p3 =>
          obtain ⟨as, q1, n1⟩ := Dq.reads n sm I d _ _ h1 r1.2
          obtain ⟨bs, cs, q2, q3, n2, n3⟩ := Dq.readsKv n sm I ds _ _ _ h2 r2 p3
          refine ⟨_, _, .cons (keyD_reads ?_) q2, .cons ?_ q3, by simpa using n2, fun m => (List.mem_append.mp m).elim n1 n3⟩
          · have e := r1.1
            dsimp only at e ⊢
            rw [e]
            exact p1
          · dsimp only
            rw [p2]
            exact q1
end
end
/-- repr(v), v data with dicts -/
def rReprQ (K : PySem.W.Frag) : List V → Hp → VK → Prop := fun xs H Q => ∃ v d, xs = [v] ∧ SmAt H ∧ Dq K H v d ∧ d.showable = true ∧ d.depth ≤ 100 ∧ d.shown.length ≤ sizeLine ∧ Q (.str d.shown) H
theorem call_reprQ {X : Cx} {k : Nat} (n : X.K.lookup sysModules = none) (gd : X.A.guards = some []) (hr : Room k X.A) : CallR X (.builtin "repr") (rReprQ X.K) := by
  rintro pins s σ H xs us Q I r ⟨v, d, rfl, sm, dq, hs, hdep, hsz, q⟩
  have whole : ∀ {a : Addr} {as : List Addr}, Reads s.heap (.ref a) d as → sysModules ∉ as → wpAny (model X.prog X.w) X.A (call (.builtin "repr") [.ref a]) (EP X pins σ Q) X.xe s := by
    intro a as rd no
    have hun := hr.un
    exact repr_of_reads' rd hs (fun _ => no) gd (by omega) (fun _ _ z => z) (fun h' u tk hk => ⟨.str _, H, I.kept hk, ⟨_, rfl⟩, q⟩) hsz
  cases dq with
  | non => exact call_repr gd hr pins s σ H _ us Q I r ⟨_, _, rfl, .non, hs, hdep, hsz, q⟩
  | bl b => exact call_repr gd hr pins s σ H _ us Q I r ⟨_, _, rfl, .bl b, hs, hdep, hsz, q⟩
  | int i => exact call_repr gd hr pins s σ H _ us Q I r ⟨_, _, rfl, .int i, hs, hdep, hsz, q⟩
  | str z => exact call_repr gd hr pins s σ H _ us Q I r ⟨_, _, rfl, .str z, hs, hdep, hsz, q⟩
  | lst e h =>
    obtain ⟨as, rd, no⟩ := Dq.reads n sm I _ _ us.head! (.lst e h) (by cases r with | cons a b => cases b; exact a)
    cases r with
    | cons a b => cases b; cases a; exact whole rd no
  | tup e h =>
    obtain ⟨as, rd, no⟩ := Dq.reads n sm I _ _ us.head! (.tup e h) (by cases r with | cons a b => cases b; exact a)
    cases r with
    | cons a b => cases b; cases a; exact whole rd no
  | dic e h =>
    obtain ⟨as, rd, no⟩ := Dq.reads n sm I _ _ us.head! (.dic e h) (by cases r with | cons a b => cases b; exact a)
    cases r with
    | cons a b => cases b; cases a; exact whole rd no
end My

set_option maxRecDepth 100000
set_option maxHeartbeats 400000
/-! small data: what repr asks of them -/
namespace My
open PySem PySem.Spec PyProof.Rows L2 GxR Gd TL
structure Sm (d : PyData) (k m : Nat) : Prop where
  lay : d.canLay0 = true
  dep : d.depth ≤ k
  wt : d.weight ≤ m
  ish : d.intsShort 13 = true
  sh : d.showable = true
theorem Sm.rep {d : PyData} {k m : Nat} (h : Sm d k m) (hk : k ≤ 64) (hm : m ≤ 2 ^ 20) : d.showable = true ∧ d.depth ≤ 100 ∧ d.shown.length ≤ sizeLine := by
  refine ⟨h.sh, Nat.le_trans h.dep (by omega), Nat.le_trans (shown_le13 ?_ h.ish) (by rw [sizeLine_eq]; decide)⟩
  unfold PyData.layable0
  rw [Bool.and_eq_true, Bool.and_eq_true, decide_eq_true_eq, decide_eq_true_eq]
  exact ⟨⟨h.lay, Nat.le_trans h.dep hk⟩, Nat.le_trans h.wt hm⟩
theorem Sm.mono {d : PyData} {k m k' m' : Nat} (h : Sm d k m) (hk : k ≤ k') (hm : m ≤ m') : Sm d k' m' := ⟨h.lay, Nat.le_trans h.dep hk, Nat.le_trans h.wt hm, h.ish, h.sh⟩
theorem sm_none : Sm .none 0 0 := ⟨rfl, Nat.le_refl 0, Nat.le_refl 0, rfl, rfl⟩
theorem sm_bool (b : Bool) : Sm (.bool b) 0 0 := ⟨rfl, Nat.le_refl 0, Nat.le_refl 0, rfl, rfl⟩
theorem sm_int {i : Int} (h : i.natAbs ≤ 1000) : Sm (.int i) 0 20 := by
  have hl : i.natAbs.log2 ≤ 10 := by
    by_cases z : i.natAbs = 0
    · rw [z]; decide
    · have : i.natAbs.log2 < 11 := (Nat.log2_lt z).mpr (by omega)
      omega
  refine ⟨rfl, Nat.le_refl 0, ?_, ?_, ?_⟩
  · unfold PyData.weight
    split
    · omega
    · omega
  · exact intsShort_of_noneOrIn (lo := -2000) (hi := 2000) (by decide) (by decide) (.int i) (by simp [noneOrIn]; omega)
  · unfold PyData.showable
    rw [decide_eq_true_eq]
    omega
theorem sm_str {z : Str} (g : Good z) (h : z.length ≤ 6) : Sm (.str z) 0 6 := by
  refine ⟨?_, Nat.le_refl 0, h, rfl, rfl⟩
  unfold PyData.canLay0
  unfold PyData.strOk
  rw [Array.all_eq_true_iff_forall_mem]
  intro c hc
  exact decide_eq_true (g c (Array.mem_toList_iff.mpr hc))
theorem sm_all {k m : Nat} : ∀ {ds : List PyData}, (∀ d ∈ ds, Sm d k m) → PyData.canLayAll0 ds = true ∧ PyData.depthAll ds ≤ k ∧ PyData.weightAll ds ≤ ds.length * (m + 1) ∧ PyData.intsShortAll 13 ds = true ∧ PyData.showableAll ds = true
  | [], _ => ⟨rfl, Nat.zero_le _, Nat.zero_le _, rfl, rfl⟩
  | d :: r, h => by
    obtain ⟨a1, a2, a3, a4, a5⟩ := sm_all (ds := r) fun x hx => h x (List.mem_cons_of_mem _ hx)
    have b := h d List.mem_cons_self
    refine ⟨?_, ?_, ?_, ?_, ?_⟩
    · unfold PyData.canLayAll0; rw [b.lay, a1]; rfl
    · unfold PyData.depthAll; exact Nat.max_le.mpr ⟨b.dep, a2⟩
    · unfold PyData.weightAll
      have := b.wt
      rw [List.length_cons, Nat.succ_mul]
      omega
    · unfold PyData.intsShortAll; rw [b.ish, a4]; rfl
    · unfold PyData.showableAll; rw [b.sh, a5]; rfl
theorem sm_list {k m : Nat} {ds : List PyData} (h : ∀ d ∈ ds, Sm d k m) : Sm (.list ds) (k + 1) (ds.length * (m + 1)) := by
  obtain ⟨a1, a2, a3, a4, a5⟩ := sm_all h
  exact ⟨by unfold PyData.canLay0; exact a1, by unfold PyData.depth; omega, by unfold PyData.weight; exact a3, by unfold PyData.intsShort; exact a4, by unfold PyData.showable; exact a5⟩
theorem sm_tuple {k m : Nat} {ds : List PyData} (h : ∀ d ∈ ds, Sm d k m) : Sm (.tuple ds) (k + 1) (ds.length * (m + 1)) := by
  obtain ⟨a1, a2, a3, a4, a5⟩ := sm_all h
  exact ⟨by unfold PyData.canLay0; exact a1, by unfold PyData.depth; omega, by unfold PyData.weight; exact a3, by unfold PyData.intsShort; exact a4, by unfold PyData.showable; exact a5⟩
theorem sm_dP {p : Str × Int} (g : Good p.1) (h : p.1.length ≤ 6) (hr : p.2.natAbs ≤ 1000) : Sm (dP p) 1 42 :=
  sm_tuple (k := 0) (m := 20) (ds := [.str p.1, .int p.2]) fun d hd => by
    simp only [List.mem_cons, List.not_mem_nil, or_false] at hd
    rcases hd with rfl | rfl
    · exact (sm_str g h).mono (Nat.le_refl 0) (by decide)
    · exact sm_int hr
theorem sm_names {a b : Str} (ha : NameOk a) (hb : NameOk b) : Sm (.tuple [.str a, .str b]) 1 14 :=
  sm_tuple (k := 0) (m := 6) (ds := [.str a, .str b]) fun d hd => by
    simp only [List.mem_cons, List.not_mem_nil, or_false] at hd
    rcases hd with rfl | rfl
    · exact sm_str ha.good ha.2.1
    · exact sm_str hb.good hb.2.1
end My

set_option maxRecDepth 100000
set_option maxHeartbeats 400000
/-! data with longer texts and numbers: what repr asks of them -/
namespace My
open PySem PySem.Spec PyProof.Rows L2 GxR Gd TL
structure Sb (d : PyData) (k m : Nat) : Prop where
  lv : d.leavesShort 40 = true
  dep : d.depth ≤ k
  wt : d.weight ≤ m
  sh : d.showable = true
theorem Sb.rep {d : PyData} {k m : Nat} (h : Sb d k m) (hk : k ≤ 100) (hm : m ≤ 390000) : d.showable = true ∧ d.depth ≤ 100 ∧ d.shown.length ≤ sizeLine := by
  refine ⟨h.sh, Nat.le_trans h.dep hk, ?_⟩
  have h1 := PyData.shown_le 40 (by decide) d h.lv
  have h2 := h.wt
  refine Nat.le_trans h1 (Nat.le_trans (m := 42 * 390000 + 40) (by omega) (by rw [sizeLine_eq]; decide))
theorem Sb.mono {d : PyData} {k m k' m' : Nat} (h : Sb d k m) (hk : k ≤ k') (hm : m ≤ m') : Sb d k' m' := ⟨h.lv, Nat.le_trans h.dep hk, Nat.le_trans h.wt hm, h.sh⟩
theorem sb_none : Sb .none 0 0 := ⟨rfl, Nat.le_refl 0, Nat.le_refl 0, rfl⟩
theorem sb_bool (b : Bool) : Sb (.bool b) 0 0 := ⟨rfl, Nat.le_refl 0, Nat.le_refl 0, rfl⟩
theorem text_int {i : Int} (h : i.natAbs < 10 ^ 31) : (Str.ofString (toString i)).length ≤ 32 := by
  have e := int_text_length_le10 (k := 31) (by decide) h
  rw [PySem.ofString_length]
  exact e
theorem sb_int {i : Int} (h : i.natAbs < 10 ^ 31) : Sb (.int i) 0 110 := by
  have hl : i.natAbs.log2 ≤ 109 := by
    by_cases z : i.natAbs = 0
    · rw [z]; decide
    · have : i.natAbs.log2 < 110 := (Nat.log2_lt z).mpr (Nat.lt_of_lt_of_le h (by decide))
      omega
  refine ⟨?_, Nat.le_refl 0, ?_, ?_⟩
  · unfold PyData.leavesShort
    rw [decide_eq_true_eq]
    exact Nat.le_trans (text_int h) (by decide)
  · unfold PyData.weight
    split <;> omega
  · unfold PyData.showable
    rw [decide_eq_true_eq]
    omega
theorem sb_str {z : Str} {m : Nat} (g : Good z) (h : z.length ≤ m) : Sb (.str z) 0 m := by
  refine ⟨?_, Nat.le_refl 0, h, rfl⟩
  unfold PyData.leavesShort
  rw [List.all_eq_true]
  intro c hc
  have := g c hc
  rw [decide_eq_true_eq]
  exact Nat.lt_trans this (by decide)
theorem sb_all {k m : Nat} : ∀ {ds : List PyData}, (∀ d ∈ ds, Sb d k m) → PyData.leavesShortAll 40 ds = true ∧ PyData.depthAll ds ≤ k ∧ PyData.weightAll ds ≤ ds.length * (m + 1) ∧ PyData.showableAll ds = true
  | [], _ => ⟨rfl, Nat.zero_le _, Nat.zero_le _, rfl⟩
  | d :: r, h => by
    obtain ⟨a1, a2, a3, a4⟩ := sb_all (ds := r) fun x hx => h x (List.mem_cons_of_mem _ hx)
    have b := h d List.mem_cons_self
    refine ⟨?_, ?_, ?_, ?_⟩
    · unfold PyData.leavesShortAll; rw [b.lv, a1]; rfl
    · unfold PyData.depthAll; exact Nat.max_le.mpr ⟨b.dep, a2⟩
    · unfold PyData.weightAll
      have := b.wt
      rw [List.length_cons, Nat.succ_mul]
      omega
    · unfold PyData.showableAll; rw [b.sh, a4]; rfl
theorem sb_list {k m : Nat} {ds : List PyData} (h : ∀ d ∈ ds, Sb d k m) : Sb (.list ds) (k + 1) (ds.length * (m + 1)) := by
  obtain ⟨a1, a2, a3, a4⟩ := sb_all h
  exact ⟨by unfold PyData.leavesShort; exact a1, by unfold PyData.depth; omega, by unfold PyData.weight; exact a3, by unfold PyData.showable; exact a4⟩
theorem sb_tuple {k m : Nat} {ds : List PyData} (h : ∀ d ∈ ds, Sb d k m) : Sb (.tuple ds) (k + 1) (ds.length * (m + 1)) := by
  obtain ⟨a1, a2, a3, a4⟩ := sb_all h
  exact ⟨by unfold PyData.leavesShort; exact a1, by unfold PyData.depth; omega, by unfold PyData.weight; exact a3, by unfold PyData.showable; exact a4⟩
theorem good_int (i : Int) : Good (Str.ofString (toString i)) := good_of _
end My

set_option maxRecDepth 100000
set_option maxHeartbeats 400000
namespace K5
open PySem PySem.Spec PyProof.Rows L2 GxR Gd TL My
def Ret (H : Hp) (Q : VK) (t : String) (a : V) : Prop := ∀ u H', Same H H' → H u = none → H' u = some (.tup [.str t, a]) → Q (.ref u) H'
def spCaught (K : PySem.W.Frag) (C : Addr) : Sp := fun vs H Q _ => ∃ (x : Addr) (way : Int) (v1 v2 : V) (wd : Wd), vs = [.ref x, .int way, v1, v2] ∧ LineAt K C wd H x ∧ wd.Ok ∧ 0 ≤ way ∧ way ≤ 10 ∧ Th H v1 ∧ Th H v2 ∧
  ((way ≤ 3 ∧ ∃ z1 i j, v1 = .str z1 ∧ posOf wd.ps z1 = some i ∧ (2 ≤ way → ∃ z2, v2 = .str z2 ∧ posOf wd.ps z2 = some j) ∧ Ret H Q "told" (nameV wd way i j)) ∨
   (way ≤ 3 ∧ badN wd v1 ∧ Ret H Q "place" v1) ∨
   (2 ≤ way ∧ way ≤ 3 ∧ (∃ z1 i, v1 = .str z1 ∧ posOf wd.ps z1 = some i) ∧ badN wd v2 ∧ Ret H Q "place" v2) ∨
   (4 ≤ way ∧ (∃ i : Nat, v1 = .int i ∧ (way ≤ 7 → i < wd.st.length) ∧ (7 < way → i < wd.lo.length)) ∧ ∀ a, Ret H Q "told" a) ∨
   (4 ≤ way ∧ way ≤ 7 ∧ badS wd v1 ∧ Ret H Q "stretch" v1) ∨
   (7 < way ∧ badL wd v1 ∧ Ret H Q "long" v1))
section
variable {P : Program} {w : World} {K : PySem.W.Frag} {mg : Str → Option Value} {base : Heap} {C CP CT CL CS fS fP fT fL : Addr} {f1 f2 : Addr} {fdS fdP fdT fdL fd1 fd2 : FuncData}
abbrev s_law_caught : Stmt := top 33
theorem sc_law_caught : FnScope ["_law_line", "_law_way", "_law_one", "_law_other", "e"] ["_law_line", "_law_way", "_law_one", "_law_other"] (defScope s_law_caught) := ⟨rfl, rfl, rfl, by decide +kernel, rfl, by decide +kernel, by decide +kernel⟩
theorem ok_caught {f : Addr} {fd : FuncData} (F : Fun K "_law_caught" "_law_caught" s_law_caught f fd) (T : Txt mg) (ES : SeT K mg CS fS fdS sSE)
    (ENoPlace : ExC K mg "NoPlace" "NoPlace.__init__" sNoPlace CP fP fdP) (ENoStretch : ExC K mg "NoStretch" "NoStretch.__init__" sNoStretch CT fT fdT) (ENoLong : ExC K mg "NoLong" "NoLong.__init__" sNoLong CL fL fdL)
    (xTP : PySem.W.exmOne K (.ref CT) (.ref CP) = some false) (xLP : PySem.W.exmOne K (.ref CL) (.ref CP) = some false) (xLT : PySem.W.exmOne K (.ref CL) (.ref CT) = some false)
    (Nlaw_name_asked : Fn K mg "_law_name_asked" s_law_name_asked ["_law_line", "_law_way", "_law_one", "_law_other"] f1 fd1) (Glaw_name_asked : FnOk P w K mg base (CX P w) 6 f1 fd1 ["_law_line", "_law_way", "_law_one", "_law_other"] (spNameX K C CP))
    (Nlaw_number_asked : Fn K mg "_law_number_asked" s_law_number_asked ["_law_line", "_law_way", "_law_number"] f2 fd2) (Glaw_number_asked : FnOk P w K mg base (CX P w) 7 f2 fd2 ["_law_line", "_law_way", "_law_number"] (spNumberX K C CT CL)) :
    FnOk P w K mg base CX0 8 f fd ["_law_line", "_law_way", "_law_one", "_law_other"] (spCaught K C) := by
  refine F.ok sc_law_caught (fun vs H Q E h => ?_) (fun cdv A outer s H vs Q E hr h => ?_)
  · obtain ⟨x, way, v1, v2, wd, rfl, _⟩ := h
    rfl
  · obtain ⟨x, way, v1, v2, wd, rfl, hL, ok, w0, w10, th1, th2, cs⟩ := h
    refine ⟨_, pss_one (ps_try_cl rfl rfl sc_law_caught.nd takes_never (.named (i := 4) (ts := fun a cls d => _) ⟨by rfl, by decide, .inl ENoPlace.g⟩ rfl (by rfl) (fun a oe cls d pn hz hf => (pss_one (ps_ret (pe_tup (pa_cons pe_str (pa_cons (pe_xf ENoPlace.x ENoPlace.n hz hf (pv 4)) pa_nil)))))) (.named (i := 4) (ts := fun a cls d => _) ⟨by rfl, by decide, .inl ENoStretch.g⟩ rfl (by rfl) (fun a oe cls d pn hz hf => (pss_one (ps_ret (pe_tup (pa_cons pe_str (pa_cons (pe_xf ENoStretch.x ENoStretch.n hz hf (pv 4)) pa_nil)))))) (.named (i := 4) (ts := fun a cls d => _) ⟨by rfl, by decide, .inl ENoLong.g⟩ rfl (by rfl) (fun a oe cls d pn hz hf => (pss_one (ps_ret (pe_tup (pa_cons pe_str (pa_cons (pe_xf ENoLong.x ENoLong.n hz hf (pv 4)) pa_nil)))))) (.plain (ts := fun a cls d => _) ⟨by rfl, by decide, .inl ES.g⟩ (fun a oe cls d pn hz hf => (pss_one (ps_ret (pe_tup (pa_cons pe_str (pa_cons pe_non pa_nil)))))) .nil)))) (fun W pn xe tk _ => (pss_cons (ps_if (pt_cmpR op_lt (pv 1) pe_int (nomark _)) (pss_one (ps_ret (pe_tup (pa_cons pe_str (pa_cons (pe_callS Glaw_name_asked (hr.mono (by decide)) (by rfl) Nlaw_name_asked.g Nlaw_name_asked.kp Nlaw_name_asked.b (fun σ => passAt tk σ) (pa_cons (pv 0) (pa_cons (pv 1) (pa_cons (pv 2) (pa_cons (pv 3) pa_nil))))) pa_nil))))) pss_nil)
            (pss_one (ps_ret (pe_tup (pa_cons pe_str (pa_cons (pe_callS Glaw_number_asked (hr.mono (by decide)) (by rfl) Nlaw_number_asked.g Nlaw_number_asked.kp Nlaw_number_asked.b (fun σ => passAt tk σ) (pa_cons (pv 0) (pa_cons (pe_op op_sub (pv 1) pe_int) (pa_cons (pv 2) pa_nil)))) pa_nil)))))))), ?_⟩
    have two : 2 ≤ sizeLine := by decide
    have tell : ∀ {H' : Hp} {u : Addr} {t : String} {a : V}, Ret H Q t a → Same H H' → H' u = none → Q (.ref u) (upd H' u (.tup [.str t, a])) := fun k s hu => k _ _ (s.trans (same_new hu)) (s.free hu) upd_same
    refine ⟨_, rfl, _, _, rfl, rfl, _, rfl, ite2 (fun c => ?_) (fun c => ?_)⟩
    · have c : way < 4 := by simpa using c
      refine ⟨_, rfl, _, rfl, _, rfl, _, rfl, x, way, v1, v2, wd, rfl, hL, w0, by omega, th1, th2, ?_⟩
      rcases cs with ⟨_, z1, i, j, rfl, hi, h2, k⟩ | ⟨_, bad, k⟩ | ⟨h2, _, good, bad, k⟩ | ⟨h, _⟩ | ⟨h, _⟩ | ⟨h, _⟩
      · exact .inl ⟨z1, i, j, rfl, hi, h2, fun H' s => ⟨two, fun u hu => tell k s hu⟩⟩
      · refine .inr (.inl ⟨bad, fun e he => ?_⟩)
        refine ⟨true, ENoPlace.e, fun _ y hy => ?_, nofun⟩
        exact ⟨_, rfl, rfl, rfl, e, _, _, rfl, upd_same, rfl, two, fun u hu => tell k (same_new he) hu⟩
      · refine .inr (.inr ⟨h2, good, bad, fun e he => ?_⟩)
        refine ⟨true, ENoPlace.e, fun _ y hy => ?_, nofun⟩
        exact ⟨_, rfl, rfl, rfl, e, _, _, rfl, upd_same, rfl, two, fun u hu => tell k (same_new he) hu⟩
      · omega
      · omega
      · omega
    · have c : ¬ way < 4 := by simpa using c
      refine ⟨_, rfl, _, rfl, _, _, rfl, rfl, _, rfl, x, way - 4, v1, wd, rfl, hL, ok, by omega, by omega, th1, ?_⟩
      rcases cs with ⟨h, _⟩ | ⟨h, _⟩ | ⟨_, h, _⟩ | ⟨_, ⟨i, hi, h1, h2⟩, k⟩ | ⟨_, h7, bad, k⟩ | ⟨h7, bad, k⟩
      · omega
      · omega
      · omega
      · exact .inl ⟨⟨i, hi, fun h => h1 (by omega), fun h => h2 (by omega)⟩, fun a H' s => ⟨two, fun u hu => tell (k a) s hu⟩⟩
      · refine .inr (.inl ⟨by omega, bad, fun e he => ?_⟩)
        refine ⟨false, xTP, nofun, fun _ => ⟨true, ENoStretch.e, fun _ y hy => ?_, nofun⟩⟩
        exact ⟨_, rfl, rfl, rfl, e, _, _, rfl, upd_same, rfl, two, fun u hu => tell k (same_new he) hu⟩
      · refine .inr (.inr ⟨by omega, bad, fun e he => ?_⟩)
        refine ⟨false, xLP, nofun, fun _ => ⟨false, xLT, nofun, fun _ => ⟨true, ENoLong.e, fun _ y hy => ?_, nofun⟩⟩⟩
        exact ⟨_, rfl, rfl, rfl, e, _, _, rfl, upd_same, rfl, two, fun u hu => tell k (same_new he) hu⟩
end
end K5

set_option maxRecDepth 100000
set_option maxHeartbeats 1000000
/-! x in texts, x any thing -/
namespace My
open PySem PySem.Spec PyProof.Rows L2 GxR Gd TL
open PySem.SeqAt PySem.MeetsSeq in
theorem str_eq_dict (b : Str) (u : Tok) (l : Addr) (c : Value) (es : Array DictEntry) (n : Nat) (dd : Option Addr) (sl : Array (Option Value)) :
    Meets (Builtin.«str.__eq__» ⟨[.str b u, .ref l], []⟩) (fun _ R s => s.heap.get? l = some { cls := c, dict := dd, data := .dict es n, slots := sl } ∧ R (.ok (.ret .notImplemented)) s) :=
  .of_wp fun prog w A R s h => by obtain ⟨hp, g, d, tk, os⟩ := s; obtain ⟨hl, h⟩ := h; wp_walk using wpAny_loadPart hl, wpAny_load hl; exact ⟨_, rfl, h⟩
end My
namespace My
open PySem PySem.Spec PyProof.Rows L2 GxR Gd TL
open PySem.SeqAt PySem.MeetsSeq in
theorem rcAt_str_dict {A : Around} {s : Shared} {l : Addr} {o : Obj} {es : Array DictEntry} {n : Nat} (b : Str) (u : Tok) (ho : s.heap.get? l = some o) (hc : o.cls = .type "dict") (hd : o.data = .dict es n) (hu : A.units < cLine) : RcAt A s (.str b u) (.ref l) false := fun prog w E Q h => by
  obtain ⟨cls, dd, data, sl⟩ := o
  simp only at hc hd
  subst hc hd
  have ty : s.TypeIs (.ref l) "dict" := ⟨_, ho, rfl⟩
  refine rc_eq_decline_or (k := false) (typeIs_str s b u) ty (by decide) PySem.F.sub_dict_str PySem.F.slot_str_eq PySem.F.slot_dict_eq_refl
    (fun _ hq => call_meets PySem.F.slot_str_eq (typeIs_str s b u) PySem.F.entry_str_eq (PySem.F.args_str_eq_2 _ _) (str_eq_dict b u l (.type "dict") es n dd sl) ⟨ho, hq⟩)
    (fun _ hq => ?_)
    (fun _ hq => wpAny_of_eq (rfl : isSame (.str b u) (.ref l) = pure false) hq) (.inr hu) h
  refine wpAny_call_entry PySem.F.slot_dict_eq_refl ty PySem.F.entry_dict_eq ?_ (PySem.F.args_dict_eq_2 _ _)
  show wpAny _ _ (Builtin.Dict.dictSlotArgs "__eq__" ⟨[.ref l, .str b u], []⟩ >>= _) _ _ s
  refine wpAny_bind ?_
  unfold Builtin.Dict.dictSlotArgs
  refine wpAny_bind (wpAny_notOrdered_dict ty ?_)
  show wpAny _ _ (pure (Value.ref l, Value.str b u)) _ _ s
  refine wpAny_pure ?_
  refine wpAny_bind (wpAny_isInstance (T := "str") (typeIs_str s b u) PySem.F.sub_str_dict ?_)
  simp only [Bool.not_false, if_true]
  refine wpAny_bind (wpAny_rule (wpAny_pure ⟨_, rfl, hq⟩))
open PySem.SeqAt PySem.MeetsSeq in
theorem eqAt_str_dict {A : Around} {s : Shared} {l : Addr} {o : Obj} {es : Array DictEntry} {n : Nat} (b : Str) (u : Tok) (ho : s.heap.get? l = some o) (hc : o.cls = .type "dict") (hd : o.data = .dict es n) (hu : A.units < cLine) : EqAt A s (.str b u) (.ref l) false := fun prog w E Q h => by
  unfold eqBool
  refine wpAny_holding ?_
  refine wpAny_ite_split (fun hab => absurd (eq_of_beq hab) nofun) (fun _ => ?_)
  exact wpAny_bind (rcAt_str_dict b u ho hc hd hu prog w E _ (wpAny_truthy_bool h))
/-- any thing in a list of texts -/
def rInT (K : PySem.W.Frag) : R2 := fun x y H Q => ∃ (p : Addr) (zs : List Str), y = .ref p ∧ SqL K H p (zs.map V.str) ∧
  ((flatV x = true ∧ Q (.bl (inV x (zs.map V.str))) H) ∨ ((∃ a, x = .ref a ∧ ((∃ xs, SqL K H a xs) ∨ (∃ xs, SqT K H a xs) ∨ ∃ kvs, H a = some (.dK kvs))) ∧ Q (.bl false) H))
theorem any_false {α : Type} : ∀ xs : List α, (xs.any fun _ => false) = false
  | [] => rfl
  | _ :: r => by rw [List.any_cons, any_false r]; rfl
theorem op_inT {X : Cx} (hu : X.A.units + 2 < cLine) : OpR X (compareOp .In) (rInT X.K) := by
  rintro pins s σ H x y v u Q I rx ry ⟨p, zs, rfl, hp, cs⟩
  rcases cs with ⟨fx, q⟩ | ⟨⟨a, rfl, ha⟩, q⟩
  · refine op_in_seq pins s σ H x _ v u Q I rx ry ⟨p, _, rfl, .inl hp, fx, ?_, q⟩
    rw [List.all_map]
    exact List.all_eq_true.mpr fun _ _ => rfl
  · cases ry
    cases rx
    obtain ⟨its, r, pl, hz⟩ := I.list hp
    refine SeqAt.in_listAt (fun _ => false) pl.isList (fun w hw => ?_) ⟨.bl _, H, I, rfl, ?_⟩
    · obtain ⟨z, hz, rz⟩ : ∃ z : Str, z ∈ zs ∧ RelV (.str z) w := by
        have hw2 : w ∈ its := by simpa using hw
        clear pl hz hp hw
        induction zs generalizing its with
        | nil => cases r; cases hw2
        | cons z zs ih =>
          cases r with
          | cons r1 r2 =>
            rcases List.mem_cons.mp hw2 with rfl | hw
            · exact ⟨z, List.mem_cons_self, r1⟩
            · obtain ⟨z', h1, h2⟩ := ih _ r2 hw
              exact ⟨z', List.mem_cons_of_mem _ h1, h2⟩
      obtain ⟨t, rfl⟩ := rz
      have hu2 : X.A.in1.units < cLine := by show X.A.units + 1 < cLine; omega
      rcases ha with ⟨xs, h⟩ | ⟨xs, h⟩ | ⟨kvs, h⟩
      · obtain ⟨its2, _, pl2, _⟩ := I.list h
        exact SeqAt.EqAt.str_list z t pl2.isList hu2
      · obtain ⟨its2, _, pl2, _⟩ := I.tuple h
        exact SeqAt.EqAt.str_tuple z t pl2 hu2
      · obtain ⟨_, _, vs, _, o, es, ep, h1, h2, h3, _⟩ := dk_of I.hok h
        exact eqAt_str_dict z t h1 h2.1 h3 hu2
    · rw [← Array.any_toList, any_false]
      exact q
end My

set_option maxRecDepth 100000
set_option maxHeartbeats 400000
namespace K5
open PySem PySem.Spec PyProof.Rows L2 GxR Gd TL My
/-! ### odd things -/
inductive Fl : V → PyData → Prop
  | str (z : Str) (g : Good z) (h : z.length ≤ 12) : Fl (.str z) (.str z)
  | int (n : Int) (h : n.natAbs < 10 ^ 31) : Fl (.int n) (.int n)
theorem Fl.dq {K : PySem.W.Frag} {H : Hp} {v : V} {d : PyData} (h : Fl v d) : Dq K H v d := by
  cases h with
  | str z => exact .str z
  | int n => exact .int n
theorem Fl.sb {v : V} {d : PyData} (h : Fl v d) : Sb d 0 200 := by
  cases h with
  | str z g h => exact (sb_str g h).mono (by decide) (by decide)
  | int n h => exact (sb_int h).mono (by decide) (by decide)
def mores (i : Nat) : List V := List.replicate i (.str "more")
inductive Tn (H : Hp) : V → Nat → Prop
  | non (i : Nat) : Tn H .non i
  | bl (b : Bool) (i : Nat) : Tn H (.bl b) i
  | fl {v : V} {d : PyData} (h : Fl v d) (i : Nat) : Tn H v i
  | tup (a : Addr) {x : V} {d : PyData} (h : H a = some (.tup [x])) (hx : Fl x d) (i : Nat) : Tn H (.ref a) i
  | dic (a : Addr) (h : H a = some (.dK [])) (i : Nat) : Tn H (.ref a) i
  | ls (a : Addr) {x : V} {d : PyData} (i : Nat) (h : H a = some (.lst (x :: mores i))) (hx : Fl x d) : Tn H (.ref a) i
/-- all stays but the thing itself, where it is a list -/
def Chl (v : V) (H H' : Hp) : Prop := ∀ x o, H x = some o → (V.ref x = v → ∀ ys, o ≠ .lst ys) → H' x = some o
theorem Chl.of {v : V} {H H' : Hp} (s : Same H H') : Chl v H H' := fun x o e _ => s x o e
theorem Chl.trans {v : V} {A B D : Hp} (h : Chl v A B) (k : Chl v B D) : Chl v A D := fun x o e n => k x o (h x o e n) n
theorem Chl.keep {v : V} {H H' : Hp} (h : Chl v H H') {x : Addr} {o : HO} (e : H x = some o) (n : V.ref x ≠ v) : H' x = some o := h x o e fun z => absurd z n
theorem Chl.off {v : V} {H H' : Hp} (h : Chl v H H') {x : Addr} {o : HO} (e : H x = some o) (n : ∀ ys, o ≠ .lst ys) : H' x = some o := h x o e fun _ => n
theorem Tn.chl {H H' : Hp} {v u : V} {i : Nat} (h : Tn H v i) (c : Chl u H H') (n : ∀ a, v = .ref a → u ≠ v) : Tn H' v i := by
  cases h with
  | non i => exact .non i
  | bl b i => exact .bl b i
  | fl h i => exact .fl h i
  | tup a h hx i => exact .tup a (c.off h (by simp)) hx i
  | dic a h i => exact .dic a (c.off h (by simp)) i
  | ls a i h hx => exact .ls a i (c.keep h (n a rfl).symm) hx
theorem Tn.same {H H' : Hp} {v : V} {i : Nat} (h : Tn H v i) (s : Same H H') : Tn H' v i := h.chl (u := .non) (Chl.of s) (fun a e => by rw [e]; simp)
theorem Tn.kb {b : Addr} {n : Int} {H H' : Hp} {v : V} {i : Nat} (h : Tn H v i) (hb : Bx b n H) (nb : v ≠ .ref b) (k : KB b H H') : Tn H' v i := by
  obtain ⟨x, y, z, q, _⟩ := hb
  refine h.chl (u := .ref b) (fun x o e m => k x o (fun z => ?_) e) (fun a e => nb.symm)
  subst z
  rw [q] at e
  exact m rfl _ (Option.some.inj e).symm
theorem Tn.th {H : Hp} {v : V} {i : Nat} (h : Tn H v i) : Th H v := by
  cases h with
  | non i => exact .non
  | bl b i => exact .bl b
  | fl h i =>
    cases h with
    | str z g h => exact .str z (by omega) g
    | int n _ => exact .int n
  | tup a h hx i => exact .tup a _ h
  | dic a h i => exact .dic a h
  | ls a i h hx => exact .lst a _ h
theorem dq_mores {K : PySem.W.Frag} {H : Hp} : ∀ i, DqAll K H (mores i) (List.replicate i (PyData.str "more"))
  | 0 => .nil
  | i + 1 => .cons (.str _) (dq_mores i)
theorem Tn.dq {K : PySem.W.Frag} {H : Hp} {v : V} {i : Nat} (h : Tn H v i) (hi : i ≤ 20) : ∃ d, Dq K H v d ∧ Sb d 2 6000 := by
  cases h with
  | non i => exact ⟨_, .non, sb_none.mono (by decide) (by decide)⟩
  | bl b i => exact ⟨_, .bl b, (sb_bool b).mono (by decide) (by decide)⟩
  | fl h i => exact ⟨_, h.dq, h.sb.mono (by decide) (by decide)⟩
  | tup a h hx i => exact ⟨.tuple [_], .tup (SqT.of h) (.cons hx.dq .nil), (sb_tuple (k := 0) (m := 200) fun d hd => by rw [List.mem_singleton.mp hd]; exact hx.sb).mono (by decide) (by simp)⟩
  | dic a h i => exact ⟨.dict [], .dic h .nil, ⟨by decide +kernel, by decide, by decide, by decide +kernel⟩⟩
  | ls a i h hx =>
    refine ⟨.list (_ :: List.replicate i (.str "more")), .lst (SqL.of h) (.cons hx.dq (dq_mores i)), (sb_list (k := 0) (m := 200) fun d hd => ?_).mono (by decide) ?_⟩
    · rcases List.mem_cons.mp hd with rfl | hd
      · exact hx.sb
      · rw [List.eq_of_mem_replicate hd]
        exact (sb_str (m := 200) (good_of _) (by decide +kernel)).mono (by decide) (by decide)
    · rw [List.length_cons, List.length_replicate]
      omega
theorem length_app (a b : Str) : (a ++ b).length = a.length + b.length := by rw [← tl_len, tl_append, List.length_append, tl_len, tl_len]
theorem posOf_none {ps : List (Str × Int)} {z : Str} (h : z ∉ ps.map (·.1)) : posOf ps z = none := by
  unfold posOf
  rw [List.findIdx?_eq_none_iff]
  intro p hp
  exact decide_eq_false fun e => h (List.mem_map.mpr ⟨p, hp, e⟩)
theorem inV_no {z : Str} {as : List Str} (h : inV (.str z) (as.map V.str) = false) : z ∉ as := fun hz => by
  unfold inV at h
  rw [List.any_map, List.any_eq_false] at h
  refine h z hz ?_
  show (z == z) = true
  simp
theorem inV_flat {v : V} {as : List Str} (h : ∀ z, v ≠ .str z) : inV v (as.map V.str) = false := by
  unfold inV
  rw [List.any_map, List.any_eq_false]
  intro z _
  cases v with
  | str y => exact absurd rfl (h y)
  | _ => exact Bool.false_ne_true
theorem NameOk.ascii {z : Str} (h : NameOk z) : ∀ c ∈ z.cps.toList, c < 128 := fun c hc => by
  have := List.all_eq_true.mp h.2.2 c hc
  unfold lc at this
  simp at this
  omega
theorem up_fl {z : Str} (h : NameOk z) : Good (Txt.upper z) ∧ (Txt.upper z).length ≤ 12 := by
  rw [PyProof.Rows.upper_ascii (NameOk.ascii h)]
  refine ⟨fun c hc => ?_, ?_⟩
  · have hc' : c ∈ (z.cps.map PyProof.Rows.up1).toList := hc
    rw [Array.toList_map] at hc'
    obtain ⟨d, hd, rfl⟩ := List.mem_map.mp hc'
    have := NameOk.ascii h d hd
    unfold PyProof.Rows.up1
    split <;> omega
  · show (z.cps.map PyProof.Rows.up1).size ≤ 12
    rw [Array.size_map]
    have := h.2.1
    exact Nat.le_trans this (by decide)
section
variable {P : Program} {w : World} {K : PySem.W.Frag} {mg : Str → Option Value} {base : Heap} {C : Addr} {f1 : Addr} {fd1 : FuncData}
abbrev s_law_odd_name : Stmt := top 34
theorem sc_law_odd_name : FnScope ["_law_box_here", "_law_names_here", "_law_spare", "_law_name", "_law_some", "_law_odd"] ["_law_box_here", "_law_names_here", "_law_spare"] (defScope s_law_odd_name) := ⟨rfl, rfl, rfl, by decide +kernel, rfl, by decide +kernel, by decide +kernel⟩
/-- what a draw of odd things tells -/
structure Odd (H H' : Hp) (v : V) (b : Addr) : Prop where
  tn : Tn H' v 0
  kb : KB b H H'
  new : ∀ a, v = .ref a → H a = none
def spOddName : Sp := fun vs H Q _ => ∃ (b nl : Addr) (n : Int) (wd : Wd), vs = [.ref b, .ref nl, .str wd.sp] ∧ Bx b n H ∧ n ≤ 90000 ∧ wd.Ok ∧ nl ≠ b ∧ H nl = some (.lst ((wd.ps.map (·.1)).map V.str)) ∧
  ∀ v H', Odd H H' v b → Bx b (n + 2) H' → badN wd v → Q v H'
theorem ok_odd_name {f : Addr} {fd : FuncData} (F : Fun K "_law_odd_name" "_law_odd_name" s_law_odd_name f fd) (T : Txt mg)
    (Nlaw_take : Fn K mg "_law_take" sTake ["_law_box_here", "_law_many"] f1 fd1) (Glaw_take : FnOk P w K mg base CX0 1 f1 fd1 ["_law_box_here", "_law_many"] spTake) :
    FnOk P w K mg base CX0 2 f fd ["_law_box_here", "_law_names_here", "_law_spare"] spOddName := by
  refine F.ok sc_law_odd_name (fun vs H Q E h => ?_) (fun cdv A outer s H vs Q E hr h => ?_)
  · obtain ⟨b, nl, n, wd, rfl, _⟩ := h
    rfl
  · obtain ⟨b, nl, n, wd, rfl, hb, n9, ok, nb, hn, k⟩ := h
    have hu := hr.units
    have hu2 := Nat.lt_of_le_of_lt (Nat.add_le_add_left (by decide : 2 ≤ 64) _) hu
    refine ⟨_, pss_cons (ps_set (i := 3) sc_law_odd_name.nd rfl (Or.inl rfl) (pe_ix (ixL (K := K) rfl) (pv 1) (pe_call Glaw_take (hr.mono (by decide)) (by rfl) Nlaw_take.g Nlaw_take.kp Nlaw_take.b .nil pass0 (pa_cons (pv 0) (pa_cons (pe_callB call_len_seq (by rfl) T.len_ PySem.boot_len (pa_cons (pv 1) pa_nil)) pa_nil))) (fun _ _ => rfl)))
      (pss_cons (ps_set (i := 4) sc_law_odd_name.nd rfl (Or.inl rfl) (pe_lst (pa_cons (pv 2) (pa_cons (pe_op op_add_str (pv 3) pe_str) (pa_cons (pe_slice sl_str (pv 3) po_none (po_some (pe_un un_neg pe_int))) (pa_cons (pe_upper (pv 3)) (pa_cons pe_str (pa_cons pe_non (pa_cons pe_int (pa_cons pe_bl (pa_cons (pe_lst (pa_cons (pv 3) pa_nil)) (pa_cons (pe_tup (pa_cons (pv 3) pa_nil)) (pa_cons pe_dnewK (pa_cons (pe_op op_add_str pe_str (pv 3)) pa_nil))))))))))))))
      (pss_cons (ps_set (i := 5) sc_law_odd_name.nd rfl (Or.inl rfl) (pe_ix (ixL (K := K) rfl) (pv 4) (pe_call Glaw_take (hr.mono (by decide)) (by rfl) Nlaw_take.g Nlaw_take.kp Nlaw_take.b .nil pass0 (pa_cons (pv 0) (pa_cons pe_int pa_nil))) (fun _ _ => rfl)))
      (pss_one (ps_ret (pe_ifExp (pt_cmpR (op_inT hu2) (pv 5) (pv 1) rfl) (pv 2) (pv 5)))))), ?_⟩
    have p2 := ok.p2
    have p6 := ok.p6
    refine ⟨_, rfl, _, rfl, _, rfl, nl, _, rfl, .inl (SqL.of hn), b, _, n, rfl, hb, by omega, ?_, ?_, fun d H1 d0 d1 off bx1 => ?_⟩
    · rw [List.length_map, List.length_map]
      omega
    · exact dec9000 (by rw [List.length_map, List.length_map]; omega) (by rw [List.length_map, List.length_map]; omega)
    rw [List.length_map, List.length_map] at d1
    have k1 := KB.off off
    have hn1 := k1 _ _ nb hn
    obtain ⟨j, rfl⟩ := Int.eq_ofNat_of_zero_le d0
    have jl : j < wd.ps.length := by omega
    have ej : wd.ps[j]? = some wd.ps[j] := List.getElem?_eq_getElem jl
    obtain ⟨nk, _⟩ := ok.nm _ (List.getElem_mem jl)
    generalize wd.ps[j] = p at ej nk
    have e1 : ((wd.ps.map (·.1)).map V.str)[j]? = some (.str p.1) := by rw [List.getElem?_map, List.getElem?_map, ej]; rfl
    refine ⟨nl, _, _, _, rfl, rfl, SqL.of hn1, atI_nat e1, ?_⟩
    have pl6 := nk.2.1
    have q1 : (Str.ofString "q").length = 1 := by decide +kernel
    have q2 : (Str.ofString " ").length = 1 := by decide +kernel
    have big : 100 ≤ sizeLine := by decide
    refine ⟨_, rfl, _, rfl, _, _, rfl, rfl, by omega, ?_⟩
    refine ⟨_, rfl, _, rfl, _, rfl, _, rfl, by omega, ?_⟩
    refine ⟨_, rfl, ⟨_, rfl⟩, _, rfl, rfl, by omega, ?_⟩
    refine ⟨_, rfl, (by show 1 ≤ sizeLine; omega), fun a8 h8 => ?_⟩
    have S2 : Same H1 (upd H1 a8 (.lst [.str p.1])) := same_new h8
    have e8 : upd H1 a8 (.lst [.str p.1]) a8 = some (.lst [.str p.1]) := upd_same
    have n8 := h8
    generalize upd H1 a8 (.lst [.str p.1]) = H2 at S2 e8 ⊢
    refine ⟨_, rfl, (by show 1 ≤ sizeLine; omega), fun a9 h9 => ?_⟩
    have q := same_new (o := .tup [.str p.1]) h9
    have S3 := S2.trans q
    replace e8 := q _ _ e8
    have e9 : upd H2 a9 (.tup [.str p.1]) a9 = some (.tup [.str p.1]) := upd_same
    have n9' := S2.free h9
    generalize upd H2 a9 (.tup [.str p.1]) = H3 at q S3 e8 e9 ⊢
    clear S2 q
    intro a10 h10
    have q := same_new (o := .dK []) h10
    have S4 := S3.trans q
    replace e8 := q _ _ e8
    replace e9 := q _ _ e9
    have e10 : upd H3 a10 (.dK []) a10 = some (.dK []) := upd_same
    have n10 := S3.free h10
    generalize upd H3 a10 (.dK []) = H4 at q S4 e8 e9 e10 ⊢
    clear S3 q
    refine ⟨_, rfl, _, _, rfl, rfl, by omega, (by show 12 ≤ sizeLine; omega), fun L hL => ?_⟩
    have ncp : (cutS p.1 none (some (-1))).length ≤ 12 := by
      have := cutS_length p.1 none (some (-1))
      omega
    have each : ∀ v ∈ [V.str wd.sp, .str (p.1 ++ "q"), .str (cutS p.1 none (some (-1))), .str (Txt.upper p.1), .str "", .non, .int 0, .bl true, .ref a8, .ref a9, .ref a10, .str (" " ++ p.1)], Tn H4 v 0 ∧ (∀ a, v = .ref a → H1 a = none ∧ ∃ o, H4 a = some o) ∧
        (flatV v = true ∨ ∃ a, v = .ref a ∧ ((∃ xs, H4 a = some (.lst xs) ∧ ∀ z, v ≠ .str z) ∨ (∃ xs, H4 a = some (.tup xs)) ∨ ∃ kvs, H4 a = some (.dK kvs))) := by
      have fl : ∀ {z : Str}, Good z → z.length ≤ 12 → Tn H4 (.str z) 0 ∧ (∀ a, V.str z = .ref a → H1 a = none ∧ ∃ o, H4 a = some o) ∧ (flatV (.str z) = true ∨ ∃ a, V.str z = .ref a ∧ ((∃ xs, H4 a = some (.lst xs) ∧ ∀ y, V.str z ≠ .str y) ∨ (∃ xs, H4 a = some (.tup xs)) ∨ ∃ kvs, H4 a = some (.dK kvs))) := fun g l => ⟨.fl (.str _ g l) 0, nofun, .inl rfl⟩
      have rf : ∀ {a : Addr} {o : HO}, H1 a = none → H4 a = some o → ∀ x, V.ref a = .ref x → H1 x = none ∧ ∃ o, H4 x = some o := fun h e x z => by
        obtain rfl := V.ref.inj z
        exact ⟨h, _, e⟩
      intro v hv
      simp only [List.mem_cons, List.not_mem_nil, or_false] at hv
      rcases hv with rfl | rfl | rfl | rfl | rfl | rfl | rfl | rfl | rfl | rfl | rfl | rfl
      · exact fl ok.sn.good (by have := ok.sn.2.1; omega)
      · exact fl (good_app nk.good (good_of _)) (by rw [length_app]; omega)
      · exact fl (good_cut nk.good _ _) ncp
      · exact fl (up_fl nk).1 (up_fl nk).2
      · exact fl (good_of _) (by decide +kernel)
      · exact ⟨.non 0, nofun, .inl rfl⟩
      · exact ⟨.fl (.int 0 (by decide)) 0, nofun, .inl rfl⟩
      · exact ⟨.bl true 0, nofun, .inl rfl⟩
      · exact ⟨.ls a8 0 e8 (.str _ nk.good (by omega)), rf n8 e8, .inr ⟨a8, rfl, .inl ⟨_, e8, nofun⟩⟩⟩
      · exact ⟨.tup a9 e9 (.str _ nk.good (by omega)) 0, rf n9' e9, .inr ⟨a9, rfl, .inr (.inl ⟨_, e9⟩)⟩⟩
      · exact ⟨.dic a10 e10 0, rf n10 e10, .inr ⟨a10, rfl, .inr (.inr ⟨_, e10⟩)⟩⟩
      · exact fl (good_app (good_of _) nk.good) (by rw [length_app]; omega)
    have tl12 : [V.str wd.sp, .str (p.1 ++ "q"), .str (cutS p.1 none (some (-1))), .str (Txt.upper p.1), .str "", .non, .int 0, .bl true, .ref a8, .ref a9, .ref a10, .str (" " ++ p.1)].length = 12 := rfl
    generalize [V.str wd.sp, .str (p.1 ++ "q"), .str (cutS p.1 none (some (-1))), .str (Txt.upper p.1), .str "", .non, .int 0, .bl true, .ref a8, .ref a9, .ref a10, .str (" " ++ p.1)] = ts at each tl12 ⊢
    clear e8 e9 e10 n8 n9' n10 h9 h10 h8 ncp
    have S5 : Same H4 (upd H4 L (.lst ts)) := same_new hL
    have eL : upd H4 L (.lst ts) L = some (.lst ts) := upd_same
    have bx5 : Bx b (n + 1) (upd H4 L (.lst ts)) := by
      obtain ⟨x, y, z, q, r⟩ := bx1
      exact ⟨x, y, z, S5 _ _ (S4 _ _ q), r⟩
    have nLb : L ≠ b := by
      obtain ⟨_, _, _, q, _⟩ := bx1
      exact (ne_of_none (S4 _ _ q) hL).symm
    refine ⟨_, rfl, _, rfl, b, 12, n + 1, rfl, bx5, by omega, by decide, by decide, fun d2 H6 d20 d21 off2 bx6 => ?_⟩
    have k6 := KB.off off2
    obtain ⟨j2, rfl⟩ := Int.eq_ofNat_of_zero_le d20
    have jl2 : j2 < ts.length := by omega
    refine ⟨L, ts, _, ts[j2], rfl, rfl, SqL.of (k6 _ _ nLb eL), atI_nat (List.getElem?_eq_getElem jl2), ?_⟩
    obtain ⟨tn, nw_, cs⟩ := each _ (List.getElem_mem jl2)
    generalize ts[j2] = v at tn nw_ cs
    have tn5 := tn.same S5
    have nvb : v ≠ .ref b := fun z => by
      obtain ⟨x, y, zz, q, _⟩ := bx1
      have := (nw_ b z).1
      rw [q] at this
      cases this
    have tn6 := tn5.kb bx5 nvb k6
    have kall : KB b H H6 := fun x o nx e => k6 _ _ nx (S5 _ _ (S4 _ _ (k1 x o nx e)))
    have newv : ∀ a, v = .ref a → H a = none := fun a z => by
      cases q : H a with
      | none => rfl
      | some o =>
        have nab : a ≠ b := fun w => nvb (by rw [z, w])
        have := k1 _ _ nab q
        rw [(nw_ a z).1] at this
        cases this
    rw [show n + 2 = n + 1 + 1 by omega] at k
    have fin : ∀ u, (u = .str wd.sp ∨ (u = v ∧ ∀ z, v = .str z → z ∉ wd.ps.map (·.1))) → Q u H6 := fun u hu => by
      rcases hu with rfl | ⟨rfl, hv⟩
      · refine k _ H6 ⟨.fl (.str _ ok.sn.good (by have := ok.sn.2.1; omega)) 0, kall, nofun⟩ bx6 fun z e => ?_
        rw [← V.str.inj e]
        exact posOf_none ok.s0
      · exact k _ H6 ⟨tn6, kall, newv⟩ bx6 fun z e => posOf_none (hv z e)
    have hn6 := kall _ _ nb hn
    refine ⟨_, rfl, _, rfl, nl, wd.ps.map (·.1), rfl, SqL.of hn6, ?_⟩
    rcases cs with fv | ⟨a, rfl, cs⟩
    · refine .inl ⟨fv, _, rfl, ?_⟩
      cases hi : inV v ((wd.ps.map (·.1)).map V.str) with
      | true => exact iteT ⟨_, rfl, fin _ (.inl rfl)⟩
      | false =>
        refine iteF ⟨_, rfl, fin _ (.inr ⟨rfl, fun z e => ?_⟩)⟩
        subst e
        exact inV_no hi
    · refine .inr ⟨⟨a, rfl, ?_⟩, _, rfl, iteF ⟨_, rfl, fin _ (.inr ⟨rfl, nofun⟩)⟩⟩
      have S56 : ∀ {o}, H4 a = some o → H6 a = some o := fun e => k6 _ _ (fun z => nvb (by rw [z])) (S5 _ _ e)
      rcases cs with ⟨xs, e, _⟩ | ⟨xs, e⟩ | ⟨kvs, e⟩
      · exact .inl ⟨xs, SqL.of (S56 e)⟩
      · exact .inr (.inl ⟨xs, SqT.of (S56 e)⟩)
      · exact .inr (.inr ⟨kvs, S56 e⟩)
abbrev s_law_odd_number : Stmt := top 35
theorem sc_law_odd_number : FnScope ["_law_box_here", "_law_many"] ["_law_box_here", "_law_many"] (defScope s_law_odd_number) := ⟨rfl, rfl, rfl, by decide +kernel, rfl, by decide +kernel, by decide +kernel⟩
def spOddNumber : Sp := fun vs H Q _ => ∃ (b : Addr) (n : Int) (m : Nat), vs = [.ref b, .int m] ∧ Bx b n H ∧ n ≤ 90000 ∧ m ≤ 10 ∧
  ∀ v H', Odd H H' v b → Bx b (n + 1) H' → (∀ i : Nat, v = .int i → ¬ i < m) → Q v H'
theorem ok_odd_number {f : Addr} {fd : FuncData} (F : Fun K "_law_odd_number" "_law_odd_number" s_law_odd_number f fd) (T : Txt mg)
    (Nlaw_take : Fn K mg "_law_take" sTake ["_law_box_here", "_law_many"] f1 fd1) (Glaw_take : FnOk P w K mg base CX0 1 f1 fd1 ["_law_box_here", "_law_many"] spTake) :
    FnOk P w K mg base CX0 2 f fd ["_law_box_here", "_law_many"] spOddNumber := by
  refine F.ok sc_law_odd_number (fun vs H Q E h => ?_) (fun cdv A outer s H vs Q E hr h => ?_)
  · obtain ⟨b, n, m, rfl, _⟩ := h
    rfl
  · obtain ⟨b, n, m, rfl, hb, n9, m10, k⟩ := h
    refine ⟨_, pss_one (ps_ret (pe_ix (ixL (K := K) rfl) (pe_lst (pa_cons (pe_un un_neg pe_int) (pa_cons (pv 1) (pa_cons pe_bl (pa_cons pe_bl (pa_cons pe_non (pa_cons pe_str (pa_cons (pe_lst (pa_cons pe_int pa_nil)) (pa_cons (pe_tup (pa_cons pe_int pa_nil)) (pa_cons (pe_op op_pow pe_int pe_int) (pa_cons (pe_op op_add (pv 1) pe_int) (pa_cons (pe_un un_neg (pe_op op_pow pe_int pe_int)) (pa_cons pe_str pa_nil))))))))))))) (pe_call Glaw_take (hr.mono (by decide)) (by rfl) Nlaw_take.g Nlaw_take.kp Nlaw_take.b .nil pass0 (pa_cons (pv 0) (pa_cons pe_int pa_nil))) (fun _ _ => rfl))), ?_⟩
    refine ⟨_, rfl, _, rfl, (by show 1 ≤ sizeLine; decide), fun a6 h6 => ?_⟩
    have S2 := same_new (o := .lst [.int 0]) h6
    have e6 : upd H a6 (.lst [.int 0]) a6 = some (.lst [.int 0]) := upd_same
    generalize upd H a6 (.lst [.int 0]) = H2 at S2 e6 ⊢
    refine ⟨(by show 1 ≤ sizeLine; decide), fun a7 h7 => ?_⟩
    have q := same_new (o := .tup [.int 0]) h7
    have S3 := S2.trans q
    replace e6 := q _ _ e6
    have e7 : upd H2 a7 (.tup [.int 0]) a7 = some (.tup [.int 0]) := upd_same
    replace h7 := S2.free h7
    generalize upd H2 a7 (.tup [.int 0]) = H3 at q S3 e6 e7 ⊢
    clear S2 q
    refine ⟨_, _, rfl, rfl, ⟨by decide, by decide, by decide⟩, _, rfl, _, _, rfl, rfl, _, _, rfl, rfl, ⟨by decide, by decide, by decide⟩, _, rfl, ?_⟩
    refine ⟨(by show 12 ≤ sizeLine; decide), fun L hL => ?_⟩
    have each : ∀ v ∈ [V.int (-1), .int m, .bl true, .bl false, .non, .str "0", .ref a6, .ref a7, .int (10 ^ 29), .int (m + 7), .int (-10 ^ 29), .str ""], Tn H3 v 0 ∧ (∀ a, v = .ref a → H a = none) ∧ (∀ i : Nat, v = .int i → ¬ i < m) := by
      have it : ∀ {z : Int}, z.natAbs < 10 ^ 31 → (z < 0 ∨ (m : Int) ≤ z) → Tn H3 (.int z) 0 ∧ (∀ a, V.int z = .ref a → H a = none) ∧ (∀ i : Nat, V.int z = .int i → ¬ i < m) := fun h1 h2 => ⟨.fl (.int _ h1) 0, nofun, fun i e => by
        have := V.int.inj e
        omega⟩
      intro v hv
      simp only [List.mem_cons, List.not_mem_nil, or_false] at hv
      rcases hv with rfl | rfl | rfl | rfl | rfl | rfl | rfl | rfl | rfl | rfl | rfl | rfl
      · exact it (by decide) (.inl (by decide))
      · exact it (by omega) (.inr (by omega))
      · exact ⟨.bl _ 0, nofun, nofun⟩
      · exact ⟨.bl _ 0, nofun, nofun⟩
      · exact ⟨.non 0, nofun, nofun⟩
      · exact ⟨.fl (.str _ (good_of _) (by decide +kernel)) 0, nofun, nofun⟩
      · exact ⟨.ls a6 0 e6 (.int 0 (by decide)), fun a z => by rw [← V.ref.inj z]; exact h6, nofun⟩
      · exact ⟨.tup a7 e7 (.int 0 (by decide)) 0, fun a z => by rw [← V.ref.inj z]; exact h7, nofun⟩
      · exact it (by decide) (.inr (by omega))
      · exact it (by omega) (.inr (by omega))
      · exact it (by decide) (.inl (by decide))
      · exact ⟨.fl (.str _ (good_of _) (by decide +kernel)) 0, nofun, nofun⟩
    have tl12 : [V.int (-1), .int m, .bl true, .bl false, .non, .str "0", .ref a6, .ref a7, .int (10 ^ 29), .int (m + 7), .int (-10 ^ 29), .str ""].length = 12 := rfl
    generalize hts : [V.int (-1), .int m, .bl true, .bl false, .non, .str "0", .ref a6, .ref a7, .int (10 ^ 29), .int (m + 7), .int (-10 ^ 29), .str ""] = ts at each tl12
    have S5 : Same H3 (upd H3 L (.lst ts)) := same_new hL
    have eL : upd H3 L (.lst ts) L = some (.lst ts) := upd_same
    have bx5 : Bx b n (upd H3 L (.lst ts)) := by
      obtain ⟨x, y, z, q, r⟩ := hb
      exact ⟨x, y, z, S5 _ _ (S3 _ _ q), r⟩
    have nLb : L ≠ b := by
      obtain ⟨_, _, _, q, _⟩ := hb
      exact (ne_of_none (S3 _ _ q) hL).symm
    rw [← hts] at bx5
    refine ⟨_, rfl, b, 12, n, rfl, bx5, by omega, by decide, by decide, fun d2 H6 d20 d21 off2 bx6 => ?_⟩
    have k6 : KB b (upd H3 L (.lst ts)) H6 := by
      rw [← hts]
      exact KB.off off2
    obtain ⟨j2, rfl⟩ := Int.eq_ofNat_of_zero_le d20
    have jl2 : j2 < ts.length := by omega
    refine ⟨L, ts, _, ts[j2], rfl, rfl, SqL.of (k6 _ _ nLb eL), atI_nat (List.getElem?_eq_getElem jl2), ?_⟩
    obtain ⟨tn, nw_, bad⟩ := each _ (List.getElem_mem jl2)
    generalize ts[j2] = v at tn nw_ bad
    have nvb : v ≠ .ref b := fun z => by
      obtain ⟨x, y, zz, q, _⟩ := hb
      have := nw_ b z
      rw [q] at this
      cases this
    exact k v H6 ⟨(tn.same S5).kb (by rw [← hts]; exact bx5) nvb k6, fun x o nx e => k6 _ _ nx (S5 _ _ (S3 _ _ e)), nw_⟩ bx6 bad
abbrev s_law_holds : Stmt := top 36
theorem sc_law_holds : FnScope ["_law_found", "_law_word", "_law_thing"] ["_law_found", "_law_word", "_law_thing"] (defScope s_law_holds) := ⟨rfl, rfl, rfl, by decide +kernel, rfl, by decide +kernel, by decide +kernel⟩
def spHolds : Sp := fun vs H Q _ => ∃ (u : Addr) (t : String) (v : V) (i : Nat), vs = [.ref u, .str t, v] ∧ H u = some (.tup [.str t, v]) ∧ Tn H v i ∧ i ≤ 19 ∧ SmAt H ∧ ∀ H', Chl v H H' → Tn H' v (i + 1) → Q (.bl true) H'
theorem ok_holds {f : Addr} {fd : FuncData} (ns : K.lookup sysModules = none) (F : Fun K "_law_holds" "_law_holds" s_law_holds f fd) (T : Txt mg) :
    GOk P w K mg base CX0 4 f fd ["_law_found", "_law_word", "_law_thing"] spHolds := by
  refine gok F sc_law_holds (fun vs H Q E h => ?_) (fun cdv A outer s H vs Q E gd hr h => ?_)
  · obtain ⟨u, t, v, i, rfl, _⟩ := h
    rfl
  · obtain ⟨u, t, v, i, rfl, hu, tn, hi, sm, k⟩ := h
    refine ⟨_, pss_cons (ps_if (PW.pt (pw_or (pt_cmpR op_ne (pe_ix (ixT (K := K) rfl) (pv 0) pe_int (fun _ _ => rfl)) (pv 1) (nomark _)) (pw_or1 (pt_cmpR op_ne (pe_callB (call_reprQ ns gd hr) (by rfl) T.repr_ (by decide +kernel) (pa_cons (pe_ix (ixT (K := K) rfl) (pv 0) pe_int (fun _ _ => rfl)) pa_nil)) (pe_callB (call_reprQ ns gd hr) (by rfl) T.repr_ (by decide +kernel) (pa_cons (pv 2) pa_nil)) (nomark _))))) (pss_one (ps_ret pe_bl)) pss_nil)
      (pss_cons (ps_if (pt_val (pe_callB call_isi (by rfl) T.isinstance_ (by decide +kernel) (pa_cons (pv 2) (pa_cons (pe_bltn (v := .ty "list") (by rfl) T.list_ (by decide +kernel) rfl) pa_nil)))) (pss_one (ps_expr (pe_bm PySem.F.plainAttrs_list PySem.F.slot_list_append PySem.F.type_list_append mt_append (pv 2) (pa_cons pe_str pa_nil)))) pss_nil)
      (pss_one (ps_ret (pe_cmpR op_eq (pe_callB (call_reprQ ns gd hr) (by rfl) T.repr_ (by decide +kernel) (pa_cons (pe_ix (ixT (K := K) rfl) (pv 0) pe_int (fun _ _ => rfl)) pa_nil)) (pe_callB (call_reprQ ns gd hr) (by rfl) T.repr_ (by decide +kernel) (pa_cons (pv 2) pa_nil)) (nomark _))))), ?_⟩
    have i0 : atI [V.str t, v] 0 = some (.str t) := rfl
    have i1 : atI [V.str t, v] 1 = some v := rfl
    obtain ⟨d, dq, sb⟩ := tn.dq (by omega)
    obtain ⟨m1, m2, m3⟩ := sb.rep (by decide) (by decide)
    refine ⟨_, rfl, u, _, _, _, rfl, rfl, SqT.of hu, i0, _, rfl, rfl, _, rfl, iteNS rfl ?_⟩
    refine ⟨_, rfl, u, _, _, _, rfl, rfl, SqT.of hu, i1, _, _, rfl, sm, dq, m1, m2, m3, _, rfl, _, _, rfl, sm, dq, m1, m2, m3, rfl, _, rfl, iteNS rfl ?_⟩
    cases tn with
    | non _ =>
      refine ⟨_, rfl, _, _, _, _, false, rfl, .ty "list", .base .non, (by rfl), _, rfl, iteF ?_⟩
      refine ⟨_, rfl, u, _, _, _, rfl, rfl, SqT.of hu, i1, _, _, rfl, sm, dq, m1, m2, m3, _, rfl, _, _, rfl, sm, dq, m1, m2, m3, rfl, ?_⟩
      show Q (.bl (decide (_ = _))) _
      rw [decide_eq_true rfl]
      exact k H (Chl.of (Same.refl _)) (.non _)
    | bl b _ =>
      refine ⟨_, rfl, _, _, _, _, false, rfl, .ty "list", .base (.bl b), (by rfl), _, rfl, iteF ?_⟩
      refine ⟨_, rfl, u, _, _, _, rfl, rfl, SqT.of hu, i1, _, _, rfl, sm, dq, m1, m2, m3, _, rfl, _, _, rfl, sm, dq, m1, m2, m3, rfl, ?_⟩
      show Q (.bl (decide (_ = _))) _
      rw [decide_eq_true rfl]
      exact k H (Chl.of (Same.refl _)) (.bl b _)
    | fl h _ =>
      have ty : ∃ t, TyX K H v (.type t) ∧ (t = "int" ∨ t = "str") := by
        cases h with
        | str z => exact ⟨_, .base (.str z), .inr rfl⟩
        | int n => exact ⟨_, .base (.int n), .inl rfl⟩
      obtain ⟨tt, ty, ht⟩ := ty
      rcases ht with rfl | rfl
      · refine ⟨_, rfl, _, _, _, _, false, rfl, .ty "list", ty, (by rfl), _, rfl, iteF ?_⟩
        refine ⟨_, rfl, u, _, _, _, rfl, rfl, SqT.of hu, i1, _, _, rfl, sm, dq, m1, m2, m3, _, rfl, _, _, rfl, sm, dq, m1, m2, m3, rfl, ?_⟩
        show Q (.bl (decide (_ = _))) _
        rw [decide_eq_true rfl]
        exact k H (Chl.of (Same.refl _)) (.fl h _)
      · refine ⟨_, rfl, _, _, _, _, false, rfl, .ty "list", ty, (by rfl), _, rfl, iteF ?_⟩
        refine ⟨_, rfl, u, _, _, _, rfl, rfl, SqT.of hu, i1, _, _, rfl, sm, dq, m1, m2, m3, _, rfl, _, _, rfl, sm, dq, m1, m2, m3, rfl, ?_⟩
        show Q (.bl (decide (_ = _))) _
        rw [decide_eq_true rfl]
        exact k H (Chl.of (Same.refl _)) (.fl h _)
    | tup a h hx _ =>
      refine ⟨_, rfl, _, _, _, _, false, rfl, .ty "list", .base (.tup h), (by rfl), _, rfl, iteF ?_⟩
      refine ⟨_, rfl, u, _, _, _, rfl, rfl, SqT.of hu, i1, _, _, rfl, sm, dq, m1, m2, m3, _, rfl, _, _, rfl, sm, dq, m1, m2, m3, rfl, ?_⟩
      show Q (.bl (decide (_ = _))) _
      rw [decide_eq_true rfl]
      exact k H (Chl.of (Same.refl _)) (.tup a h hx _)
    | dic a h _ =>
      refine ⟨_, rfl, _, _, _, _, false, rfl, .ty "list", .base (.dK h), (by rfl), _, rfl, iteF ?_⟩
      refine ⟨_, rfl, u, _, _, _, rfl, rfl, SqT.of hu, i1, _, _, rfl, sm, dq, m1, m2, m3, _, rfl, _, _, rfl, sm, dq, m1, m2, m3, rfl, ?_⟩
      show Q (.bl (decide (_ = _))) _
      rw [decide_eq_true rfl]
      exact k H (Chl.of (Same.refl _)) (.dic a h _)
    | ls a _ h hx =>
      rename_i x0 d0
      have nau : a ≠ u := ne_of h hu (by simp)
      refine ⟨_, rfl, _, _, _, _, true, rfl, .ty "list", .base (.lst h), (by rfl), _, rfl, iteT ?_⟩
      refine ⟨_, rfl, .inl ⟨rfl, _, SqL.of h⟩, a, _, _, rfl, rfl, h, ?_, ?_⟩
      · rw [List.length_cons]
        unfold mores
        rw [List.length_replicate]
        exact lt_line _ (by omega)
      have tg6 : Tn (upd H a (.lst ((x0 :: mores i) ++ [.str "more"]))) (.ref a) (i + 1) := .ls a (i + 1) (by rw [upd_same, List.cons_append]; unfold mores; rw [List.replicate_succ']) hx
      have c6 : Chl (.ref a) H (upd H a (.lst ((x0 :: mores i) ++ [.str "more"]))) := fun x o e n => by
        have : x ≠ a := fun z => by
          subst z
          rw [h] at e
          exact n rfl _ (Option.some.inj e).symm
        rw [upd_ne this]
        exact e
      obtain ⟨d6, dq6, sb6⟩ := tg6.dq (K := K) (by omega)
      obtain ⟨r1, r2, r3⟩ := sb6.rep (by decide) (by decide)
      have u6 := c6.off hu (by simp)
      have sm6 : SmAt _ := let ⟨o, e⟩ := sm; ⟨o, c6.off e (by simp)⟩
      refine ⟨_, rfl, u, _, _, _, rfl, rfl, SqT.of u6, i1, _, _, rfl, sm6, dq6, r1, r2, r3, _, rfl, _, _, rfl, sm6, dq6, r1, r2, r3, rfl, ?_⟩
      show Q (.bl (decide (_ = _))) _
      rw [decide_eq_true rfl]
      exact k _ c6 tg6
end
end K5

set_option maxRecDepth 100000
set_option maxHeartbeats 400000
namespace K5
open PySem PySem.Spec PyProof.Rows L2 GxR Gd TL My
theorem hide_put1 {L : Addr} {H : Hp} {o : HO} : Nt (hide L H) (hide L (upd H L o)) := fun c u _ h => by
  obtain ⟨q, h⟩ := hide_some h
  rw [hide_ne q, upd_ne q]
  exact h
theorem sqT_hide {K : PySem.W.Frag} {H : Hp} {L a : Addr} {its xs : List V} (hL : H L = some (.lst its)) (h : SqT K H a xs) : SqT K (hide L H) a xs := by
  rcases h with (h | ⟨o, h⟩) | h
  · exact .inl (.inl (by rw [hide_ne (fun e => by rw [e, hL] at h; cases h)]; exact h))
  · exact .inl (.inr ⟨o, by rw [hide_ne (fun e => by rw [e, hL] at h; cases h)]; exact h⟩)
  · exact .inr h
theorem dpP_hide {K : PySem.W.Frag} {H : Hp} {L : Addr} {its : List V} (hL : H L = some (.lst its)) : ∀ {xs : List V} {ps : List (Str × Int)}, DpAll K H xs (ps.map dP) → DpAll K (hide L H) xs (ps.map dP)
  | _, [], .nil => .nil
  | _, p :: r, .cons a t => by
    obtain ⟨u, x, y, rfl, h, q1, q2⟩ := dp_two a
    obtain rfl := dp_str q1
    obtain rfl := dp_int q2
    exact .cons (.tup (sqT_hide hL h) (.cons (.str _) (.cons (.int _) .nil))) (dpP_hide hL t)
theorem dpL_hide {K : PySem.W.Frag} {H : Hp} {L : Addr} {its : List V} (hL : H L = some (.lst its)) : ∀ {xs : List V} {ps : List (Int × Int × Int)}, DpAll K H xs (ps.map dL) → DpAll K (hide L H) xs (ps.map dL)
  | _, [], .nil => .nil
  | _, p :: r, .cons a t => by
    obtain ⟨u, x, y, z, rfl, h, q1, q2, q3⟩ := dp_three a
    obtain rfl := dp_int q1
    obtain rfl := dp_int q2
    obtain rfl := dp_int q3
    exact .cons (.tup (sqT_hide hL h) (.cons (.int _) (.cons (.int _) (.cons (.int _) .nil)))) (dpL_hide hL t)
theorem line_hide {K : PySem.W.Frag} {C : Addr} {wd : Wd} {H : Hp} {x L : Addr} {its : List V} (hL : H L = some (.lst its)) (h : LineAt K C wd H x) : LineAt K C wd (hide L H) x := by
  obtain ⟨dx, p1, p2, p3, d, xs1, xs2, xs3, h1, h2, h3, h4, h5, h6, h7, kvs, h8, h9⟩ := h
  exact ⟨dx, p1, p2, p3, d, xs1, xs2, xs3, by rw [hide_ne (fun e => by rw [e, hL] at h1; cases h1)]; exact h1, sqT_hide hL h2, dpP_hide hL h3, sqT_hide hL h4, dpP_hide hL h5, sqT_hide hL h6, dpL_hide hL h7, kvs, by rw [hide_ne (fun e => by rw [e, hL] at h8; cases h8)]; exact h8, h9⟩
theorem posOf_at {ps : List (Str × Int)} (nd : (ps.map (·.1)).Nodup) {i : Nat} {p : Str × Int} (h : ps[i]? = some p) : posOf ps p.1 = some i := by
  unfold posOf
  rw [List.findIdx?_eq_some_iff_getElem]
  obtain ⟨h1, h2⟩ := List.getElem?_eq_some_iff.mp h
  refine ⟨h1, by rw [h2]; simp, fun j hj hc => ?_⟩
  have f := fresh_name nd h
  refine f (List.mem_map.mpr ⟨ps[j], ?_, of_decide_eq_true hc⟩)
  rw [List.mem_take_iff_getElem]
  exact ⟨j, by omega, rfl⟩
/-- an answer: a small number or nothing -/
inductive Ans : V → PyData → Prop
  | non : Ans .non .none
  | int (i : Nat) (h : i ≤ 10) : Ans (.int (i : Nat)) (.int (i : Nat))
theorem Ans.dp {K : PySem.W.Frag} {H : Hp} {v : V} {d : PyData} (h : Ans v d) : Dp K H v d := by
  cases h with
  | non => exact .non
  | int i h => exact .int _
theorem Ans.show {v : V} {d : PyData} (h : Ans v d) : d.showable = true ∧ d.depth ≤ 100 ∧ d.shown.length ≤ sizeLine := by
  cases h with
  | non => exact ⟨rfl, by decide, by decide +kernel⟩
  | int i h =>
    have a : ∀ i : Fin 11, (PyData.int (i.1 : Nat)).showable = true ∧ (PyData.int (i.1 : Nat)).depth ≤ 100 ∧ (PyData.int (i.1 : Nat)).shown.length ≤ sizeLine := by decide +kernel
    exact a ⟨i, by omega⟩
theorem ans_betw {i j : Nat} (hi : i ≤ 10) (hj : j ≤ 10) : ∃ d, Ans (betw i j) d := by
  unfold betw
  split
  · exact ⟨_, .int i hi⟩
  · split
    · exact ⟨_, .int j hj⟩
    · exact ⟨_, .non⟩
theorem ans_lbt {lo : List (Int × Int × Int)} (h : lo.length ≤ 2) (a b : Int) : ∃ d, Ans (lbt lo a b) d := by
  unfold lbt
  split
  · rename_i j e
    obtain ⟨hj, _⟩ := List.findIdx?_eq_some_iff_getElem.mp e
    exact ⟨_, .int j (by omega)⟩
  · exact ⟨_, .non⟩
theorem iteN {c : Bool} {A B : Prop} (hc : c = false) (h : B) : if c = true then A else B := by rw [if_neg (by rw [hc]; exact Bool.false_ne_true)]; exact h
theorem iteS {c : Bool} {A B : Prop} (hc : c = true) (h : A) : if c = true then A else B := by rw [if_pos hc]; exact h
/-- two things changed, where they are lists -/
def Chl2 (u v : V) (H H' : Hp) : Prop := ∀ x o, H x = some o → ((V.ref x = u ∨ V.ref x = v) → ∀ ys, o ≠ .lst ys) → H' x = some o
theorem Chl2.of {u v : V} {H H' : Hp} (s : Same H H') : Chl2 u v H H' := fun x o e _ => s x o e
theorem Chl2.same {u v : V} {A H H' : Hp} (h : Chl2 u v A H) (s : Same H H') : Chl2 u v A H' := fun x o e n => s x o (h x o e n)
theorem Chl2.l {u v : V} {A H H' : Hp} (h : Chl2 u v A H) (c : Chl u H H') : Chl2 u v A H' := fun x o e n => c x o (h x o e n) fun z => n (.inl z)
theorem Chl2.r {u v : V} {A H H' : Hp} (h : Chl2 u v A H) (c : Chl v H H') : Chl2 u v A H' := fun x o e n => c x o (h x o e n) fun z => n (.inr z)
theorem line_chl {K : PySem.W.Frag} {C : Addr} {wd : Wd} {H H' : Hp} {x : Addr} {v : V} (h : LineAt K C wd H x) (c : Chl v H H') : LineAt K C wd H' x := by
  by_cases q : ∃ a its, v = .ref a ∧ H a = some (.lst its)
  · obtain ⟨a, its, rfl, e⟩ := q
    refine (line_hide e h).nt fun z o _ hz => ?_
    obtain ⟨n, hz⟩ := hide_some hz
    exact c z o hz fun w => absurd (V.ref.inj w) n
  · exact h.nt fun z o _ hz => c z o hz fun w ys e => q ⟨z, ys, w.symm, by rw [hz, e]⟩
theorem chl_kb {b : Addr} {n : Int} {H H' : Hp} (hb : Bx b n H) (k : KB b H H') : Chl (.ref b) H H' := fun z o e m => by
  obtain ⟨_, _, _, q, _⟩ := hb
  refine k z o (fun w => ?_) e
  subst w
  rw [q] at e
  exact m rfl _ (Option.some.inj e).symm
theorem line_chl2 {K : PySem.W.Frag} {C : Addr} {wd : Wd} {H H' : Hp} {x : Addr} {u v : V} (h : LineAt K C wd H x) (c : Chl2 u v H H') : LineAt K C wd H' x := by
  classical
  -- by way of a heap in which u alone is as behind
  let M : Hp := fun z => if V.ref z = u then H' z else H z
  have c1 : Chl u H M := fun z o e n => by
    show (if V.ref z = u then H' z else H z) = some o
    by_cases q : V.ref z = u
    · rw [if_pos q]
      refine c z o e fun _ => n q
    · rw [if_neg q]
      exact e
  have c2 : Chl v M H' := fun z o e n => by
    have e' : (if V.ref z = u then H' z else H z) = some o := e
    by_cases q : V.ref z = u
    · rw [if_pos q] at e'
      exact e'
    · rw [if_neg q] at e'
      exact c z o e' fun w => n (w.resolve_left q)
  exact line_chl (line_chl h c1) c2
theorem nameV_ans {K : PySem.W.Frag} {H : Hp} {wd : Wd} (ok : wd.Ok) (way : Int) {i j : Nat} (hi : i ≤ 10) (hj : j ≤ 10) : ∃ d, Dq K H (nameV wd way i j) d ∧ Sb d 0 110 := by
  have of : ∀ {v d}, Ans v d → ∃ d, Dq K H v d ∧ Sb d 0 110 := fun {v d} h => by
    cases h with
    | non => exact ⟨_, .non, sb_none.mono (by decide) (by decide)⟩
    | int i h => exact ⟨_, .int _, sb_int (by omega)⟩
  unfold nameV
  split
  · refine ⟨_, .int _, sb_int ?_⟩
    cases q : wd.ps[i]? with
    | none => decide
    | some p =>
      have := (ok.nm p (List.mem_of_getElem? q)).2
      show p.2.natAbs < 10 ^ 31
      omega
  · split
    · exact of (.int i hi)
    · split
      · obtain ⟨d, h⟩ := ans_betw hi hj
        exact of h
      · obtain ⟨d, h⟩ := ans_lbt ok.ll _ _
        exact of h
theorem th_same {H H' : Hp} (s : Same H H') : ∀ {v : V}, Th H v → Th H' v
  | _, .non => .non
  | _, .bl b => .bl b
  | _, .int i => .int i
  | _, .str z h g => .str z h g
  | _, .lst a xs h => .lst a xs (s _ _ h)
  | _, .tup a xs h => .tup a xs (s _ _ h)
  | _, .dic a h => .dic a (s _ _ h)
theorem ask_step {K : PySem.W.Frag} {C : Addr} {X : TS} {R : Ends} {σ : L2.St} {H : Hp} {a t : Nat} {x : Addr} {way : Int} {v1 v2 v : V} {j : Nat}
    (h1 : σ[1]? = some (some (.ref x))) (h7 : σ[7]? = some (some (.int way))) (ha : σ[a]? = some (some v1)) (h6 : σ[6]? = some (some v2)) (ht : σ[t]? = some (some v))
    (ask : 1 < way → ∀ Q : VK, Ret H Q "place" v → spCaught K C [.ref x, .int way, v1, v2] H Q E0) (tn : Tn H v j) (hj : j ≤ 19) (sm : SmAt H) (k : ∀ H' j', j' ≤ j + 1 → Chl v H H' → Tn H' v j' → X R σ H') :
    tSeq (tIfS (tAnd (tTest (tOp (rI0 fun i j => V.bl (decide (j < i))) (tVar 7) (tC (V.int 1)))) (tNot (tB (tCall spHolds [] E0 (tCons (tCall (spCaught K C) [] E0 (tCons (tVar 1) (tCons (tVar 7) (tCons (tVar a) (tCons (tVar 6) tNil))))) (tCons (tC (V.str (Str.ofString "place"))) (tCons (tVar t) tNil))))))) (tRet (tC (V.bl false))) tNext) X R σ H := by
  refine ⟨_, h7, _, _, rfl, rfl, _, rfl, ite2 (fun c => ?_) (fun c => ?_)⟩
  · have c : 1 < way := of_decide_eq_true c
    refine ⟨_, h1, _, h7, _, ha, _, h6, ask c _ fun u H7 s7 nu eu => ?_⟩
    refine ⟨_, ht, u, "place", v, j, rfl, eu, tn.same s7, hj, sm.same s7, fun H8 ch8 t8 => ⟨_, rfl, iteF ?_⟩⟩
    exact k H8 (j + 1) (Nat.le_refl _) ((Chl.of s7).trans ch8) t8
  · exact iteF (k H j (by omega) (Chl.of (Same.refl _)) tn)
section
variable {P : Program} {w : World} {K : PySem.W.Frag} {mg : Str → Option Value} {base : Heap} {C : Addr} {f1 f2 f3 f4 : Addr} {fd1 fd2 fd3 fd4 : FuncData}
abbrev s_law_names_right : Stmt := top 37
theorem sc_law_names_right : FnScope ["_law_box_here", "_law_line", "_law_names_here", "_law_spare", "_law_good", "_law_odd", "_law_other", "_law_way", "_law_before"] ["_law_box_here", "_law_line", "_law_names_here", "_law_spare"] (defScope s_law_names_right) := ⟨rfl, rfl, rfl, by decide +kernel, rfl, by decide +kernel, by decide +kernel⟩
def spNamesR (K : PySem.W.Frag) (C : Addr) : Sp := fun vs H Q _ => ∃ (b x nl : Addr) (n : Int) (wd : Wd), vs = [.ref b, .ref x, .ref nl, .str wd.sp] ∧ Bx b n H ∧ n ≤ 5000 ∧ LineAt K C wd H x ∧ wd.Ok ∧ nl ≠ b ∧ H nl = some (.lst ((wd.ps.map (·.1)).map V.str)) ∧ SmAt H ∧
  ∀ H', KB b H H' → Bx b (n + 5) H' → Q (.bl true) H'
theorem ok_names_right {f : Addr} {fd : FuncData} (ns : K.lookup sysModules = none) (F : Fun K "_law_names_right" "_law_names_right" s_law_names_right f fd) (T : Txt mg)
    (Nlaw_take : Fn K mg "_law_take" sTake ["_law_box_here", "_law_many"] f1 fd1) (Glaw_take : FnOk P w K mg base CX0 1 f1 fd1 ["_law_box_here", "_law_many"] spTake)
    (Nlaw_odd_name : Fn K mg "_law_odd_name" s_law_odd_name ["_law_box_here", "_law_names_here", "_law_spare"] f2 fd2) (Glaw_odd_name : FnOk P w K mg base CX0 2 f2 fd2 ["_law_box_here", "_law_names_here", "_law_spare"] spOddName)
    (Nlaw_caught : Fn K mg "_law_caught" s_law_caught ["_law_line", "_law_way", "_law_one", "_law_other"] f3 fd3) (Glaw_caught : FnOk P w K mg base CX0 8 f3 fd3 ["_law_line", "_law_way", "_law_one", "_law_other"] (spCaught K C))
    (Nlaw_holds : Fn K mg "_law_holds" s_law_holds ["_law_found", "_law_word", "_law_thing"] f4 fd4) (Glaw_holds : GOk P w K mg base CX0 4 f4 fd4 ["_law_found", "_law_word", "_law_thing"] spHolds) :
    GOk P w K mg base CX0 9 f fd ["_law_box_here", "_law_line", "_law_names_here", "_law_spare"] (spNamesR K C) := by
  refine gok F sc_law_names_right (fun vs H Q E h => ?_) (fun cdv A outer s H vs Q E gd hr h => ?_)
  · obtain ⟨b, x, nl, n, wd, rfl, _⟩ := h
    rfl
  · obtain ⟨b, x, nl, n, wd, rfl, hb, n5, hL, ok, nb, hn, sm, k⟩ := h
    refine ⟨_, pss_cons (ps_set (i := 4) sc_law_names_right.nd rfl (Or.inl rfl) (pe_ix (ixL (K := K) rfl) (pv 2) (pe_call Glaw_take (hr.mono (by decide)) (by rfl) Nlaw_take.g Nlaw_take.kp Nlaw_take.b .nil pass0 (pa_cons (pv 0) (pa_cons (pe_callB call_len_seq (by rfl) T.len_ PySem.boot_len (pa_cons (pv 2) pa_nil)) pa_nil))) (fun _ _ => rfl)))
      (pss_cons (ps_set (i := 5) sc_law_names_right.nd rfl (Or.inl rfl) (pe_call Glaw_odd_name (hr.mono (by decide)) (by rfl) Nlaw_odd_name.g Nlaw_odd_name.kp Nlaw_odd_name.b .nil pass0 (pa_cons (pv 0) (pa_cons (pv 2) (pa_cons (pv 3) pa_nil)))))
      (pss_cons (ps_set (i := 6) sc_law_names_right.nd rfl (Or.inl rfl) (pe_call Glaw_odd_name (hr.mono (by decide)) (by rfl) Nlaw_odd_name.g Nlaw_odd_name.kp Nlaw_odd_name.b .nil pass0 (pa_cons (pv 0) (pa_cons (pv 2) (pa_cons (pv 3) pa_nil)))))
      (pss_cons (ps_for PassesOwn.never rfl (pi_range1 (by rfl) T.range_ (pa_cons pe_int pa_nil)) (pg_name (i := 7) sc_law_names_right.nd rfl (Or.inl rfl)) (pss_cons (ps_set (i := 8) sc_law_names_right.nd rfl (Or.inl rfl) (pe_call Glaw_caught (hr.mono (by decide)) (by rfl) Nlaw_caught.g Nlaw_caught.kp Nlaw_caught.b .nil pass0 (pa_cons (pv 1) (pa_cons (pv 7) (pa_cons (pv 4) (pa_cons (pe_ix (ixL (K := K) rfl) (pv 2) pe_int (fun _ _ => rfl)) pa_nil))))))
          (pss_cons (ps_if (pt_not (pt_val (pe_gcall gd Glaw_holds (hr.mono (by decide)) (by rfl) Nlaw_holds.g Nlaw_holds.kp Nlaw_holds.b .nil pass0 (pa_cons (pe_call Glaw_caught (hr.mono (by decide)) (by rfl) Nlaw_caught.g Nlaw_caught.kp Nlaw_caught.b .nil pass0 (pa_cons (pv 1) (pa_cons (pv 7) (pa_cons (pv 5) (pa_cons (pe_ix (ixL (K := K) rfl) (pe_lst (pa_cons (pv 4) (pa_cons (pv 6) pa_nil))) (pe_op op_mod (pv 7) pe_int) (fun _ _ => rfl)) pa_nil))))) (pa_cons pe_str (pa_cons (pv 5) pa_nil)))))) (pss_one (ps_ret pe_bl)) pss_nil)
          (pss_cons (ps_if (PW.pt (pw_and (pt_cmpR op_gt (pv 7) pe_int (nomark _)) (pw_and1 (pt_not (pt_val (pe_gcall gd Glaw_holds (hr.mono (by decide)) (by rfl) Nlaw_holds.g Nlaw_holds.kp Nlaw_holds.b .nil pass0 (pa_cons (pe_call Glaw_caught (hr.mono (by decide)) (by rfl) Nlaw_caught.g Nlaw_caught.kp Nlaw_caught.b .nil pass0 (pa_cons (pv 1) (pa_cons (pv 7) (pa_cons (pv 4) (pa_cons (pv 6) pa_nil))))) (pa_cons pe_str (pa_cons (pv 6) pa_nil))))))))) (pss_one (ps_ret pe_bl)) pss_nil)
          (pss_cons (ps_if (PW.pt (pw_and (pt_cmpR op_gt (pv 7) pe_int (nomark _)) (pw_and1 (pt_not (pt_val (pe_gcall gd Glaw_holds (hr.mono (by decide)) (by rfl) Nlaw_holds.g Nlaw_holds.kp Nlaw_holds.b .nil pass0 (pa_cons (pe_call Glaw_caught (hr.mono (by decide)) (by rfl) Nlaw_caught.g Nlaw_caught.kp Nlaw_caught.b .nil pass0 (pa_cons (pv 1) (pa_cons (pv 7) (pa_cons (pv 5) (pa_cons (pv 6) pa_nil))))) (pa_cons pe_str (pa_cons (pv 5) pa_nil))))))))) (pss_one (ps_ret pe_bl)) pss_nil)
          (pss_one (ps_if (PW.pt (pw_or (pt_cmpR op_ne (pe_ix (ixT (K := K) rfl) (pv 8) pe_int (fun _ _ => rfl)) pe_str (nomark _)) (pw_or1 (pt_cmpR op_ne (pe_callB (call_reprQ ns gd hr) (by rfl) T.repr_ (by decide +kernel) (pa_cons (pe_call Glaw_caught (hr.mono (by decide)) (by rfl) Nlaw_caught.g Nlaw_caught.kp Nlaw_caught.b .nil pass0 (pa_cons (pv 1) (pa_cons (pv 7) (pa_cons (pv 4) (pa_cons (pe_ix (ixL (K := K) rfl) (pv 2) pe_int (fun _ _ => rfl)) pa_nil))))) pa_nil)) (pe_callB (call_reprQ ns gd hr) (by rfl) T.repr_ (by decide +kernel) (pa_cons (pv 8) pa_nil)) (nomark _))))) (pss_one (ps_ret pe_bl)) pss_nil)))))))
      (pss_one (ps_ret pe_bl))))), ?_⟩
    have p2 := ok.p2
    have p6 := ok.p6
    refine ⟨_, rfl, _, rfl, _, rfl, nl, _, rfl, .inl (SqL.of hn), b, _, n, rfl, hb, by omega, ?_, ?_, fun d H1 d0 d1 off bx1 => ?_⟩
    · rw [List.length_map, List.length_map]
      omega
    · exact dec9000 (by rw [List.length_map, List.length_map]; omega) (by rw [List.length_map, List.length_map]; omega)
    rw [List.length_map, List.length_map] at d1
    have k1 := KB.off off
    have hn1 := k1 _ _ nb hn
    obtain ⟨i0, rfl⟩ := Int.eq_ofNat_of_zero_le d0
    have il : i0 < wd.ps.length := by omega
    have ei : wd.ps[i0]? = some wd.ps[i0] := List.getElem?_eq_getElem il
    generalize wd.ps[i0] = p at ei
    have e0 : wd.ps[0]? = some wd.ps[0] := List.getElem?_eq_getElem (by omega)
    generalize wd.ps[0] = p0 at e0
    have po := posOf_at ok.nd ei
    have po0 := posOf_at ok.nd e0
    have at1 : ((wd.ps.map (·.1)).map V.str)[i0]? = some (.str p.1) := by rw [List.getElem?_map, List.getElem?_map, ei]; rfl
    have at0 : atI ((wd.ps.map (·.1)).map V.str) 0 = some (.str p0.1) := atI_nat (j := 0) (by rw [List.getElem?_map, List.getElem?_map, e0]; rfl)
    refine ⟨nl, _, _, _, rfl, rfl, SqL.of hn1, atI_nat at1, ?_⟩
    refine ⟨_, rfl, _, rfl, _, rfl, b, nl, n + 1, wd, rfl, bx1, by omega, ok, nb, hn1, fun vo H2 od bx2 bad => ?_⟩
    have hn2 := od.kb _ _ nb hn1
    refine ⟨_, rfl, _, rfl, _, rfl, b, nl, n + 1 + 2, wd, rfl, bx2, by omega, ok, nb, hn2, fun vt H3 ot bx3 bad2 => ?_⟩
    have k3 : KB b H H3 := (k1.trans od.kb).trans ot.kb
    have nvb : vo ≠ .ref b := fun z => by
      obtain ⟨_, _, _, q, _⟩ := bx1
      have := od.new b z
      rw [q] at this
      cases this
    have tn3 : Tn H3 vo 0 := od.tn.kb bx2 nvb ot.kb
    have apart : ∀ a, vt = .ref a → vo ≠ .ref a := fun a e z => by
      have q := ot.new a e
      have t := od.tn.th
      rw [z] at t
      cases t with
      | lst _ _ h => rw [q] at h; cases h
      | tup _ _ h => rw [q] at h; cases h
      | dic _ h => rw [q] at h; cases h
    have nvb2 : vt ≠ .ref b := fun z => by
      obtain ⟨_, _, _, q, _⟩ := bx2
      have := ot.new b z
      rw [q] at this
      cases this
    have fo : ∀ {z o}, z ≠ b → H z = some o → V.ref z ≠ vo ∧ V.ref z ≠ vt := fun {z o} nz e => by
      refine ⟨fun q => ?_, fun q => ?_⟩
      · have := od.new z q.symm
        rw [k1 _ _ nz e] at this
        cases this
      · have := ot.new z q.symm
        rw [od.kb _ _ nz (k1 _ _ nz e)] at this
        cases this
    have line3 : LineAt K C wd H3 x := line_chl hL (chl_kb hb k3)
    have stay : ∀ {H'}, Chl2 vo vt H3 H' → LineAt K C wd H' x ∧ SmAt H' ∧ H' nl = some (.lst ((wd.ps.map (·.1)).map V.str)) ∧ KB b H H' ∧ Bx b (n + 5) H' := fun {H'} c => by
      have kb : KB b H H' := fun z o nz e => c z o (k3 z o nz e) fun w => absurd w (fun q => q.elim (fo nz e).1 (fo nz e).2)
      refine ⟨line_chl2 line3 c, ?_, kb _ _ nb hn, kb, ?_⟩
      · obtain ⟨o, e⟩ := sm
        obtain ⟨_, _, _, q, _⟩ := hb
        exact ⟨o, kb _ _ (ne_of e q (by simp)) e⟩
      · rw [show n + 5 = n + 1 + 2 + 2 by omega]
        obtain ⟨x1, y1, z1, q, r⟩ := bx3
        exact ⟨x1, y1, z1, c _ _ q fun w => absurd w (fun q => q.elim nvb.symm nvb2.symm), r⟩
    refine ⟨_, rfl, by decide, by decide, for_range (lo := 0) (n := 4) (fun i σ H' => ∃ (v7 v8 : Option V) (k1 k2 : Nat), σ = [some (.ref b), some (.ref x), some (.ref nl), some (.str wd.sp), some (.str p.1), some vo, some vt, v7, v8] ∧ k1 ≤ 2 * i ∧ k2 ≤ i ∧ Tn H' vo k1 ∧ Tn H' vt k2 ∧ Chl2 vo vt H3 H') ⟨_, _, 0, 0, rfl, Nat.le_refl _, Nat.le_refl _, tn3, ot.tn, Chl2.of (Same.refl _)⟩ ?_ ?_⟩
    · rintro i σ H4 hi ⟨v7, v8, j1, j2, rfl, hj1, hj2, t1, t2, c4⟩
      obtain ⟨L4, sm4, hn4, _, _⟩ := stay c4
      have thp : ∀ {H' : Hp}, Th H' (.str p.1) := fun {H'} => (ok.nm _ (List.mem_of_getElem? ei)).1.th
      have thp0 : ∀ {H' : Hp}, Th H' (.str p0.1) := fun {H'} => (ok.nm _ (List.mem_of_getElem? e0)).1.th
      refine ⟨_, rfl, _, rfl, _, rfl, _, rfl, nl, _, _, _, rfl, rfl, SqL.of hn4, at0, x, 0 + (i : Int), .str p.1, .str p0.1, wd, rfl, L4, ok, by omega, by omega, thp, thp0, .inl ⟨by omega, p.1, i0, 0, rfl, po, fun _ => ⟨p0.1, rfl, po0⟩, fun u1 H5 s5 nu1 eu1 => ?_⟩⟩
      have c5 := c4.same s5
      have t15 := t1.same s5
      have t25 := t2.same s5
      obtain ⟨v2, hv2, th2⟩ : ∃ v2, atI [V.str p.1, vt] ((0 + (i : Int)) % 2) = some v2 ∧ Th H5 v2 := by
        have : (0 + (i : Int)) % 2 = 0 ∨ (0 + (i : Int)) % 2 = 1 := by omega
        rcases this with e | e
        · exact ⟨_, by rw [e]; rfl, thp⟩
        · exact ⟨_, by rw [e]; rfl, t25.th⟩
      refine ⟨_, rfl, _, rfl, _, rfl, _, rfl, _, rfl, (by show 2 ≤ sizeLine; decide), fun l hl => ?_⟩
      have s6 := same_new (o := .lst [.str p.1, vt]) hl
      refine ⟨_, rfl, _, _, rfl, rfl, (by show (0 : Int) < 2; decide), l, _, _, _, rfl, rfl, SqL.of upd_same, hv2, ?_⟩
      generalize upd H5 l (.lst [.str p.1, vt]) = H6 at s6 ⊢
      have c6 := c5.same s6
      obtain ⟨L6, sm6, hn6, _, _⟩ := stay c6
      refine ⟨x, 0 + (i : Int), vo, v2, wd, rfl, L6, ok, by omega, by omega, (t15.same s6).th, th_same s6 th2, .inr (.inl ⟨by omega, bad, fun u2 H7 s7 nu2 eu2 => ?_⟩)⟩
      have c7 := c6.same s7
      obtain ⟨L7, sm7, hn7, _, _⟩ := stay c7
      refine ⟨_, rfl, u2, "place", vo, j1, rfl, eu2, (t15.same s6).same s7, by omega, sm7, fun H8 ch8 t18 => ⟨_, rfl, iteF ?_⟩⟩
      have c8 := c7.l ch8
      obtain ⟨L8, sm8, hn8, _, _⟩ := stay c8
      have t28 : Tn H8 vt j2 := ((t25.same s6).same s7).chl ch8 fun a e => fun q => apart a e (q.trans e)
      refine ask_step (a := 4) (t := 6) rfl rfl rfl rfl rfl (fun c Q' r => ⟨x, _, .str p.1, vt, wd, rfl, L8, ok, by omega, by omega, thp, t28.th, .inr (.inr (.inl ⟨by omega, by omega, ⟨p.1, i0, rfl, po⟩, bad2, r⟩))⟩) t28 (by omega) sm8 fun H9 j2' hj2' ch9 t29 => ?_
      have c9 := c8.r ch9
      obtain ⟨L9, sm9, hn9, _, _⟩ := stay c9
      have t19 : Tn H9 vo (j1 + 1) := t18.chl ch9 fun a e => fun q => apart a (q.trans e) e
      refine ask_step (a := 5) (t := 5) rfl rfl rfl rfl rfl (fun c Q' r => ⟨x, _, vo, vt, wd, rfl, L9, ok, by omega, by omega, t19.th, t29.th, .inr (.inl ⟨by omega, bad, r⟩)⟩) t19 (by omega) sm9 fun H10 j1' hj1' ch10 t110 => ?_
      have c10 := c9.l ch10
      obtain ⟨L10, sm10, hn10, _, _⟩ := stay c10
      have t210 : Tn H10 vt j2' := t29.chl ch10 fun a e => fun q => apart a e (q.trans e)
      have eu10 : H10 u1 = some (.tup [.str "told", nameV wd (0 + (i : Int)) i0 0]) := ch10.off (ch9.off (ch8.off (s7 _ _ (s6 _ _ eu1)) (by simp)) (by simp)) (by simp)
      have iu : atI [V.str "told", nameV wd (0 + (i : Int)) i0 0] 0 = some (.str "told") := rfl
      refine ⟨_, rfl, u1, _, _, _, rfl, rfl, SqT.of eu10, iu, rfl, _, rfl, iteNS rfl ?_⟩
      refine ⟨_, rfl, _, rfl, _, rfl, _, rfl, nl, _, _, _, rfl, rfl, SqL.of hn10, at0, x, 0 + (i : Int), .str p.1, .str p0.1, wd, rfl, L10, ok, by omega, by omega, thp, thp0, .inl ⟨by omega, p.1, i0, 0, rfl, po, fun _ => ⟨p0.1, rfl, po0⟩, fun u3 H11 s11 nu3 eu3 => ?_⟩⟩
      obtain ⟨dn, dq, sbn⟩ := nameV_ans (K := K) (H := H11) ok (0 + (i : Int)) (i := i0) (j := 0) (by omega) (by omega)
      have dq' : ∀ {u}, H11 u = some (.tup [.str "told", nameV wd (0 + (i : Int)) i0 0]) → Dq K H11 (.ref u) (.tuple [.str "told", dn]) := fun e => .tup (SqT.of e) (.cons (.str _) (.cons dq .nil))
      have sb2 : Sb (.tuple [.str "told", dn]) 1 400 := (sb_tuple (k := 0) (m := 110) (fun e he => by
        simp only [List.mem_cons, List.not_mem_nil, or_false] at he
        rcases he with rfl | rfl
        · exact (sb_str (m := 110) (good_of _) (by decide +kernel))
        · exact sbn)).mono (by decide) (by simp)
      obtain ⟨m1, m2, m3⟩ := sb2.rep (by decide) (by decide)
      refine ⟨_, _, rfl, sm10.same s11, dq' eu3, m1, m2, m3, _, rfl, _, _, rfl, sm10.same s11, dq' (s11 _ _ eu10), m1, m2, m3, rfl, _, rfl, iteNS rfl ?_⟩
      exact ⟨_, _, j1', j2', rfl, by omega, by omega, t110.same s11, t210.same s11, c10.same s11⟩
    · rintro σ H4 ⟨v7, v8, j1, j2, rfl, _, _, _, _, c4⟩
      obtain ⟨_, _, _, kb4, bx4⟩ := stay c4
      exact k _ kb4 bx4
end
end K5

set_option maxRecDepth 100000
set_option maxHeartbeats 400000
namespace K5
open PySem PySem.Spec PyProof.Rows L2 GxR Gd TL My
section
variable {P : Program} {w : World} {K : PySem.W.Frag} {mg : Str → Option Value} {base : Heap} {C : Addr} {f1 f2 f3 f4 : Addr} {fd1 fd2 fd3 fd4 : FuncData}
abbrev s_law_numbers_right : Stmt := top 38
theorem sc_law_numbers_right : FnScope ["_law_box_here", "_law_line", "_law_stretches", "_law_longs", "_law_way", "_law_many", "_law_odd"] ["_law_box_here", "_law_line", "_law_stretches", "_law_longs"] (defScope s_law_numbers_right) := ⟨rfl, rfl, rfl, by decide +kernel, rfl, by decide +kernel, by decide +kernel⟩
def spNumbersR (K : PySem.W.Frag) (C : Addr) : Sp := fun vs H Q _ => ∃ (b x : Addr) (n : Int) (wd : Wd), vs = [.ref b, .ref x, .int (wd.st.length : Nat), .int (wd.lo.length : Nat)] ∧ Bx b n H ∧ n ≤ 5000 ∧ LineAt K C wd H x ∧ wd.Ok ∧ SmAt H ∧
  ∀ H', KB b H H' → Bx b (n + 7) H' → Q (.bl true) H'
theorem ok_numbers_right {f : Addr} {fd : FuncData} (F : Fun K "_law_numbers_right" "_law_numbers_right" s_law_numbers_right f fd) (T : Txt mg)
    (Nlaw_odd_number : Fn K mg "_law_odd_number" s_law_odd_number ["_law_box_here", "_law_many"] f2 fd2) (Glaw_odd_number : FnOk P w K mg base CX0 2 f2 fd2 ["_law_box_here", "_law_many"] spOddNumber)
    (Nlaw_caught : Fn K mg "_law_caught" s_law_caught ["_law_line", "_law_way", "_law_one", "_law_other"] f3 fd3) (Glaw_caught : FnOk P w K mg base CX0 8 f3 fd3 ["_law_line", "_law_way", "_law_one", "_law_other"] (spCaught K C))
    (Nlaw_holds : Fn K mg "_law_holds" s_law_holds ["_law_found", "_law_word", "_law_thing"] f4 fd4) (Glaw_holds : GOk P w K mg base CX0 4 f4 fd4 ["_law_found", "_law_word", "_law_thing"] spHolds) :
    GOk P w K mg base CX0 9 f fd ["_law_box_here", "_law_line", "_law_stretches", "_law_longs"] (spNumbersR K C) := by
  refine gok F sc_law_numbers_right (fun vs H Q E h => ?_) (fun cdv A outer s H vs Q E gd hr h => ?_)
  · obtain ⟨b, x, n, wd, rfl, _⟩ := h
    rfl
  · obtain ⟨b, x, n, wd, rfl, hb, n5, hL, ok, sm, k⟩ := h
    refine ⟨_, pss_cons (ps_for PassesOwn.never rfl (pi_range2 (by rfl) T.range_ (pa_cons pe_int (pa_cons pe_int pa_nil))) (pg_name (i := 4) sc_law_numbers_right.nd rfl (Or.inl rfl)) (pss_cons (ps_set (i := 5) sc_law_numbers_right.nd rfl (Or.inl rfl) (pe_ix (ixL (K := K) rfl) (pe_lst (pa_cons (pv 2) (pa_cons (pv 3) pa_nil))) (pe_callTy call_int1 (by rfl) T.int_ (by decide +kernel) (pa_cons (pe_cmpR op_gt (pv 4) pe_int (nomark _)) pa_nil)) (fun _ _ => rfl)))
          (pss_cons (ps_set (i := 6) sc_law_numbers_right.nd rfl (Or.inl rfl) (pe_call Glaw_odd_number (hr.mono (by decide)) (by rfl) Nlaw_odd_number.g Nlaw_odd_number.kp Nlaw_odd_number.b .nil pass0 (pa_cons (pv 0) (pa_cons (pv 5) pa_nil))))
          (pss_cons (ps_if (pt_not (pt_val (pe_gcall gd Glaw_holds (hr.mono (by decide)) (by rfl) Nlaw_holds.g Nlaw_holds.kp Nlaw_holds.b .nil pass0 (pa_cons (pe_call Glaw_caught (hr.mono (by decide)) (by rfl) Nlaw_caught.g Nlaw_caught.kp Nlaw_caught.b .nil pass0 (pa_cons (pv 1) (pa_cons (pv 4) (pa_cons (pv 6) (pa_cons pe_non pa_nil))))) (pa_cons (pe_ix (ixL (K := K) rfl) (pe_lst (pa_cons pe_str (pa_cons pe_str pa_nil))) (pe_callTy call_int1 (by rfl) T.int_ (by decide +kernel) (pa_cons (pe_cmpR op_gt (pv 4) pe_int (nomark _)) pa_nil)) (fun _ _ => rfl)) (pa_cons (pv 6) pa_nil)))))) (pss_one (ps_ret pe_bl)) pss_nil)
          (pss_one (ps_if (PW.pt (pw_and (pt_cmpR op_gt (pv 5) pe_int (nomark _)) (pw_and1 (pt_cmpR op_ne (pe_ix (ixT (K := K) rfl) (pe_call Glaw_caught (hr.mono (by decide)) (by rfl) Nlaw_caught.g Nlaw_caught.kp Nlaw_caught.b .nil pass0 (pa_cons (pv 1) (pa_cons (pv 4) (pa_cons (pe_op op_sub (pv 5) pe_int) (pa_cons pe_non pa_nil))))) pe_int (fun _ _ => rfl)) pe_str (nomark _))))) (pss_one (ps_ret pe_bl)) pss_nil))))))
      (pss_one (ps_ret pe_bl)), ?_⟩
    have p6 := ok.p6
    have sl := ok.sl
    have ll := ok.ll
    refine ⟨_, _, rfl, ⟨by decide, by decide, by decide, by decide⟩, for_range (lo := 4) (n := 7) (fun i σ H' => ∃ v4 v5 v6 : Option V, σ = [some (.ref b), some (.ref x), some (.int (wd.st.length : Nat)), some (.int (wd.lo.length : Nat)), v4, v5, v6] ∧ KB b H H' ∧ Bx b (n + i) H') ⟨_, _, _, rfl, KB.refl _ _, by simpa using hb⟩ ?_ ?_⟩
    · rintro i σ H1 hi ⟨v4, v5, v6, rfl, k1, bx1⟩
      have L1 : LineAt K C wd H1 x := line_chl hL (chl_kb hb k1)
      have sm1 : SmAt H1 := by
        obtain ⟨o, e⟩ := sm
        obtain ⟨_, _, _, q, _⟩ := hb
        exact ⟨o, k1 _ _ (ne_of e q (by simp)) e⟩
      have e4 : (4 + (i : Int)) = ((4 + i : Nat) : Int) := by omega
      rw [e4]
      generalize hw : 4 + i = way at e4
      refine ⟨_, rfl, _, rfl, (by show 2 ≤ sizeLine; decide), fun l hl => ?_⟩
      have s2 := same_new (o := .lst [.int (wd.st.length : Nat), .int (wd.lo.length : Nat)]) hl
      have el : upd H1 l (.lst [.int (wd.st.length : Nat), .int (wd.lo.length : Nat)]) l = some (.lst [.int (wd.st.length : Nat), .int (wd.lo.length : Nat)]) := upd_same
      generalize upd H1 l (.lst [.int (wd.st.length : Nat), .int (wd.lo.length : Nat)]) = H2 at s2 el ⊢
      obtain ⟨m, hm, t, ht, hcase⟩ : ∃ (m : Nat), atI [V.int (wd.st.length : Nat), .int (wd.lo.length : Nat)] (if decide ((7 : Int) < (way : Nat)) = true then 1 else 0) = some (.int (m : Nat)) ∧ ∃ t : String, atI [V.str "stretch", .str "long"] (if decide ((7 : Int) < (way : Nat)) = true then 1 else 0) = some (.str t) ∧
          ((way ≤ 7 ∧ m = wd.st.length ∧ t = "stretch") ∨ (7 < way ∧ m = wd.lo.length ∧ t = "long")) := by
        by_cases c : 7 < way
        · have : decide ((7 : Int) < (way : Nat)) = true := decide_eq_true (by omega)
          rw [this]
          exact ⟨wd.lo.length, rfl, "long", rfl, .inr ⟨c, rfl, rfl⟩⟩
        · have : decide ((7 : Int) < (way : Nat)) = false := decide_eq_false (by omega)
          rw [this]
          exact ⟨wd.st.length, rfl, "stretch", rfl, .inl ⟨by omega, rfl, rfl⟩⟩
      refine ⟨_, rfl, _, _, rfl, rfl, .inr ⟨_, rfl, ?_⟩⟩
      refine ⟨l, _, _, _, rfl, rfl, SqL.of el, hm, ?_⟩
      have bx2 : Bx b (n + i) H2 := by
        obtain ⟨x1, y1, z1, q, r⟩ := bx1
        exact ⟨x1, y1, z1, s2 _ _ q, r⟩
      have m10 : m ≤ 10 := by omega
      refine ⟨_, rfl, _, rfl, b, n + i, m, rfl, bx2, by omega, m10, fun vo H3 od bx3 bad => ?_⟩
      have k3 : KB b H1 H3 := fun z o nz e => od.kb _ _ nz (s2 _ _ e)
      have L3 : LineAt K C wd H3 x := line_chl L1 (chl_kb bx1 k3)
      have sm3 : SmAt H3 := by
        obtain ⟨o, e⟩ := sm1
        obtain ⟨_, _, _, q, _⟩ := bx1
        exact ⟨o, k3 _ _ (ne_of e q (by simp)) e⟩
      have w10 : (way : Int) ≤ 10 := by omega
      have w4 : 4 ≤ (way : Int) := by omega
      have ask : ∀ Q : VK, Ret H3 Q t vo → spCaught K C [.ref x, .int (way : Nat), vo, .non] H3 Q E0 := fun Q r => by
        refine ⟨x, (way : Int), vo, .non, wd, rfl, L3, ok, by omega, w10, od.tn.th, .non, ?_⟩
        rcases hcase with ⟨h7, hm', ht'⟩ | ⟨h7, hm', ht'⟩
        · subst hm' ht'
          exact .inr (.inr (.inr (.inr (.inl ⟨w4, by omega, bad, r⟩))))
        · subst hm' ht'
          exact .inr (.inr (.inr (.inr (.inr ⟨by omega, bad, r⟩))))
      have good : 0 < m → ∀ (H4 : Hp) (Q : VK), LineAt K C wd H4 x → (∀ a, Ret H4 Q "told" a) → spCaught K C [.ref x, .int (way : Nat), .int ((m : Int) - 1), .non] H4 Q E0 := fun m0 H4 Q L4 r => by
        refine ⟨x, (way : Int), _, .non, wd, rfl, L4, ok, by omega, w10, .int _, .non, .inr (.inr (.inr (.inl ⟨w4, ⟨m - 1, ?_, ?_, ?_⟩, r⟩)))⟩
        · rw [show ((m : Int) - 1) = ((m - 1 : Nat) : Int) by omega]
        · rcases hcase with ⟨h7, hm', _⟩ | ⟨h7, hm', _⟩ <;> omega
        · rcases hcase with ⟨h7, hm', _⟩ | ⟨h7, hm', _⟩ <;> omega
      refine ⟨_, rfl, _, rfl, _, rfl, ask _ fun u H4 s4 nu eu => ?_⟩
      refine ⟨(by show 2 ≤ sizeLine; decide), fun l2 hl2 => ?_⟩
      have s5 := same_new (o := .lst [.str "stretch", .str "long"]) hl2
      have el5 : upd H4 l2 (.lst [.str "stretch", .str "long"]) l2 = some (.lst [.str "stretch", .str "long"]) := upd_same
      generalize upd H4 l2 (.lst [.str "stretch", .str "long"]) = H5 at s5 el5 ⊢
      refine ⟨_, rfl, _, _, rfl, rfl, .inr ⟨_, rfl, ?_⟩⟩
      refine ⟨l2, _, _, _, rfl, rfl, SqL.of el5, ht, ?_⟩
      have s35 := s4.trans s5
      refine ⟨_, rfl, u, t, vo, 0, rfl, s5 _ _ eu, od.tn.same s35, by omega, sm3.same s35, fun H6 ch6 t6 => ⟨_, rfl, iteF ?_⟩⟩
      have c36 : Chl vo H3 H6 := (Chl.of s35).trans ch6
      have L6 : LineAt K C wd H6 x := line_chl L3 c36
      have nvb : vo ≠ .ref b := fun z => by
        obtain ⟨_, _, _, q, _⟩ := bx2
        have := od.new b z
        rw [q] at this
        cases this
      have k6 : KB b H H6 := fun z o nz e => c36.keep (k3 z o nz (k1 z o nz e)) fun q => by
        have := od.new z q.symm
        rw [s2 _ _ (k1 z o nz e)] at this
        cases this
      have bx6 : Bx b (n + ((i + 1 : Nat) : Int)) H6 := by
        rw [show n + ((i + 1 : Nat) : Int) = n + (i : Int) + 1 by omega]
        obtain ⟨x1, y1, z1, q, r⟩ := bx3
        exact ⟨x1, y1, z1, c36.keep q nvb.symm, r⟩
      refine ⟨_, rfl, _, _, rfl, rfl, _, rfl, ite2 (fun c => ?_) (fun c => ?_)⟩
      · have c : 0 < m := by
          have := of_decide_eq_true c
          omega
        refine ⟨_, rfl, _, rfl, _, rfl, _, _, rfl, rfl, good c H6 _ L6 fun a u7 H7 s7 nu7 eu7 => ?_⟩
        have iu : atI [V.str "told", a] 0 = some (.str "told") := rfl
        refine ⟨u7, _, _, _, rfl, rfl, SqT.of eu7, iu, rfl, _, rfl, iteNS rfl ⟨_, _, _, rfl, fun z o nz e => s7 _ _ (k6 z o nz e), ?_⟩⟩
        obtain ⟨x1, y1, z1, q, r⟩ := bx6
        exact ⟨x1, y1, z1, s7 _ _ q, r⟩
      · exact iteF ⟨_, _, _, rfl, k6, bx6⟩
    · rintro σ H1 ⟨v4, v5, v6, rfl, k1, bx1⟩
      exact k _ k1 bx1
end
end K5

set_option maxRecDepth 100000
set_option maxHeartbeats 1000000
namespace K5
open PySem PySem.Spec PyProof.Rows L2 GxR Gd TL My
theorem tupOfK {X : Cx} {K : PySem.W.Frag} (h : X.K = K) : CallR X (.type "tuple") (fun xs H Q => ∃ p ys, xs = [.ref p] ∧ ((SqL K H p ys ∧ ∀ l, H l = none → Q (.ref l) (upd H l (.tup ys))) ∨ (SqT K H p ys ∧ Q (.ref p) H))) := h ▸ call_tuple_of
theorem longs_nonneg {top : Int} : ∀ {low : Int} {lo : List (Int × Int × Int)}, 0 ≤ low → longsOk top low lo → ∀ p ∈ lo, 0 ≤ p.1
  | _, [], _, _, p, hp => by cases hp
  | low, (f, l, h) :: r, h0, hk, p, hp => by
    obtain ⟨k1, k2, k3, k4, k5, k6⟩ := hk
    rcases List.mem_cons.mp hp with rfl | hp
    · exact Int.le_trans h0 k1
    · exact longs_nonneg (by omega) k6 p hp
def toldD (wd : Wd) : PyData := .tuple [.tuple (wd.ps.map dP), .tuple (wd.st.map dP), .tuple (wd.lo.map dL)]
theorem sm_told {wd : Wd} (ok : wd.Ok) (hb : ∀ p ∈ wd.lo, p.1.natAbs ≤ 1000 ∧ p.2.1.natAbs ≤ 1000 ∧ p.2.2.natAbs ≤ 1000) : Sm (toldD wd) 3 2000 := by
  have a1 : Sm (.tuple (wd.ps.map dP)) 2 300 := (sm_tuple (k := 1) (m := 42) (fun d hd => by
    obtain ⟨p, hp, rfl⟩ := List.mem_map.mp hd
    obtain ⟨n1, n2, n3⟩ := ok.nm p hp
    exact sm_dP n1.good n1.2.1 (by omega))).mono (Nat.le_refl _) (by have := ok.p6; rw [List.length_map]; omega)
  have a2 : Sm (.tuple (wd.st.map dP)) 2 300 := (sm_tuple (k := 1) (m := 42) (fun d hd => by
    obtain ⟨p, hp, rfl⟩ := List.mem_map.mp hd
    obtain ⟨n1, n2, n3⟩ := ok.st p hp
    refine sm_dP ?_ ?_ (by omega)
    · rcases n1 with e | e <;> (rw [e]; exact good_of _)
    · rcases n1 with e | e <;> (rw [e]; decide))).mono (Nat.le_refl _) (by have := ok.p6; have := ok.sl; rw [List.length_map]; omega)
  have a3 : Sm (.tuple (wd.lo.map dL)) 2 300 := (sm_tuple (k := 1) (m := 63) (fun d hd => by
    obtain ⟨p, hp, rfl⟩ := List.mem_map.mp hd
    obtain ⟨n1, n2, n3⟩ := hb p hp
    exact sm_tuple (k := 0) (m := 20) (ds := [.int p.1, .int p.2.1, .int p.2.2]) (fun d hd => by
      simp only [List.mem_cons, List.not_mem_nil, or_false] at hd
      rcases hd with rfl | rfl | rfl <;> exact sm_int (by assumption)))).mono (Nat.le_refl _) (by have := ok.ll; rw [List.length_map]; omega)
  exact (sm_tuple (k := 2) (m := 300) (fun d hd => by
    simp only [List.mem_cons, List.not_mem_nil, or_false] at hd
    rcases hd with rfl | rfl | rfl <;> assumption)).mono (Nat.le_refl _) (by simp)
theorem nw_nt {H0 H : Hp} : Nt (nw H0 H) H := fun c o _ h => (nw_some h).2
theorem nw_hide {H0 H : Hp} {L : Addr} (h : H0 L ≠ none) : Nt (nw H0 H) (hide L H) := fun c o _ e => by
  obtain ⟨h1, h2⟩ := nw_some e
  rw [hide_ne (fun q : c = L => h (by rw [← q]; exact h1))]
  exact h2
theorem neDK {X : Cx} {K : PySem.W.Frag} (h : X.K = K) (hu : X.A.units + 64 < cLine) : OpR X (compareOp .NotEq) (rNeD K) := h ▸ op_neD hu
section
variable {P : Program} {w : World} {K : PySem.W.Frag} {mg : Str → Option Value} {base : Heap}
abbrev s_law : Stmt := top 39
theorem sc_law : FnScope ["_law_script", "_law_k", "_law_box_here", "_law_world_here", "_law_line", "_law_names_here", "_law_turn", "_law_name", "_law_roads"] ["_law_script"] (defScope s_law) := ⟨rfl, rfl, rfl, by decide +kernel, rfl, by decide +kernel, by decide +kernel⟩
def spLaw (K : PySem.W.Frag) (Pt : Addr) : Sp := fun vs H Q _ => ∃ (l : Addr) (ns : List Int), vs = [.ref l] ∧ SqL K H l (ns.map V.int) ∧ ns.length ≤ 63 ∧ TabG H Pt ∧ SmAt H ∧ ∀ H', Q (.bl true) H'
theorem ok_law {f fC fB fW fI fN fU fT C Pt : Addr} {fd fdC fdB fdW fdI fdN fdU fdT : FuncData} (F : Fun K "law" "law" s_law f fd) (T : Txt mg) (TC : ClsT K C) (ML : Mk K C fI) (gL : mg "Line" = some (.ref C)) (bI : Binds K fdI ["self", "places", "stretches", "longs"] [])
    (Ginit : FnOk P w K mg base CX0 5 fI fdI ["self", "places", "stretches", "longs"] (spInit K C Pt))
    (Nlaw_cell : Fn K mg "_law_cell" sCell ["_law_script", "_law_k"] fC fdC) (Glaw_cell : FnOk P w K mg base CX0 1 fC fdC ["_law_script", "_law_k"] (spCell K))
    (Nlaw_box : Fn K mg "_law_box" sBox ["_law_cell_here"] fB fdB) (Glaw_box : FnOk P w K mg base CX0 1 fB fdB ["_law_cell_here"] spBox)
    (Nlaw_world : Fn K mg "_law_world" s_law_world ["_law_box_here"] fW fdW) (Glaw_world : FnOk P w K mg base CX0 3 fW fdW ["_law_box_here"] (spWorld K))
    (Nlaw_names_right : Fn K mg "_law_names_right" s_law_names_right ["_law_box_here", "_law_line", "_law_names_here", "_law_spare"] fN fdN) (Glaw_names_right : GOk P w K mg base CX0 9 fN fdN ["_law_box_here", "_law_line", "_law_names_here", "_law_spare"] (spNamesR K C))
    (Nlaw_numbers_right : Fn K mg "_law_numbers_right" s_law_numbers_right ["_law_box_here", "_law_line", "_law_stretches", "_law_longs"] fU fdU) (Glaw_numbers_right : GOk P w K mg base CX0 9 fU fdU ["_law_box_here", "_law_line", "_law_stretches", "_law_longs"] (spNumbersR K C))
    (Mtold : Mt K C "told" "Line.told" s_told ["self"] fT fdT) (Gtold : FnOk P w K mg base CX0 1 fT fdT ["self"] (spTold K C)) :
    GOk P w K mg base CX0 10 f fd ["_law_script"] (spLaw K Pt) := by
  refine gok F sc_law (fun vs H Q E h => ?_) (fun cdv A outer s H vs Q E gd hr h => ?_)
  · obtain ⟨l, ns, rfl, _⟩ := h
    rfl
  · obtain ⟨l, ns, rfl, hS, hlen, hT, sm, k⟩ := h
    have hu := hr.units
    refine ⟨_, pss_cons (ps_for PassesOwn.never rfl (pi_range1 (by rfl) T.range_ (pa_cons (pe_callB (call_max2 rfl) (by rfl) T.max_ (by decide +kernel) (pa_cons pe_int (pa_cons (pe_callB (call_min2 rfl) (by rfl) T.min_ (by decide +kernel) (pa_cons pe_int (pa_cons (pe_callB call_len_seq (by rfl) T.len_ PySem.boot_len (pa_cons (pv 0) pa_nil)) pa_nil))) pa_nil))) pa_nil)) (pg_name (i := 1) sc_law.nd rfl (Or.inl rfl)) (pss_cons (ps_set (i := 2) sc_law.nd rfl (Or.inl rfl) (pe_call Glaw_box (hr.mono (by decide)) (by rfl) Nlaw_box.g Nlaw_box.kp Nlaw_box.b .nil pass0 (pa_cons (pe_call Glaw_cell (hr.mono (by decide)) (by rfl) Nlaw_cell.g Nlaw_cell.kp Nlaw_cell.b .nil pass0 (pa_cons (pv 0) (pa_cons (pv 1) pa_nil))) pa_nil)))
          (pss_cons (ps_set (i := 3) sc_law.nd rfl (Or.inl rfl) (pe_call Glaw_world (hr.mono (by decide)) (by rfl) Nlaw_world.g Nlaw_world.kp Nlaw_world.b .nil pass0 (pa_cons (pv 2) pa_nil)))
          (pss_cons (ps_set (i := 4) sc_law.nd rfl (Or.inl rfl) (pe_make ML Ginit (hr.mono (by decide)) (by rfl) gL bI .nil pass0 (pa_cons (pe_ix (ixL (K := K) rfl) (pv 3) pe_int (fun _ _ => rfl)) (pa_cons (pe_ix (ixL (K := K) rfl) (pv 3) pe_int (fun _ _ => rfl)) (pa_cons (pe_ix (ixL (K := K) rfl) (pv 3) pe_int (fun _ _ => rfl)) pa_nil)))))
          (pss_cons (ps_setLc (i := 5) (own := [("_law_name", 7), ("_law_roads", 8)]) (g := gTup K 2 (gCons (gName 7) (gCons (gName 8) gNil))) (tt := tYes) rfl sc_law.nd rfl rfl (sw_true rfl rfl rfl (by decide +kernel)) (pi_list (pe_ix (ixL (K := K) rfl) (pv 3) pe_int (fun _ _ => rfl))) (blkOk_by (own := [("_law_name", 7), ("_law_roads", 8)]) (N := ["_law_script", "_law_k", "_law_box_here", "_law_world_here", "_law_line", "_law_names_here", "_law_turn", "_law_name", "_law_roads"]) (sc := defScope s_law) (by decide +kernel)) (fun _ _ _ _ _ => (pg_tup (by rfl) (pgs_cons (pg_name (i := 7) sc_law.nd rfl (Or.inl rfl)) (pgs_cons (pg_name (i := 8) sc_law.nd rfl (Or.inl rfl)) pgs_nil)))) (fun _ _ _ _ _ => pts_nil) (fun _ _ _ _ _ => (pv 7)))
          (pss_cons (ps_for PassesOwn.never rfl (pi_range1 (by rfl) T.range_ (pa_cons pe_int pa_nil)) (pg_name (i := 6) sc_law.nd rfl (Or.inl rfl)) (pss_cons (ps_if (pt_not (pt_val (pe_gcall gd Glaw_names_right (hr.mono (by decide)) (by rfl) Nlaw_names_right.g Nlaw_names_right.kp Nlaw_names_right.b .nil pass0 (pa_cons (pv 2) (pa_cons (pv 4) (pa_cons (pv 5) (pa_cons (pe_ix (ixL (K := K) rfl) (pv 3) pe_int (fun _ _ => rfl)) pa_nil))))))) (pss_one (ps_ret pe_bl)) pss_nil)
              (pss_one (ps_if (pt_not (pt_val (pe_gcall gd Glaw_numbers_right (hr.mono (by decide)) (by rfl) Nlaw_numbers_right.g Nlaw_numbers_right.kp Nlaw_numbers_right.b .nil pass0 (pa_cons (pv 2) (pa_cons (pv 4) (pa_cons (pe_callB call_len_seq (by rfl) T.len_ PySem.boot_len (pa_cons (pe_ix (ixL (K := K) rfl) (pv 3) pe_int (fun _ _ => rfl)) pa_nil)) (pa_cons (pe_callB call_len_seq (by rfl) T.len_ PySem.boot_len (pa_cons (pe_ix (ixL (K := K) rfl) (pv 3) pe_int (fun _ _ => rfl)) pa_nil)) pa_nil))))))) (pss_one (ps_ret pe_bl)) pss_nil))))
          (pss_one (ps_if (pt_cmpR (neDK (K := K) rfl hu) (pe_meth0 (pv 4) TC.cl Mtold.m Gtold (hr.mono (by decide)) Mtold.b .nil pass0) (pe_tup (pa_cons (pe_callTy (tupOfK (K := K) rfl) (by rfl) T.tuple_ (by decide +kernel) (pa_cons (pe_ix (ixL (K := K) rfl) (pv 3) pe_int (fun _ _ => rfl)) pa_nil)) (pa_cons (pe_callTy (tupOfK (K := K) rfl) (by rfl) T.tuple_ (by decide +kernel) (pa_cons (pe_ix (ixL (K := K) rfl) (pv 3) pe_int (fun _ _ => rfl)) pa_nil)) (pa_cons (pe_callTy (tupOfK (K := K) rfl) (by rfl) T.tuple_ (by decide +kernel) (pa_cons (pe_ix (ixL (K := K) rfl) (pv 3) pe_int (fun _ _ => rfl)) pa_nil)) pa_nil)))) (nomark _)) (pss_one (ps_ret pe_bl)) pss_nil))))))))
      (pss_one (ps_ret pe_bl)), ?_⟩
    refine ⟨_, rfl, l, _, rfl, .inl hS, _, _, rfl, _, _, rfl, ?_⟩
    obtain ⟨N, hN, N2, N10⟩ : ∃ N : Nat, (if (if (((ns.map V.int).length : Nat) : Int) < 10 then (((ns.map V.int).length : Nat) : Int) else 10) > 2 then (if (((ns.map V.int).length : Nat) : Int) < 10 then (((ns.map V.int).length : Nat) : Int) else 10) else 2) = (N : Int) ∧ 2 ≤ N ∧ N ≤ 10 := by
      rw [List.length_map]
      refine ⟨max 2 (min 10 ns.length), ?_, by omega, by omega⟩
      split <;> split <;> omega
    rw [hN]
    refine ⟨_, rfl, by omega, by omega, ?_⟩
    rw [Int.toNat_natCast]
    refine for_range (lo := 0) (n := N) (fun i σ H' => ∃ v1 v2 v3 v4 v5 v6 v7 v8 : Option V, σ = [some (.ref l), v1, v2, v3, v4, v5, v6, v7, v8] ∧ KT Pt H H') ⟨_, _, _, _, _, _, _, _, rfl, KT.refl hT⟩ ?_ ?_
    · rintro i σ H1 hi ⟨v1, v2, v3, v4, v5, v6, v7, v8, rfl, k1⟩
      have hS1 := seq_kt hT k1 hS
      refine ⟨_, rfl, _, rfl, l, ns, i, ?_, hS1, fun c => ?_⟩
      · show [V.ref l, V.int (0 + (i : Int))] = [V.ref l, V.int i]
        rw [Int.zero_add]
      refine ⟨c, rfl, fun b H2 fb off2 B2 => ?_⟩
      refine ⟨_, rfl, b, 0, rfl, B2, by omega, fun wd v H3 ok k3 hD B3 => ?_⟩
      have kk : KT Pt H1 H3 := KT.box k1.tab fb off2 k3
      have nbP : b ≠ Pt := (by
        obtain ⟨ps, e⟩ := TabG.at k1.tab
        exact (ne_of_none e fb).symm)
      have hb2 : H2 b ≠ none := by
        obtain ⟨_, _, _, q, _⟩ := B2
        rw [q]
        simp
      have hDh := dp_nt (nw_hide (H := H3) hb2) hD
      have k13 := k1.trans kk
      have tab3 := kk.tab
      have sm3 : SmAt H3 := by
        obtain ⟨o, e⟩ := sm
        exact ⟨o, k13.keep _ _ (ne_tab hT e (by simp)) e⟩
      obtain ⟨wa, vp, vs_, vl, vu, rfl, hw, hp, hs, hl, hu4⟩ := dp_four hDh
      obtain rfl := dp_str hu4
      obtain ⟨ap, xp, rfl, hap, dap⟩ := dp_list hp
      obtain ⟨as_, xs, rfl, has, das⟩ := dp_list hs
      obtain ⟨al, xl, rfl, hal, dal⟩ := dp_list hl
      have hn : Nt (hide b H3) H3 := hide_nt b H3
      refine ⟨_, rfl, wa, _, 0, .ref ap, rfl, rfl, hn.seq hw, rfl, _, rfl, wa, _, 1, .ref as_, rfl, rfl, hn.seq hw, rfl, _, rfl, wa, _, 2, .ref al, rfl, rfl, hn.seq hw, rfl, fun x dx hx0 hdx ne => ?_⟩
      have s34 : Same H3 (upd (upd H3 dx (.own x)) x (.ins C dx [])) := (same_alloc hdx).trans (same_alloc (by rw [upd_ne ne.symm]; exact hx0))
      have e4 := hn.trans (same_nt s34)
      refine ⟨x, dx, ap, as_, .ref al, xp, xs, wd, rfl, upd_same, .inl (e4.seq hap), dpAll_nt e4 dap, .inl (e4.seq has), dpAll_nt e4 das, .inr ⟨al, xl, rfl, .inl (e4.seq hal), dpAll_nt e4 dal⟩, ok, (same_kt tab3 s34).tab, fun H5 ki hLine => ⟨rfl, ?_⟩⟩
      have k35 : KT Pt H3 H5 := ⟨fun c o n h => ki.keep c o (ne_of_none h hx0) n (s34 c o h), ki.tab⟩
      have k15 := k13.trans k35
      have tab5 := k35.tab
      have h35 : Nt (hide b H3) (hide b H5) := hide_mono (KT.nt tab3 k35)
      have B5 : Bx b 100 H5 := by
        obtain ⟨x1, y1, z1, q, r⟩ := B3
        exact ⟨x1, y1, z1, k35.keep _ _ nbP q, by omega⟩
      have sm5 : SmAt H5 := by
        obtain ⟨o, e⟩ := sm3
        exact ⟨o, k35.keep _ _ (ne_tab tab3 e (by simp)) e⟩
      replace hw := h35.seq hw
      replace hap := h35.seq hap
      replace has := h35.seq has
      replace hal := h35.seq hal
      replace dap := dpAll_nt h35 dap
      replace das := dpAll_nt h35 das
      replace dal := dpAll_nt h35 dal
      clear e4 s34 k35 ki tab3 sm3 B3 k13 hDh hD hp hs hl hu4 hn h35
      have hn5 : Nt (hide b H5) H5 := hide_nt b H5
      have lp : xp.length = wd.ps.length := by rw [dpAll_len dap, List.length_map]
      have ls : xs.length = wd.st.length := by rw [dpAll_len das, List.length_map]
      have ll : xl.length = wd.lo.length := by rw [dpAll_len dal, List.length_map]
      have p6 := ok.p6
      refine ⟨_, rfl, wa, _, 0, .ref ap, rfl, rfl, hn5.seq hw, rfl, ap, rfl, ⟨_, hn5.seq hap⟩, fun nl hnl => lc_it (walk_list (K := K) (xs := xp)) (fun i H' => H' = upd H5 nl (.lst (((wd.ps.take i).map (·.1)).map V.str))) rfl ?_ ?_ ?_⟩
      · rintro j H' _ rfl
        exact (same_nt (same_alloc hnl)).seq (hn5.seq hap)
      · rintro j v H' H'' hj rfl ⟨rfl, hv⟩
        obtain ⟨d', hg1, hg2⟩ := dpAll_get dap hv
        obtain ⟨p, hp, rfl⟩ := get_map hg1
        obtain ⟨t, y1, y2, rfl, ht, r1, r2⟩ := dp_two hg2
        obtain rfl := dp_str r1
        obtain rfl := dp_int r2
        refine ⟨t, _, rfl, (hn5.trans (same_nt (same_alloc hnl))).seqT ht, rfl, _, _, rfl, _, _, rfl, rfl, ?_, lcY ?_⟩
        · simp only [wipe, List.map_cons, List.map_nil]
          rfl
        · refine ⟨_, rfl, _, upd_same, ?_, ?_⟩
          · rw [List.length_map, List.length_map, List.length_take]
            exact lt_line _ (by omega)
          · rw [upd_upd, take_at hp, List.map_append, List.map_append]
            rfl
      · rintro H6 rfl
        have s56 : Same H5 (upd H5 nl (.lst (((wd.ps.take xp.length).map (·.1)).map V.str))) := same_alloc hnl
        have enl : upd H5 nl (.lst (((wd.ps.take xp.length).map (·.1)).map V.str)) nl = some (.lst ((wd.ps.map (·.1)).map V.str)) := by
          rw [upd_same, lp, List.take_of_length_le (Nat.le_refl _)]
        generalize upd H5 nl (.lst (((wd.ps.take xp.length).map (·.1)).map V.str)) = H6 at s56 enl ⊢
        have nlb : nl ≠ b := B5.fresh hnl
        have L6 := hLine.nt (same_nt s56)
        have B6 : Bx b 100 H6 := by
          obtain ⟨x1, y1, z1, q, r⟩ := B5
          exact ⟨x1, y1, z1, s56 _ _ q, r⟩
        have sm6 := sm5.same s56
        have h56 : Nt (hide b H5) (hide b H6) := hide_mono (same_nt s56)
        have k16 := k15.trans (same_kt tab5 s56)
        replace hw := h56.seq hw
        replace hap := h56.seq hap
        replace has := h56.seq has
        replace hal := h56.seq hal
        replace dap := dpAll_nt h56 dap
        replace das := dpAll_nt h56 das
        replace dal := dpAll_nt h56 dal
        clear s56 hLine sm5 h56 hn5 B5 k15 tab5 hnl
        refine ⟨_, rfl, by decide, by decide, for_range (lo := 0) (n := 2) (fun j σ H' => ∃ v6 v7 v8 : Option V, σ = [some (.ref l), some (.int (0 + (i : Int))), some (.ref b), some (.ref wa), some (.ref x), some (.ref nl), v6, v7, v8] ∧ KB b H6 H' ∧ Bx b (100 + 12 * j) H') ⟨_, _, _, rfl, KB.refl _ _, by simpa using B6⟩ ?_ ?_⟩
        · rintro j σ H7 hj ⟨v6, v7, v8, rfl, k7, B7⟩
          have L7 : LineAt K C wd H7 x := line_chl L6 (chl_kb B6 k7)
          have h67 : Nt (hide b H6) H7 := (KB.nt k7).trans (hide_nt b H7)
          have sm7 : SmAt H7 := by
            obtain ⟨o, e⟩ := sm6
            obtain ⟨_, _, _, q, _⟩ := B6
            exact ⟨o, k7 _ _ (ne_of e q (by simp)) e⟩
          refine ⟨_, rfl, _, rfl, _, rfl, _, rfl, wa, _, 3, .str wd.sp, rfl, rfl, h67.seq hw, rfl, b, x, nl, 100 + 12 * j, wd, rfl, B7, by omega, L7, ok, nlb, k7 _ _ nlb enl, sm7, fun H8 k8 B8 => ?_⟩
          have k68 := k7.trans k8
          have L8 : LineAt K C wd H8 x := line_chl L6 (chl_kb B6 k68)
          have h68 : Nt (hide b H6) H8 := (KB.nt k68).trans (hide_nt b H8)
          have sm8 : SmAt H8 := by
            obtain ⟨o, e⟩ := sm6
            obtain ⟨_, _, _, q, _⟩ := B6
            exact ⟨o, k68 _ _ (ne_of e q (by simp)) e⟩
          refine ⟨_, rfl, iteF ?_⟩
          refine ⟨_, rfl, _, rfl, _, rfl, wa, _, 1, .ref as_, rfl, rfl, h68.seq hw, rfl, as_, _, rfl, .inl (h68.seq has), _, rfl, wa, _, 2, .ref al, rfl, rfl, h68.seq hw, rfl, al, _, rfl, .inl (h68.seq hal), b, x, 100 + 12 * j + 5, wd, ?_, B8, by omega, L8, ok, sm8, fun H9 k9 B9 => ?_⟩
          · rw [ls, ll]
            rfl
          refine ⟨_, rfl, iteF ⟨_, _, _, rfl, k68.trans k9, ?_⟩⟩
          rw [show (100 : Int) + 12 * ((j + 1 : Nat) : Int) = 100 + 12 * (j : Int) + 5 + 7 by omega]
          exact B9
        · rintro σ H7 ⟨v6, v7, v8, rfl, k7, B7⟩
          have L7 : LineAt K C wd H7 x := line_chl L6 (chl_kb B6 k7)
          have h67 : Nt (hide b H6) H7 := (KB.nt k7).trans (hide_nt b H7)
          obtain ⟨dx7, p1, p2, p3, d7, _, _, _, hx7, _⟩ := id L7
          have hb : ∀ p ∈ wd.lo, p.1.natAbs ≤ 1000 ∧ p.2.1.natAbs ≤ 1000 ∧ p.2.2.natAbs ≤ 1000 := by
            intro p hp
            obtain ⟨j, hj⟩ := List.getElem?_of_mem hp
            obtain ⟨o1, o2, o3, o4, o5⟩ := longs_get ok.lo hj
            have a0 : 0 ≤ p.1 := longs_nonneg (Int.le_refl 0) ok.lo _ hp
            exact ⟨by omega, by omega, by omega⟩
          have smt := sm_told ok hb
          have shp : SeqAt.shaped (toldD wd) = true := by
            unfold SeqAt.shaped
            rw [Bool.and_eq_true]
            exact ⟨smt.lay, decide_eq_true (Nat.le_trans smt.dep (by decide))⟩
          refine ⟨_, rfl, x, dx7, _, rfl, hx7, lf_no _ _ _ _ (by decide +kernel), x, wd, rfl, L7, fun t H8 s8 hd8 => ?_⟩
          have h68 := h67.trans (same_nt s8)
          refine ⟨_, rfl, wa, _, 0, .ref ap, rfl, rfl, h68.seq hw, rfl, ap, xp, rfl, .inl ⟨h68.seq hap, fun u1 hu1 => ?_⟩⟩
          have q1 : Same H8 (upd H8 u1 (.tup xp)) := same_alloc hu1
          have e1 : upd H8 u1 (.tup xp) u1 = some (.tup xp) := upd_same
          generalize upd H8 u1 (.tup xp) = H9 at q1 e1 ⊢
          have h69 := h68.trans (same_nt q1)
          refine ⟨_, rfl, wa, _, 1, .ref as_, rfl, rfl, h69.seq hw, rfl, as_, xs, rfl, .inl ⟨h69.seq has, fun u2 hu2 => ?_⟩⟩
          have q2 : Same H9 (upd H9 u2 (.tup xs)) := same_alloc hu2
          have e2 : upd H9 u2 (.tup xs) u2 = some (.tup xs) := upd_same
          generalize upd H9 u2 (.tup xs) = H10 at q2 e2 ⊢
          have h610 := h69.trans (same_nt q2)
          refine ⟨_, rfl, wa, _, 2, .ref al, rfl, rfl, h610.seq hw, rfl, al, xl, rfl, .inl ⟨h610.seq hal, fun u3 hu3 => ?_⟩⟩
          have q3 : Same H10 (upd H10 u3 (.tup xl)) := same_alloc hu3
          have e3 : upd H10 u3 (.tup xl) u3 = some (.tup xl) := upd_same
          generalize upd H10 u3 (.tup xl) = H11 at q3 e3 ⊢
          refine ⟨(by show 3 ≤ sizeLine; decide), fun u4 hu4 => ?_⟩
          have q4 : Same H11 (upd H11 u4 (.tup [.ref u1, .ref u2, .ref u3])) := same_alloc hu4
          have q24 := q2.trans (q3.trans q4)
          have q14 := q1.trans q24
          have eq14 := h68.trans (same_nt q14)
          refine ⟨toldD wd, toldD wd, dp_nt (same_nt q14) hd8, .tup (SqT.of upd_same) (.cons (.tup (SqT.of (q24 _ _ e1)) (dpAll_nt eq14 dap)) (.cons (.tup (SqT.of (q4 _ _ (q3 _ _ e2))) (dpAll_nt eq14 das)) (.cons (.tup (SqT.of (q4 _ _ e3)) (dpAll_nt eq14 dal)) .nil))), shp, shp, _, rfl, iteN ?_ ?_⟩
          · rw [SeqAt.eqv_refl _ (SeqAt.canLay_of_shaped shp)]
            rfl
          · refine ⟨_, _, _, _, _, _, _, _, rfl, ?_⟩
            have s811 := s8.trans q14
            have kP : KB b H6 (upd H11 u4 (.tup [.ref u1, .ref u2, .ref u3])) := fun z o nz e => s811 _ _ (k7 z o nz e)
            obtain ⟨ps, ep, tr⟩ := k16.tab
            exact ⟨fun z o nz e => kP z o (ne_of_none (k1.keep z o nz e) fb) (k16.keep z o nz e), ps, kP _ _ nbP.symm ep, tr⟩
    · rintro σ H1 ⟨v1, v2, v3, v4, v5, v6, v7, v8, rfl, k1⟩
      exact k H1
end
end K5

set_option maxRecDepth 100000
set_option maxHeartbeats 4000000
/-! The end of a law with tables whose own def shows dicts. -/
namespace Gd
open PySem PySem.Spec PyProof.Rows L2 GxR
open Classical in
noncomputable def hm0 (K : PySem.W.Frag) (a : Addr) (vs : List Value) (ns : List Int) (T : List Addr) (o1 : Obj) : Hp := fun b => if b = sysModules then some (.frz o1 smU) else h0 K a vs ns T b
theorem hm0_inv {K : PySem.W.Frag} {a b : Addr} {vs : List Value} {ns : List Int} {T : List Addr} {o1 : Obj} {u : HO} (h : hm0 K a vs ns T o1 b = some u) :
    (b = sysModules ∧ u = .frz o1 smU) ∨ (b = a ∧ K.lookup a = none ∧ u = .frz (scriptO vs) (.lst (ns.map V.int))) ∨ (b ∈ T ∧ u = .tbl #[]) := by
  unfold hm0 at h
  split at h
  · rename_i c
    exact .inl ⟨c, (Option.some.inj h).symm⟩
  · exact .inr (h0_inv h)
section
variable {P : Program} {w : World} {K : PySem.W.Frag} {mg mb : Str → Option Value} {CX : CXT} {k : Nat} {fa a : Addr} {cs : List (Addr × Addr)} {fd : FuncData} {x : Str} {sp : Sp} {s1 : Shared} {vs : List Value} {ns : List Int}
theorem law_mcall (KX : K.In s1.heap) (nsG : s1.heap.Ns mainGlobals mg) (nsB : s1.heap.Ns builtinsNs mb) (isB : ∀ x : Str, x ≠ "__name__" → mb x = bootBuiltins x) (lim : s1.heap.NoLimit) (gens : s1.gens = #[])
    (tabs : ∀ p ∈ cs, s1.heap.get? p.2 = some tabO) (tabK : ∀ p ∈ cs, K.lookup p.2 = none) (codes : ∀ p ∈ cs, PySem.W.CodeHd s1.heap p.1 p.2)
    (bmain : ∃ (bm : Addr) (ob : Obj), mg "__builtins__" = some (.ref bm) ∧ bm ≠ builtinsNs ∧ s1.heap.get? bm = some ob ∧ ob.cls = .type "module" ∧ ob.dict = some builtinsNs ∧ ob.data = .plain)
    (hsm : ∃ o es ep, s1.heap.get? sysModules = some o ∧ o.data = .dict es ep) (k1 : K.lookup sysModules = none) (na : a ≠ sysModules)
    (ha : s1.heap.get? a = some (scriptO vs)) (hi : IntsAre vs ns) (hl : ns.length ≤ sizeLine) (hr : Room k callerA)
    (F : ∀ base : Heap, K.In base → base.Ns mainGlobals mg → (∀ p ∈ cs, TabB base mg p.1 p.2) → GOk P w K mg base CX k fa fd [x] sp)
    (hbind : ∀ (s : Shared) (u : Value), BindsTo s fd ⟨[u], []⟩ [(x, u)])
    (hsp : ∀ H : Hp, SmAt H → (∀ p ∈ cs, H p.2 = some (.tbl #[])) → SqL K H a (ns.map V.int) → sp [.ref a] H (fun v _ => v = .bl true) fun _ _ _ => False)
    (hCX : ∀ H e s', CX [] H s1 (fun _ _ _ => False) e s' → False) :
    codeAny (model P w) callerA (.call (.ref fa) ⟨[.ref a], []⟩) (fun r s' => r = .ok (.ret (.bool true)) ∧ OldK s1.heap s'.heap ∧ s'.os = s1.os ∧ AllBare s'.gens) s1 := by
  have rv := vals_ints hi
  have hlen := hi.length
  obtain ⟨o1, es1, ep1, ho1, hd1⟩ := hsm
  let T := cs.map Prod.snd
  have inT : ∀ p ∈ cs, p.2 ∈ T := fun p hp => List.mem_map.mpr ⟨p, hp, rfl⟩
  have ofT : ∀ b ∈ T, s1.heap.get? b = some tabO ∧ K.lookup b = none := by
    intro b hb
    obtain ⟨p, hp, rfl⟩ := List.mem_map.mp hb
    exact ⟨tabs p hp, tabK p hp⟩
  have neT : a ∉ T := fun z => by
    have q := (ofT a z).1
    rw [ha] at q
    cases q
  have smT : sysModules ∉ T := fun z => by
    have q := (ofT _ z).1
    rw [ho1] at q
    rw [Option.some.inj q] at hd1
    cases hd1
  let H := hm0 K a vs ns T o1
  have notsm : ∀ {b : Addr} {o : Obj}, s1.heap.get? b = some o → (∀ es ep, o.data ≠ .dict es ep) → b ≠ sysModules := fun e n z => by
    subst z
    rw [ho1] at e
    rw [Option.some.inj e] at hd1
    exact n _ _ hd1
  have seen : ∀ {b : Addr} {o : Obj}, s1.heap.get? b = some o → (∀ us n, o.data ≠ .seq us n) → o.data ≠ .fields #[] → b ≠ sysModules → H b = none := by
    intro b o e n1 n2 n3
    cases q : H b with
    | none => rfl
    | some u =>
      exfalso
      rcases hm0_inv q with ⟨z, _⟩ | ⟨rfl, _, _⟩ | ⟨hb, _⟩
      · exact n3 z
      · rw [ha] at e
        cases e
        exact n1 _ _ rfl
      · rw [(ofT b hb).1] at e
        cases e
        exact n2 rfl
  have keepHid : ∀ {b : Addr} {o : Obj}, s1.heap.get? b = some o → H b = none → (hidT s1.heap H).get? b = some o := fun e n => hidT_get e n
  have nsHid : ∀ {b : Addr} {m : Str → Option Value}, b ≠ sysModules → s1.heap.Ns b m → (hidT s1.heap H).Ns b m := by
    rintro b m n ⟨o, es, ep, e, d, rest⟩
    refine ⟨o, es, ep, keepHid e (seen e (fun us n z => ?_) (fun z => ?_) n), d, rest⟩ <;> (rw [d] at z; cases z)
  have KH : K.In (hidT s1.heap H) := by
    intro b o e
    refine keepHid (KX b o e) ?_
    cases q : H b with
    | none => rfl
    | some u =>
      exfalso
      rcases hm0_inv q with ⟨rfl, _⟩ | ⟨rfl, z, _⟩ | ⟨hb, _⟩
      · rw [k1] at e
        cases e
      · rw [z] at e
        cases e
      · rw [(ofT b hb).2] at e
        cases e
  have limH : (hidT s1.heap H).NoLimit := by
    obtain ⟨mc, h1, h2⟩ := lim
    exact ⟨mc, nsHid (by decide) h1, h2⟩
  have M : L2.Mod K mg (hidT s1.heap H) := ⟨KH, nsHid (by decide) nsG, ⟨mb, nsHid (by decide) nsB, isB⟩, limH⟩
  have TB : ∀ p ∈ cs, TabB (hidT s1.heap H) mg p.1 p.2 := by
    intro p hp
    have tp := tabs p hp
    refine ⟨?_, ?_, ?_⟩
    · obtain ⟨o, us, file, tf, flags, tg, inF, text, tt, e1, r1, r2, r3, rest⟩ := codes p hp
      refine ⟨o, us, file, tf, flags, tg, inF, text, tt, keepHid e1 (seen e1 (fun vs n z => ?_) (fun z => ?_) (notsm e1 fun es ep z => ?_)), r1, r2, r3, rest⟩
      · rw [r2] at z
        cases z
      · rw [r2] at z
        cases z
        simp at r3
      · rw [r2] at z
        cases z
    · obtain ⟨bm, ob, b1, b2, b3, b4, b5, b6⟩ := bmain
      have g1 : bm ≠ mainGlobals := by
        rintro rfl
        obtain ⟨o, es, ep, e, d, _⟩ := nsG
        rw [b3] at e
        cases e
        rw [b6] at d
        cases d
      have g2 : bm ≠ p.2 := by
        rintro rfl
        rw [tp] at b3
        cases b3
        cases b6
      refine ⟨bm, ob, b1, b2, g1, g2, keepHid b3 (seen b3 (fun vs n z => ?_) (fun z => ?_) (notsm b3 fun es ep z => ?_)), b4, b5, b6⟩ <;> (rw [b6] at z; cases z)
    · intro z
      obtain ⟨o, es, ep, e, d, _⟩ := nsG
      rw [z, tp] at e
      cases e
      cases d
  have hH : ∀ p ∈ cs, H p.2 = some (.tbl #[]) := by
    intro p hp
    have n0 : ¬ p.2 = sysModules := fun z => smT (z ▸ inT p hp)
    have n1 : ¬ (p.2 = a ∧ K.lookup a = none) := fun z => neT (z.1 ▸ inT p hp)
    exact (if_neg n0).trans ((if_neg n1).trans (if_pos (inT p hp)))
  have hS : SqL K H a (ns.map V.int) := by
    cases q : K.lookup a with
    | none => exact .inl (.inr ⟨scriptO vs, (if_neg na).trans (if_pos ⟨rfl, q⟩)⟩)
    | some o =>
      have e := KX a o q
      rw [ha] at e
      cases e
      exact .inr ⟨_, vs.toArray, _, q, rfl, rfl, rfl, by rw [List.size_toArray, hlen]; exact hl, by simpa using rv⟩
  have hok : HOk P w H s1.heap := by
    intro b u q
    rcases hm0_inv q with ⟨rfl, rfl⟩ | ⟨rfl, _, rfl⟩ | ⟨hb, rfl⟩
    · exact ⟨ho1, ⟨_, ho1⟩, ⟨_, ho1⟩, fun h1 h2 ⟨o, z⟩ k => ⟨o, k _ z⟩⟩
    · exact ⟨ha, by rw [List.length_map]; exact hl, vs, _, rv, ha⟩
    · exact (ofT b hb).1
  have e0 : Env0 P w K mg (hidT s1.heap H) callerA [] s1 H :=
    ⟨rfl, M, fun b o e => of_hidT e, Nat.le_of_eq (hidT_size _ _), trivial, (fun b hb => by cases (show b ∈ ([] : List Addr) from hb)), hok, .of_eq gens⟩
  have run := (F _ KH (nsHid (by decide) nsG) TB).go callerA [] s1 H ⟨[.ref a], []⟩ [.ref a] [.ref a] (fun v _ => v = .bl true) (fun _ _ _ => False) rfl hr e0 (hbind s1 (.ref a)) (.cons rfl .nil) (hsp H ⟨o1, if_pos rfl⟩ hH hS)
  refine codeAny_mono run ?_
  intro r s' h
  match r, h with
  | .error e, h => exact (hCX H e s' h).elim
  | .ok .next, h => exact h.elim
  | .ok .brk, h => exact h.elim
  | .ok .cont, h => exact h.elim
  | .ok (.ret u), h =>
    obtain ⟨v, H', os, bare, un, hok', r', q⟩ := h
    obtain rfl : v = .bl true := q
    obtain rfl : u = Value.bool true := r'
    have plain : ∀ b o, b ∉ T → s1.heap.get? b = some o → s'.heap.get? b = some o := by
      intro b o nb e
      cases q : H b with
      | none => exact un.keep b o e q (fun z => by cases (show b ∈ ([] : List Addr) from z)) (by simp)
      | some y =>
        rcases hm0_inv q with ⟨rfl, rfl⟩ | ⟨rfl, _, rfl⟩ | ⟨hb, _⟩
        · obtain ⟨e2, _⟩ := hok' sysModules _ (un.frzs _ _ _ q)
          rw [ho1] at e
          exact Option.some.inj e ▸ e2
        · obtain ⟨e2, _⟩ := hok' b _ (un.frzs b _ _ q)
          rw [ha] at e
          cases e
          exact e2
        · exact absurd hb nb
    have grown : ∀ p ∈ cs, ∃ more : Array Value, s'.heap.get? p.2 = some { cls := .none, data := .fields more } := by
      intro p hp
      obtain ⟨more, z⟩ := un.tbls p.2 #[] (hH p hp)
      exact ⟨_, hok' p.2 _ z⟩
    refine ⟨rfl, ⟨fun b o e => ?_, fun b o e => ?_⟩, os, bare⟩ <;> by_cases hb : b ∈ T
    · obtain ⟨p, hp, rfl⟩ := List.mem_map.mp hb
      obtain ⟨more, hm⟩ := grown p hp
      rw [tabs p hp] at e
      cases e
      exact .inr (.inl ⟨((codes p hp).tab (tabs p hp)).isCodeTable, rfl, #[], more, rfl, by rw [Array.empty_append]; exact hm⟩)
    · exact .inl (plain b o hb e)
    · obtain ⟨p, hp, rfl⟩ := List.mem_map.mp hb
      obtain ⟨more, hm⟩ := grown p hp
      exact ⟨_, hm⟩
    · exact ⟨o, plain b o hb e⟩
end
/-- what is to be known of such a law -/
def GLawM (l : PySem.W.OpenLaw) (w : World) (K : PySem.W.Frag) (CX : CXT) (k n : Nat) (x : Str) (mg : Str → Option Value) (fa : Addr) (h : Heap) : Prop :=
  ∃ (fd : FuncData) (cs : List (Addr × Addr)) (sp : Sp), K.lookup sysModules = none ∧ (∀ p ∈ cs, h.get? p.2 = some tabO) ∧ (∀ p ∈ cs, K.lookup p.2 = none) ∧ (∀ p ∈ cs, PySem.W.CodeHd h p.1 p.2) ∧
    (∀ (s : Shared) (u : Value), BindsTo s fd ⟨[u], []⟩ [(x, u)]) ∧
    (∀ (H : Hp) (a : Addr) (ns : List Int), ns.length ≤ n → SmAt H → (∀ p ∈ cs, H p.2 = some (.tbl #[])) → SqL K H a (ns.map V.int) →
      sp [.ref a] H (fun v _ => v = .bl true) fun _ _ _ => False) ∧
    ∀ base : Heap, K.In base → base.Ns mainGlobals mg → (∀ p ∈ cs, TabB base mg p.1 p.2) → GOk l.prog w K mg base CX k fa fd [x] sp
open PySem.W in
theorem walk_m {l : PySem.W.OpenLaw} {n k : Nat} {q : Program} {loose : List Str} {XP : (Str → Option Value) → Heap → Prop} {YP : World → Heap → Prop} {d : DefRec} {K : Params → PySem.W.Frag} {CX : World → CXT} {x : Str}
    (no : importsNone q = true) (hn : l.most = some n) (small : n ≤ sizeLine) (hdf : d.params.defaults = []) (hr : Room k callerA) (hY : ∀ (w : World) (h : Heap), YP w h → (K w.params).In h)
    (F : ∀ (w : World) (mg : Str → Option Value) (fa : Addr) (h : Heap), YP w h → (K w.params).In h → h.Ns mainGlobals mg → mg d.name = some (.ref fa) → Empt q (K w.params) h → GLawM l w (K w.params) (CX w) k n x mg fa h)
    (hCX : ∀ (w : World) (H : Hp) (s : Shared) (e : Value) (s' : Shared), CX w [] H s (fun _ _ _ => False) e s' → False) :
    PySem.W.WalkO q loose XP YP l.row.toRowW d [] (fun f vs => PySem.call f vs) := by
  intro w s0 s1 mg mb G Y fa o pm cd doc dV kV ho hd hcd hD hmg hg args vals as pre lay rd well low
  obtain ⟨a, vs, ns, rfl, rfl, hobj, hints, hlen⟩ := Att.script_of hn pre well
  have na : a ≠ sysModules := by
    cases rd with
    | cons r1 r2 =>
      cases r1 with
      | list _ _ _ _ => exact beq_eq_false_iff_ne.mp (low a (by simp))
  have KX := hY w _ Y
  have em : Empt q (K w.params) s1.heap := by
    intro x f c t o1 fd1 e dd us sl hx k1 k2 k3 k4 k5 k6
    obtain ⟨r, hr1, hr2⟩ := List.any_eq_true.mp hx
    have hn1 : r.name = x := beq_iff_eq.mp hr2
    obtain ⟨a1, o2, fd2, c2, t2, y1, y2, y3, y4, y5, y6⟩ := G.T.tab r hr1
    have z1 := PySem.W.mg_of KX G.T.g k1
    rw [hn1, z1] at y1
    cases y1
    have z2 := KX _ _ k2
    rw [z2] at y2
    cases y2
    rw [k3] at y3
    cases y3
    rw [k4] at y4
    cases y4
    have y6b := y6
    obtain ⟨⟨oc, vc, e1, e2, e3, e4⟩, hP⟩ := y6b
    have z5 := KX _ _ k5
    rw [z5] at e1
    cases e1
    cases e3
    rw [k6] at e4
    cases e4
    exact ⟨PySem.W.CodeHd.of y5 y6, hP⟩
  obtain ⟨fd, cs, sp, k1, t1, t2, t3, hb, hsp, hF⟩ := F w mg fa _ Y KX G.T.g hmg em
  have run := law_mcall KX G.T.g G.T.b G.T.builtins G.T.nolimit hg t1 t2 t3 G.T.bmain (let ⟨_, ⟨o, es, ep, e, d, _⟩, _⟩ := (G.T.seer no).mods; ⟨o, es, ep, e, d⟩) k1 na hobj hints (Nat.le_trans hlen small) hr hF hb (fun H a1 a2 a3 => hsp H a ns hlen a1 a2 a3) (fun H e s' => hCX w H s1 e s')
  refine enter_call (codeAny_mono run ?_)
  rintro r z ⟨rfl, old, os, bare⟩
  exact ⟨.inl ⟨.bool true, .bool true, [], rfl, fun _ => rfl, .bool true, Att.post_true l _, fun _ => ⟨List.Pairwise.nil, fun _ m => (nomatch m)⟩⟩, old, os, bare⟩
end Gd

set_option maxRecDepth 100000
set_option maxHeartbeats 4000000
namespace K5
open PySem PySem.Spec PyProof.Rows L2 GxR Gd TL My
theorem all_mk {l : PySem.W.OpenLaw} {q : Program} {w : World} {K : PySem.W.Frag} {h : Heap} {mg : Str → Option Value} {fa C CP CT CL CS f1 f2 f3 f4 f5 f6 f7 f8 f9 f10 f11 f12 f13 f14 f15 f16 f17 f18 f19 f20 f21 f22 f23 f24 f25 f26 f27 f28 f29 f30 f31 f32 f33 f34 f35 f36 f37 f38 f39 f40 f41 f42 f43 co tb : Addr} {eo : Value} {eoD : Option Addr} {us : Array Value} {usl : Array (Option Value)}
    (X : K.In h) (G : h.Ns mainGlobals mg) (hfa : mg "law" = some (.ref fa)) (em : Empt q K h)
    {dT : Addr} {oT : Obj} {mT : Nat} {nmCP qCP : Str} {NCP : Addr} {bsCP : List Value} {snCP : List Str} {subCP : List Value} {abCP : Bool} {colCP : Option Bool} {ddCP : Option Addr} {m0CP m1CP m2CP m3CP m5CP : Option Value} {nmCT qCT : Str} {NCT : Addr} {bsCT : List Value} {snCT : List Str} {subCT : List Value} {abCT : Bool} {colCT : Option Bool} {ddCT : Option Addr} {m0CT m1CT m2CT m3CT m5CT : Option Value} {nmCL qCL : Str} {NCL : Addr} {bsCL : List Value} {snCL : List Str} {subCL : List Value} {abCL : Bool} {colCL : Option Bool} {ddCL : Option Addr} {m0CL m1CL m2CL m3CL m5CL : Option Value} {od1 an1 : Option Addr} {sl1 : Array (Option Value)} {oc1 kV1 dc1 pm1 cd1 ct1 : Value} {od2 an2 : Option Addr} {sl2 : Array (Option Value)} {oc2 kV2 dc2 pm2 cd2 ct2 : Value} {od3 an3 : Option Addr} {sl3 : Array (Option Value)} {oc3 kV3 dc3 pm3 cd3 ct3 : Value} {od4 an4 : Option Addr} {sl4 : Array (Option Value)} {oc4 kV4 dc4 pm4 cd4 ct4 : Value} {od5 an5 : Option Addr} {sl5 : Array (Option Value)} {oc5 kV5 dc5 pm5 cd5 ct5 : Value} {od6 an6 : Option Addr} {sl6 : Array (Option Value)} {oc6 kV6 dc6 pm6 ct6 : Value} {od7 an7 : Option Addr} {sl7 : Array (Option Value)} {oc7 kV7 dc7 pm7 cd7 ct7 : Value} {od8 an8 : Option Addr} {sl8 : Array (Option Value)} {oc8 kV8 dc8 pm8 cd8 ct8 : Value} {od9 an9 : Option Addr} {sl9 : Array (Option Value)} {oc9 kV9 dc9 pm9 cd9 ct9 : Value} {od10 an10 : Option Addr} {sl10 : Array (Option Value)} {oc10 kV10 dc10 pm10 cd10 ct10 : Value} {od11 an11 : Option Addr} {sl11 : Array (Option Value)} {oc11 kV11 dc11 pm11 cd11 ct11 : Value} {od12 an12 : Option Addr} {sl12 : Array (Option Value)} {oc12 kV12 dc12 pm12 cd12 ct12 : Value} {od13 an13 : Option Addr} {sl13 : Array (Option Value)} {oc13 kV13 dc13 pm13 cd13 ct13 : Value} {od14 an14 : Option Addr} {sl14 : Array (Option Value)} {oc14 kV14 dc14 pm14 cd14 ct14 : Value} {od15 an15 : Option Addr} {sl15 : Array (Option Value)} {oc15 kV15 dc15 pm15 cd15 ct15 : Value} {od16 an16 : Option Addr} {sl16 : Array (Option Value)} {oc16 kV16 dc16 pm16 cd16 ct16 : Value} {od17 an17 : Option Addr} {sl17 : Array (Option Value)} {oc17 kV17 dc17 pm17 cd17 ct17 : Value} {od18 an18 : Option Addr} {sl18 : Array (Option Value)} {oc18 kV18 dc18 pm18 cd18 ct18 : Value} {od19 an19 : Option Addr} {sl19 : Array (Option Value)} {oc19 kV19 dc19 pm19 cd19 ct19 : Value} {od20 an20 : Option Addr} {sl20 : Array (Option Value)} {oc20 kV20 dc20 pm20 cd20 ct20 : Value} {od21 an21 : Option Addr} {sl21 : Array (Option Value)} {oc21 kV21 dc21 pm21 cd21 ct21 : Value} {od22 an22 : Option Addr} {sl22 : Array (Option Value)} {oc22 kV22 dc22 pm22 cd22 ct22 : Value} {od23 an23 : Option Addr} {sl23 : Array (Option Value)} {oc23 kV23 dc23 pm23 cd23 ct23 : Value} {od24 an24 : Option Addr} {sl24 : Array (Option Value)} {oc24 kV24 dc24 pm24 cd24 ct24 : Value} {od25 an25 : Option Addr} {sl25 : Array (Option Value)} {oc25 kV25 dc25 pm25 cd25 ct25 : Value} {od26 an26 : Option Addr} {sl26 : Array (Option Value)} {oc26 kV26 dc26 pm26 cd26 ct26 : Value} {od27 an27 : Option Addr} {sl27 : Array (Option Value)} {oc27 kV27 dc27 pm27 cd27 ct27 : Value} {od28 an28 : Option Addr} {sl28 : Array (Option Value)} {oc28 kV28 dc28 pm28 cd28 ct28 : Value} {od29 an29 : Option Addr} {sl29 : Array (Option Value)} {oc29 kV29 dc29 pm29 cd29 ct29 : Value} {od30 an30 : Option Addr} {sl30 : Array (Option Value)} {oc30 kV30 dc30 pm30 cd30 ct30 : Value} {od31 an31 : Option Addr} {sl31 : Array (Option Value)} {oc31 kV31 dc31 pm31 cd31 ct31 : Value} {od32 an32 : Option Addr} {sl32 : Array (Option Value)} {oc32 kV32 dc32 pm32 cd32 ct32 : Value} {od33 an33 : Option Addr} {sl33 : Array (Option Value)} {oc33 kV33 dc33 pm33 cd33 ct33 : Value} {od34 an34 : Option Addr} {sl34 : Array (Option Value)} {oc34 kV34 dc34 pm34 cd34 ct34 : Value} {od35 an35 : Option Addr} {sl35 : Array (Option Value)} {oc35 kV35 dc35 pm35 cd35 ct35 : Value} {od36 an36 : Option Addr} {sl36 : Array (Option Value)} {oc36 kV36 dc36 pm36 cd36 ct36 : Value} {od37 an37 : Option Addr} {sl37 : Array (Option Value)} {oc37 kV37 dc37 pm37 cd37 ct37 : Value} {od38 an38 : Option Addr} {sl38 : Array (Option Value)} {oc38 kV38 dc38 pm38 cd38 ct38 : Value} {od39 an39 : Option Addr} {sl39 : Array (Option Value)} {oc39 kV39 dc39 pm39 cd39 ct39 : Value} {od40 an40 : Option Addr} {sl40 : Array (Option Value)} {oc40 kV40 dc40 pm40 cd40 ct40 : Value} {od41 an41 : Option Addr} {sl41 : Array (Option Value)} {oc41 kV41 dc41 pm41 cd41 ct41 : Value} {od42 an42 : Option Addr} {sl42 : Array (Option Value)} {oc42 kV42 dc42 pm42 cd42 ct42 : Value} {od43 an43 : Option Addr} {sl43 : Array (Option Value)} {oc43 kV43 dc43 pm43 cd43 ct43 : Value}
    (aC : PySem.W.nsIn K mainGlobals "Line" = some (some (.ref C))) (pgC : PySem.W.plainGet K C Str.empty = true) (hdC : PySem.W.hasDictIn K C = true) (poC : PySem.W.plainOver K C = true) (saC : PySem.W.findIn K (.ref C) "__setattr__" = some (some (.builtin "object.__setattr__"))) (mkC : PySem.W.makesIn K C = true) (kcC : PySem.W.keepIn K (.ref C) = true) (n0C : PySem.W.findIn K (.ref C) "_places" = some none) (n1C : PySem.W.findIn K (.ref C) "_stretches" = some none) (n2C : PySem.W.findIn K (.ref C) "_longs" = some none) (n3C : PySem.W.findIn K (.ref C) "_numbers" = some none) (aCP : PySem.W.nsIn K mainGlobals "NoPlace" = some (some (.ref CP))) (xlCP : K.lookup CP = some (excClassObj nmCP qCP CP NCP bsCP [.ref CS, .type "ValueError", .type "Exception", .type "BaseException", .type "object"] true snCP subCP abCP colCP ddCP m0CP m1CP m2CP m3CP m5CP "ValueError.__new__")) (saCP : PySem.W.findIn K (.ref CP) "__setattr__" = some (some (.builtin "object.__setattr__"))) (gaCP : PySem.W.findIn K (.ref CP) "__getattribute__" = some (some (.builtin "BaseException.__getattribute__"))) (ggCP : PySem.W.findIn K (.ref CP) "__getattr__" = some none) (kcCP : PySem.W.keepIn K (.ref CP) = true) (exCP : PySem.W.subIn K (.ref CP) (.type "BaseException") = some true) (tyCP : PySem.W.typeIn K (.ref CP) = some (.type "type")) (hdCP : PySem.W.hasDictIn K CP = true) (icCP : PySem.W.isClsIn K CP = true) (coCP : PySem.W.findIn K (.ref CP) "__class__" = some (some (.builtin "object.__class__"))) (moCP : PySem.W.mroIn K CP (.type "object") = some true) (n0CP : PySem.W.findIn K (.ref CP) "found" = some none) (aCT : PySem.W.nsIn K mainGlobals "NoStretch" = some (some (.ref CT))) (xlCT : K.lookup CT = some (excClassObj nmCT qCT CT NCT bsCT [.ref CS, .type "ValueError", .type "Exception", .type "BaseException", .type "object"] true snCT subCT abCT colCT ddCT m0CT m1CT m2CT m3CT m5CT "ValueError.__new__")) (saCT : PySem.W.findIn K (.ref CT) "__setattr__" = some (some (.builtin "object.__setattr__"))) (gaCT : PySem.W.findIn K (.ref CT) "__getattribute__" = some (some (.builtin "BaseException.__getattribute__"))) (ggCT : PySem.W.findIn K (.ref CT) "__getattr__" = some none) (kcCT : PySem.W.keepIn K (.ref CT) = true) (exCT : PySem.W.subIn K (.ref CT) (.type "BaseException") = some true) (tyCT : PySem.W.typeIn K (.ref CT) = some (.type "type")) (hdCT : PySem.W.hasDictIn K CT = true) (icCT : PySem.W.isClsIn K CT = true) (coCT : PySem.W.findIn K (.ref CT) "__class__" = some (some (.builtin "object.__class__"))) (moCT : PySem.W.mroIn K CT (.type "object") = some true) (n0CT : PySem.W.findIn K (.ref CT) "found" = some none) (aCL : PySem.W.nsIn K mainGlobals "NoLong" = some (some (.ref CL))) (xlCL : K.lookup CL = some (excClassObj nmCL qCL CL NCL bsCL [.ref CS, .type "ValueError", .type "Exception", .type "BaseException", .type "object"] true snCL subCL abCL colCL ddCL m0CL m1CL m2CL m3CL m5CL "ValueError.__new__")) (saCL : PySem.W.findIn K (.ref CL) "__setattr__" = some (some (.builtin "object.__setattr__"))) (gaCL : PySem.W.findIn K (.ref CL) "__getattribute__" = some (some (.builtin "BaseException.__getattribute__"))) (ggCL : PySem.W.findIn K (.ref CL) "__getattr__" = some none) (kcCL : PySem.W.keepIn K (.ref CL) = true) (exCL : PySem.W.subIn K (.ref CL) (.type "BaseException") = some true) (tyCL : PySem.W.typeIn K (.ref CL) = some (.type "type")) (hdCL : PySem.W.hasDictIn K CL = true) (icCL : PySem.W.isClsIn K CL = true) (coCL : PySem.W.findIn K (.ref CL) "__class__" = some (some (.builtin "object.__class__"))) (moCL : PySem.W.mroIn K CL (.type "object") = some true) (n0CL : PySem.W.findIn K (.ref CL) "found" = some none) (a1 : PySem.W.findIn K (.ref CS) "__init__" = some (some (.ref f1))) (i1 : PySem.W.isFn K (.ref f1) = true) (l1 : K.lookup f1 = some ⟨oc1, od1, .func (PySem.W.fnOf "__init__" "StaffError.__init__" (defArgs sSE) (defBody sSE) (defScope sSE) .none kV1 dc1 pm1 an1 cd1 ct1), sl1⟩) (c1 : PySem.W.codeIn K cd1 "StaffError.__init__" = true) (k1 : PySem.W.keepIn K (.ref f1) = true) (a2 : PySem.W.findIn K (.ref CP) "__init__" = some (some (.ref f2))) (i2 : PySem.W.isFn K (.ref f2) = true) (l2 : K.lookup f2 = some ⟨oc2, od2, .func (PySem.W.fnOf "__init__" "NoPlace.__init__" (defArgs sNoPlace) (defBody sNoPlace) (defScope sNoPlace) .none kV2 dc2 pm2 an2 cd2 ct2), sl2⟩) (c2 : PySem.W.codeIn K cd2 "NoPlace.__init__" = true) (k2 : PySem.W.keepIn K (.ref f2) = true) (a3 : PySem.W.findIn K (.ref CT) "__init__" = some (some (.ref f3))) (i3 : PySem.W.isFn K (.ref f3) = true) (l3 : K.lookup f3 = some ⟨oc3, od3, .func (PySem.W.fnOf "__init__" "NoStretch.__init__" (defArgs sNoStretch) (defBody sNoStretch) (defScope sNoStretch) .none kV3 dc3 pm3 an3 cd3 ct3), sl3⟩) (c3 : PySem.W.codeIn K cd3 "NoStretch.__init__" = true) (k3 : PySem.W.keepIn K (.ref f3) = true) (a4 : PySem.W.findIn K (.ref CL) "__init__" = some (some (.ref f4))) (i4 : PySem.W.isFn K (.ref f4) = true) (l4 : K.lookup f4 = some ⟨oc4, od4, .func (PySem.W.fnOf "__init__" "NoLong.__init__" (defArgs sNoLong) (defBody sNoLong) (defScope sNoLong) .none kV4 dc4 pm4 an4 cd4 ct4), sl4⟩) (c4 : PySem.W.codeIn K cd4 "NoLong.__init__" = true) (k4 : PySem.W.keepIn K (.ref f4) = true) (a5 : PySem.W.nsIn K mainGlobals "is_whole" = some (some (.ref f5))) (l5 : K.lookup f5 = some ⟨oc5, od5, .func (PySem.W.fnOf "is_whole" "is_whole" (defArgs sWhole) (defBody sWhole) (defScope sWhole) .none kV5 dc5 pm5 an5 cd5 ct5), sl5⟩) (c5 : PySem.W.codeIn K cd5 "is_whole" = true) (k5 : PySem.W.keepIn K (.ref f5) = true) (a6 : PySem.W.nsIn K mainGlobals "is_name" = some (some (.ref f6))) (l6 : K.lookup f6 = some ⟨oc6, od6, .func (PySem.W.fnOf "is_name" "is_name" (defArgs sName) (defBody sName) (defScope sName) .none kV6 dc6 pm6 an6 (.ref co) ct6), sl6⟩) (c6 : PySem.W.codeIn K (.ref co) "is_name" = true) (k6 : PySem.W.keepIn K (.ref f6) = true) (a7 : PySem.W.nsIn K mainGlobals "is_list" = some (some (.ref f7))) (l7 : K.lookup f7 = some ⟨oc7, od7, .func (PySem.W.fnOf "is_list" "is_list" (defArgs s_is_list) (defBody s_is_list) (defScope s_is_list) .none kV7 dc7 pm7 an7 cd7 ct7), sl7⟩) (c7 : PySem.W.codeIn K cd7 "is_list" = true) (k7 : PySem.W.keepIn K (.ref f7) = true) (a8 : PySem.W.nsIn K mainGlobals "is_tuple" = some (some (.ref f8))) (l8 : K.lookup f8 = some ⟨oc8, od8, .func (PySem.W.fnOf "is_tuple" "is_tuple" (defArgs s_is_tuple) (defBody s_is_tuple) (defScope s_is_tuple) .none kV8 dc8 pm8 an8 cd8 ct8), sl8⟩) (c8 : PySem.W.codeIn K cd8 "is_tuple" = true) (k8 : PySem.W.keepIn K (.ref f8) = true) (a9 : PySem.W.nsIn K mainGlobals "_check_place" = some (some (.ref f9))) (l9 : K.lookup f9 = some ⟨oc9, od9, .func (PySem.W.fnOf "_check_place" "_check_place" (defArgs s_check_place) (defBody s_check_place) (defScope s_check_place) .none kV9 dc9 pm9 an9 cd9 ct9), sl9⟩) (c9 : PySem.W.codeIn K cd9 "_check_place" = true) (k9 : PySem.W.keepIn K (.ref f9) = true) (a10 : PySem.W.nsIn K mainGlobals "_check_places" = some (some (.ref f10))) (l10 : K.lookup f10 = some ⟨oc10, od10, .func (PySem.W.fnOf "_check_places" "_check_places" (defArgs s_check_places) (defBody s_check_places) (defScope s_check_places) .none kV10 dc10 pm10 an10 cd10 ct10), sl10⟩) (c10 : PySem.W.codeIn K cd10 "_check_places" = true) (k10 : PySem.W.keepIn K (.ref f10) = true) (a11 : PySem.W.nsIn K mainGlobals "_is_stretch" = some (some (.ref f11))) (l11 : K.lookup f11 = some ⟨oc11, od11, .func (PySem.W.fnOf "_is_stretch" "_is_stretch" (defArgs s_is_stretch) (defBody s_is_stretch) (defScope s_is_stretch) .none kV11 dc11 pm11 an11 cd11 ct11), sl11⟩) (c11 : PySem.W.codeIn K cd11 "_is_stretch" = true) (k11 : PySem.W.keepIn K (.ref f11) = true) (a12 : PySem.W.nsIn K mainGlobals "_check_stretches" = some (some (.ref f12))) (l12 : K.lookup f12 = some ⟨oc12, od12, .func (PySem.W.fnOf "_check_stretches" "_check_stretches" (defArgs s_check_stretches) (defBody s_check_stretches) (defScope s_check_stretches) .none kV12 dc12 pm12 an12 cd12 ct12), sl12⟩) (c12 : PySem.W.codeIn K cd12 "_check_stretches" = true) (k12 : PySem.W.keepIn K (.ref f12) = true) (a13 : PySem.W.nsIn K mainGlobals "_is_long" = some (some (.ref f13))) (l13 : K.lookup f13 = some ⟨oc13, od13, .func (PySem.W.fnOf "_is_long" "_is_long" (defArgs s_is_long) (defBody s_is_long) (defScope s_is_long) .none kV13 dc13 pm13 an13 cd13 ct13), sl13⟩) (c13 : PySem.W.codeIn K cd13 "_is_long" = true) (k13 : PySem.W.keepIn K (.ref f13) = true) (a14 : PySem.W.nsIn K mainGlobals "_check_longs" = some (some (.ref f14))) (l14 : K.lookup f14 = some ⟨oc14, od14, .func (PySem.W.fnOf "_check_longs" "_check_longs" (defArgs s_check_longs) (defBody s_check_longs) (defScope s_check_longs) .none kV14 dc14 pm14 an14 cd14 ct14), sl14⟩) (c14 : PySem.W.codeIn K cd14 "_check_longs" = true) (k14 : PySem.W.keepIn K (.ref f14) = true) (a15 : PySem.W.findIn K (.ref C) "__init__" = some (some (.ref f15))) (i15 : PySem.W.isFn K (.ref f15) = true) (l15 : K.lookup f15 = some ⟨oc15, od15, .func (PySem.W.fnOf "__init__" "Line.__init__" (defArgs s_init) (defBody s_init) (defScope s_init) (.ref dT) kV15 dc15 pm15 an15 cd15 ct15), sl15⟩) (c15 : PySem.W.codeIn K cd15 "Line.__init__" = true) (k15 : PySem.W.keepIn K (.ref f15) = true) (a16 : PySem.W.findIn K (.ref C) "number_of" = some (some (.ref f16))) (i16 : PySem.W.isFn K (.ref f16) = true) (l16 : K.lookup f16 = some ⟨oc16, od16, .func (PySem.W.fnOf "number_of" "Line.number_of" (defArgs s_number_of) (defBody s_number_of) (defScope s_number_of) .none kV16 dc16 pm16 an16 cd16 ct16), sl16⟩) (c16 : PySem.W.codeIn K cd16 "Line.number_of" = true) (k16 : PySem.W.keepIn K (.ref f16) = true) (a17 : PySem.W.findIn K (.ref C) "roads" = some (some (.ref f17))) (i17 : PySem.W.isFn K (.ref f17) = true) (l17 : K.lookup f17 = some ⟨oc17, od17, .func (PySem.W.fnOf "roads" "Line.roads" (defArgs s_roads) (defBody s_roads) (defScope s_roads) .none kV17 dc17 pm17 an17 cd17 ct17), sl17⟩) (c17 : PySem.W.codeIn K cd17 "Line.roads" = true) (k17 : PySem.W.keepIn K (.ref f17) = true) (a18 : PySem.W.findIn K (.ref C) "between" = some (some (.ref f18))) (i18 : PySem.W.isFn K (.ref f18) = true) (l18 : K.lookup f18 = some ⟨oc18, od18, .func (PySem.W.fnOf "between" "Line.between" (defArgs s_between) (defBody s_between) (defScope s_between) .none kV18 dc18 pm18 an18 cd18 ct18), sl18⟩) (c18 : PySem.W.codeIn K cd18 "Line.between" = true) (k18 : PySem.W.keepIn K (.ref f18) = true) (a19 : PySem.W.findIn K (.ref C) "long_between" = some (some (.ref f19))) (i19 : PySem.W.isFn K (.ref f19) = true) (l19 : K.lookup f19 = some ⟨oc19, od19, .func (PySem.W.fnOf "long_between" "Line.long_between" (defArgs s_long_between) (defBody s_long_between) (defScope s_long_between) .none kV19 dc19 pm19 an19 cd19 ct19), sl19⟩) (c19 : PySem.W.codeIn K cd19 "Line.long_between" = true) (k19 : PySem.W.keepIn K (.ref f19) = true) (a20 : PySem.W.findIn K (.ref C) "_check_stretch" = some (some (.ref f20))) (i20 : PySem.W.isFn K (.ref f20) = true) (l20 : K.lookup f20 = some ⟨oc20, od20, .func (PySem.W.fnOf "_check_stretch" "Line._check_stretch" (defArgs s_check_stretch) (defBody s_check_stretch) (defScope s_check_stretch) .none kV20 dc20 pm20 an20 cd20 ct20), sl20⟩) (c20 : PySem.W.codeIn K cd20 "Line._check_stretch" = true) (k20 : PySem.W.keepIn K (.ref f20) = true) (a21 : PySem.W.findIn K (.ref C) "ends" = some (some (.ref f21))) (i21 : PySem.W.isFn K (.ref f21) = true) (l21 : K.lookup f21 = some ⟨oc21, od21, .func (PySem.W.fnOf "ends" "Line.ends" (defArgs s_ends) (defBody s_ends) (defScope s_ends) .none kV21 dc21 pm21 an21 cd21 ct21), sl21⟩) (c21 : PySem.W.codeIn K cd21 "Line.ends" = true) (k21 : PySem.W.keepIn K (.ref f21) = true) (a22 : PySem.W.findIn K (.ref C) "kind" = some (some (.ref f22))) (i22 : PySem.W.isFn K (.ref f22) = true) (l22 : K.lookup f22 = some ⟨oc22, od22, .func (PySem.W.fnOf "kind" "Line.kind" (defArgs s_kind) (defBody s_kind) (defScope s_kind) .none kV22 dc22 pm22 an22 cd22 ct22), sl22⟩) (c22 : PySem.W.codeIn K cd22 "Line.kind" = true) (k22 : PySem.W.keepIn K (.ref f22) = true) (a23 : PySem.W.findIn K (.ref C) "home" = some (some (.ref f23))) (i23 : PySem.W.isFn K (.ref f23) = true) (l23 : K.lookup f23 = some ⟨oc23, od23, .func (PySem.W.fnOf "home" "Line.home" (defArgs s_home) (defBody s_home) (defScope s_home) .none kV23 dc23 pm23 an23 cd23 ct23), sl23⟩) (c23 : PySem.W.codeIn K cd23 "Line.home" = true) (k23 : PySem.W.keepIn K (.ref f23) = true) (a24 : PySem.W.findIn K (.ref C) "_long" = some (some (.ref f24))) (i24 : PySem.W.isFn K (.ref f24) = true) (l24 : K.lookup f24 = some ⟨oc24, od24, .func (PySem.W.fnOf "_long" "Line._long" (defArgs s_long) (defBody s_long) (defScope s_long) .none kV24 dc24 pm24 an24 cd24 ct24), sl24⟩) (c24 : PySem.W.codeIn K cd24 "Line._long" = true) (k24 : PySem.W.keepIn K (.ref f24) = true) (a25 : PySem.W.findIn K (.ref C) "long_ends" = some (some (.ref f25))) (i25 : PySem.W.isFn K (.ref f25) = true) (l25 : K.lookup f25 = some ⟨oc25, od25, .func (PySem.W.fnOf "long_ends" "Line.long_ends" (defArgs s_long_ends) (defBody s_long_ends) (defScope s_long_ends) .none kV25 dc25 pm25 an25 cd25 ct25), sl25⟩) (c25 : PySem.W.codeIn K cd25 "Line.long_ends" = true) (k25 : PySem.W.keepIn K (.ref f25) = true) (a26 : PySem.W.findIn K (.ref C) "long_stretches" = some (some (.ref f26))) (i26 : PySem.W.isFn K (.ref f26) = true) (l26 : K.lookup f26 = some ⟨oc26, od26, .func (PySem.W.fnOf "long_stretches" "Line.long_stretches" (defArgs s_long_stretches) (defBody s_long_stretches) (defScope s_long_stretches) .none kV26 dc26 pm26 an26 cd26 ct26), sl26⟩) (c26 : PySem.W.codeIn K cd26 "Line.long_stretches" = true) (k26 : PySem.W.keepIn K (.ref f26) = true) (a27 : PySem.W.findIn K (.ref C) "long_home" = some (some (.ref f27))) (i27 : PySem.W.isFn K (.ref f27) = true) (l27 : K.lookup f27 = some ⟨oc27, od27, .func (PySem.W.fnOf "long_home" "Line.long_home" (defArgs s_long_home) (defBody s_long_home) (defScope s_long_home) .none kV27 dc27 pm27 an27 cd27 ct27), sl27⟩) (c27 : PySem.W.codeIn K cd27 "Line.long_home" = true) (k27 : PySem.W.keepIn K (.ref f27) = true) (a28 : PySem.W.findIn K (.ref C) "long_of" = some (some (.ref f28))) (i28 : PySem.W.isFn K (.ref f28) = true) (l28 : K.lookup f28 = some ⟨oc28, od28, .func (PySem.W.fnOf "long_of" "Line.long_of" (defArgs s_long_of) (defBody s_long_of) (defScope s_long_of) .none kV28 dc28 pm28 an28 cd28 ct28), sl28⟩) (c28 : PySem.W.codeIn K cd28 "Line.long_of" = true) (k28 : PySem.W.keepIn K (.ref f28) = true) (a29 : PySem.W.findIn K (.ref C) "told" = some (some (.ref f29))) (i29 : PySem.W.isFn K (.ref f29) = true) (l29 : K.lookup f29 = some ⟨oc29, od29, .func (PySem.W.fnOf "told" "Line.told" (defArgs s_told) (defBody s_told) (defScope s_told) .none kV29 dc29 pm29 an29 cd29 ct29), sl29⟩) (c29 : PySem.W.codeIn K cd29 "Line.told" = true) (k29 : PySem.W.keepIn K (.ref f29) = true) (a30 : PySem.W.nsIn K mainGlobals "_law_cell" = some (some (.ref f30))) (l30 : K.lookup f30 = some ⟨oc30, od30, .func (PySem.W.fnOf "_law_cell" "_law_cell" (defArgs sCell) (defBody sCell) (defScope sCell) .none kV30 dc30 pm30 an30 cd30 ct30), sl30⟩) (c30 : PySem.W.codeIn K cd30 "_law_cell" = true) (k30 : PySem.W.keepIn K (.ref f30) = true) (a31 : PySem.W.nsIn K mainGlobals "_law_box" = some (some (.ref f31))) (l31 : K.lookup f31 = some ⟨oc31, od31, .func (PySem.W.fnOf "_law_box" "_law_box" (defArgs sBox) (defBody sBox) (defScope sBox) .none kV31 dc31 pm31 an31 cd31 ct31), sl31⟩) (c31 : PySem.W.codeIn K cd31 "_law_box" = true) (k31 : PySem.W.keepIn K (.ref f31) = true) (a32 : PySem.W.nsIn K mainGlobals "_law_take" = some (some (.ref f32))) (l32 : K.lookup f32 = some ⟨oc32, od32, .func (PySem.W.fnOf "_law_take" "_law_take" (defArgs sTake) (defBody sTake) (defScope sTake) .none kV32 dc32 pm32 an32 cd32 ct32), sl32⟩) (c32 : PySem.W.codeIn K cd32 "_law_take" = true) (k32 : PySem.W.keepIn K (.ref f32) = true) (a33 : PySem.W.nsIn K mainGlobals "_law_names" = some (some (.ref f33))) (l33 : K.lookup f33 = some ⟨oc33, od33, .func (PySem.W.fnOf "_law_names" "_law_names" (defArgs s_law_names) (defBody s_law_names) (defScope s_law_names) .none kV33 dc33 pm33 an33 cd33 ct33), sl33⟩) (c33 : PySem.W.codeIn K cd33 "_law_names" = true) (k33 : PySem.W.keepIn K (.ref f33) = true) (a34 : PySem.W.nsIn K mainGlobals "_law_world" = some (some (.ref f34))) (l34 : K.lookup f34 = some ⟨oc34, od34, .func (PySem.W.fnOf "_law_world" "_law_world" (defArgs s_law_world) (defBody s_law_world) (defScope s_law_world) .none kV34 dc34 pm34 an34 cd34 ct34), sl34⟩) (c34 : PySem.W.codeIn K cd34 "_law_world" = true) (k34 : PySem.W.keepIn K (.ref f34) = true) (a35 : PySem.W.nsIn K mainGlobals "_law_name_asked" = some (some (.ref f35))) (l35 : K.lookup f35 = some ⟨oc35, od35, .func (PySem.W.fnOf "_law_name_asked" "_law_name_asked" (defArgs s_law_name_asked) (defBody s_law_name_asked) (defScope s_law_name_asked) .none kV35 dc35 pm35 an35 cd35 ct35), sl35⟩) (c35 : PySem.W.codeIn K cd35 "_law_name_asked" = true) (k35 : PySem.W.keepIn K (.ref f35) = true) (a36 : PySem.W.nsIn K mainGlobals "_law_number_asked" = some (some (.ref f36))) (l36 : K.lookup f36 = some ⟨oc36, od36, .func (PySem.W.fnOf "_law_number_asked" "_law_number_asked" (defArgs s_law_number_asked) (defBody s_law_number_asked) (defScope s_law_number_asked) .none kV36 dc36 pm36 an36 cd36 ct36), sl36⟩) (c36 : PySem.W.codeIn K cd36 "_law_number_asked" = true) (k36 : PySem.W.keepIn K (.ref f36) = true) (a37 : PySem.W.nsIn K mainGlobals "_law_caught" = some (some (.ref f37))) (l37 : K.lookup f37 = some ⟨oc37, od37, .func (PySem.W.fnOf "_law_caught" "_law_caught" (defArgs s_law_caught) (defBody s_law_caught) (defScope s_law_caught) .none kV37 dc37 pm37 an37 cd37 ct37), sl37⟩) (c37 : PySem.W.codeIn K cd37 "_law_caught" = true) (k37 : PySem.W.keepIn K (.ref f37) = true) (a38 : PySem.W.nsIn K mainGlobals "_law_odd_name" = some (some (.ref f38))) (l38 : K.lookup f38 = some ⟨oc38, od38, .func (PySem.W.fnOf "_law_odd_name" "_law_odd_name" (defArgs s_law_odd_name) (defBody s_law_odd_name) (defScope s_law_odd_name) .none kV38 dc38 pm38 an38 cd38 ct38), sl38⟩) (c38 : PySem.W.codeIn K cd38 "_law_odd_name" = true) (k38 : PySem.W.keepIn K (.ref f38) = true) (a39 : PySem.W.nsIn K mainGlobals "_law_odd_number" = some (some (.ref f39))) (l39 : K.lookup f39 = some ⟨oc39, od39, .func (PySem.W.fnOf "_law_odd_number" "_law_odd_number" (defArgs s_law_odd_number) (defBody s_law_odd_number) (defScope s_law_odd_number) .none kV39 dc39 pm39 an39 cd39 ct39), sl39⟩) (c39 : PySem.W.codeIn K cd39 "_law_odd_number" = true) (k39 : PySem.W.keepIn K (.ref f39) = true) (a40 : PySem.W.nsIn K mainGlobals "_law_holds" = some (some (.ref f40))) (l40 : K.lookup f40 = some ⟨oc40, od40, .func (PySem.W.fnOf "_law_holds" "_law_holds" (defArgs s_law_holds) (defBody s_law_holds) (defScope s_law_holds) .none kV40 dc40 pm40 an40 cd40 ct40), sl40⟩) (c40 : PySem.W.codeIn K cd40 "_law_holds" = true) (k40 : PySem.W.keepIn K (.ref f40) = true) (a41 : PySem.W.nsIn K mainGlobals "_law_names_right" = some (some (.ref f41))) (l41 : K.lookup f41 = some ⟨oc41, od41, .func (PySem.W.fnOf "_law_names_right" "_law_names_right" (defArgs s_law_names_right) (defBody s_law_names_right) (defScope s_law_names_right) .none kV41 dc41 pm41 an41 cd41 ct41), sl41⟩) (c41 : PySem.W.codeIn K cd41 "_law_names_right" = true) (k41 : PySem.W.keepIn K (.ref f41) = true) (a42 : PySem.W.nsIn K mainGlobals "_law_numbers_right" = some (some (.ref f42))) (l42 : K.lookup f42 = some ⟨oc42, od42, .func (PySem.W.fnOf "_law_numbers_right" "_law_numbers_right" (defArgs s_law_numbers_right) (defBody s_law_numbers_right) (defScope s_law_numbers_right) .none kV42 dc42 pm42 an42 cd42 ct42), sl42⟩) (c42 : PySem.W.codeIn K cd42 "_law_numbers_right" = true) (k42 : PySem.W.keepIn K (.ref f42) = true) (a43 : PySem.W.nsIn K mainGlobals "law" = some (some (.ref f43))) (l43 : K.lookup f43 = some ⟨oc43, od43, .func (PySem.W.fnOf "law" "law" (defArgs s_law) (defBody s_law) (defScope s_law) .none kV43 dc43 pm43 an43 cd43 ct43), sl43⟩) (c43 : PySem.W.codeIn K cd43 "law" = true) (k43 : PySem.W.keepIn K (.ref f43) = true) (lT : K.lookup dT = some oT) (oTd : oT.data = .seq #[.none] mT) (lco : K.lookup co = some ⟨eo, eoD, .fields us, usl⟩) (u11 : us[11]? = some (.ref tb)) (ntb : K.lookup tb = none) (hrec : ((PyProof.Rows.recsOf q).any fun r => r.name == "is_name") = true) (z0 : PySem.W.nsIn K mainGlobals "isinstance" = some none) (z1 : PySem.W.nsIn K mainGlobals "int" = some none) (z2 : PySem.W.nsIn K mainGlobals "bool" = some none) (z3 : PySem.W.nsIn K mainGlobals "str" = some none) (z4 : PySem.W.nsIn K mainGlobals "len" = some none) (z5 : PySem.W.nsIn K mainGlobals "all" = some none) (z6 : PySem.W.nsIn K mainGlobals "max" = some none) (z7 : PySem.W.nsIn K mainGlobals "min" = some none) (z8 : PySem.W.nsIn K mainGlobals "range" = some none) (z9 : PySem.W.nsIn K mainGlobals "repr" = some none) (z10 : PySem.W.nsIn K mainGlobals "list" = some none) (z11 : PySem.W.nsIn K mainGlobals "tuple" = some none) (z12 : PySem.W.nsIn K mainGlobals "enumerate" = some none) (z13 : PySem.W.nsIn K mainGlobals "sorted" = some none) (z14 : PySem.W.nsIn K mainGlobals "dict" = some none) (z15 : PySem.W.nsIn K mainGlobals "ValueError" = some none) (aCS : PySem.W.nsIn K mainGlobals "StaffError" = some (some (.ref CS))) (gaCS : PySem.W.specialIn K (.ref CS) "__getattribute__" = some (some (.builtin "type.__getattribute__"))) (rdCS : PySem.W.readsIn K CS (.type "type") = true) (atCS : PySem.W.findCls K (.ref CS) (.type "type") "__init__" = some (.val (.ref f1))) (vi : PySem.W.findCls K (.type "ValueError") (.type "type") "__init__" = some (.val (.builtin "ValueError.__init__"))) (xTP : PySem.W.exmOne K (.ref CT) (.ref CP) = some false) (xLP : PySem.W.exmOne K (.ref CL) (.ref CP) = some false) (xLT : PySem.W.exmOne K (.ref CL) (.ref CT) = some false) (cg : PySem.W.specialIn K (.builtin "object.__class__") "__get__" = some (some (.builtin "getset_descriptor.__get__"))) (ct : PySem.W.takesIn K (.builtin "object.__class__") = some true) (smN : K.lookup sysModules = none) :
    GLawM l w K CX0 10 63 "_law_script" mg fa h := by
  have e := hfa.symm.trans (PySem.W.mg_of X G a43)
  cases e
  have T : Txt mg := ⟨PySem.W.mg_none_of X G z0, PySem.W.mg_none_of X G z1, PySem.W.mg_none_of X G z2, PySem.W.mg_none_of X G z3, PySem.W.mg_none_of X G z4, PySem.W.mg_none_of X G z5, PySem.W.mg_none_of X G z6, PySem.W.mg_none_of X G z7, PySem.W.mg_none_of X G z8, PySem.W.mg_none_of X G z9, PySem.W.mg_none_of X G z10, PySem.W.mg_none_of X G z11, PySem.W.mg_none_of X G z12, PySem.W.mg_none_of X G z13, PySem.W.mg_none_of X G z14⟩
  have seCP : PySem.W.subIn K (.ref CP) (.ref CP) = some true := My.sub_self (by unfold PySem.W.clsIn; rw [xlCP] <;> rfl) rfl
  have seCT : PySem.W.subIn K (.ref CT) (.ref CT) = some true := My.sub_self (by unfold PySem.W.clsIn; rw [xlCT] <;> rfl) rfl
  have seCL : PySem.W.subIn K (.ref CL) (.ref CL) = some true := My.sub_self (by unfold PySem.W.clsIn; rw [xlCL] <;> rfl) rfl
  have F1 := fun_mk (st := sSE) l1 c1 k1
  have b1 := F1.binds (ps := ["self", "text"]) fun _ _ _ _ _ _ us hl => match us, hl with | [_, _], _ => rfl
  have F2 := fun_mk (st := sNoPlace) l2 c2 k2
  have b2 := F2.binds (ps := ["self", "found"]) fun _ _ _ _ _ _ us hl => match us, hl with | [_, _], _ => rfl
  have F3 := fun_mk (st := sNoStretch) l3 c3 k3
  have b3 := F3.binds (ps := ["self", "found"]) fun _ _ _ _ _ _ us hl => match us, hl with | [_, _], _ => rfl
  have F4 := fun_mk (st := sNoLong) l4 c4 k4
  have b4 := F4.binds (ps := ["self", "found"]) fun _ _ _ _ _ _ us hl => match us, hl with | [_, _], _ => rfl
  have F5 := fun_mk (st := sWhole) l5 c5 k5
  have b5 := F5.binds (ps := ["thing", "low", "high"]) fun _ _ _ _ _ _ us hl => match us, hl with | [_, _, _], _ => rfl
  have F6 := fun_mk (st := sName) l6 c6 k6
  have b6 := F6.binds (ps := ["thing"]) fun _ _ _ _ _ _ us hl => match us, hl with | [_], _ => rfl
  have F7 := fun_mk (st := s_is_list) l7 c7 k7
  have b7 := F7.binds (ps := ["thing", "low", "high"]) fun _ _ _ _ _ _ us hl => match us, hl with | [_, _, _], _ => rfl
  have F8 := fun_mk (st := s_is_tuple) l8 c8 k8
  have b8 := F8.binds (ps := ["thing", "many"]) fun _ _ _ _ _ _ us hl => match us, hl with | [_, _], _ => rfl
  have F9 := fun_mk (st := s_check_place) l9 c9 k9
  have b9 := F9.binds (ps := ["place", "ahead"]) fun _ _ _ _ _ _ us hl => match us, hl with | [_, _], _ => rfl
  have F10 := fun_mk (st := s_check_places) l10 c10 k10
  have b10 := F10.binds (ps := ["places"]) fun _ _ _ _ _ _ us hl => match us, hl with | [_], _ => rfl
  have F11 := fun_mk (st := s_is_stretch) l11 c11 k11
  have b11 := F11.binds (ps := ["thing"]) fun _ _ _ _ _ _ us hl => match us, hl with | [_], _ => rfl
  have F12 := fun_mk (st := s_check_stretches) l12 c12 k12
  have b12 := F12.binds (ps := ["stretches", "many"]) fun _ _ _ _ _ _ us hl => match us, hl with | [_, _], _ => rfl
  have F13 := fun_mk (st := s_is_long) l13 c13 k13
  have b13 := F13.binds (ps := ["thing", "low", "top"]) fun _ _ _ _ _ _ us hl => match us, hl with | [_, _, _], _ => rfl
  have F14 := fun_mk (st := s_check_longs) l14 c14 k14
  have b14 := F14.binds (ps := ["longs", "top"]) fun _ _ _ _ _ _ us hl => match us, hl with | [_, _], _ => rfl
  have F15 : FunV K "__init__" "Line.__init__" s_init f15 _ := ⟨⟨_, _, _, _, _, _, _, _, _, _, rfl, l15, c15⟩⟩
  have b15 : Binds K (PySem.W.fnOf "__init__" "Line.__init__" (defArgs s_init) (defBody s_init) (defScope s_init) (.ref dT) kV15 dc15 pm15 an15 cd15 ct15) ["self", "places", "stretches", "longs"] [] := fun s us X hl => by
    rw [List.append_nil] at hl ⊢
    match us, hl with
    | [_, _, _, _], _ => exact BindsTo.of_defaults rfl (X _ _ lT) oTd rfl rfl
  have bd15 : Binds K (PySem.W.fnOf "__init__" "Line.__init__" (defArgs s_init) (defBody s_init) (defScope s_init) (.ref dT) kV15 dc15 pm15 an15 cd15 ct15) ["self", "places", "stretches", "longs"] [.none] := fun s us X hl => by
    have hl2 : us.length = 3 := by simpa using hl
    match us, hl2 with
    | [_, _, _], _ => exact BindsTo.of_defaults rfl (X _ _ lT) oTd rfl rfl
  have F16 := fun_mk (st := s_number_of) l16 c16 k16
  have b16 := F16.binds (ps := ["self", "name"]) fun _ _ _ _ _ _ us hl => match us, hl with | [_, _], _ => rfl
  have F17 := fun_mk (st := s_roads) l17 c17 k17
  have b17 := F17.binds (ps := ["self", "name"]) fun _ _ _ _ _ _ us hl => match us, hl with | [_, _], _ => rfl
  have F18 := fun_mk (st := s_between) l18 c18 k18
  have b18 := F18.binds (ps := ["self", "one", "other"]) fun _ _ _ _ _ _ us hl => match us, hl with | [_, _, _], _ => rfl
  have F19 := fun_mk (st := s_long_between) l19 c19 k19
  have b19 := F19.binds (ps := ["self", "one", "other"]) fun _ _ _ _ _ _ us hl => match us, hl with | [_, _, _], _ => rfl
  have F20 := fun_mk (st := s_check_stretch) l20 c20 k20
  have b20 := F20.binds (ps := ["self", "k"]) fun _ _ _ _ _ _ us hl => match us, hl with | [_, _], _ => rfl
  have F21 := fun_mk (st := s_ends) l21 c21 k21
  have b21 := F21.binds (ps := ["self", "k"]) fun _ _ _ _ _ _ us hl => match us, hl with | [_, _], _ => rfl
  have F22 := fun_mk (st := s_kind) l22 c22 k22
  have b22 := F22.binds (ps := ["self", "k"]) fun _ _ _ _ _ _ us hl => match us, hl with | [_, _], _ => rfl
  have F23 := fun_mk (st := s_home) l23 c23 k23
  have b23 := F23.binds (ps := ["self", "k"]) fun _ _ _ _ _ _ us hl => match us, hl with | [_, _], _ => rfl
  have F24 := fun_mk (st := s_long) l24 c24 k24
  have b24 := F24.binds (ps := ["self", "j"]) fun _ _ _ _ _ _ us hl => match us, hl with | [_, _], _ => rfl
  have F25 := fun_mk (st := s_long_ends) l25 c25 k25
  have b25 := F25.binds (ps := ["self", "j"]) fun _ _ _ _ _ _ us hl => match us, hl with | [_, _], _ => rfl
  have F26 := fun_mk (st := s_long_stretches) l26 c26 k26
  have b26 := F26.binds (ps := ["self", "j"]) fun _ _ _ _ _ _ us hl => match us, hl with | [_, _], _ => rfl
  have F27 := fun_mk (st := s_long_home) l27 c27 k27
  have b27 := F27.binds (ps := ["self", "j"]) fun _ _ _ _ _ _ us hl => match us, hl with | [_, _], _ => rfl
  have F28 := fun_mk (st := s_long_of) l28 c28 k28
  have b28 := F28.binds (ps := ["self", "k"]) fun _ _ _ _ _ _ us hl => match us, hl with | [_, _], _ => rfl
  have F29 := fun_mk (st := s_told) l29 c29 k29
  have b29 := F29.binds (ps := ["self"]) fun _ _ _ _ _ _ us hl => match us, hl with | [_], _ => rfl
  have F30 := fun_mk (st := sCell) l30 c30 k30
  have b30 := F30.binds (ps := ["_law_script", "_law_k"]) fun _ _ _ _ _ _ us hl => match us, hl with | [_, _], _ => rfl
  have F31 := fun_mk (st := sBox) l31 c31 k31
  have b31 := F31.binds (ps := ["_law_cell_here"]) fun _ _ _ _ _ _ us hl => match us, hl with | [_], _ => rfl
  have F32 := fun_mk (st := sTake) l32 c32 k32
  have b32 := F32.binds (ps := ["_law_box_here", "_law_many"]) fun _ _ _ _ _ _ us hl => match us, hl with | [_, _], _ => rfl
  have F33 := fun_mk (st := s_law_names) l33 c33 k33
  have b33 := F33.binds (ps := ["_law_box_here", "_law_many"]) fun _ _ _ _ _ _ us hl => match us, hl with | [_, _], _ => rfl
  have F34 := fun_mk (st := s_law_world) l34 c34 k34
  have b34 := F34.binds (ps := ["_law_box_here"]) fun _ _ _ _ _ _ us hl => match us, hl with | [_], _ => rfl
  have F35 := fun_mk (st := s_law_name_asked) l35 c35 k35
  have b35 := F35.binds (ps := ["_law_line", "_law_way", "_law_one", "_law_other"]) fun _ _ _ _ _ _ us hl => match us, hl with | [_, _, _, _], _ => rfl
  have F36 := fun_mk (st := s_law_number_asked) l36 c36 k36
  have b36 := F36.binds (ps := ["_law_line", "_law_way", "_law_number"]) fun _ _ _ _ _ _ us hl => match us, hl with | [_, _, _], _ => rfl
  have F37 := fun_mk (st := s_law_caught) l37 c37 k37
  have b37 := F37.binds (ps := ["_law_line", "_law_way", "_law_one", "_law_other"]) fun _ _ _ _ _ _ us hl => match us, hl with | [_, _, _, _], _ => rfl
  have F38 := fun_mk (st := s_law_odd_name) l38 c38 k38
  have b38 := F38.binds (ps := ["_law_box_here", "_law_names_here", "_law_spare"]) fun _ _ _ _ _ _ us hl => match us, hl with | [_, _, _], _ => rfl
  have F39 := fun_mk (st := s_law_odd_number) l39 c39 k39
  have b39 := F39.binds (ps := ["_law_box_here", "_law_many"]) fun _ _ _ _ _ _ us hl => match us, hl with | [_, _], _ => rfl
  have F40 := fun_mk (st := s_law_holds) l40 c40 k40
  have b40 := F40.binds (ps := ["_law_found", "_law_word", "_law_thing"]) fun _ _ _ _ _ _ us hl => match us, hl with | [_, _, _], _ => rfl
  have F41 := fun_mk (st := s_law_names_right) l41 c41 k41
  have b41 := F41.binds (ps := ["_law_box_here", "_law_line", "_law_names_here", "_law_spare"]) fun _ _ _ _ _ _ us hl => match us, hl with | [_, _, _, _], _ => rfl
  have F42 := fun_mk (st := s_law_numbers_right) l42 c42 k42
  have b42 := F42.binds (ps := ["_law_box_here", "_law_line", "_law_stretches", "_law_longs"]) fun _ _ _ _ _ _ us hl => match us, hl with | [_, _, _, _], _ => rfl
  have F43 := fun_mk (st := s_law) l43 c43 k43
  have TC : ClsT K C := ⟨⟨pgC, hdC, poC, saC⟩, n0C, n1C, n2C, n3C⟩
  have ES : SeT K mg CS f1 _ sSE := ⟨PySem.W.mg_none_of X G z15, vi, PySem.W.mg_of X G aCS, ⟨gaCS, rdCS, atCS⟩, k1, F1, b1⟩
  have EP : ExC K mg "NoPlace" "NoPlace.__init__" sNoPlace CP f2 _ := ⟨PySem.W.mg_of X G aCP, F2, b2, ⟨⟨nmCP, qCP, NCP, bsCP, _, snCP, subCP, abCP, colCP, ddCP, m0CP, m1CP, m2CP, m3CP, m5CP, xlCP, rfl⟩, saCP, exCP, tyCP, kcCP⟩, a2, (beq_iff_eq.mp i2), n0CP, PySem.W.exm_ref exCP hdCP tyCP seCP, ⟨gaCP, ggCP, exCP, hdCP⟩, ⟨icCP, gaCP, ggCP, exCP, coCP, cg, ct, moCP⟩⟩
  have ET : ExC K mg "NoStretch" "NoStretch.__init__" sNoStretch CT f3 _ := ⟨PySem.W.mg_of X G aCT, F3, b3, ⟨⟨nmCT, qCT, NCT, bsCT, _, snCT, subCT, abCT, colCT, ddCT, m0CT, m1CT, m2CT, m3CT, m5CT, xlCT, rfl⟩, saCT, exCT, tyCT, kcCT⟩, a3, (beq_iff_eq.mp i3), n0CT, PySem.W.exm_ref exCT hdCT tyCT seCT, ⟨gaCT, ggCT, exCT, hdCT⟩, ⟨icCT, gaCT, ggCT, exCT, coCT, cg, ct, moCT⟩⟩
  have EL : ExC K mg "NoLong" "NoLong.__init__" sNoLong CL f4 _ := ⟨PySem.W.mg_of X G aCL, F4, b4, ⟨⟨nmCL, qCL, NCL, bsCL, _, snCL, subCL, abCL, colCL, ddCL, m0CL, m1CL, m2CL, m3CL, m5CL, xlCL, rfl⟩, saCL, exCL, tyCL, kcCL⟩, a4, (beq_iff_eq.mp i4), n0CL, PySem.W.exm_ref exCL hdCL tyCL seCL, ⟨gaCL, ggCL, exCL, hdCL⟩, ⟨icCL, gaCL, ggCL, exCL, coCL, cg, ct, moCL⟩⟩
  obtain ⟨ch, tabh⟩ := em "is_name" f6 co tb _ _ eo eoD us usl hrec a6 l6 rfl rfl lco u11
  refine ⟨PySem.W.fnOf "law" "law" (defArgs s_law) (defBody s_law) (defScope s_law) .none kV43 dc43 pm43 an43 cd43 ct43, [(co, tb)], spLaw K tb, smN, ?_, ?_, ?_, fun s v => .of_eq rfl, ?_, ?_⟩
  · intro p hp
    obtain rfl := List.mem_singleton.mp hp
    exact tabh
  · intro p hp
    obtain rfl := List.mem_singleton.mp hp
    exact ntb
  · intro p hp
    obtain rfl := List.mem_singleton.mp hp
    exact ch
  · intro H a ns hn sm hT hS
    exact ⟨a, ns, rfl, hS, hn, ⟨#[], hT (co, tb) (List.mem_singleton.mpr rfl), trivial⟩, sm, fun _ => rfl⟩
  · intro base kb nb TB
    have gis_whole : FnOk l.prog w K mg base CX0 _ f5 _ _ _ := ok_whole F5 T
    have gis_name := ok_name (P := l.prog) (w := w) l6 c6 T (TB (co, tb) (List.mem_singleton.mpr rfl))
    have gis_list : FnOk l.prog w K mg base CX0 _ f7 _ _ _ := ok_is_list F7 T
    have gis_tuple : FnOk l.prog w K mg base CX0 _ f8 _ _ _ := ok_is_tuple F8 T
    have gcheck_place : FnOk l.prog w K mg base CX0 _ f9 _ _ _ := ok_check_place F9 T ⟨F8, PySem.W.mg_of X G a8, b8⟩ gis_tuple ⟨F6, PySem.W.mg_of X G a6, b6⟩ gis_name ⟨F5, PySem.W.mg_of X G a5, b5⟩ gis_whole
    have gcheck_places : FnOk l.prog w K mg base CX0 _ f10 _ _ _ := ok_check_places F10 T ⟨F7, PySem.W.mg_of X G a7, b7⟩ gis_list ⟨F9, PySem.W.mg_of X G a9, b9⟩ gcheck_place
    have gis_stretch : FnOk l.prog w K mg base CX0 _ f11 _ _ _ := ok_is_stretch F11 T ⟨F8, PySem.W.mg_of X G a8, b8⟩ gis_tuple ⟨F5, PySem.W.mg_of X G a5, b5⟩ gis_whole
    have gcheck_stretches : FnOk l.prog w K mg base CX0 _ f12 _ _ _ := ok_check_stretches F12 T ⟨F7, PySem.W.mg_of X G a7, b7⟩ gis_list ⟨F11, PySem.W.mg_of X G a11, b11⟩ gis_stretch
    have gis_long : FnOk l.prog w K mg base CX0 _ f13 _ _ _ := ok_is_long F13 T ⟨F8, PySem.W.mg_of X G a8, b8⟩ gis_tuple ⟨F5, PySem.W.mg_of X G a5, b5⟩ gis_whole
    have gcheck_longs : FnOk l.prog w K mg base CX0 _ f14 _ _ _ := ok_check_longs F14 T ⟨F7, PySem.W.mg_of X G a7, b7⟩ gis_list ⟨F13, PySem.W.mg_of X G a13, b13⟩ gis_long
    have ginit : FnOk l.prog w K mg base CX0 _ f15 _ _ _ := ok_init F15 T TC ⟨F10, PySem.W.mg_of X G a10, b10⟩ gcheck_places ⟨F12, PySem.W.mg_of X G a12, b12⟩ gcheck_stretches ⟨F14, PySem.W.mg_of X G a14, b14⟩ gcheck_longs
    have gnumber_of : FnOk l.prog w K mg base CX0 _ f16 _ _ _ := ok_num F16 T TC
    have groads : FnOk l.prog w K mg base CX0 _ f17 _ _ _ := ok_roads F17 T TC ⟨F16, ⟨a16, i16, k16⟩, b16⟩ gnumber_of
    have gbetween : FnOk l.prog w K mg base CX0 _ f18 _ _ _ := ok_between F18 T TC ⟨F16, ⟨a16, i16, k16⟩, b16⟩ gnumber_of
    have glong_between : FnOk l.prog w K mg base CX0 _ f19 _ _ _ := ok_long_between F19 T TC ⟨F16, ⟨a16, i16, k16⟩, b16⟩ gnumber_of
    have gcheck_stretch : FnOk l.prog w K mg base CX0 _ f20 _ _ _ := ok_check_stretch F20 T TC ⟨F5, PySem.W.mg_of X G a5, b5⟩ gis_whole
    have gends : FnOk l.prog w K mg base CX0 _ f21 _ _ _ := ok_ends F21 T TC ⟨F20, ⟨a20, i20, k20⟩, b20⟩ gcheck_stretch
    have gkind : FnOk l.prog w K mg base CX0 _ f22 _ _ _ := ok_kind F22 T TC ⟨F20, ⟨a20, i20, k20⟩, b20⟩ gcheck_stretch
    have ghome : FnOk l.prog w K mg base CX0 _ f23 _ _ _ := ok_home F23 T TC ⟨F21, ⟨a21, i21, k21⟩, b21⟩ gends
    have glong : FnOk l.prog w K mg base CX0 _ f24 _ _ _ := ok_long F24 T TC ⟨F5, PySem.W.mg_of X G a5, b5⟩ gis_whole
    have glong_ends : FnOk l.prog w K mg base CX0 _ f25 _ _ _ := ok_long_ends F25 T TC ⟨F24, ⟨a24, i24, k24⟩, b24⟩ glong
    have glong_stretches : FnOk l.prog w K mg base CX0 _ f26 _ _ _ := ok_long_stretches F26 T TC ⟨F24, ⟨a24, i24, k24⟩, b24⟩ glong
    have glong_home : FnOk l.prog w K mg base CX0 _ f27 _ _ _ := ok_long_home F27 T TC ⟨F25, ⟨a25, i25, k25⟩, b25⟩ glong_ends
    have glong_of : FnOk l.prog w K mg base CX0 _ f28 _ _ _ := ok_long_of F28 T TC ⟨F20, ⟨a20, i20, k20⟩, b20⟩ gcheck_stretch
    have gtold : FnOk l.prog w K mg base CX0 _ f29 _ _ _ := ok_told F29 T TC
    have xnum := fn_or gnumber_of (ok_numB (mg := mg) (P := l.prog) (w := w) (base := base) F16 T TC ES EP) (by decide)
    have xroads := fn_or groads (ok_roadsB F17 T TC ⟨F16, ⟨a16, i16, k16⟩, b16⟩ xnum) (by decide)
    have xbet := fn_or gbetween (ok_betweenB F18 T TC ⟨F16, ⟨a16, i16, k16⟩, b16⟩ xnum) (by decide)
    have xlbt := fn_or glong_between (ok_long_betweenB F19 T TC ⟨F16, ⟨a16, i16, k16⟩, b16⟩ xnum) (by decide)
    have xchk := fn_or gcheck_stretch (ok_check_stretchB (mg := mg) (P := l.prog) (w := w) (base := base) F20 T TC ES ET ⟨F5, PySem.W.mg_of X G a5, b5⟩ gis_whole) (by decide)
    have xends := fn_or gends (ok_endsB F21 T TC ⟨F20, ⟨a20, i20, k20⟩, b20⟩ xchk) (by decide)
    have xkind := fn_or gkind (ok_kindB F22 T TC ⟨F20, ⟨a20, i20, k20⟩, b20⟩ xchk) (by decide)
    have xhome := fn_or ghome (ok_homeB F23 T TC ⟨F21, ⟨a21, i21, k21⟩, b21⟩ xends) (by decide)
    have xlof := fn_or glong_of (ok_long_ofB F28 T TC ⟨F20, ⟨a20, i20, k20⟩, b20⟩ xchk) (by decide)
    have xlong := fn_or glong (ok_longB (mg := mg) (P := l.prog) (w := w) (base := base) F24 T TC ES EL ⟨F5, PySem.W.mg_of X G a5, b5⟩ gis_whole) (by decide)
    have xlend := fn_or glong_ends (ok_long_endsB F25 T TC ⟨F24, ⟨a24, i24, k24⟩, b24⟩ xlong) (by decide)
    have xlst := fn_or glong_stretches (ok_long_stretchesB F26 T TC ⟨F24, ⟨a24, i24, k24⟩, b24⟩ xlong) (by decide)
    have xlhom := fn_or glong_home (ok_long_homeB F27 T TC ⟨F25, ⟨a25, i25, k25⟩, b25⟩ xlend) (by decide)
    have glaw_cell : FnOk l.prog w K mg base CX0 _ f30 _ _ _ := ok_cell F30 T
    have glaw_box : FnOk l.prog w K mg base CX0 _ f31 _ _ _ := ok_box F31 T
    have glaw_take : FnOk l.prog w K mg base CX0 _ f32 _ _ _ := ok_take F32
    have glaw_names : FnOk l.prog w K mg base CX0 _ f33 _ _ _ := ok_names F33 T ⟨F32, PySem.W.mg_of X G a32, b32⟩ glaw_take
    have glaw_world : FnOk l.prog w K mg base CX0 _ f34 _ _ _ := ok_world F34 T ⟨F32, PySem.W.mg_of X G a32, b32⟩ glaw_take ⟨F33, PySem.W.mg_of X G a33, b33⟩ glaw_names
    have glaw_name_asked : FnOk l.prog w K mg base (CX l.prog w) _ f35 _ _ _ := ok_name_asked F35 T TC ⟨F17, ⟨a17, i17, k17⟩, b17⟩ xroads ⟨F16, ⟨a16, i16, k16⟩, b16⟩ xnum ⟨F18, ⟨a18, i18, k18⟩, b18⟩ xbet ⟨F19, ⟨a19, i19, k19⟩, b19⟩ xlbt
    have glaw_number_asked : FnOk l.prog w K mg base (CX l.prog w) _ f36 _ _ _ := ok_number_asked F36 T TC ⟨F21, ⟨a21, i21, k21⟩, b21⟩ xends ⟨F22, ⟨a22, i22, k22⟩, b22⟩ xkind ⟨F23, ⟨a23, i23, k23⟩, b23⟩ xhome ⟨F28, ⟨a28, i28, k28⟩, b28⟩ xlof ⟨F25, ⟨a25, i25, k25⟩, b25⟩ xlend ⟨F26, ⟨a26, i26, k26⟩, b26⟩ xlst ⟨F27, ⟨a27, i27, k27⟩, b27⟩ xlhom
    have glaw_caught : FnOk l.prog w K mg base CX0 _ f37 _ _ _ := ok_caught F37 T ES EP ET EL xTP xLP xLT ⟨F35, PySem.W.mg_of X G a35, b35⟩ glaw_name_asked ⟨F36, PySem.W.mg_of X G a36, b36⟩ glaw_number_asked
    have glaw_odd_name : FnOk l.prog w K mg base CX0 _ f38 _ _ _ := ok_odd_name F38 T ⟨F32, PySem.W.mg_of X G a32, b32⟩ glaw_take
    have glaw_odd_number : FnOk l.prog w K mg base CX0 _ f39 _ _ _ := ok_odd_number F39 T ⟨F32, PySem.W.mg_of X G a32, b32⟩ glaw_take
    have glaw_holds : GOk l.prog w K mg base CX0 _ f40 _ _ _ := ok_holds smN F40 T
    have glaw_names_right : GOk l.prog w K mg base CX0 _ f41 _ _ _ := ok_names_right smN F41 T ⟨F32, PySem.W.mg_of X G a32, b32⟩ glaw_take ⟨F38, PySem.W.mg_of X G a38, b38⟩ glaw_odd_name ⟨F37, PySem.W.mg_of X G a37, b37⟩ glaw_caught ⟨F40, PySem.W.mg_of X G a40, b40⟩ glaw_holds
    have glaw_numbers_right : GOk l.prog w K mg base CX0 _ f42 _ _ _ := ok_numbers_right F42 T ⟨F39, PySem.W.mg_of X G a39, b39⟩ glaw_odd_number ⟨F37, PySem.W.mg_of X G a37, b37⟩ glaw_caught ⟨F40, PySem.W.mg_of X G a40, b40⟩ glaw_holds
    exact (ok_law F43 T TC ⟨mkC, a15, i15, kcC⟩ (PySem.W.mg_of X G aC) b15 ginit ⟨F30, PySem.W.mg_of X G a30, b30⟩ glaw_cell ⟨F31, PySem.W.mg_of X G a31, b31⟩ glaw_box ⟨F34, PySem.W.mg_of X G a34, b34⟩ glaw_world ⟨F41, PySem.W.mg_of X G a41, b41⟩ glaw_names_right ⟨F42, PySem.W.mg_of X G a42, b42⟩ glaw_numbers_right ⟨F29, ⟨a29, i29, k29⟩, b29⟩ gtold)
end K5

open PySem PySem.W PyProof.Rows in
set_option maxRecDepth 100000 in
set_option maxHeartbeats 0 in
theorem PySem.Challenge.cw_onestaff_k05_what_is_asked_refused_holds : PySem.Challenge.rw_onestaff_k05_what_is_asked_refused.Holds := by
  w_on; o_law; k_head; (case hw => w_witness2)
  k_fill
  refine Gd.walk_m (no := by first | rfl | decide +kernel) (l := PySem.Challenge.rw_onestaff_k05_what_is_asked_refused) (n := 63) (k := 10) (x := "_law_script") (CX := fun _ => L2.CX0) rfl (by decide) rfl ⟨rfl, by decide, by decide⟩ (fun w h Y => PySem.W.kIn_of Y) ?F (fun _ _ _ _ _ z => z)
  case F =>
    intro w mg fa h Y KX G hmg em
    refine' K5.all_mk KX G hmg em ?QaC ?QpgC ?QhdC ?QpoC ?QsaC ?QmkC ?QkcC ?Qn0C ?Qn1C ?Qn2C ?Qn3C ?QaCP ?QxlCP ?QsaCP ?QgaCP ?QggCP ?QkcCP ?QexCP ?QtyCP ?QhdCP ?QicCP ?QcoCP ?QmoCP ?Qn0CP ?QaCT ?QxlCT ?QsaCT ?QgaCT ?QggCT ?QkcCT ?QexCT ?QtyCT ?QhdCT ?QicCT ?QcoCT ?QmoCT ?Qn0CT ?QaCL ?QxlCL ?QsaCL ?QgaCL ?QggCL ?QkcCL ?QexCL ?QtyCL ?QhdCL ?QicCL ?QcoCL ?QmoCL ?Qn0CL ?Qa1 ?Qi1 ?Ql1 ?Qc1 ?Qk1 ?Qa2 ?Qi2 ?Ql2 ?Qc2 ?Qk2 ?Qa3 ?Qi3 ?Ql3 ?Qc3 ?Qk3 ?Qa4 ?Qi4 ?Ql4 ?Qc4 ?Qk4 ?Qa5 ?Ql5 ?Qc5 ?Qk5 ?Qa6 ?Ql6 ?Qc6 ?Qk6 ?Qa7 ?Ql7 ?Qc7 ?Qk7 ?Qa8 ?Ql8 ?Qc8 ?Qk8 ?Qa9 ?Ql9 ?Qc9 ?Qk9 ?Qa10 ?Ql10 ?Qc10 ?Qk10 ?Qa11 ?Ql11 ?Qc11 ?Qk11 ?Qa12 ?Ql12 ?Qc12 ?Qk12 ?Qa13 ?Ql13 ?Qc13 ?Qk13 ?Qa14 ?Ql14 ?Qc14 ?Qk14 ?Qa15 ?Qi15 ?Ql15 ?Qc15 ?Qk15 ?Qa16 ?Qi16 ?Ql16 ?Qc16 ?Qk16 ?Qa17 ?Qi17 ?Ql17 ?Qc17 ?Qk17 ?Qa18 ?Qi18 ?Ql18 ?Qc18 ?Qk18 ?Qa19 ?Qi19 ?Ql19 ?Qc19 ?Qk19 ?Qa20 ?Qi20 ?Ql20 ?Qc20 ?Qk20 ?Qa21 ?Qi21 ?Ql21 ?Qc21 ?Qk21 ?Qa22 ?Qi22 ?Ql22 ?Qc22 ?Qk22 ?Qa23 ?Qi23 ?Ql23 ?Qc23 ?Qk23 ?Qa24 ?Qi24 ?Ql24 ?Qc24 ?Qk24 ?Qa25 ?Qi25 ?Ql25 ?Qc25 ?Qk25 ?Qa26 ?Qi26 ?Ql26 ?Qc26 ?Qk26 ?Qa27 ?Qi27 ?Ql27 ?Qc27 ?Qk27 ?Qa28 ?Qi28 ?Ql28 ?Qc28 ?Qk28 ?Qa29 ?Qi29 ?Ql29 ?Qc29 ?Qk29 ?Qa30 ?Ql30 ?Qc30 ?Qk30 ?Qa31 ?Ql31 ?Qc31 ?Qk31 ?Qa32 ?Ql32 ?Qc32 ?Qk32 ?Qa33 ?Ql33 ?Qc33 ?Qk33 ?Qa34 ?Ql34 ?Qc34 ?Qk34 ?Qa35 ?Ql35 ?Qc35 ?Qk35 ?Qa36 ?Ql36 ?Qc36 ?Qk36 ?Qa37 ?Ql37 ?Qc37 ?Qk37 ?Qa38 ?Ql38 ?Qc38 ?Qk38 ?Qa39 ?Ql39 ?Qc39 ?Qk39 ?Qa40 ?Ql40 ?Qc40 ?Qk40 ?Qa41 ?Ql41 ?Qc41 ?Qk41 ?Qa42 ?Ql42 ?Qc42 ?Qk42 ?Qa43 ?Ql43 ?Qc43 ?Qk43 ?QlT ?QoTd ?Qlco ?Qu11 ?Qntb ?Qhrec ?Qz0 ?Qz1 ?Qz2 ?Qz3 ?Qz4 ?Qz5 ?Qz6 ?Qz7 ?Qz8 ?Qz9 ?Qz10 ?Qz11 ?Qz12 ?Qz13 ?Qz14 ?Qz15 ?QaCS ?QgaCS ?QrdCS ?QatCS ?Qvi ?QxTP ?QxLP ?QxLT ?Qcg ?Qct ?QsmN
    (case QaC => k_is)
    (case QpgC => k_is)
    (case QhdC => k_is)
    (case QpoC => k_is)
    (case QsaC => k_is)
    (case QmkC => k_is)
    (case QkcC => k_is)
    (case Qn0C => k_is)
    (case Qn1C => k_is)
    (case Qn2C => k_is)
    (case Qn3C => k_is)
    (case QaCP => k_is)
    (case QxlCP => k_is)
    (case QsaCP => k_is)
    (case QgaCP => k_is)
    (case QggCP => k_is)
    (case QkcCP => k_is)
    (case QexCP => k_is)
    (case QtyCP => k_is)
    (case QhdCP => k_is)
    (case QicCP => k_is)
    (case QcoCP => k_is)
    (case QmoCP => k_is)
    (case Qn0CP => k_is)
    (case QaCT => k_is)
    (case QxlCT => k_is)
    (case QsaCT => k_is)
    (case QgaCT => k_is)
    (case QggCT => k_is)
    (case QkcCT => k_is)
    (case QexCT => k_is)
    (case QtyCT => k_is)
    (case QhdCT => k_is)
    (case QicCT => k_is)
    (case QcoCT => k_is)
    (case QmoCT => k_is)
    (case Qn0CT => k_is)
    (case QaCL => k_is)
    (case QxlCL => k_is)
    (case QsaCL => k_is)
    (case QgaCL => k_is)
    (case QggCL => k_is)
    (case QkcCL => k_is)
    (case QexCL => k_is)
    (case QtyCL => k_is)
    (case QhdCL => k_is)
    (case QicCL => k_is)
    (case QcoCL => k_is)
    (case QmoCL => k_is)
    (case Qn0CL => k_is)
    (case Qa1 => k_is)
    (case Qi1 => k_is)
    (case Ql1 => k_is)
    (case Qc1 => k_is)
    (case Qk1 => k_is)
    (case Qa2 => k_is)
    (case Qi2 => k_is)
    (case Ql2 => k_is)
    (case Qc2 => k_is)
    (case Qk2 => k_is)
    (case Qa3 => k_is)
    (case Qi3 => k_is)
    (case Ql3 => k_is)
    (case Qc3 => k_is)
    (case Qk3 => k_is)
    (case Qa4 => k_is)
    (case Qi4 => k_is)
    (case Ql4 => k_is)
    (case Qc4 => k_is)
    (case Qk4 => k_is)
    (case Qa5 => k_is)
    (case Ql5 => k_is)
    (case Qc5 => k_is)
    (case Qk5 => k_is)
    (case Qa6 => k_is)
    (case Ql6 => k_is)
    (case Qc6 => k_is)
    (case Qk6 => k_is)
    (case Qa7 => k_is)
    (case Ql7 => k_is)
    (case Qc7 => k_is)
    (case Qk7 => k_is)
    (case Qa8 => k_is)
    (case Ql8 => k_is)
    (case Qc8 => k_is)
    (case Qk8 => k_is)
    (case Qa9 => k_is)
    (case Ql9 => k_is)
    (case Qc9 => k_is)
    (case Qk9 => k_is)
    (case Qa10 => k_is)
    (case Ql10 => k_is)
    (case Qc10 => k_is)
    (case Qk10 => k_is)
    (case Qa11 => k_is)
    (case Ql11 => k_is)
    (case Qc11 => k_is)
    (case Qk11 => k_is)
    (case Qa12 => k_is)
    (case Ql12 => k_is)
    (case Qc12 => k_is)
    (case Qk12 => k_is)
    (case Qa13 => k_is)
    (case Ql13 => k_is)
    (case Qc13 => k_is)
    (case Qk13 => k_is)
    (case Qa14 => k_is)
    (case Ql14 => k_is)
    (case Qc14 => k_is)
    (case Qk14 => k_is)
    (case Qa15 => k_is)
    (case Qi15 => k_is)
    (case Ql15 => k_is)
    (case Qc15 => k_is)
    (case Qk15 => k_is)
    (case Qa16 => k_is)
    (case Qi16 => k_is)
    (case Ql16 => k_is)
    (case Qc16 => k_is)
    (case Qk16 => k_is)
    (case Qa17 => k_is)
    (case Qi17 => k_is)
    (case Ql17 => k_is)
    (case Qc17 => k_is)
    (case Qk17 => k_is)
    (case Qa18 => k_is)
    (case Qi18 => k_is)
    (case Ql18 => k_is)
    (case Qc18 => k_is)
    (case Qk18 => k_is)
    (case Qa19 => k_is)
    (case Qi19 => k_is)
    (case Ql19 => k_is)
    (case Qc19 => k_is)
    (case Qk19 => k_is)
    (case Qa20 => k_is)
    (case Qi20 => k_is)
    (case Ql20 => k_is)
    (case Qc20 => k_is)
    (case Qk20 => k_is)
    (case Qa21 => k_is)
    (case Qi21 => k_is)
    (case Ql21 => k_is)
    (case Qc21 => k_is)
    (case Qk21 => k_is)
    (case Qa22 => k_is)
    (case Qi22 => k_is)
    (case Ql22 => k_is)
    (case Qc22 => k_is)
    (case Qk22 => k_is)
    (case Qa23 => k_is)
    (case Qi23 => k_is)
    (case Ql23 => k_is)
    (case Qc23 => k_is)
    (case Qk23 => k_is)
    (case Qa24 => k_is)
    (case Qi24 => k_is)
    (case Ql24 => k_is)
    (case Qc24 => k_is)
    (case Qk24 => k_is)
    (case Qa25 => k_is)
    (case Qi25 => k_is)
    (case Ql25 => k_is)
    (case Qc25 => k_is)
    (case Qk25 => k_is)
    (case Qa26 => k_is)
    (case Qi26 => k_is)
    (case Ql26 => k_is)
    (case Qc26 => k_is)
    (case Qk26 => k_is)
    (case Qa27 => k_is)
    (case Qi27 => k_is)
    (case Ql27 => k_is)
    (case Qc27 => k_is)
    (case Qk27 => k_is)
    (case Qa28 => k_is)
    (case Qi28 => k_is)
    (case Ql28 => k_is)
    (case Qc28 => k_is)
    (case Qk28 => k_is)
    (case Qa29 => k_is)
    (case Qi29 => k_is)
    (case Ql29 => k_is)
    (case Qc29 => k_is)
    (case Qk29 => k_is)
    (case Qa30 => k_is)
    (case Ql30 => k_is)
    (case Qc30 => k_is)
    (case Qk30 => k_is)
    (case Qa31 => k_is)
    (case Ql31 => k_is)
    (case Qc31 => k_is)
    (case Qk31 => k_is)
    (case Qa32 => k_is)
    (case Ql32 => k_is)
    (case Qc32 => k_is)
    (case Qk32 => k_is)
    (case Qa33 => k_is)
    (case Ql33 => k_is)
    (case Qc33 => k_is)
    (case Qk33 => k_is)
    (case Qa34 => k_is)
    (case Ql34 => k_is)
    (case Qc34 => k_is)
    (case Qk34 => k_is)
    (case Qa35 => k_is)
    (case Ql35 => k_is)
    (case Qc35 => k_is)
    (case Qk35 => k_is)
    (case Qa36 => k_is)
    (case Ql36 => k_is)
    (case Qc36 => k_is)
    (case Qk36 => k_is)
    (case Qa37 => k_is)
    (case Ql37 => k_is)
    (case Qc37 => k_is)
    (case Qk37 => k_is)
    (case Qa38 => k_is)
    (case Ql38 => k_is)
    (case Qc38 => k_is)
    (case Qk38 => k_is)
    (case Qa39 => k_is)
    (case Ql39 => k_is)
    (case Qc39 => k_is)
    (case Qk39 => k_is)
    (case Qa40 => k_is)
    (case Ql40 => k_is)
    (case Qc40 => k_is)
    (case Qk40 => k_is)
    (case Qa41 => k_is)
    (case Ql41 => k_is)
    (case Qc41 => k_is)
    (case Qk41 => k_is)
    (case Qa42 => k_is)
    (case Ql42 => k_is)
    (case Qc42 => k_is)
    (case Qk42 => k_is)
    (case Qa43 => k_is)
    (case Ql43 => k_is)
    (case Qc43 => k_is)
    (case Qk43 => k_is)
    (case QlT => k_is)
    (case QoTd => rfl)
    (case Qlco => k_is)
    (case Qu11 => rfl)
    (case Qntb => rfl)
    (case Qhrec => decide +kernel)
    (case Qz0 => k_is)
    (case Qz1 => k_is)
    (case Qz2 => k_is)
    (case Qz3 => k_is)
    (case Qz4 => k_is)
    (case Qz5 => k_is)
    (case Qz6 => k_is)
    (case Qz7 => k_is)
    (case Qz8 => k_is)
    (case Qz9 => k_is)
    (case Qz10 => k_is)
    (case Qz11 => k_is)
    (case Qz12 => k_is)
    (case Qz13 => k_is)
    (case Qz14 => k_is)
    (case Qz15 => k_is)
    (case QaCS => k_is)
    (case QgaCS => k_is)
    (case QrdCS => k_is)
    (case QatCS => k_is)
    (case Qvi => k_is)
    (case QxTP => first | kit_is | kernel_rfl | k_is)
    (case QxLP => first | kit_is | kernel_rfl | k_is)
    (case QxLT => first | kit_is | kernel_rfl | k_is)
    (case Qcg => k_is)
    (case Qct => k_is)
    (case QsmN => first | rfl | kernel_rfl)

