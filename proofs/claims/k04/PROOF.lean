import PyProof.Rows.All
import Wide.All
import OpenK.AllK
import Wide.FinOn
import PyProof.EqAt
import PyProof.EqKinds
import PyProof.TupleCall
import HandS.Base
import HandS.Call
import HandS.List
import HandS.Comp
import HandS.Ends
import HandS.Text
import HandS.Exc
import HandS.Words
import HandS.WordsList
import HandS.Iter
import HandS.Dict
import HandS.Wide
import HandS.IsInst
import HandS.AnyAll
import HandS.EndBits
import HandS.EndTab
import KE.GoesMore
import KE.GoesEnum
import HandS.Walk
import HandS.DictComp
import HandS.TryMany
import HandS.ExcOwn
import HandS.WordsExc
import HandS.ExcInit
import HandS.ExcField
import HandS.ExcIs
import KE.KExcIs
import KE.KIsAll
import KE.KEqDict
import PyProof.Rows.RegFStrParts
import PyProof.Rows.ReprShort
import KE.KxIndex
import HandS.TupAny
import PyProof.NeKinds
import HandS.Evl
import PySem.Challenge.RW_onestaff_k04_lines_refused
set_option Elab.async false
set_option linter.all false
set_option maxRecDepth 100000
set_option maxHeartbeats 4000000
/-! Defs that show lists and tuples: they run where no display is under way. -/
namespace Gd
open PySem PySem.Spec PyProof.Rows L2

/-- a def's promise, kept wherever no display is under way -/
structure GOk (P : Program) (w : World) (K : PySem.W.Frag) (mg : Str → Option Value) (base : Heap) (CX : CXT) (k : Nat) (f : Addr) (fd : FuncData) (ps : List Str) (sp : Sp) : Prop where
  size : ∀ vs H Q E, sp vs H Q E → vs.length = ps.length
  go : ∀ (A : Around) (out : List Env) (s : Shared) (H : Hp) (ar : Args) (us : List Value) (vs : List V) (Q : VK) (E : XK), A.guards = some [] →
    Room k A → Env0 P w K mg base A out s H → BindsTo s fd ar (ps.zip us) → Vals vs us → sp vs H Q E →
    codeAny (model P w) A (.call (.ref f) ar) (CR CX out P w H s Q E) s

section
variable {P : Program} {w : World} {K : PySem.W.Frag} {mg : Str → Option Value} {base : Heap}

/-- by its body -/
theorem gok_body {CX : CXT} {k : Nat} {x qual : Str} {st : Stmt} {f : Addr} {fd : FuncData} {N ps : List Str} {sp : Sp} (F : Fun K x qual st f fd) (S : FnScope N ps (defScope st))
    (size : ∀ vs H Q E, sp vs H Q E → vs.length = ps.length)
    (body : ∀ (cd : Value) (A : Around) (out : List Env) (s : Shared) (H : Hp) (vs : List V) (Q : VK) (E : XK), A.guards = some [] →
      Room k (A.deeper (envOfC qual (defScope st) s.heap.objs.size f cd)) → sp vs H Q E →
      ∃ t, PSs (cxOf CX P w K mg base N qual (defScope st) f cd A out s H E) (defBody st) t ∧ t { nx := fun _ H' => Q .non H', rt := Q } (start N vs) H) :
    GOk P w K mg base CX (k + 1) f fd ps sp := by
  obtain ⟨oc, od, kV, doc, pm, an, cd, ct, osl, rfl, lk, hcd⟩ := F.ex
  refine ⟨size, fun A out s H ar us vs Q E gd hr e0 hb r hsp => ?_⟩
  have hl := size _ _ _ _ hsp
  have KX : K.In s.heap := e0.mod.kin.keeps fun b o z => (e0.bs b o z).1
  have kinds : ∀ y ∈ ps.zip us, (defScope st).names.lookup y.1 = some .local ∨
      ((defScope st).names.lookup y.1 = some .cell ∧ ((cellsFrom (s.heap.objs.size + 1) (defScope st).names []).lookup y.1).isSome = true) := by
    rintro ⟨n, v⟩ hy
    have hm := (List.of_mem_zip hy).1
    cases S.par n hm with
    | inl q => exact .inl q
    | inr q => exact .inr ⟨q, PySem.W.cellsFrom_some _ _ _ (.inl q)⟩
  have Z := PySem.W.codeRec_of KX hcd
  refine codeAny_call_function hr.depth (KX _ _ lk) rfl S.co S.gen rfl Z (hb _ _ _ _ ?_)
  refine wpAny_newFunctionEnv_cells S.kind kinds fun env he s1 ic => ?_
  subst he
  have lim : s.heap.NoLimit := e0.mod.nolimit.keeps fun b o z => (e0.bs b o z).1
  refine ⟨lim.keeps ic.toInCall.keep, codeAny_func ?_⟩
  obtain ⟨t, ht, hq⟩ := body cd A out s H vs Q E gd (hr.deeper _) hsp
  have I := inv_start (CX := CX) (E := E) S hr.hd e0 hl r ic
  refine wpAny_mono (ht.run [] s1 (start N vs) H _ I hq) ?_ (fun _ _ z => z)
  intro fl s' hs
  cases fl with
  | brk => obtain ⟨_, _, _, q⟩ := hs; exact q.elim
  | cont => obtain ⟨_, _, _, q⟩ := hs; exact q.elim
  | next =>
    obtain ⟨σ', H', J, q⟩ := hs
    exact ⟨V.non, H', J.os, J.bare, J.base, J.hok, rfl, q⟩
  | ret u =>
    obtain ⟨v, σ', H', J, rv, q⟩ := hs
    exact ⟨v, H', J.os, J.bare, J.base, J.hok, rv, q⟩
/-- the same where nothing is raised -/
theorem gok {k : Nat} {x qual : Str} {st : Stmt} {f : Addr} {fd : FuncData} {N ps : List Str} {sp : Sp} (F : Fun K x qual st f fd) (S : FnScope N ps (defScope st))
    (size : ∀ vs H Q E, sp vs H Q E → vs.length = ps.length)
    (body : ∀ (cd : Value) (A : Around) (out : List Env) (s : Shared) (H : Hp) (vs : List V) (Q : VK) (E : XK), A.guards = some [] →
      Room k (A.deeper (envOfC qual (defScope st) s.heap.objs.size f cd)) → sp vs H Q E →
      ∃ t, PSs (cxOf CX0 P w K mg base N qual (defScope st) f cd A out s H E).nox (defBody st) t ∧ t { nx := fun _ H' => Q .non H', rt := Q } (start N vs) H) :
    GOk P w K mg base CX0 (k + 1) f fd ps sp := by
  refine gok_body F S size fun cd A out s H vs Q E gd hr q => ?_
  obtain ⟨t, h, z⟩ := body cd A out s H vs Q E gd hr q
  exact ⟨t, h.nox, z⟩
theorem GOk.mono {CX : CXT} {j k : Nat} {f : Addr} {fd : FuncData} {ps : List Str} {sp : Sp} (F : GOk P w K mg base CX j f fd ps sp) (h : j ≤ k) : GOk P w K mg base CX k f fd ps sp :=
  ⟨F.size, fun A out s H ar us vs Q E gd hr => F.go A out s H ar us vs Q E gd (hr.mono h)⟩
theorem gok_of {CX : CXT} {k : Nat} {f : Addr} {fd : FuncData} {ps : List Str} {sp : Sp} (F : FnOk P w K mg base CX k f fd ps sp) : GOk P w K mg base CX k f fd ps sp :=
  ⟨F.len, fun A out s H ar us vs Q E _ hr => F.run A out s H ar us vs Q E hr⟩
end

section
variable {X : Cx} {CX : CXT} {k : Nat} {f : Addr} {fd : FuncData} {ps : List Str} {sp : Sp} {dvs : List V} {ds : List Value} {E : XK} {x : Str} {p pos : Pos} {e : Expr} {es : List Expr} {t : TA}
/-- f(e, ..), f such a def, from a body of such a def -/
theorem pe_gcall (gd : X.A.guards = some []) (F : GOk X.prog X.w X.K X.mg X.base CX k f fd ps sp) (hr : Room k X.A) (hg : Gl X x) (hm : X.mg x = some (.ref f)) (hk : PySem.W.keepIn X.K (.ref f) = true)
    (hb : Binds X.K fd ps ds) (hd : Vals dvs ds) (hx : Passes CX X E) (ha : PA X (e :: es) t) (hdb : (x == ("__debug__" : Str)) = false := by decide)
    (he : starEach (e :: es) X.env = (false, eval e X.env) :: starEach es X.env := by rfl) (hpl : (backTo pos (starEach es X.env)).any (·.1) = false := by rfl) :
    PE X (.Call (.Name x p) (e :: es) [] pos) (tCall sp dvs E t) := by
  refine ⟨fun pins s σ H Q I h => wpAny_Call_Name_kw (ld_glob I hg hm ?_ hdb)⟩
  have A1 := ha.run pos pins s σ H _ I h
  refine PySem.W.callWith_K (h₀ := X.base) I.ok.mod.kin hk (thn A1 ?_) he hpl
  rintro us s1 ⟨vs, H1, I1, r, q⟩
  refine ⟨I1.kIn, ?_⟩
  have both := r.append hd
  have hl : (us ++ ds).length = ps.length := (both.length).symm.trans (F.size _ _ _ _ q)
  have run1 := F.go X.A X.stack s1 H1 ⟨us, []⟩ (us ++ ds) (vs ++ dvs) Q E gd hr I1.env0 (hb s1 us I1.kIn hl) both q
  refine wpAny_call (codeAny_mono run1 ?_)
  intro res s' hq
  match res, hq with
  | .error e, hq => exact hx pins σ H1 s1 e s' I1 hq
  | .ok (.ret u), hq => exact I1.after hq
  | .ok .next, hq => exact hq.elim
  | .ok .brk, hq => exact hq.elim
  | .ok .cont, hq => exact hq.elim

/-! ### repr of data -/
mutual
theorem dp_noDict {K : PySem.W.Frag} {H : Hp} : ∀ {v : V} {d : PyData}, Dp K H v d → d.hasDict = false
  | _, _, .non => by simp only [PyData.hasDict]
  | _, _, .bl _ => by simp only [PyData.hasDict]
  | _, _, .int _ => by simp only [PyData.hasDict]
  | _, _, .str _ => by simp only [PyData.hasDict]
  | _, _, .lst _ h => by simp only [PyData.hasDict]; exact dpAll_noDict h
  | _, _, .tup _ h => by simp only [PyData.hasDict]; exact dpAll_noDict h
theorem dpAll_noDict {K : PySem.W.Frag} {H : Hp} : ∀ {vs : List V} {ds : List PyData}, DpAll K H vs ds → PyData.hasDictAll ds = false
  | _, _, .nil => by simp only [PyData.hasDictAll]
  | _, _, .cons h t => by simp only [PyData.hasDictAll, dp_noDict h, dpAll_noDict t, Bool.or_self]
end
/-- repr(v), v some data d -/
def rRepr (K : PySem.W.Frag) : List V → Hp → VK → Prop := fun xs H Q => ∃ v d, xs = [v] ∧ Dp K H v d ∧ d.showable = true ∧ d.depth ≤ 100 ∧ d.shown.length ≤ sizeLine ∧ Q (.str d.shown) H
theorem call_repr (gd : X.A.guards = some []) (hr : Room k X.A) : CallR X (.builtin "repr") (rRepr X.K) := by
  intro pins s σ H xs us Q I r h
  obtain ⟨v, d, rfl, dp, hs, hdep, hsz, q⟩ := h
  cases r with
  | cons rv rn =>
    cases rn
    have hun := hr.un
    cases dp with
    | non =>
      cases rv
      refine PySem.P.repr_of_none ⟨.str _, H, I.tok _, ⟨_, rfl⟩, ?_⟩
      simpa only [PyData.shown] using q
    | bl b =>
      cases rv
      refine PySem.P.repr_of_bool ⟨.str _, H, I.tok _, ⟨_, rfl⟩, ?_⟩
      simpa only [PyData.shown] using q
    | int i =>
      obtain ⟨t, rfl⟩ := rv
      refine PySem.P.repr_of_int (by simpa [PyData.showable] using hs) ⟨.str _, H, I.tok _, ⟨_, rfl⟩, ?_⟩
      simpa only [PyData.shown] using q
    | str z =>
      obtain ⟨t, rfl⟩ := rv
      refine PySem.P.repr_of_str ⟨.str _, H, I.tok _, ⟨_, rfl⟩, ?_⟩ (by simpa only [PyData.shown] using hsz)
      simpa only [PyData.shown] using q
    | lst hl ha =>
      cases rv
      obtain ⟨as, rd⟩ := Dp.reads I _ _ _ (.lst hl ha) rfl
      refine repr_of_reads' rd hs (PyData.noDict_hsm (dp_noDict (.lst hl ha))) gd (by omega) (fun _ _ z => z) (fun h' u tk hk => ?_) hsz
      exact ⟨.str _, H, I.kept hk, ⟨_, rfl⟩, q⟩
    | tup hl ha =>
      cases rv
      obtain ⟨as, rd⟩ := Dp.reads I _ _ _ (.tup hl ha) rfl
      refine repr_of_reads' rd hs (PyData.noDict_hsm (dp_noDict (.tup hl ha))) gd (by omega) (fun _ _ z => z) (fun h' u tk hk => ?_) hsz
      exact ⟨.str _, H, I.kept hk, ⟨_, rfl⟩, q⟩
end
end Gd

set_option maxRecDepth 100000
set_option maxHeartbeats 4000000
/-! The end of a law whose own def shows data: no display is under way at its call. -/
namespace Gd
open PySem PySem.Spec PyProof.Rows L2 GxR

/-- the script's own object -/
def scriptO (vs : List Value) : Obj := { cls := .type "list", data := .seq vs.toArray }
def tabO : Obj := { cls := .none, data := .fields #[] }
open Classical in
/-- what is tracked at the law's call: the script (where the written part hasn't it), the tables -/
noncomputable def h0 (K : PySem.W.Frag) (a : Addr) (vs : List Value) (ns : List Int) (T : List Addr) : Hp := fun b =>
  if b = a ∧ K.lookup a = none then some (.frz (scriptO vs) (.lst (ns.map V.int))) else if b ∈ T then some (.tbl #[]) else none

theorem h0_inv {K : PySem.W.Frag} {a b : Addr} {vs : List Value} {ns : List Int} {T : List Addr} {u : HO} (h : h0 K a vs ns T b = some u) :
    (b = a ∧ K.lookup a = none ∧ u = .frz (scriptO vs) (.lst (ns.map V.int))) ∨ (b ∈ T ∧ u = .tbl #[]) := by
  unfold h0 at h
  by_cases c1 : b = a ∧ K.lookup a = none
  · rw [if_pos c1] at h
    exact .inl ⟨c1.1, c1.2, (Option.some.inj h).symm⟩
  · rw [if_neg c1] at h
    by_cases c2 : b ∈ T
    · rw [if_pos c2] at h
      exact .inr ⟨c2, (Option.some.inj h).symm⟩
    · rw [if_neg c2] at h
      cases h

section
variable {P : Program} {w : World} {K : PySem.W.Frag} {mg mb : Str → Option Value} {CX : CXT} {k : Nat} {fa a : Addr} {cs : List (Addr × Addr)} {fd : FuncData} {x : Str} {sp : Sp} {s1 : Shared} {vs : List Value} {ns : List Int}
theorem law_gcall (KX : K.In s1.heap) (nsG : s1.heap.Ns mainGlobals mg) (nsB : s1.heap.Ns builtinsNs mb) (isB : ∀ x : Str, x ≠ "__name__" → mb x = bootBuiltins x) (lim : s1.heap.NoLimit) (gens : s1.gens = #[])
    (tabs : ∀ p ∈ cs, s1.heap.get? p.2 = some tabO) (tabK : ∀ p ∈ cs, K.lookup p.2 = none) (codes : ∀ p ∈ cs, PySem.W.CodeHd s1.heap p.1 p.2)
    (bmain : ∃ (bm : Addr) (ob : Obj), mg "__builtins__" = some (.ref bm) ∧ bm ≠ builtinsNs ∧ s1.heap.get? bm = some ob ∧ ob.cls = .type "module" ∧ ob.dict = some builtinsNs ∧ ob.data = .plain)
    (ha : s1.heap.get? a = some (scriptO vs)) (hi : IntsAre vs ns) (hl : ns.length ≤ sizeLine) (hr : Room k callerA)
    (F : ∀ base : Heap, K.In base → base.Ns mainGlobals mg → (∀ p ∈ cs, TabB base mg p.1 p.2) → GOk P w K mg base CX k fa fd [x] sp)
    (hbind : ∀ (s : Shared) (u : Value), BindsTo s fd ⟨[u], []⟩ [(x, u)])
    (hsp : ∀ H : Hp, (∀ p ∈ cs, H p.2 = some (.tbl #[])) → SqL K H a (ns.map V.int) → sp [.ref a] H (fun v _ => v = .bl true) fun _ _ _ => False)
    (hCX : ∀ H e s', CX [] H s1 (fun _ _ _ => False) e s' → False) :
    codeAny (model P w) callerA (.call (.ref fa) ⟨[.ref a], []⟩) (fun r s' => r = .ok (.ret (.bool true)) ∧ OldK s1.heap s'.heap ∧ s'.os = s1.os ∧ AllBare s'.gens) s1 := by
  have rv := vals_ints hi
  have hlen := hi.length
  let T := cs.map Prod.snd
  have inT : ∀ p ∈ cs, p.2 ∈ T := fun p hp => List.mem_map.mpr ⟨p, hp, rfl⟩
  have ofT : ∀ b ∈ T, s1.heap.get? b = some tabO ∧ K.lookup b = none := by
    intro b hb
    obtain ⟨p, hp, rfl⟩ := List.mem_map.mp hb
    exact ⟨tabs p hp, tabK p hp⟩
  have neT : a ∉ T := fun z => by
    have q := (ofT a z).1
    rw [ha] at q
    cases q
  let H := h0 K a vs ns T
  -- a tracked object is the script or a table
  have seen : ∀ {b : Addr} {o : Obj}, s1.heap.get? b = some o → (∀ us n, o.data ≠ .seq us n) → o.data ≠ .fields #[] → H b = none := by
    intro b o e n1 n2
    cases q : H b with
    | none => rfl
    | some u =>
      exfalso
      rcases h0_inv q with ⟨rfl, _, _⟩ | ⟨hb, _⟩
      · rw [ha] at e
        cases e
        exact n1 _ _ rfl
      · rw [(ofT b hb).1] at e
        cases e
        exact n2 rfl
  have keepHid : ∀ {b : Addr} {o : Obj}, s1.heap.get? b = some o → H b = none → (hidT s1.heap H).get? b = some o := fun e n => hidT_get e n
  have dictHid : ∀ {b : Addr} {o : Obj} {es : Array DictEntry} {ep : Nat}, s1.heap.get? b = some o → o.data = .dict es ep → (hidT s1.heap H).get? b = some o := by
    intro b o es ep e d
    refine keepHid e (seen e (fun us n z => ?_) fun z => ?_) <;> (rw [d] at z; cases z)
  have nsHid : ∀ {b : Addr} {m : Str → Option Value}, s1.heap.Ns b m → (hidT s1.heap H).Ns b m := by
    rintro b m ⟨o, es, ep, e, d, rest⟩
    exact ⟨o, es, ep, dictHid e d, d, rest⟩
  have KH : K.In (hidT s1.heap H) := by
    intro b o e
    refine keepHid (KX b o e) ?_
    cases q : H b with
    | none => rfl
    | some u =>
      exfalso
      rcases h0_inv q with ⟨rfl, z, _⟩ | ⟨hb, _⟩
      · rw [z] at e
        cases e
      · rw [(ofT b hb).2] at e
        cases e
  have limH : (hidT s1.heap H).NoLimit := by
    obtain ⟨mc, h1, h2⟩ := lim
    exact ⟨mc, nsHid h1, h2⟩
  have M : L2.Mod K mg (hidT s1.heap H) := ⟨KH, nsHid nsG, ⟨mb, nsHid nsB, isB⟩, limH⟩
  have TB : ∀ p ∈ cs, TabB (hidT s1.heap H) mg p.1 p.2 := by
    intro p hp
    have tp := tabs p hp
    refine ⟨?_, ?_, ?_⟩
    · obtain ⟨o, us, file, tf, flags, tg, inF, text, tt, e1, r1, r2, r3, rest⟩ := codes p hp
      refine ⟨o, us, file, tf, flags, tg, inF, text, tt, keepHid e1 (seen e1 (fun vs n z => ?_) fun z => ?_), r1, r2, r3, rest⟩
      · rw [r2] at z
        cases z
      · rw [r2] at z
        cases z
        simp at r3
    · obtain ⟨bm, ob, b1, b2, b3, b4, b5, b6⟩ := bmain
      have g1 : bm ≠ mainGlobals := by
        rintro rfl
        obtain ⟨o, es, ep, e, d, _⟩ := nsG
        rw [b3] at e
        cases e
        rw [b6] at d
        cases d
      have g2 : bm ≠ p.2 := by
        rintro rfl
        rw [tp] at b3
        cases b3
        cases b6
      refine ⟨bm, ob, b1, b2, g1, g2, keepHid b3 (seen b3 (fun vs n z => ?_) fun z => ?_), b4, b5, b6⟩ <;> (rw [b6] at z; cases z)
    · intro z
      obtain ⟨o, es, ep, e, d, _⟩ := nsG
      rw [z, tp] at e
      cases e
      cases d
  have hH : ∀ p ∈ cs, H p.2 = some (.tbl #[]) := by
    intro p hp
    have n1 : ¬ (p.2 = a ∧ K.lookup a = none) := fun z => neT (z.1 ▸ inT p hp)
    exact (if_neg n1).trans (if_pos (inT p hp))
  have hS : SqL K H a (ns.map V.int) := by
    cases q : K.lookup a with
    | none => exact .inl (.inr ⟨scriptO vs, if_pos ⟨rfl, q⟩⟩)
    | some o =>
      have e := KX a o q
      rw [ha] at e
      cases e
      exact .inr ⟨_, vs.toArray, _, q, rfl, rfl, rfl, by rw [List.size_toArray, hlen]; exact hl, by simpa using rv⟩
  have hok : HOk P w H s1.heap := by
    intro b u q
    rcases h0_inv q with ⟨rfl, _, rfl⟩ | ⟨hb, rfl⟩
    · exact ⟨ha, by rw [List.length_map]; exact hl, vs, _, rv, ha⟩
    · exact (ofT b hb).1
  have e0 : Env0 P w K mg (hidT s1.heap H) callerA [] s1 H :=
    ⟨rfl, M, fun b o e => of_hidT e, Nat.le_of_eq (hidT_size _ _), trivial, (fun b hb => by cases (show b ∈ ([] : List Addr) from hb)), hok, .of_eq gens⟩
  have run := (F _ KH (nsHid nsG) TB).go callerA [] s1 H ⟨[.ref a], []⟩ [.ref a] [.ref a] (fun v _ => v = .bl true) (fun _ _ _ => False) rfl hr e0 (hbind s1 (.ref a)) (.cons rfl .nil) (hsp H hH hS)
  refine codeAny_mono run ?_
  intro r s' h
  match r, h with
  | .error e, h => exact (hCX H e s' h).elim
  | .ok .next, h => exact h.elim
  | .ok .brk, h => exact h.elim
  | .ok .cont, h => exact h.elim
  | .ok (.ret u), h =>
    obtain ⟨v, H', os, bare, un, hok', r', q⟩ := h
    obtain rfl : v = .bl true := q
    obtain rfl : u = Value.bool true := r'
    have plain : ∀ b o, b ∉ T → s1.heap.get? b = some o → s'.heap.get? b = some o := by
      intro b o nb e
      cases q : H b with
      | none => exact un.keep b o e q (fun z => by cases (show b ∈ ([] : List Addr) from z)) (by simp)
      | some y =>
        rcases h0_inv q with ⟨rfl, _, rfl⟩ | ⟨hb, _⟩
        · obtain ⟨e2, _⟩ := hok' b _ (un.frzs b _ _ q)
          rw [ha] at e
          cases e
          exact e2
        · exact absurd hb nb
    have grown : ∀ p ∈ cs, ∃ more : Array Value, s'.heap.get? p.2 = some { cls := .none, data := .fields more } := by
      intro p hp
      obtain ⟨more, z⟩ := un.tbls p.2 #[] (hH p hp)
      exact ⟨_, hok' p.2 _ z⟩
    refine ⟨rfl, ⟨fun b o e => ?_, fun b o e => ?_⟩, os, bare⟩ <;> by_cases hb : b ∈ T
    · obtain ⟨p, hp, rfl⟩ := List.mem_map.mp hb
      obtain ⟨more, hm⟩ := grown p hp
      rw [tabs p hp] at e
      cases e
      exact .inr (.inl ⟨((codes p hp).tab (tabs p hp)).isCodeTable, rfl, #[], more, rfl, by rw [Array.empty_append]; exact hm⟩)
    · exact .inl (plain b o hb e)
    · obtain ⟨p, hp, rfl⟩ := List.mem_map.mp hb
      obtain ⟨more, hm⟩ := grown p hp
      exact ⟨_, hm⟩
    · exact ⟨o, plain b o hb e⟩
end

/-- the tables of the text's own defs are empty behind the top -/
def Empt (q : Program) (K : PySem.W.Frag) (h : Heap) : Prop := ∀ (x : Str) (f c t : Addr) (o : Obj) (fd : FuncData) (e : Value) (dd : Option Addr) (us : Array Value) (sl : Array (Option Value)),
  ((PyProof.Rows.recsOf q).any fun r => r.name == x) = true → PySem.W.nsIn K mainGlobals x = some (some (.ref f)) → K.lookup f = some o → o.data = .func fd → fd.code = .ref c →
  K.lookup c = some ⟨e, dd, .fields us, sl⟩ → us[11]? = some (.ref t) → PySem.W.CodeHd h c t ∧ h.get? t = some tabO
/-- what is to be known of the law at the head's heap -/
def GLaw (l : PySem.W.OpenLaw) (w : World) (K : PySem.W.Frag) (CX : CXT) (k n : Nat) (x : Str) (mg : Str → Option Value) (fa : Addr) (h : Heap) : Prop :=
  ∃ (fd : FuncData) (cs : List (Addr × Addr)) (sp : Sp), (∀ p ∈ cs, h.get? p.2 = some tabO) ∧ (∀ p ∈ cs, K.lookup p.2 = none) ∧ (∀ p ∈ cs, PySem.W.CodeHd h p.1 p.2) ∧
    (∀ (s : Shared) (u : Value), BindsTo s fd ⟨[u], []⟩ [(x, u)]) ∧
    (∀ (H : Hp) (a : Addr) (ns : List Int), ns.length ≤ n → (∀ z ∈ ns, Builtin.Int.intBits z ≤ 1048576) → (∀ p ∈ cs, H p.2 = some (.tbl #[])) → SqL K H a (ns.map V.int) →
      sp [.ref a] H (fun v _ => v = .bl true) fun _ _ _ => False) ∧
    ∀ base : Heap, K.In base → base.Ns mainGlobals mg → (∀ p ∈ cs, TabB base mg p.1 p.2) → GOk l.prog w K mg base CX k fa fd [x] sp
theorem walk_g {l : PySem.W.OpenLaw} {n k : Nat} {q : Program} {loose : List Str} {XP : (Str → Option Value) → Heap → Prop} {YP : World → Heap → Prop} {d : DefRec} {K : Params → PySem.W.Frag} {CX : World → CXT} {x : Str}
    (hn : l.most = some n) (small : n ≤ sizeLine) (hdf : d.params.defaults = []) (hr : Room k callerA) (hY : ∀ (w : World) (h : Heap), YP w h → (K w.params).In h)
    (F : ∀ (w : World) (mg : Str → Option Value) (fa : Addr) (h : Heap), YP w h → (K w.params).In h → h.Ns mainGlobals mg → mg d.name = some (.ref fa) → Empt q (K w.params) h → GLaw l w (K w.params) (CX w) k n x mg fa h)
    (hCX : ∀ (w : World) (H : Hp) (s : Shared) (e : Value) (s' : Shared), CX w [] H s (fun _ _ _ => False) e s' → False) :
    PySem.W.WalkO q loose XP YP l.row.toRowW d [] (fun f vs => PySem.call f vs) := by
  refine Att.attach_callB hn hdf ?_
  intro w sA s1 mg mb fa o pm cd doc a vs ns G Y ho hd hcd hmg hobj hints hlen hbits hg
  have KX := hY w _ Y
  have em : Empt q (K w.params) s1.heap := by
    intro x f c t o1 fd1 e dd us sl hx k1 k2 k3 k4 k5 k6
    obtain ⟨r, hr1, hr2⟩ := List.any_eq_true.mp hx
    have hn1 : r.name = x := beq_iff_eq.mp hr2
    obtain ⟨a1, o2, fd2, c2, t2, y1, y2, y3, y4, y5, y6⟩ := G.T.tab r hr1
    have z1 := PySem.W.mg_of KX G.T.g k1
    rw [hn1, z1] at y1
    cases y1
    have z2 := KX _ _ k2
    rw [z2] at y2
    cases y2
    rw [k3] at y3
    cases y3
    rw [k4] at y4
    cases y4
    have y6b := y6
    obtain ⟨⟨oc, vc, e1, e2, e3, e4⟩, hP⟩ := y6b
    have z5 := KX _ _ k5
    rw [z5] at e1
    cases e1
    cases e3
    rw [k6] at e4
    cases e4
    exact ⟨PySem.W.CodeHd.of y5 y6, hP⟩
  obtain ⟨fd, cs, sp, t1, t2, t3, hb, hsp, hF⟩ := F w mg fa _ Y KX G.T.g hmg em
  exact law_gcall KX G.T.g G.T.b G.T.builtins G.T.nolimit hg t1 t2 t3 G.T.bmain hobj hints (Nat.le_trans hlen small) hr hF hb (fun H a1 a2 => hsp H a ns hlen hbits a1 a2) (fun H e s' => hCX w H s1 e s')
end Gd

set_option maxRecDepth 100000
set_option maxHeartbeats 4000000
/-! Things, boxes, texts: what the laws share, over no program. -/
namespace My
open PySem PySem.Spec PyProof.Rows L2 GxR Gd TL
/-! ### things -/
def Good (z : Str) : Prop := ∀ c ∈ z.cps.toList, c < 1114112
inductive Th (H : Hp) : V → Prop
  | non : Th H .non
  | bl (b : Bool) : Th H (.bl b)
  | int (i : Int) : Th H (.int i)
  | str (z : Str) (h : z.length ≤ 1000000) (g : Good z) : Th H (.str z)
  | lst (a : Addr) (xs : List V) (h : H a = some (.lst xs)) : Th H (.ref a)
  | tup (a : Addr) (xs : List V) (h : H a = some (.tup xs)) : Th H (.ref a)
  | dic (a : Addr) {kvs : List (Key × V)} (h : H a = some (.dK kvs)) : Th H (.ref a)
def lc (c : Nat) : Bool := decide (97 ≤ c) && decide (c ≤ 122)
def nm : V → Bool
  | .str z => decide (1 ≤ z.length) && decide (z.length ≤ 6) && z.cps.toList.all lc
  | _ => false
def wh (lo hi : Int) : V → Bool
  | .int i => decide (lo ≤ i) && decide (i ≤ hi)
  | _ => false
/-- its kind -/
theorem Th.ty {K : PySem.W.Frag} {H : Hp} {v : V} (h : Th H v) : ∃ t, TyX K H v (.type t) ∧
    ((∃ i, v = .int i ∧ t = "int") ∨ (∃ b, v = .bl b ∧ t = "bool") ∨ (∃ z, v = .str z ∧ (z.length ≤ 1000000 ∧ Good z) ∧ t = "str") ∨
     ((∀ i, v ≠ .int i) ∧ (∀ b, v ≠ .bl b) ∧ (∀ z, v ≠ .str z) ∧ (t = "NoneType" ∨ t = "list" ∨ t = "tuple" ∨ t = "dict"))) := by
  cases h with
  | non => exact ⟨_, .base .non, .inr (.inr (.inr ⟨by simp, by simp, by simp, .inl rfl⟩))⟩
  | bl b => exact ⟨_, .base (.bl b), .inr (.inl ⟨b, rfl, rfl⟩)⟩
  | int i => exact ⟨_, .base (.int i), .inl ⟨i, rfl, rfl⟩⟩
  | str z h g => exact ⟨_, .base (.str z), .inr (.inr (.inl ⟨z, rfl, ⟨h, g⟩, rfl⟩))⟩
  | lst a xs h => exact ⟨_, .base (.lst h), .inr (.inr (.inr ⟨by simp, by simp, by simp, .inr (.inl rfl)⟩))⟩
  | tup a xs h => exact ⟨_, .base (.tup h), .inr (.inr (.inr ⟨by simp, by simp, by simp, .inr (.inr (.inl rfl))⟩))⟩
  | dic a h => exact ⟨_, .base (.dK h), .inr (.inr (.inr ⟨by simp, by simp, by simp, .inr (.inr (.inr rfl))⟩))⟩
/-- all but the table stays -/
structure KT (P : Addr) (H H' : Hp) : Prop where
  keep : ∀ c o, c ≠ P → H c = some o → H' c = some o
  tab : TabG H' P
theorem TabG.at {H : Hp} {P : Addr} (t : TabG H P) : ∃ ps, H P = some (.tbl ps) := let ⟨ps, h, _⟩ := t; ⟨ps, h⟩
theorem ne_tab {H : Hp} {P a : Addr} {o : HO} (t : TabG H P) (h : H a = some o) (n : ∀ ps, o ≠ .tbl ps) : a ≠ P := by
  rintro rfl
  obtain ⟨ps, e⟩ := TabG.at t
  rw [h] at e
  exact n ps (Option.some.inj e)
theorem KT.refl {P : Addr} {H : Hp} (t : TabG H P) : KT P H H := ⟨fun _ _ _ h => h, t⟩
theorem KT.trans {P : Addr} {H H1 H2 : Hp} (a : KT P H H1) (b : KT P H1 H2) : KT P H H2 := ⟨fun c o n h => b.keep c o n (a.keep c o n h), b.tab⟩
theorem KT.of {P : Addr} {H H' : Hp} (t : Tabbed P H H') : KT P H H' := ⟨fun c o n h => by rw [t.2 c n]; exact h, t.1⟩
theorem KT.alloc {P p : Addr} {H : Hp} {o : HO} (t : TabG H P) (n : H p = none) : KT P H (upd H p o) := by
  obtain ⟨ps, e, ht⟩ := t
  refine ⟨fun c q _ h => by rw [upd_ne (ne_of_none h n)]; exact h, ps, by rw [upd_ne (ne_of_none e n)]; exact e, ht⟩
theorem Th.kt {P : Addr} {H H' : Hp} (t : TabG H P) (k : KT P H H') {v : V} (h : Th H v) : Th H' v := by
  cases h with
  | non => exact .non
  | bl b => exact .bl b
  | int i => exact .int i
  | str z h g => exact .str z h g
  | lst a xs h => exact .lst a xs (k.keep _ _ (ne_tab t h (by simp)) h)
  | tup a xs h => exact .tup a xs (k.keep _ _ (ne_tab t h (by simp)) h)
  | dic a h => exact .dic a (k.keep _ _ (ne_tab t h (by simp)) h)

theorem elt_between {prog : Program} {w : World} {scope : Scope} {x a b : Str} {j1 j2 : Nat} {p1 p2 p3 p4 : Pos} (hk : scope.kind = .function) (hl : scope.names.lookup x = some .local)
    (hd : (x == ("__debug__" : Str)) = false := by decide) :
    EltP prog w scope x (.Compare (.Constant (.str a) j1 p1) [.LtE, .LtE] [.Name x p2, .Constant (.str b) j2 p3] p4) (fun c => !decide ([c] < a.cps.toList) && !decide (b.cps.toList < [c])) := by
  intro cenv A' E' c t s2 m2 hs hn hm
  refine Compare_chain ?_ (by with_unfolding_all rfl)
  refine Calls.Constant_str (chain_link ?_)
  refine wpAny_Name (wpAny_loadName_local (by rw [hs]; exact hk) (show cenv.scope.names.lookup x = some .local by rw [hs]; exact hl) hn hm ?_) hd
  refine PySem.P.le_str ?_
  refine wpAny_truthy_bool ?_
  cases q : decide ([c] < a.cps.toList) with
  | true =>
    refine ite_ff ⟨?_, keeps_tok _ _⟩
    have q' : decide ((⟨#[c]⟩ : Str).cps.toList < a.cps.toList) = true := q
    simp [q']
  | false =>
    refine ite_tt (chain_last ?_)
    refine Calls.Constant_str ?_
    refine PySem.P.le_str ⟨?_, keeps_tok _ _⟩
    have q2 : ¬ [c] < a.cps.toList := of_decide_eq_false q
    simp [List.not_lt.mp q2]
def genSc : Scope := { kind := ScopeKind.function, names := [(Str.ofString ".0", NameKind.local), (Str.ofString "sign", NameKind.local)], isGenerator := true, isCoroutine := false }
theorem no_free : ∀ y ∈ genSc.names, y.2 ≠ NameKind.free := by decide +kernel
theorem one_lt (c d : Nat) : [c] < [d] ↔ c < d := by
  rw [List.cons_lt_cons_iff]
  constructor
  · rintro (h | ⟨_, h⟩)
    · exact h
    · exact absurd h (List.not_lt_nil _)
  · exact .inl
theorem lc_eq (c : Nat) : (!decide ([c] < [97]) && !decide ([122] < [c])) = lc c := by
  unfold lc
  rw [Bool.eq_iff_iff]
  simp only [Bool.and_eq_true, Bool.not_eq_true', decide_eq_false_iff_not, decide_eq_true_eq, one_lt]
  omega
/-! ### the box -/
def Bx (b : Addr) (n : Int) (H : Hp) : Prop := ∃ x y z : Int, H b = some (.lst [.int x, .int y, .int z]) ∧ 0 ≤ x ∧ 0 ≤ y ∧ y < 2147483629 ∧ 0 ≤ z ∧ z ≤ n
theorem Bx.same {b : Addr} {n : Int} {H H' : Hp} (h : Bx b n H) (e : H' b = H b) : Bx b n H' := by
  obtain ⟨x, y, z, h1, r⟩ := h
  exact ⟨x, y, z, e.trans h1, r⟩
theorem Bx.mono {b : Addr} {n m : Int} {H : Hp} (h : Bx b n H) (e : n ≤ m) : Bx b m H := by
  obtain ⟨x, y, z, h1, h2, h3, h4, h5, h6⟩ := h
  exact ⟨x, y, z, h1, h2, h3, h4, h5, by omega⟩
theorem i0 (a b c : V) : atI [a, b, c] 0 = some a := rfl
theorem i1 (a b c : V) : atI [a, b, c] 1 = some b := rfl
theorem i2 (a b c : V) : atI [a, b, c] 2 = some c := rfl
theorem j0 : ixN 3 0 = some 0 := rfl
theorem j2 : ixN 3 2 = some 2 := rfl
/-! ### lists and texts -/
theorem atI_ex {α : Type} {xs : List α} {d : Int} (h0 : 0 ≤ d) (h1 : d < xs.length) : ∃ v, v ∈ xs ∧ atI xs d = some v := by
  obtain ⟨j, rfl⟩ := Int.eq_ofNat_of_zero_le h0
  have hj : j < xs.length := by omega
  exact ⟨xs[j], List.getElem_mem hj, atI_nat (List.getElem?_eq_getElem hj)⟩
theorem joinL_len (S : List Nat) : ∀ ps : List (List Nat), (joinL S ps).length ≤ (ps.map List.length).sum + ps.length * S.length
  | [] => by simp [joinL]
  | [p] => by simp [joinL]
  | p :: q :: r => by
    have ih := joinL_len S (q :: r)
    have e : joinL S (p :: q :: r) = p ++ (S ++ joinL S (q :: r)) := rfl
    rw [e, List.length_append, List.length_append, List.map_cons, List.sum_cons, List.length_cons, Nat.succ_mul]
    omega
theorem tl_len (z : Str) : (tl z).length = z.length := by
  show z.cps.toList.length = z.cps.size
  simp
theorem join_len (y : Str) (ps : List Str) : (Txt.join y ps).length ≤ (ps.map (·.length)).sum + ps.length * y.length := by
  have h := joinL_len (tl y) (ps.map tl)
  rw [← tl_len, join_eq, tl_join]
  have e : (ps.map tl).map List.length = ps.map (·.length) := by
    rw [List.map_map]
    exact List.map_congr_left fun z _ => tl_len z
  rw [e, List.length_map, tl_len] at h
  exact h
theorem sum_ones (ps : List Str) (h : ∀ z ∈ ps, z.length ≤ 1) : (ps.map (·.length)).sum ≤ ps.length := by
  induction ps with
  | nil => simp
  | cons a r ih =>
    have h1 := h a List.mem_cons_self
    have h2 := ih fun z hz => h z (List.mem_cons_of_mem _ hz)
    simp only [List.map_cons, List.sum_cons, List.length_cons]
    omega
theorem lcY {A : TE} {σ : L2.St} {H : Hp} {G : VK} {B : Hp → Prop} (h : A σ H G) : tYes σ H (fun b H3 => if b = true then A σ H3 G else B H3) := by
  show if true = true then A σ H G else B H
  exact iteT h
theorem good_app {a b : Str} (h : Good a) (k : Good b) : Good (a ++ b) := fun c hc => by
  have e : (a ++ b).cps.toList = a.cps.toList ++ b.cps.toList := tl_append a b
  rw [e] at hc
  exact (List.mem_append.mp hc).elim (h c) (k c)
theorem good_cut {a : Str} (h : Good a) (lo hi : Option Int) : Good (cutS a lo hi) := fun c hc => by
  unfold cutS at hc
  exact h c (List.mem_of_mem_drop (List.mem_of_mem_take (by simpa using hc)))
theorem good_joinL {S : List Nat} (hS : ∀ c ∈ S, c < 1114112) : ∀ ps : List (List Nat), (∀ p ∈ ps, ∀ c ∈ p, c < 1114112) → ∀ c ∈ joinL S ps, c < 1114112
  | [], _, c, h => by simp [joinL] at h
  | [p], hp, c, h => hp p List.mem_cons_self c (by simpa [joinL] using h)
  | p :: q :: r, hp, c, h => by
    have e : joinL S (p :: q :: r) = p ++ (S ++ joinL S (q :: r)) := rfl
    rw [e, List.mem_append, List.mem_append] at h
    rcases h with h | h | h
    · exact hp p List.mem_cons_self c h
    · exact hS c h
    · exact good_joinL hS (q :: r) (fun z hz => hp z (List.mem_cons_of_mem _ hz)) c h
theorem good_join {y : Str} {ps : List Str} (hy : Good y) (h : ∀ z ∈ ps, Good z) : Good (Txt.join y ps) := fun c hc => by
  have e : (Txt.join y ps).cps.toList = joinL (tl y) (ps.map tl) := by rw [join_eq]; exact tl_join y ps
  rw [e] at hc
  refine good_joinL hy _ (fun p hp => ?_) c hc
  obtain ⟨z, hz, rfl⟩ := List.mem_map.mp hp
  exact h z hz
theorem good_of (x : String) : Good (Str.ofString x) := fun c hc => by
  have e : (Str.ofString x).cps.toList = x.toList.map Char.toNat := by
    rw [Str.ofString_eq_toList]
  rw [e] at hc
  obtain ⟨d, _, rfl⟩ := List.mem_map.mp hc
  have := d.valid
  unfold UInt32.isValidChar Nat.isValidChar at this
  show d.val.toNat < 1114112
  omega
theorem good_one {z : Str} {c : Nat} (h : Good z) (hc : c ∈ z.cps.toList) : Good ⟨#[c]⟩ := fun d hd => by
  have e : d = c := by simpa using hd
  rw [e]
  exact h c hc
/-- all but the box stays -/
def KB (b : Addr) (H H' : Hp) : Prop := ∀ c o, c ≠ b → H c = some o → H' c = some o
theorem KB.refl (b : Addr) (H : Hp) : KB b H H := fun _ _ _ h => h
theorem KB.trans {b : Addr} {H H1 H2 : Hp} (a : KB b H H1) (c : KB b H1 H2) : KB b H H2 := fun x o n h => c x o n (a x o n h)
theorem KB.off {b : Addr} {H H' : Hp} (h : ∀ a, a ≠ b → H' a = H a) : KB b H H' := fun c o n e => (h c n).trans e
theorem KB.alloc {b p : Addr} {H : Hp} {o : HO} (n : H p = none) : KB b H (upd H p o) := fun c u _ h => by rw [upd_ne (ne_of_none h n)]; exact h
theorem Bx.alloc {b p : Addr} {n : Int} {H : Hp} {o : HO} (h : Bx b n H) (f : H p = none) : Bx b n (upd H p o) := by
  obtain ⟨x, y, z, h1, r⟩ := h
  exact ⟨x, y, z, by rw [upd_ne (ne_of_none h1 f)]; exact h1, r⟩
theorem Bx.put {b p : Addr} {n : Int} {H : Hp} {o : HO} (h : Bx b n H) (f : p ≠ b) : Bx b n (upd H p o) := by
  obtain ⟨x, y, z, h1, r⟩ := h
  exact ⟨x, y, z, by rw [upd_ne f.symm]; exact h1, r⟩
/-- a comprehension over a text's signs -/
theorem lc_text {z : Str} {g : TG} {tt : TT} {te : TE} {vs : List Nat} {σ : L2.St} {H1 : Hp} {D : Addr} {Qd : Hp → Prop} (Pv : Nat → Hp → Prop) (h0 : Pv 0 (upd H1 D (.lst [])))
    (hs : ∀ i c H, z.cps.toList[i]? = some c → Pv i H → g (.str ⟨#[c]⟩) (wipe σ vs) H fun σ2 H2 => wipe σ2 vs = wipe σ vs ∧ tt σ2 H2 fun b H3 =>
      if b = true then te σ2 H3 fun y H4 => ∃ acc, H4 D = some (.lst acc) ∧ acc.length < sizeLine ∧ Pv (i + 1) (upd H4 D (.lst (acc ++ [y]))) else Pv (i + 1) H3) (hd : ∀ H, Pv z.length H → Qd H) :
    ∃ W : Nat → Nat → Hp → Prop, (∃ m, W 0 m (upd H1 D (.lst []))) ∧ ∀ i m H, W i m H →
      ((Its z).stop i H ∧ Qd H) ∨ ((Its z).go i H ∧ ∃ Nx : Hp → Prop, (∀ H', Nx H' → ∃ m', m' < m ∧ W (i + 1) m' H') ∧ ∀ x H', (Its z).yld i H x H' → g x (wipe σ vs) H' fun σ2 H2 => wipe σ2 vs = wipe σ vs ∧ tt σ2 H2 fun b H3 =>
        if b = true then te σ2 H3 fun y H4 => ∃ acc, H4 D = some (.lst acc) ∧ acc.length < sizeLine ∧ Nx (upd H4 D (.lst (acc ++ [y]))) else Nx H3) := by
  refine ⟨fun i m H => i + m = z.cps.size ∧ Pv i H, ⟨z.cps.size, by simp, h0⟩, fun i m H hW => ?_⟩
  obtain ⟨e, p⟩ := hW
  cases m with
  | zero =>
    have ei : i = z.cps.size := e
    subst ei
    exact .inl ⟨Nat.le_refl _, hd H p⟩
  | succ m =>
    refine .inr ⟨show i < z.cps.size by omega, Pv (i + 1), fun H' q => ⟨m, Nat.lt_succ_self m, by omega, q⟩, ?_⟩
    rintro x H' ⟨rfl, c, hc, rfl⟩
    exact hs i c _ (by rw [← hc]; simp) p
def badOf (l : List Nat) : List V := (l.filter fun c => !lc c).map fun c => V.str ⟨#[c]⟩
theorem bad_data {K : PySem.W.Frag} {H : Hp} : ∀ l : List Nat, DpAll K H (l.map fun c => V.str ⟨#[c]⟩) (l.map fun c => PyData.str ⟨#[c]⟩)
  | [] => .nil
  | c :: r => .cons (.str _) (bad_data r)
theorem one_ok {c : Nat} (h : c < 1114112) : PyData.strOk ⟨#[c]⟩ = true := by
  simp [PyData.strOk, h]
theorem bad_shaped : ∀ l : List Nat, (∀ c ∈ l, c < 1114112) → PyData.canLayAll0 (l.map fun c => PyData.str ⟨#[c]⟩) = true
  | [], _ => by simp [PyData.canLayAll0]
  | c :: r, h => by
    simp only [List.map_cons, PyData.canLayAll0, PyData.canLay0, Bool.and_eq_true]
    exact ⟨one_ok (h c List.mem_cons_self), bad_shaped r fun d hd => h d (List.mem_cons_of_mem _ hd)⟩
theorem bad_depth : ∀ l : List Nat, PyData.depthAll (l.map fun c => PyData.str ⟨#[c]⟩) = 0
  | [] => by simp [PyData.depthAll]
  | c :: r => by
    simp only [List.map_cons, PyData.depthAll, PyData.depth, bad_depth r]
    rfl
theorem letters_mem (c : Nat) : decide (c ∈ (Str.ofString "abcdefghijklmnopqrstuvwxyz").cps.toList) = lc c := by
  have e : (Str.ofString "abcdefghijklmnopqrstuvwxyz").cps.toList = (List.range 26).map (· + 97) := by decide +kernel
  rw [e]
  unfold lc
  rw [Bool.eq_iff_iff]
  simp only [decide_eq_true_eq, List.mem_map, List.mem_range, Bool.and_eq_true]
  constructor
  · rintro ⟨a, h, rfl⟩
    omega
  · intro h
    exact ⟨c - 97, by omega, by omega⟩
/-- a fresh place is no box -/
theorem Bx.fresh {b p : Addr} {n : Int} {H : Hp} (h : Bx b n H) (f : H p = none) : p ≠ b := by
  rintro rfl
  obtain ⟨x, y, z, e, _⟩ := h
  rw [f] at e
  cases e
theorem dec9000 {m : Int} (h0 : 0 < m) (h : m ≤ 10 ^ 30) : m.natAbs.log2 < 9000 := by
  have h1 : m.natAbs ≤ 10 ^ 30 := by omega
  have h2 : m.natAbs < 2 ^ 100 := Nat.lt_of_le_of_lt h1 (by decide)
  have h3 := (Nat.log2_lt (by omega)).mpr h2
  omega
theorem log1900 {m : Int} (h : m.natAbs ≤ 10 ^ 31) : m.natAbs.log2 < 1900 := by
  by_cases h0 : m.natAbs = 0
  · rw [h0]
    decide
  · have h2 : m.natAbs < 2 ^ 110 := Nat.lt_of_le_of_lt h (by decide)
    have h3 := (Nat.log2_lt h0).mpr h2
    omega
/-- a place in a list of the script stays -/
theorem seq_kt {K : PySem.W.Frag} {P a : Addr} {H H' : Hp} {xs : List V} (t : TabG H P) (k : KT P H H') (h : SqL K H a xs) : SqL K H' a xs := by
  rcases h with (h | ⟨o, h⟩) | h
  · exact .inl (.inl (k.keep _ _ (ne_tab t h (by simp)) h))
  · exact .inl (.inr ⟨o, k.keep _ _ (ne_tab t h (by simp)) h⟩)
  · exact .inr h
/-- what a row of steps with the box does to all else -/
theorem KT.box {P b : Addr} {H H' H1 : Hp} (t : TabG H P) (f : H b = none) (e : ∀ a, a ≠ b → H1 a = H a) (k : KB b H1 H') : KT P H H' := by
  obtain ⟨ps, ht, tr⟩ := t
  have nb : P ≠ b := ne_of_none ht f
  exact ⟨fun c o _ h => k c o (ne_of_none h f) ((e c (ne_of_none h f)).trans h), ps, k P _ nb ((e P nb).trans ht), tr⟩
theorem two_bools (a b : Bool) : (PyData.list [.bool a, .bool b]).shown.length ≤ sizeLine := by
  cases a <;> cases b <;> decide +kernel
end My

set_option maxRecDepth 100000
set_option maxHeartbeats 4000000
namespace K4
open PySem PySem.Spec PyProof.Rows L2 GxR Gd TL My
/-! ### the text -/
def top (i : Nat) : Stmt := PySem.Challenge.pw_onestaff_k04_lines_refused.main.body.getD i (.Pass ⟨0, 0, 0, 0⟩)
abbrev sWhole : Stmt := top 12
abbrev sName : Stmt := top 13
abbrev sList : Stmt := top 14
abbrev sTuple : Stmt := top 15
abbrev sCell : Stmt := top 25
abbrev sBox : Stmt := top 26
abbrev sTake : Stmt := top 27
structure Txt (mg : Str → Option Value) : Prop where
  isinstance_ : mg "isinstance" = none
  int_ : mg "int" = none
  bool_ : mg "bool" = none
  str_ : mg "str" = none
  len_ : mg "len" = none
  all_ : mg "all" = none
  max_ : mg "max" = none
  min_ : mg "min" = none
  range_ : mg "range" = none
  repr_ : mg "repr" = none
  list_ : mg "list" = none
  tuple_ : mg "tuple" = none
  enumerate_ : mg "enumerate" = none
  sorted_ : mg "sorted" = none
  dict_ : mg "dict" = none
structure Fn (K : PySem.W.Frag) (mg : Str → Option Value) (x : Str) (st : Stmt) (ps : List Str) (f : Addr) (fd : FuncData) : Prop where
  fn : Fun K x x st f fd
  g : mg x = some (.ref f)
  b : Binds K fd ps []
theorem Fn.kp {K : PySem.W.Frag} {mg : Str → Option Value} {x : Str} {st : Stmt} {ps : List Str} {f : Addr} {fd : FuncData} (h : Fn K mg x st ps f fd) : PySem.W.keepIn K (.ref f) = true := h.fn.kp
section
variable {P : Program} {w : World} {K : PySem.W.Frag} {mg : Str → Option Value} {base : Heap}
def spWhole : Sp := fun vs H Q _ => ∃ (v : V) (lo hi : Int), vs = [v, .int lo, .int hi] ∧ Th H v ∧ Q (.bl (wh lo hi v)) H
theorem scWhole : FnScope ["thing", "low", "high"] ["thing", "low", "high"] (defScope sWhole) := ⟨rfl, rfl, rfl, by decide +kernel, rfl, by decide +kernel, by decide +kernel⟩
theorem ok_whole {f : Addr} {fd : FuncData} (F : Fun K "is_whole" "is_whole" sWhole f fd) (T : Txt mg) : FnOk P w K mg base CX0 1 f fd ["thing", "low", "high"] spWhole := by
  refine F.ok scWhole (fun vs H Q E h => ?_) (fun cdv A outer s H vs Q E hr h => ?_)
  · obtain ⟨v, lo, hi, rfl, _⟩ := h
    rfl
  · obtain ⟨v, lo, hi, rfl, th, k⟩ := h
    obtain ⟨t, ty, cs⟩ := th.ty (K := K)
    refine ⟨_, pss_cons (ps_if (PW.pt (pw_or (pt_not (pt_val (pe_callB call_isi (by rfl) T.isinstance_ (by decide +kernel) (pa_cons (pv 0) (pa_cons (pe_bltn (v := .ty "int") (by rfl) T.int_ (by decide +kernel) rfl) pa_nil)))))
        (pw_or1 (pt_val (pe_callB call_isi (by rfl) T.isinstance_ (by decide +kernel) (pa_cons (pv 0) (pa_cons (pe_bltn (v := .ty "bool") (by rfl) T.bool_ (by decide +kernel) rfl) pa_nil)))))))
        (pss_one (ps_ret pe_bl)) pss_nil)
      (pss_one (ps_ret (pe_chain op_le op_le (pv 1) (pv 0) (pv 2)))), ?_⟩
    rcases cs with ⟨i, rfl, rfl⟩ | ⟨b, rfl, rfl⟩ | ⟨z, rfl, _, rfl⟩ | ⟨n1, n2, n3, ht⟩
    · refine ⟨_, rfl, _, _, _, _, true, rfl, .ty "int", ty, (by rfl), _, rfl, iteF ?_⟩
      refine ⟨_, rfl, _, _, _, _, false, rfl, .ty "bool", ty, (by rfl), _, rfl, iteF ?_⟩
      refine ⟨_, rfl, _, rfl, _, _, rfl, rfl, _, rfl, ?_⟩
      refine ite2 (fun c => ?_) (fun c => ?_)
      · refine ⟨_, rfl, _, _, rfl, rfl, ?_⟩
        have e : (decide (i ≤ hi)) = wh lo hi (.int i) := by simp [wh, of_decide_eq_true c]
        show Q (.bl (decide (i ≤ hi))) H
        rw [e]; exact k
      · have e : false = wh lo hi (.int i) := by simp at c; simp [wh]; omega
        rw [e]; exact k
    · refine ⟨_, rfl, _, _, _, _, true, rfl, .ty "int", ty, (by rfl), _, rfl, iteF ?_⟩
      refine ⟨_, rfl, _, _, _, _, true, rfl, .ty "bool", ty, (by rfl), _, rfl, iteT ?_⟩
      exact k
    · refine ⟨_, rfl, _, _, _, _, false, rfl, .ty "int", ty, (by rfl), _, rfl, iteT (iteT ?_)⟩
      exact k
    · have e : wh lo hi v = false := by
        cases v with
        | int i => exact absurd rfl (n1 i)
        | _ => rfl
      rw [e] at k
      rcases ht with rfl | rfl | rfl | rfl
      · exact ⟨_, rfl, _, _, _, _, false, rfl, .ty "int", ty, (by rfl), _, rfl, iteT (iteT k)⟩
      · exact ⟨_, rfl, _, _, _, _, false, rfl, .ty "int", ty, (by rfl), _, rfl, iteT (iteT k)⟩
      · exact ⟨_, rfl, _, _, _, _, false, rfl, .ty "int", ty, (by rfl), _, rfl, iteT (iteT k)⟩
      · exact ⟨_, rfl, _, _, _, _, false, rfl, .ty "int", ty, (by rfl), _, rfl, iteT (iteT k)⟩

/-! ### is_name -/
theorem scName : FnScope ["thing"] ["thing"] (defScope sName) := ⟨rfl, rfl, rfl, by decide +kernel, rfl, by decide +kernel, by decide +kernel⟩
def spName (Pt : Addr) : Sp := fun vs H Q _ => ∃ (v : V), vs = [v] ∧ Th H v ∧ TabG H Pt ∧ ∀ H', KT Pt H H' → Q (.bl (nm v)) H'
theorem ok_name {f Pt c : Addr} {oc kV doc pm ct : Value} {od an : Option Addr} {osl : Array (Option Value)}
    (lk : K.lookup f = some ⟨oc, od, .func (PySem.W.fnOf "is_name" "is_name" (defArgs sName) (defBody sName) (defScope sName) .none kV doc pm an (.ref c) ct), osl⟩) (hcd : PySem.W.codeIn K (.ref c) "is_name" = true)
    (T : Txt mg) (TB : TabB base mg c Pt) : FnOk P w K mg base CX0 2 f (PySem.W.fnOf "is_name" "is_name" (defArgs sName) (defBody sName) (defScope sName) .none kV doc pm an (.ref c) ct) ["thing"] (spName Pt) := by
  refine fn_of lk hcd scName (fun vs H Q E h => ?_) (fun A outer s H vs Q E hr h => ?_)
  · obtain ⟨v, rfl, _⟩ := h
    rfl
  · obtain ⟨v, rfl, th, tb, k⟩ := h
    obtain ⟨t, ty, cs⟩ := th.ty (K := K)
    refine ⟨_, (pss_cons (ps_if (PW.pt (pw_or (pt_not (pt_val (pe_callB call_isi (by rfl) T.isinstance_ (by decide +kernel) (pa_cons (pv 0) (pa_cons (pe_bltn (v := .ty "str") (by rfl) T.str_ (by decide +kernel) rfl) pa_nil)))))
        (pw_or1 (pt_not (pt_chain op_le op_le pe_int (pe_callB call_len_str (by rfl) T.len_ PySem.boot_len (pa_cons (pv 0) pa_nil)) pe_int)))))
        (pss_one (ps_ret pe_bl)) pss_nil)
      (pss_one (ps_ret (pe_allS hr (by rfl) T.all_ (by decide +kernel) TB rfl ⟨rfl, rfl, by decide +kernel, by decide +kernel, by decide +kernel, fun y hy e => absurd e (no_free y hy)⟩ (pv 0) (elt_between (by rfl) (by decide +kernel)) (fun _ => rfl))))).nox, ?_⟩
    have no : ∀ e : nm v = false, Q (.bl false) H := fun e => e ▸ k H (KT.refl tb)
    rcases cs with ⟨i, rfl, rfl⟩ | ⟨b, rfl, rfl⟩ | ⟨z, rfl, ⟨hz, _⟩, rfl⟩ | ⟨n1, n2, n3, ht⟩
    · exact ⟨_, rfl, _, _, _, _, false, rfl, .ty "str", ty, (by rfl), _, rfl, iteT (iteT (no rfl))⟩
    · exact ⟨_, rfl, _, _, _, _, false, rfl, .ty "str", ty, (by rfl), _, rfl, iteT (iteT (no rfl))⟩
    · refine ⟨_, rfl, _, _, _, _, true, rfl, .ty "str", ty, (by rfl), _, rfl, iteF ?_⟩
      have hz2 : z.length ≤ sizeLine := Nat.le_trans hz (by decide)
      refine ⟨_, rfl, z, rfl, hz2, _, _, rfl, rfl, _, rfl, ite2 (fun c1 => ?_) (fun c1 => ?_)⟩
      · have c1' : (1 : Int) ≤ z.length := of_decide_eq_true c1
        refine ⟨_, _, rfl, rfl, _, rfl, ?_⟩
        refine ite2 (fun c2 => ?_) (fun c2 => ?_)
        · refine no ?_
          have c2' : ¬ (z.length : Int) ≤ 6 := by simpa using c2
          have n6 : ¬ z.length ≤ 6 := by omega
          simp [nm, n6]
        · have c2' : (z.length : Int) ≤ 6 := by simpa using c2
          have n6 : z.length ≤ 6 := by omega
          have n1 : 1 ≤ z.length := by omega
          refine ⟨_, rfl, z, rfl, tb, fun H2 ht => ?_⟩
          have e : z.cps.toList.all (fun c => !decide ([c] < (Str.ofString "a").cps.toList) && !decide ((Str.ofString "z").cps.toList < [c])) = nm (.str z) := by
            have ea : (Str.ofString "a").cps.toList = [97] := by decide +kernel
            have ez : (Str.ofString "z").cps.toList = [122] := by decide +kernel
            rw [ea, ez]
            simp only [lc_eq]
            simp [nm, n6, n1]
          show Q (.bl (z.cps.toList.all _)) H2
          rw [e]
          exact k H2 (KT.of ht)
      · refine ⟨_, rfl, iteT (no ?_)⟩
        have c1' : ¬ (1 : Int) ≤ z.length := by simpa using c1
        have n1 : ¬ 1 ≤ z.length := by omega
        simp [nm, n1]
    · have e : nm v = false := by
        cases v with
        | str z => exact absurd rfl (n3 z)
        | _ => rfl
      rcases ht with rfl | rfl | rfl | rfl
      · exact ⟨_, rfl, _, _, _, _, false, rfl, .ty "str", ty, (by rfl), _, rfl, iteT (iteT (no e))⟩
      · exact ⟨_, rfl, _, _, _, _, false, rfl, .ty "str", ty, (by rfl), _, rfl, iteT (iteT (no e))⟩
      · exact ⟨_, rfl, _, _, _, _, false, rfl, .ty "str", ty, (by rfl), _, rfl, iteT (iteT (no e))⟩
      · exact ⟨_, rfl, _, _, _, _, false, rfl, .ty "str", ty, (by rfl), _, rfl, iteT (iteT (no e))⟩
def spCell (K : PySem.W.Frag) : Sp := fun vs H Q _ => ∃ (l : Addr) (ns : List Int) (j : Nat), vs = [.ref l, .int (j : Int)] ∧ SqL K H l (ns.map V.int) ∧ ∀ i : Int, Q (.int i) H
theorem scCell : FnScope ["_law_script", "_law_k"] ["_law_script", "_law_k"] (defScope sCell) := ⟨rfl, rfl, rfl, by decide +kernel, rfl, by decide +kernel, by decide +kernel⟩
theorem ok_cell {f : Addr} {fd : FuncData} (F : Fun K "_law_cell" "_law_cell" sCell f fd) (T : Txt mg) : FnOk P w K mg base CX0 1 f fd ["_law_script", "_law_k"] (spCell K) := by
  refine F.ok scCell (fun vs H Q E h => ?_) (fun cdv A outer s H vs Q E hr h => ?_)
  · obtain ⟨l, ns, j, rfl, _⟩ := h
    rfl
  · obtain ⟨l, ns, j, rfl, hS, k⟩ := h
    refine ⟨_, pss_cons (ps_if (pt_cmpR op_lt (pv 1) (pe_callB call_len_seq (by rfl) T.len_ PySem.boot_len (pa_cons (pv 0) pa_nil)) (nomark _)) (pss_one (ps_ret (pe_ix ix_list (pv 0) (pv 1) (fun _ _ => rfl)))) pss_nil)
      (pss_one (ps_ret (pe_op op_add (pe_op op_mul pe_int (pv 1)) pe_int))), ?_⟩
    refine ⟨_, rfl, _, rfl, l, _, rfl, .inl hS, _, _, rfl, rfl, _, rfl, ite2 (fun c => ?_) (fun c => ?_)⟩
    · have c1 : (j : Int) < ((ns.map V.int).length : Nat) := of_decide_eq_true c
      have c2 : j < ns.length := by rw [List.length_map] at c1; omega
      refine ⟨_, rfl, _, rfl, l, _, _, _, rfl, rfl, hS, atI_nat (v := .int ns[j]) ?_, k _⟩
      rw [List.getElem?_map, List.getElem?_eq_getElem c2]
      rfl
    · exact ⟨_, rfl, _, _, rfl, rfl, .inl ⟨by decide, by decide⟩, _, _, rfl, rfl, k _⟩
def spBox : Sp := fun vs H Q _ => ∃ c : Int, vs = [.int c] ∧ ∀ b H', H b = none → (∀ a, a ≠ b → H' a = H a) → Bx b 0 H' → Q (.ref b) H'
theorem scBox : FnScope ["_law_cell_here"] ["_law_cell_here"] (defScope sBox) := ⟨rfl, rfl, rfl, by decide +kernel, rfl, by decide +kernel, by decide +kernel⟩
theorem ok_box {f : Addr} {fd : FuncData} (F : Fun K "_law_box" "_law_box" sBox f fd) (T : Txt mg) : FnOk P w K mg base CX0 1 f fd ["_law_cell_here"] spBox := by
  refine F.ok scBox (fun vs H Q E h => ?_) (fun cdv A outer s H vs Q E hr h => ?_)
  · obtain ⟨c, rfl, _⟩ := h
    rfl
  · obtain ⟨c, rfl, k⟩ := h
    refine ⟨_, pss_one (ps_ret (pe_lst (pa_cons (pe_callB (call_max2 rfl) (by rfl) T.max_ (by decide +kernel) (pa_cons pe_int (pa_cons (pe_op op_sub (pv 0) (pe_op op_pow pe_int pe_int)) pa_nil))) (pa_cons (pe_op op_mod (pv 0) pe_int) (pa_cons pe_int pa_nil))))), ?_⟩
    refine ⟨_, rfl, _, _, rfl, rfl, ⟨by decide, by decide, by decide⟩, _, _, rfl, rfl, _, _, rfl, ?_⟩
    refine ⟨_, rfl, _, _, rfl, rfl, (by show (0 : Int) < 2147483629; decide), ?_⟩
    refine ⟨(by show 3 ≤ sizeLine; decide), fun b hb => ?_⟩
    refine k b _ hb (fun a na => upd_ne na) ⟨_, _, 0, upd_same, ?_, ?_, ?_, Int.le_refl _, Int.le_refl _⟩
    · split <;> omega
    · exact Int.emod_nonneg _ (by decide)
    · exact Int.emod_lt_of_pos _ (by decide)
def spTake : Sp := fun vs H Q _ => ∃ (b : Addr) (many n : Int), vs = [.ref b, .int many] ∧ Bx b n H ∧ n ≤ 100000 ∧ 0 < many ∧ many.natAbs.log2 < 9000 ∧
  ∀ d H', 0 ≤ d → d < many → (∀ a, a ≠ b → H' a = H a) → Bx b (n + 1) H' → Q (.int d) H'
theorem scTake : FnScope ["_law_box_here", "_law_many", "_law_digit", "_law_number_here"] ["_law_box_here", "_law_many"] (defScope sTake) := ⟨rfl, rfl, rfl, by decide +kernel, rfl, by decide +kernel, by decide +kernel⟩
theorem ok_take {f : Addr} {fd : FuncData} (F : Fun K "_law_take" "_law_take" sTake f fd) : FnOk P w K mg base CX0 1 f fd ["_law_box_here", "_law_many"] spTake := by
  refine F.ok scTake (fun vs H Q E h => ?_) (fun cdv A outer s H vs Q E hr h => ?_)
  · obtain ⟨b, many, n, rfl, _⟩ := h
    rfl
  · obtain ⟨b, many, n, rfl, ⟨x, y, z, hb, x0, y0, y1, z0, zn⟩, hn, m0, ml, k⟩ := h
    refine ⟨_, pss_cons (ps_if (pt_cmpR op_gt (pe_ix ix_list (pv 0) pe_int (fun _ _ => rfl)) pe_int (nomark _))
        (pss_cons (ps_set (i := 2) scTake.nd rfl (Or.inl rfl) (pe_op op_mod (pe_ix ix_list (pv 0) pe_int (fun _ _ => rfl)) (pv 1)))
        (pss_cons (ps_asg (pe_op op_fdivW (pe_ix ix_list (pv 0) pe_int (fun _ _ => rfl)) (pv 1)) (pg_sub (pv 0) pe_int set_list))
        (pss_one (ps_ret (pv 2))))) pss_nil)
      (pss_cons (ps_asg (pe_op op_add (pe_ix ix_list (pv 0) pe_int (fun _ _ => rfl)) pe_int) (pg_sub (pv 0) pe_int set_list))
      (pss_cons (ps_set (i := 3) scTake.nd rfl (Or.inl rfl) (pe_op op_mod (pe_op op_pow (pe_op op_add (pe_op op_add (pe_ix ix_list (pv 0) pe_int (fun _ _ => rfl)) (pe_op op_mul pe_int (pe_ix ix_list (pv 0) pe_int (fun _ _ => rfl)))) pe_int) pe_int) pe_int))
      (pss_cons (ps_set (i := 3) scTake.nd rfl (Or.inl rfl) (pe_op op_mod (pe_op op_pow (pe_op op_add (pv 3) (pe_op op_mul pe_int (pe_ix ix_list (pv 0) pe_int (fun _ _ => rfl)))) pe_int) pe_int))
      (pss_one (ps_ret (pe_op op_mod (pe_op op_fdiv (pv 3) pe_int) (pv 1))))))), ?_⟩
    have hL : SqL K H b [.int x, .int y, .int z] := SqL.of hb
    refine ⟨_, rfl, b, _, _, _, rfl, rfl, hL, i0 _ _ _, _, _, rfl, rfl, _, rfl, ite2 (fun c => ?_) (fun c => ?_)⟩
    · refine ⟨_, rfl, b, _, _, _, rfl, rfl, hL, i0 _ _ _, _, rfl, _, _, rfl, rfl, m0, ?_⟩
      refine ⟨_, rfl, b, _, _, _, rfl, rfl, hL, i0 _ _ _, _, rfl, _, _, rfl, rfl, ⟨m0, ml⟩, ?_⟩
      refine ⟨_, rfl, b, _, _, _, rfl, rfl, hb, j0, ?_⟩
      refine ⟨_, rfl, ?_⟩
      exact k _ _ (Int.emod_nonneg _ (by omega)) (Int.emod_lt_of_pos _ m0) (fun a na => upd_ne na) ⟨_, _, _, upd_same, Int.ediv_nonneg x0 (by omega), y0, y1, z0, by omega⟩
    · refine ⟨_, rfl, b, _, _, _, rfl, rfl, hL, i2 _ _ _, _, _, rfl, rfl, ?_⟩
      refine ⟨_, rfl, b, _, _, _, rfl, rfl, hb, j2, ?_⟩
      have h1 : upd H b (.lst ([V.int x, .int y, .int z].set 2 (.int (z + 1)))) b = some (.lst [.int x, .int y, .int (z + 1)]) := upd_same
      have hL1 : SqL K (upd H b (.lst ([V.int x, .int y, .int z].set 2 (.int (z + 1))))) b [.int x, .int y, .int (z + 1)] := SqL.of h1
      refine ⟨_, rfl, b, _, _, _, rfl, rfl, hL1, i1 _ _ _, _, rfl, b, _, _, _, rfl, rfl, hL1, i2 _ _ _, _, _, rfl, rfl, .inl ⟨by decide, by decide⟩, _, _, rfl, rfl, _, _, rfl, rfl,
        _, _, rfl, rfl, ⟨by decide, by decide, ?_⟩, _, _, rfl, rfl, (by show (0 : Int) < 2147483647; decide), ?_⟩
      · omega
      refine ⟨_, rfl, _, rfl, b, _, _, _, rfl, rfl, hL1, i2 _ _ _, _, _, rfl, rfl, .inl ⟨by decide, by decide⟩, _, _, rfl, rfl,
        _, _, rfl, rfl, ⟨by decide, by decide, ?_⟩, _, _, rfl, rfl, (by show (0 : Int) < 2147483587; decide), ?_⟩
      · have g0 := Int.emod_nonneg ((y + 7919 * (z + 1) + 19) ^ (5 : Int).toNat) (show (2147483647 : Int) ≠ 0 by decide)
        have g1 := Int.emod_lt_of_pos ((y + 7919 * (z + 1) + 19) ^ (5 : Int).toNat) (show (0 : Int) < 2147483647 by decide)
        generalize (y + 7919 * (z + 1) + 19) ^ (5 : Int).toNat % 2147483647 = q at g0 g1 ⊢
        omega
      refine ⟨_, rfl, _, _, rfl, rfl, ⟨by decide, by decide⟩, _, rfl, _, _, rfl, rfl, m0, ?_⟩
      exact k _ _ (Int.emod_nonneg _ (by omega)) (Int.emod_lt_of_pos _ m0) (fun a na => upd_ne na) ⟨_, _, _, h1, x0, y0, y1, by omega, by omega⟩
end
end K4


set_option maxRecDepth 100000
set_option maxHeartbeats 4000000
/-! Data in the heap, kept by steps that change a box, a table. -/
namespace My
open PySem PySem.Spec PyProof.Rows L2 GxR Gd TL
/-- all but tables stays -/
def Nt (H H' : Hp) : Prop := ∀ c o, (∀ ps, o ≠ .tbl ps) → H c = some o → H' c = some o
theorem Nt.refl (H : Hp) : Nt H H := fun _ _ _ h => h
theorem Nt.trans {H H1 H2 : Hp} (a : Nt H H1) (b : Nt H1 H2) : Nt H H2 := fun c o n h => b c o n (a c o n h)
theorem KT.nt {P : Addr} {H H' : Hp} (t : TabG H P) (k : KT P H H') : Nt H H' := fun c o n h => k.keep c o (ne_tab t h n) h
theorem Nt.alloc {H : Hp} {p : Addr} {o : HO} (n : H p = none) : Nt H (upd H p o) := fun c u _ h => by rw [upd_ne (ne_of_none h n)]; exact h
/-- the heap but the box -/
def hide (b : Addr) (H : Hp) : Hp := fun c => if c = b then none else H c
theorem hide_ne {b c : Addr} {H : Hp} (h : c ≠ b) : hide b H c = H c := if_neg h
theorem hide_some {b c : Addr} {H : Hp} {o : HO} (h : hide b H c = some o) : c ≠ b ∧ H c = some o := by
  unfold hide at h
  by_cases q : c = b
  · rw [if_pos q] at h
    cases h
  · rw [if_neg q] at h
    exact ⟨q, h⟩
theorem KB.nt {b : Addr} {H H' : Hp} (k : KB b H H') : Nt (hide b H) (hide b H') := fun c o _ h => by
  obtain ⟨n, h⟩ := hide_some h
  rw [hide_ne n]
  exact k c o n h
theorem hide_nt (b : Addr) (H : Hp) : Nt (hide b H) H := fun c o _ h => (hide_some h).2
theorem Nt.seq {K : PySem.W.Frag} {H H' : Hp} {a : Addr} {xs : List V} (e : Nt H H') (h : SqL K H a xs) : SqL K H' a xs := by
  rcases h with (h | ⟨o, h⟩) | h
  · exact .inl (.inl (e _ _ (by simp) h))
  · exact .inl (.inr ⟨o, e _ _ (by simp) h⟩)
  · exact .inr h
theorem Nt.seqT {K : PySem.W.Frag} {H H' : Hp} {a : Addr} {xs : List V} (e : Nt H H') (h : SqT K H a xs) : SqT K H' a xs := by
  rcases h with (h | ⟨o, h⟩) | h
  · exact .inl (.inl (e _ _ (by simp) h))
  · exact .inl (.inr ⟨o, e _ _ (by simp) h⟩)
  · exact .inr h
section
variable {K : PySem.W.Frag} {H H' : Hp}
mutual
theorem dp_nt (e : Nt H H') : ∀ {v : V} {d : PyData}, Dp K H v d → Dp K H' v d
  | _, _, .non => .non
  | _, _, .bl b => .bl b
  | _, _, .int i => .int i
  | _, _, .str z => .str z
  | _, _, .lst h a => .lst (e.seq h) (dpAll_nt e a)
  | _, _, .tup h a => .tup (e.seqT h) (dpAll_nt e a)
theorem dpAll_nt (e : Nt H H') : ∀ {vs : List V} {ds : List PyData}, DpAll K H vs ds → DpAll K H' vs ds
  | _, _, .nil => .nil
  | _, _, .cons h t => .cons (dp_nt e h) (dpAll_nt e t)
end
theorem dp_list {v : V} {ds : List PyData} (h : Dp K H v (.list ds)) : ∃ a xs, v = .ref a ∧ SqL K H a xs ∧ DpAll K H xs ds := by
  cases h with
  | lst h a => exact ⟨_, _, rfl, h, a⟩
theorem dp_tuple {v : V} {ds : List PyData} (h : Dp K H v (.tuple ds)) : ∃ a xs, v = .ref a ∧ SqT K H a xs ∧ DpAll K H xs ds := by
  cases h with
  | tup h a => exact ⟨_, _, rfl, h, a⟩
theorem dp_str {v : V} {z : Str} (h : Dp K H v (.str z)) : v = .str z := by
  cases h
  rfl
theorem dp_int {v : V} {i : Int} (h : Dp K H v (.int i)) : v = .int i := by
  cases h
  rfl
theorem dp_none {v : V} (h : Dp K H v .none) : v = .non := by
  cases h
  rfl
theorem dpAll_len : ∀ {xs : List V} {ds : List PyData}, DpAll K H xs ds → xs.length = ds.length
  | _, _, .nil => rfl
  | _, _, .cons _ t => congrArg (· + 1) (dpAll_len t)
theorem dpAll_get : ∀ {xs : List V} {ds : List PyData}, DpAll K H xs ds → ∀ {i : Nat} {x : V}, xs[i]? = some x → ∃ d, ds[i]? = some d ∧ Dp K H x d
  | _, _, .nil, _, _, h => by simp at h
  | _, _, .cons a _, 0, _, h => by simp at h; subst h; exact ⟨_, rfl, a⟩
  | _, _, .cons _ t, i + 1, x, h => by
    obtain ⟨d, h1, h2⟩ := dpAll_get t (i := i) (x := x) (by simpa using h)
    exact ⟨d, by simpa using h1, h2⟩
theorem dpAll_at : ∀ {xs : List V} {ds : List PyData}, DpAll K H xs ds → ∀ {i : Nat} {d : PyData}, ds[i]? = some d → ∃ x, xs[i]? = some x ∧ Dp K H x d
  | _, _, .nil, _, _, h => by simp at h
  | _, _, .cons a _, 0, _, h => by simp at h; subst h; exact ⟨_, rfl, a⟩
  | _, _, .cons _ t, i + 1, d, h => by
    obtain ⟨x, h1, h2⟩ := dpAll_at t (i := i) (d := d) (by simpa using h)
    exact ⟨x, by simpa using h1, h2⟩
theorem dpAll_app : ∀ {xs ys : List V} {ds es : List PyData}, DpAll K H xs ds → DpAll K H ys es → DpAll K H (xs ++ ys) (ds ++ es)
  | _, _, _, _, .nil, h => h
  | _, _, _, _, .cons a t, h => .cons a (dpAll_app t h)
theorem dp_two {v : V} {c d : PyData} (h : Dp K H v (.tuple [c, d])) : ∃ a x y, v = .ref a ∧ SqT K H a [x, y] ∧ Dp K H x c ∧ Dp K H y d := by
  obtain ⟨a, xs, rfl, h1, h2⟩ := dp_tuple h
  cases h2 with
  | cons p t =>
    cases t with
    | cons q t =>
      cases t
      exact ⟨a, _, _, rfl, h1, p, q⟩
theorem dp_three {v : V} {c d e : PyData} (h : Dp K H v (.tuple [c, d, e])) : ∃ a x y z, v = .ref a ∧ SqT K H a [x, y, z] ∧ Dp K H x c ∧ Dp K H y d ∧ Dp K H z e := by
  obtain ⟨a, xs, rfl, h1, h2⟩ := dp_tuple h
  cases h2 with
  | cons p t =>
    cases t with
    | cons q t =>
      cases t with
      | cons r t =>
        cases t
        exact ⟨a, _, _, _, rfl, h1, p, q, r⟩
theorem dp_four {v : V} {c d e f : PyData} (h : Dp K H v (.list [c, d, e, f])) : ∃ a x y z u, v = .ref a ∧ SqL K H a [x, y, z, u] ∧ Dp K H x c ∧ Dp K H y d ∧ Dp K H z e ∧ Dp K H u f := by
  obtain ⟨a, xs, rfl, h1, h2⟩ := dp_list h
  cases h2 with
  | cons p t =>
    cases t with
    | cons q t =>
      cases t with
      | cons r t =>
        cases t with
        | cons s t =>
          cases t
          exact ⟨a, _, _, _, _, rfl, h1, p, q, r, s⟩
end
/-! ### names that are good, worlds of lines -/
def NameOk (z : Str) : Prop := 1 ≤ z.length ∧ z.length ≤ 6 ∧ z.cps.toList.all lc = true
theorem NameOk.good {z : Str} (h : NameOk z) : Good z := fun c hc => by
  have := List.all_eq_true.mp h.2.2 c hc
  unfold lc at this
  simp at this
  omega
theorem NameOk.nm {z : Str} (h : NameOk z) : nm (.str z) = true := by
  obtain ⟨h1, h2, h3⟩ := h
  simp [My.nm, h1, h2, h3]
theorem NameOk.th {z : Str} {H : Hp} (h : NameOk z) : Th H (.str z) := .str z (by have := h.2.1; omega) h.good
structure Wd where
  ps : List (Str × Int)
  st : List (Str × Int)
  lo : List (Int × Int × Int)
  sp : Str
def longsOk (top : Int) : Int → List (Int × Int × Int) → Prop
  | _, [] => True
  | low, (f, l, h) :: r => low ≤ f ∧ f + 2 ≤ l ∧ l ≤ top ∧ 0 ≤ h ∧ h ≤ 1 ∧ longsOk top l r
structure Wd.Ok (w : Wd) : Prop where
  p2 : 2 ≤ w.ps.length
  p6 : w.ps.length ≤ 6
  nm : ∀ p ∈ w.ps, NameOk p.1 ∧ 1 ≤ p.2 ∧ p.2 ≤ 3
  nd : (w.ps.map (·.1)).Nodup
  sl : w.st.length + 1 = w.ps.length
  st : ∀ p ∈ w.st, (p.1 = "staff" ∨ p.1 = "ticket") ∧ 0 ≤ p.2 ∧ p.2 ≤ 1
  ll : w.lo.length ≤ 2
  lo : longsOk (w.ps.length - 1 : Nat) 0 w.lo
  sn : NameOk w.sp
  s0 : w.sp ∉ w.ps.map (·.1)
def dP (p : Str × Int) : PyData := .tuple [.str p.1, .int p.2]
def dL (p : Int × Int × Int) : PyData := .tuple [.int p.1, .int p.2.1, .int p.2.2]
def Wd.data (w : Wd) : PyData := .list [.list (w.ps.map dP), .list (w.st.map dP), .list (w.lo.map dL), .str w.sp]
end My

set_option maxRecDepth 100000
set_option maxHeartbeats 4000000
namespace K4
open PySem PySem.Spec PyProof.Rows L2 GxR Gd TL My
/-- a list or a tuple -/
def SqX (K : PySem.W.Frag) (H : Hp) (a : Addr) (xs : List V) : Prop := SqL K H a xs ∨ SqT K H a xs
theorem same_nt {H H' : Hp} (e : Same H H') : Nt H H' := fun c o _ h => e c o h
theorem same_alloc {H : Hp} {p : Addr} {o : HO} (n : H p = none) : Same H (upd H p o) := fun c u h => by rw [upd_ne (ne_of_none h n)]; exact h
theorem same_kt {Pt : Addr} {H H' : Hp} (t : TabG H Pt) (e : Same H H') : KT Pt H H' := by
  obtain ⟨ps, h1, h2⟩ := t
  exact ⟨fun c o _ h => e c o h, ps, e _ _ h1, h2⟩
theorem SqX.nt {K : PySem.W.Frag} {H H' : Hp} {a : Addr} {xs : List V} (e : Nt H H') (h : SqX K H a xs) : SqX K H' a xs := h.elim (fun q => .inl (e.seq q)) fun q => .inr (e.seqT q)
theorem ty_seqL {K : PySem.W.Frag} {H : Hp} {a : Addr} {xs : List V} (h : SqL K H a xs) : TyX K H (.ref a) (.type "list") := by
  rcases h with (h | ⟨o, h⟩) | ⟨o, its, n, h1, h2, _⟩
  · exact .base (.lst h)
  · exact .base (.frz h)
  · exact .kList h1 h2
theorem ty_seqT {K : PySem.W.Frag} {H : Hp} {a : Addr} {xs : List V} (h : SqT K H a xs) : TyX K H (.ref a) (.type "tuple") := by
  rcases h with (h | ⟨o, h⟩) | ⟨o, its, n, h1, h2, _⟩
  · exact .base (.tup h)
  · exact .fTuple h
  · exact .kTuple h1 h2
section
variable {P : Program} {w : World} {K : PySem.W.Frag} {mg : Str → Option Value} {base : Heap}
abbrev s_is_list : Stmt := top 14
theorem sc_is_list : FnScope ["thing", "low", "high"] ["thing", "low", "high"] (defScope s_is_list) := ⟨rfl, rfl, rfl, by decide +kernel, rfl, by decide +kernel, by decide +kernel⟩
def spIsList (K : PySem.W.Frag) : Sp := fun vs H Q _ => ∃ (a : Addr) (lo hi : Int) (xs : List V), vs = [.ref a, .int lo, .int hi] ∧ SqX K H a xs ∧ ∀ H', Same H H' → Q (.bl (decide (lo ≤ (xs.length : Int)) && decide ((xs.length : Int) ≤ hi))) H'
theorem ok_is_list {f : Addr} {fd : FuncData} (F : Fun K "is_list" "is_list" s_is_list f fd) (T : Txt mg) : FnOk P w K mg base CX0 1 f fd ["thing", "low", "high"] (spIsList K) := by
  refine F.ok sc_is_list (fun vs H Q E h => ?_) (fun cdv A outer s H vs Q E hr h => ?_)
  · obtain ⟨a, lo, hi, xs, rfl, _⟩ := h
    rfl
  · obtain ⟨a, lo, hi, xs, rfl, hX, k⟩ := h
    refine ⟨_, pss_one (ps_ret (pe_and (pe_callB call_isiT (by rfl) T.isinstance_ (by decide +kernel) (pa_cons (pv 0) (pa_cons (pe_tup (pa_cons (pe_bltn (v := .ty "list") (by rfl) T.list_ (by decide +kernel) rfl) (pa_cons (pe_bltn (v := .ty "tuple") (by rfl) T.tuple_ (by decide +kernel) rfl) pa_nil))) pa_nil))) (pe_one (pe_chain op_le op_le (pv 1) (pe_callB call_len_seq (by rfl) T.len_ PySem.boot_len (pa_cons (pv 0) pa_nil)) (pv 2))))), ?_⟩
    refine ⟨_, rfl, (by show 2 ≤ sizeLine; decide), fun t ht => ?_⟩
    have e := same_alloc (o := .tup [.ty "list", .ty "tuple"]) ht
    have hX' := SqX.nt (same_nt e) hX
    have fin : ∃ c, V.bl true = .bl c ∧ if c = true then tChain (rI0 fun i j => .bl (decide (i ≤ j))) (rI0 fun i j => .bl (decide (i ≤ j))) (tVar 1) (tCB (fun xs H Q => ∃ p ys, xs = [.ref p] ∧ (SqL K H p ys ∨ SqT K H p ys) ∧ Q (.int ys.length) H) (tCons (tVar 0) tNil)) (tVar 2) [some (.ref a), some (.int lo), some (.int hi)] (upd H t (.tup [.ty "list", .ty "tuple"])) Q else Q (.bl false) (upd H t (.tup [.ty "list", .ty "tuple"])) := by
      refine ⟨_, rfl, iteT ?_⟩
      refine ⟨_, rfl, _, rfl, a, xs, rfl, hX', _, _, rfl, rfl, _, rfl, ite2 (fun c => ?_) (fun c => ?_)⟩
      · refine ⟨_, rfl, _, _, rfl, rfl, ?_⟩
        have q := k _ e
        rw [c, Bool.true_and] at q
        exact q
      · have q := k _ e
        rw [show decide (lo ≤ (xs.length : Int)) = false by simpa using c, Bool.false_and] at q
        exact q
    rcases hX' with hL | hT
    · exact ⟨_, t, _, _, [.type "list", .type "tuple"], true, rfl, upd_same, .cons (.ty _) (.cons (.ty _) .nil), ty_seqL hL, (by rfl), fin⟩
    · exact ⟨_, t, _, _, [.type "list", .type "tuple"], true, rfl, upd_same, .cons (.ty _) (.cons (.ty _) .nil), ty_seqT hT, (by rfl), fin⟩
abbrev s_is_tuple : Stmt := top 15
theorem sc_is_tuple : FnScope ["thing", "many"] ["thing", "many"] (defScope s_is_tuple) := ⟨rfl, rfl, rfl, by decide +kernel, rfl, by decide +kernel, by decide +kernel⟩
def spIsTuple (K : PySem.W.Frag) : Sp := fun vs H Q _ => ∃ (a : Addr) (n : Int) (xs : List V), vs = [.ref a, .int n] ∧ SqT K H a xs ∧ Q (.bl (decide ((xs.length : Int) = n))) H
theorem ok_is_tuple {f : Addr} {fd : FuncData} (F : Fun K "is_tuple" "is_tuple" s_is_tuple f fd) (T : Txt mg) : FnOk P w K mg base CX0 1 f fd ["thing", "many"] (spIsTuple K) := by
  refine F.ok sc_is_tuple (fun vs H Q E h => ?_) (fun cdv A outer s H vs Q E hr h => ?_)
  · obtain ⟨a, n, xs, rfl, _⟩ := h
    rfl
  · obtain ⟨a, n, xs, rfl, hT, k⟩ := h
    refine ⟨_, pss_one (ps_ret (pe_and (pe_callB call_isi (by rfl) T.isinstance_ (by decide +kernel) (pa_cons (pv 0) (pa_cons (pe_bltn (v := .ty "tuple") (by rfl) T.tuple_ (by decide +kernel) rfl) pa_nil))) (pe_one (pe_cmpR op_eq (pe_callB call_len_seq (by rfl) T.len_ PySem.boot_len (pa_cons (pv 0) pa_nil)) (pv 1) (nomark _))))), ?_⟩
    refine ⟨_, rfl, _, _, _, _, true, rfl, .ty "tuple", ty_seqT hT, (by rfl), _, rfl, iteT ?_⟩
    refine ⟨_, rfl, a, xs, rfl, .inr hT, _, rfl, rfl, ?_⟩
    have e : decide (V.int (xs.length : Int) = V.int n) = decide ((xs.length : Int) = n) := by simp
    show Q (.bl (decide (V.int (xs.length : Int) = V.int n))) H
    rw [e]
    exact k
abbrev s_check_place : Stmt := top 18
theorem sc_check_place : FnScope ["place", "ahead", "name", "roads"] ["place", "ahead"] (defScope s_check_place) := ⟨rfl, rfl, rfl, by decide +kernel, rfl, by decide +kernel, by decide +kernel⟩
def spCheckPlace (K : PySem.W.Frag) (Pt : Addr) : Sp := fun vs H Q _ => ∃ (t l : Addr) (z : Str) (r : Int) (as : List Str), vs = [.ref t, .ref l] ∧ SqT K H t [.str z, .int r] ∧ NameOk z ∧ 1 ≤ r ∧ r ≤ 3 ∧ SqL K H l (as.map V.str) ∧ z ∉ as ∧ TabG H Pt ∧ ∀ H', KT Pt H H' → Q .non H'
theorem flat_strs (as : List Str) : (as.map V.str).all flatV = true := by
  induction as with
  | nil => rfl
  | cons a r ih => simpa [flatV] using ih
theorem inV_strs {z : Str} {as : List Str} (h : z ∉ as) : inV (.str z) (as.map V.str) = false := by
  unfold inV
  rw [List.any_map, ← Bool.not_eq_true, List.any_eq_true]
  rintro ⟨y, hy, e⟩
  have e' : (y == z) = true := e
  exact h (eq_of_beq e' ▸ hy)
theorem ok_check_place {f fTu fNa fWh Pt : Addr} {fd fdTu fdNa fdWh : FuncData} (F : Fun K "_check_place" "_check_place" s_check_place f fd) (T : Txt mg)
    (Nis_tuple : Fn K mg "is_tuple" s_is_tuple ["thing", "many"] fTu fdTu) (Gis_tuple : FnOk P w K mg base CX0 1 fTu fdTu ["thing", "many"] (spIsTuple K))
    (Nis_name : Fn K mg "is_name" sName ["thing"] fNa fdNa) (Gis_name : FnOk P w K mg base CX0 2 fNa fdNa ["thing"] (spName Pt))
    (Nis_whole : Fn K mg "is_whole" sWhole ["thing", "low", "high"] fWh fdWh) (Gis_whole : FnOk P w K mg base CX0 1 fWh fdWh ["thing", "low", "high"] spWhole) :
    FnOk P w K mg base CX0 3 f fd ["place", "ahead"] (spCheckPlace K Pt) := by
  refine F.ok sc_check_place (fun vs H Q E h => ?_) (fun cdv A outer s H vs Q E hr h => ?_)
  · obtain ⟨t, l, z, r, as, rfl, _⟩ := h
    rfl
  · obtain ⟨t, l, z, r, as, rfl, hT, hz, r1, r3, hl, hn, tb, k⟩ := h
    refine ⟨_, pss_cons (ps_if (pt_not (pt_val (pe_call Gis_tuple (hr.mono (by decide)) (by rfl) Nis_tuple.g Nis_tuple.kp Nis_tuple.b .nil pass0 (pa_cons (pv 0) (pa_cons pe_int pa_nil))))) (pss_one ps_never) pss_nil)
      (pss_cons (ps_asg (pv 0) (pg_tup (by rfl) (pgs_cons (pg_name (i := 2) sc_check_place.nd rfl (Or.inl rfl)) (pgs_cons (pg_name (i := 3) sc_check_place.nd rfl (Or.inl rfl)) pgs_nil))))
      (pss_cons (ps_if (pt_not (pt_val (pe_call Gis_name (hr.mono (by decide)) (by rfl) Nis_name.g Nis_name.kp Nis_name.b .nil pass0 (pa_cons (pv 2) pa_nil)))) (pss_one ps_never) pss_nil)
      (pss_cons (ps_if (pt_cmpR op_in_seq (pv 2) (pv 1) rfl) (pss_one ps_never) pss_nil)
      (pss_one (ps_if (pt_not (pt_val (pe_call Gis_whole (hr.mono (by decide)) (by rfl) Nis_whole.g Nis_whole.kp Nis_whole.b .nil pass0 (pa_cons (pv 3) (pa_cons pe_int (pa_cons pe_int pa_nil)))))) (pss_one ps_never) pss_nil))))), ?_⟩
    refine ⟨_, rfl, t, 2, _, rfl, hT, _, rfl, iteF ?_⟩
    refine ⟨_, rfl, t, _, rfl, hT, rfl, _, _, rfl, _, _, rfl, rfl, ?_⟩
    refine ⟨_, rfl, .str z, rfl, hz.th, tb, fun H1 k1 => ?_⟩
    rw [hz.nm]
    refine ⟨_, rfl, iteF ?_⟩
    have n1 := KT.nt tb k1
    refine ⟨_, rfl, _, rfl, l, _, rfl, .inl (n1.seq hl), rfl, flat_strs as, ?_⟩
    refine ⟨_, rfl, ?_⟩
    show if inV (.str z) (as.map V.str) = true then _ else _
    rw [inV_strs hn]
    refine iteF ?_
    refine ⟨_, rfl, .int r, 1, 3, rfl, .int r, ?_⟩
    have e : wh 1 3 (.int r) = true := by simp [wh, r1, r3]
    rw [e]
    exact ⟨_, rfl, iteF (k H1 k1)⟩
end
end K4

set_option maxRecDepth 100000
set_option maxHeartbeats 4000000
namespace K4
open PySem PySem.Spec PyProof.Rows L2 GxR Gd TL My
theorem get_map {α β : Type} {f : α → β} {l : List α} {i : Nat} {d : β} (h : (l.map f)[i]? = some d) : ∃ p, l[i]? = some p ∧ d = f p := by
  rw [List.getElem?_map] at h
  cases e : l[i]? with
  | none =>
    rw [e] at h
    cases h
  | some p =>
    rw [e] at h
    exact ⟨p, rfl, (Option.some.inj h).symm⟩
theorem take_at {α : Type} {l : List α} {i : Nat} {x : α} (h : l[i]? = some x) : l.take (i + 1) = l.take i ++ [x] := by
  rw [List.take_add_one, h]
  rfl
theorem fresh_name {ps : List (Str × Int)} (nd : (ps.map (·.1)).Nodup) {i : Nat} {p : Str × Int} (h : ps[i]? = some p) : p.1 ∉ (ps.take i).map (·.1) := by
  have hi := (List.getElem?_eq_some_iff.mp h).1
  intro hm
  obtain ⟨q, hq, e⟩ := List.mem_map.mp hm
  obtain ⟨j, hj, eq⟩ := List.getElem_of_mem hq
  have hj' : j < i := by
    have := hj
    rw [List.length_take] at this
    omega
  rw [List.getElem_take] at eq
  have e1 : (ps.map (·.1))[j]? = some p.1 := by
    rw [List.getElem?_map, List.getElem?_eq_getElem (by omega), eq]
    simp [e]
  have e2 : (ps.map (·.1))[i]? = some p.1 := by
    rw [List.getElem?_map, h]
    rfl
  have nd2 : (ps.map (·.1)).Pairwise (· ≠ ·) := nd
  have hjl : j < (ps.map (·.1)).length := by rw [List.length_map]; omega
  have hil : i < (ps.map (·.1)).length := by rw [List.length_map]; exact hi
  have z := List.pairwise_iff_getElem.mp nd2 j i hjl hil hj'
  rw [List.getElem?_eq_getElem hjl] at e1
  rw [List.getElem?_eq_getElem hil] at e2
  exact z ((Option.some.inj e1).trans (Option.some.inj e2).symm)
theorem KT.put {Pt L : Addr} {H H' : Hp} {o : HO} (k : KT Pt H H') (n : H L = none) (np : L ≠ Pt) : KT Pt H (upd H' L o) := by
  obtain ⟨k1, ps, e, t⟩ := k
  exact ⟨fun c u q h => by rw [upd_ne (ne_of_none h n)]; exact k1 c u q h, ps, by rw [upd_ne np.symm]; exact e, t⟩
theorem longs_get {top : Int} : ∀ {low : Int} {lo : List (Int × Int × Int)}, longsOk top low lo → ∀ {i : Nat} {p : Int × Int × Int}, lo[i]? = some p →
    (((lo.take i).getLast?.map fun q => q.2.1).getD low) ≤ p.1 ∧ p.1 + 2 ≤ p.2.1 ∧ p.2.1 ≤ top ∧ 0 ≤ p.2.2 ∧ p.2.2 ≤ 1
  | _, [], _, _, _, h => by simp at h
  | low, (f, l, h) :: r, hk, 0, p, e => by
    simp at e
    subst e
    obtain ⟨h1, h2, h3, h4, h5, _⟩ := hk
    exact ⟨by simpa using h1, h2, h3, h4, h5⟩
  | low, (f, l, h) :: r, hk, i + 1, p, e => by
    obtain ⟨h1, h2, h3, h4, h5, h6⟩ := hk
    have ih := longs_get h6 (i := i) (p := p) (by simpa using e)
    refine ⟨?_, ih.2⟩
    have e1 : ((f, l, h) :: r).take (i + 1) = (f, l, h) :: r.take i := rfl
    rw [e1, List.getLast?_cons]
    cases q : (r.take i).getLast? with
    | none =>
      have := ih.1
      rw [q] at this
      simpa using this
    | some z =>
      have := ih.1
      rw [q] at this
      simpa using this
section
variable {P : Program} {w : World} {K : PySem.W.Frag} {mg : Str → Option Value} {base : Heap}
abbrev s_check_places : Stmt := top 17
theorem sc_check_places : FnScope ["places", "ahead", "place"] ["places"] (defScope s_check_places) := ⟨rfl, rfl, rfl, by decide +kernel, rfl, by decide +kernel, by decide +kernel⟩
def spCheckPlaces (K : PySem.W.Frag) (Pt : Addr) : Sp := fun vs H Q _ => ∃ (a : Addr) (xs : List V) (ps : List (Str × Int)), vs = [.ref a] ∧ SqX K H a xs ∧ DpAll K H xs (ps.map dP) ∧ 2 ≤ ps.length ∧ ps.length ≤ 6 ∧
  (∀ p ∈ ps, NameOk p.1 ∧ 1 ≤ p.2 ∧ p.2 ≤ 3) ∧ (ps.map (·.1)).Nodup ∧ TabG H Pt ∧ ∀ H', KT Pt H H' → Q .non H'
theorem ok_check_places {f fL fC Pt : Addr} {fd fdL fdC : FuncData} (F : Fun K "_check_places" "_check_places" s_check_places f fd) (T : Txt mg)
    (Nis_list : Fn K mg "is_list" s_is_list ["thing", "low", "high"] fL fdL) (Gis_list : FnOk P w K mg base CX0 1 fL fdL ["thing", "low", "high"] (spIsList K))
    (Ncheck_place : Fn K mg "_check_place" s_check_place ["place", "ahead"] fC fdC) (Gcheck_place : FnOk P w K mg base CX0 3 fC fdC ["place", "ahead"] (spCheckPlace K Pt)) :
    FnOk P w K mg base CX0 4 f fd ["places"] (spCheckPlaces K Pt) := by
  refine F.ok sc_check_places (fun vs H Q E h => ?_) (fun cdv A outer s H vs Q E hr h => ?_)
  · obtain ⟨a, xs, ps, rfl, _⟩ := h
    rfl
  · obtain ⟨a, xs, ps, rfl, hX, hd, p2, p6, ok, nd, tb, k⟩ := h
    rcases id hX with hL | hT
    · skip
      refine ⟨_, pss_cons (ps_if (pt_not (pt_val (pe_call Gis_list (hr.mono (by decide)) (by rfl) Nis_list.g Nis_list.kp Nis_list.b .nil pass0 (pa_cons (pv 0) (pa_cons pe_int (pa_cons pe_int pa_nil)))))) (pss_one ps_never) pss_nil)
      (pss_cons (ps_set (i := 1) sc_check_places.nd rfl (Or.inl rfl) (pe_lst pa_nil))
      (pss_one (ps_for PassesOwn.never rfl (pi_list (pv 0)) (pg_name (i := 2) sc_check_places.nd rfl (Or.inl rfl)) (pss_cons (ps_expr (pe_call Gcheck_place (hr.mono (by decide)) (by rfl) Ncheck_place.g Ncheck_place.kp Ncheck_place.b .nil pass0 (pa_cons (pv 2) (pa_cons (pv 1) pa_nil))))
          (pss_one (ps_expr (pe_bm PySem.F.plainAttrs_list PySem.F.slot_list_append PySem.F.type_list_append mt_append (pv 1) (pa_cons (pe_ix ix_tup (pv 2) pe_int (fun _ _ => rfl)) pa_nil)))))))), ?_⟩
      refine ⟨_, rfl, a, 2, 6, xs, rfl, hX, fun H1 s1 => ?_⟩
      have el : (xs.length : Int) = (ps.length : Int) := by rw [dpAll_len hd, List.length_map]
      rw [el, show decide ((2 : Int) ≤ (ps.length : Int)) = true from decide_eq_true (by omega), show decide ((ps.length : Int) ≤ 6) = true from decide_eq_true (by omega)]
      refine ⟨_, rfl, iteF ?_⟩
      refine ⟨Nat.zero_le _, fun L hL0 => ?_⟩
      have hLn : H L = none := s1.free hL0
      have kA := (same_kt tb s1).trans (KT.alloc (o := .lst []) (same_kt tb s1).tab hL0)
      have HX := Nt.seq (KT.nt tb kA) hL
      refine ⟨_, rfl, a, rfl, ⟨_, HX⟩, for_list (K := K) (a := a) (xs := xs) (fun i σ H' => ∃ v : Option V, σ = [some (.ref a), some (.ref L), v] ∧ H' L = some (.lst (((ps.take i).map (·.1)).map V.str)) ∧ KT Pt H H')
        ⟨_, rfl, upd_same, kA⟩ (fun i σ H' _ ⟨_, _, _, q⟩ => Nt.seq (KT.nt tb q) hL) ?_ ?_⟩
      · rintro i x σ H2 hx ⟨v, rfl, eL, k2⟩
        obtain ⟨d, hd1, hd2⟩ := dpAll_get hd hx
        obtain ⟨p, hp, rfl⟩ := get_map hd1
        obtain ⟨t, x1, x2, rfl, ht, q1, q2⟩ := dp_two hd2
        obtain rfl := dp_str q1
        obtain rfl := dp_int q2
        have ht2 := Nt.seqT (KT.nt tb k2) ht
        have hpm := List.mem_of_getElem? hp
        obtain ⟨m1, m2, m3⟩ := ok p hpm
        refine ⟨_, rfl, _, rfl, t, L, p.1, p.2, (ps.take i).map (·.1), rfl, ht2, m1, m2, m3, SqL.of eL, fresh_name nd hp, k2.tab, fun H3 k3 => ?_⟩
        have eL3 : H3 L = some (.lst (((ps.take i).map (·.1)).map V.str)) := KT.nt k2.tab k3 L _ (by simp) eL
        have ht3 := Nt.seqT (KT.nt tb (k2.trans k3)) ht
        have nLP : L ≠ Pt := ne_tab k3.tab eL3 (by simp)
        have hi := (List.getElem?_eq_some_iff.mp hp).1
        refine ⟨_, rfl, .inl ⟨rfl, _, SqL.of eL3⟩, _, rfl, t, _, 0, .str p.1, rfl, rfl, ht3, rfl, L, _, _, rfl, rfl, eL3, ?_, ?_⟩
        · rw [List.length_map, List.length_map, List.length_take]
          exact small1000 (by omega)
        · refine ⟨_, rfl, ?_, KT.put (k2.trans k3) hLn nLP⟩
          rw [upd_same, take_at hp, List.map_append, List.map_append]
          rfl
      · rintro σ H2 ⟨v, rfl, eL, k2⟩
        exact k H2 k2
    · skip
      refine ⟨_, pss_cons (ps_if (pt_not (pt_val (pe_call Gis_list (hr.mono (by decide)) (by rfl) Nis_list.g Nis_list.kp Nis_list.b .nil pass0 (pa_cons (pv 0) (pa_cons pe_int (pa_cons pe_int pa_nil)))))) (pss_one ps_never) pss_nil)
      (pss_cons (ps_set (i := 1) sc_check_places.nd rfl (Or.inl rfl) (pe_lst pa_nil))
      (pss_one (ps_for PassesOwn.never rfl (pi_tup (pv 0)) (pg_name (i := 2) sc_check_places.nd rfl (Or.inl rfl)) (pss_cons (ps_expr (pe_call Gcheck_place (hr.mono (by decide)) (by rfl) Ncheck_place.g Ncheck_place.kp Ncheck_place.b .nil pass0 (pa_cons (pv 2) (pa_cons (pv 1) pa_nil))))
          (pss_one (ps_expr (pe_bm PySem.F.plainAttrs_list PySem.F.slot_list_append PySem.F.type_list_append mt_append (pv 1) (pa_cons (pe_ix ix_tup (pv 2) pe_int (fun _ _ => rfl)) pa_nil)))))))), ?_⟩
      refine ⟨_, rfl, a, 2, 6, xs, rfl, hX, fun H1 s1 => ?_⟩
      have el : (xs.length : Int) = (ps.length : Int) := by rw [dpAll_len hd, List.length_map]
      rw [el, show decide ((2 : Int) ≤ (ps.length : Int)) = true from decide_eq_true (by omega), show decide ((ps.length : Int) ≤ 6) = true from decide_eq_true (by omega)]
      refine ⟨_, rfl, iteF ?_⟩
      refine ⟨Nat.zero_le _, fun L hL0 => ?_⟩
      have hLn : H L = none := s1.free hL0
      have kA := (same_kt tb s1).trans (KT.alloc (o := .lst []) (same_kt tb s1).tab hL0)
      have HX := Nt.seqT (KT.nt tb kA) hT
      refine ⟨_, rfl, a, rfl, ⟨_, HX⟩, for_tup (K := K) (a := a) (xs := xs) (fun i σ H' => ∃ v : Option V, σ = [some (.ref a), some (.ref L), v] ∧ H' L = some (.lst (((ps.take i).map (·.1)).map V.str)) ∧ KT Pt H H')
        ⟨_, rfl, upd_same, kA⟩ (fun i σ H' _ ⟨_, _, _, q⟩ => Nt.seqT (KT.nt tb q) hT) ?_ ?_⟩
      · rintro i x σ H2 hx ⟨v, rfl, eL, k2⟩
        obtain ⟨d, hd1, hd2⟩ := dpAll_get hd hx
        obtain ⟨p, hp, rfl⟩ := get_map hd1
        obtain ⟨t, x1, x2, rfl, ht, q1, q2⟩ := dp_two hd2
        obtain rfl := dp_str q1
        obtain rfl := dp_int q2
        have ht2 := Nt.seqT (KT.nt tb k2) ht
        have hpm := List.mem_of_getElem? hp
        obtain ⟨m1, m2, m3⟩ := ok p hpm
        refine ⟨_, rfl, _, rfl, t, L, p.1, p.2, (ps.take i).map (·.1), rfl, ht2, m1, m2, m3, SqL.of eL, fresh_name nd hp, k2.tab, fun H3 k3 => ?_⟩
        have eL3 : H3 L = some (.lst (((ps.take i).map (·.1)).map V.str)) := KT.nt k2.tab k3 L _ (by simp) eL
        have ht3 := Nt.seqT (KT.nt tb (k2.trans k3)) ht
        have nLP : L ≠ Pt := ne_tab k3.tab eL3 (by simp)
        have hi := (List.getElem?_eq_some_iff.mp hp).1
        refine ⟨_, rfl, .inl ⟨rfl, _, SqL.of eL3⟩, _, rfl, t, _, 0, .str p.1, rfl, rfl, ht3, rfl, L, _, _, rfl, rfl, eL3, ?_, ?_⟩
        · rw [List.length_map, List.length_map, List.length_take]
          exact small1000 (by omega)
        · refine ⟨_, rfl, ?_, KT.put (k2.trans k3) hLn nLP⟩
          rw [upd_same, take_at hp, List.map_append, List.map_append]
          rfl
      · rintro σ H2 ⟨v, rfl, eL, k2⟩
        exact k H2 k2
abbrev s_is_stretch : Stmt := top 20
theorem sc_is_stretch : FnScope ["thing", "kind", "home"] ["thing"] (defScope s_is_stretch) := ⟨rfl, rfl, rfl, by decide +kernel, rfl, by decide +kernel, by decide +kernel⟩
def spIsStretch (K : PySem.W.Frag) : Sp := fun vs H Q _ => ∃ (t : Addr) (z : Str) (h : Int), vs = [.ref t] ∧ SqT K H t [.str z, .int h] ∧ (z = "staff" ∨ z = "ticket") ∧ 0 ≤ h ∧ h ≤ 1 ∧ ∀ H', Same H H' → Q (.bl true) H'
theorem ok_is_stretch {f fTu fWh : Addr} {fd fdTu fdWh : FuncData} (F : Fun K "_is_stretch" "_is_stretch" s_is_stretch f fd) (T : Txt mg)
    (Nis_tuple : Fn K mg "is_tuple" s_is_tuple ["thing", "many"] fTu fdTu) (Gis_tuple : FnOk P w K mg base CX0 1 fTu fdTu ["thing", "many"] (spIsTuple K))
    (Nis_whole : Fn K mg "is_whole" sWhole ["thing", "low", "high"] fWh fdWh) (Gis_whole : FnOk P w K mg base CX0 1 fWh fdWh ["thing", "low", "high"] spWhole) :
    FnOk P w K mg base CX0 2 f fd ["thing"] (spIsStretch K) := by
  refine F.ok sc_is_stretch (fun vs H Q E h => ?_) (fun cdv A outer s H vs Q E hr h => ?_)
  · obtain ⟨t, z, h, rfl, _⟩ := h
    rfl
  · obtain ⟨t, z, h, rfl, hT, hz, h0, h1, k⟩ := h
    refine ⟨_, pss_cons (ps_if (pt_not (pt_val (pe_call Gis_tuple (hr.mono (by decide)) (by rfl) Nis_tuple.g Nis_tuple.kp Nis_tuple.b .nil pass0 (pa_cons (pv 0) (pa_cons pe_int pa_nil))))) (pss_one (ps_ret pe_bl)) pss_nil)
      (pss_cons (ps_asg (pv 0) (pg_tup (by rfl) (pgs_cons (pg_name (i := 1) sc_is_stretch.nd rfl (Or.inl rfl)) (pgs_cons (pg_name (i := 2) sc_is_stretch.nd rfl (Or.inl rfl)) pgs_nil))))
      (pss_one (ps_ret (pe_and (pe_cmpR op_in_seq (pv 1) (pe_tup (pa_cons pe_str (pa_cons pe_str pa_nil))) rfl) (pe_one (pe_call Gis_whole (hr.mono (by decide)) (by rfl) Nis_whole.g Nis_whole.kp Nis_whole.b .nil pass0 (pa_cons (pv 2) (pa_cons pe_int (pa_cons pe_int pa_nil))))))))), ?_⟩
    refine ⟨_, rfl, t, 2, _, rfl, hT, _, rfl, iteF ?_⟩
    refine ⟨_, rfl, t, _, rfl, hT, rfl, _, _, rfl, _, _, rfl, rfl, ?_⟩
    refine ⟨_, rfl, (by show 2 ≤ sizeLine; decide), fun u hu => ?_⟩
    have e := same_alloc (o := .tup [.str "staff", .str "ticket"]) hu
    refine ⟨u, _, rfl, .inr (SqT.of upd_same), rfl, rfl, _, rfl, ?_⟩
    have ei : inV (.str z) [.str "staff", .str "ticket"] = true := by
      rcases hz with rfl | rfl <;> decide +kernel
    show if inV (.str z) [.str "staff", .str "ticket"] = true then _ else _
    rw [ei]
    refine iteT ?_
    refine ⟨_, rfl, .int h, 0, 1, rfl, .int h, ?_⟩
    have e2 : wh 0 1 (.int h) = true := by simp [wh, h0, h1]
    rw [e2]
    exact k _ e
abbrev s_check_stretches : Stmt := top 19
theorem sc_check_stretches : FnScope ["stretches", "many", "stretch"] ["stretches", "many"] (defScope s_check_stretches) := ⟨rfl, rfl, rfl, by decide +kernel, rfl, by decide +kernel, by decide +kernel⟩
def spCheckStretches (K : PySem.W.Frag) : Sp := fun vs H Q _ => ∃ (a : Addr) (n : Int) (xs : List V) (st : List (Str × Int)), vs = [.ref a, .int n] ∧ SqX K H a xs ∧ DpAll K H xs (st.map dP) ∧ n = st.length ∧
  (∀ p ∈ st, (p.1 = "staff" ∨ p.1 = "ticket") ∧ 0 ≤ p.2 ∧ p.2 ≤ 1) ∧ ∀ H', Same H H' → Q .non H'
theorem ok_check_stretches {f fL fC : Addr} {fd fdL fdC : FuncData} (F : Fun K "_check_stretches" "_check_stretches" s_check_stretches f fd) (T : Txt mg)
    (Nis_list : Fn K mg "is_list" s_is_list ["thing", "low", "high"] fL fdL) (Gis_list : FnOk P w K mg base CX0 1 fL fdL ["thing", "low", "high"] (spIsList K))
    (Nis_stretch : Fn K mg "_is_stretch" s_is_stretch ["thing"] fC fdC) (Gis_stretch : FnOk P w K mg base CX0 2 fC fdC ["thing"] (spIsStretch K)) :
    FnOk P w K mg base CX0 3 f fd ["stretches", "many"] (spCheckStretches K) := by
  refine F.ok sc_check_stretches (fun vs H Q E h => ?_) (fun cdv A outer s H vs Q E hr h => ?_)
  · obtain ⟨a, n, xs, st, rfl, _⟩ := h
    rfl
  · obtain ⟨a, n, xs, st, rfl, hX, hd, hn, ok, k⟩ := h
    rcases id hX with hL | hT
    · skip
      refine ⟨_, pss_cons (ps_if (pt_not (pt_val (pe_call Gis_list (hr.mono (by decide)) (by rfl) Nis_list.g Nis_list.kp Nis_list.b .nil pass0 (pa_cons (pv 0) (pa_cons (pv 1) (pa_cons (pv 1) pa_nil)))))) (pss_one ps_never) pss_nil)
      (pss_one (ps_for PassesOwn.never rfl (pi_list (pv 0)) (pg_name (i := 2) sc_check_stretches.nd rfl (Or.inl rfl)) (pss_one (ps_if (pt_not (pt_val (pe_call Gis_stretch (hr.mono (by decide)) (by rfl) Nis_stretch.g Nis_stretch.kp Nis_stretch.b .nil pass0 (pa_cons (pv 2) pa_nil)))) (pss_one ps_never) pss_nil)))), ?_⟩
      refine ⟨_, rfl, _, rfl, _, rfl, a, n, n, xs, rfl, hX, fun H1 s1 => ?_⟩
      have el : (xs.length : Int) = n := by rw [dpAll_len hd, List.length_map, hn]
      rw [el, show decide (n ≤ n) = true from decide_eq_true (Int.le_refl n)]
      refine ⟨_, rfl, iteF ?_⟩
      refine ⟨_, rfl, a, rfl, ⟨_, Nt.seq (same_nt s1) hL⟩, for_list (K := K) (a := a) (xs := xs) (fun i σ H' => ∃ v : Option V, σ = [some (.ref a), some (.int n), v] ∧ Same H H')
        ⟨_, rfl, s1⟩ (fun i σ H' _ ⟨_, _, q⟩ => Nt.seq (same_nt q) hL) ?_ ?_⟩
      · rintro i x σ H2 hx ⟨v, rfl, k2⟩
        obtain ⟨d, hd1, hd2⟩ := dpAll_get hd hx
        obtain ⟨p, hp, rfl⟩ := get_map hd1
        obtain ⟨t, x1, x2, rfl, ht, q1, q2⟩ := dp_two hd2
        obtain rfl := dp_str q1
        obtain rfl := dp_int q2
        obtain ⟨m1, m2, m3⟩ := ok p (List.mem_of_getElem? hp)
        exact ⟨_, rfl, t, p.1, p.2, rfl, Nt.seqT (same_nt k2) ht, m1, m2, m3, fun H3 k3 => ⟨_, rfl, iteF ⟨_, rfl, k2.trans k3⟩⟩⟩
      · rintro σ H2 ⟨v, rfl, k2⟩
        exact k H2 k2
    · skip
      refine ⟨_, pss_cons (ps_if (pt_not (pt_val (pe_call Gis_list (hr.mono (by decide)) (by rfl) Nis_list.g Nis_list.kp Nis_list.b .nil pass0 (pa_cons (pv 0) (pa_cons (pv 1) (pa_cons (pv 1) pa_nil)))))) (pss_one ps_never) pss_nil)
      (pss_one (ps_for PassesOwn.never rfl (pi_tup (pv 0)) (pg_name (i := 2) sc_check_stretches.nd rfl (Or.inl rfl)) (pss_one (ps_if (pt_not (pt_val (pe_call Gis_stretch (hr.mono (by decide)) (by rfl) Nis_stretch.g Nis_stretch.kp Nis_stretch.b .nil pass0 (pa_cons (pv 2) pa_nil)))) (pss_one ps_never) pss_nil)))), ?_⟩
      refine ⟨_, rfl, _, rfl, _, rfl, a, n, n, xs, rfl, hX, fun H1 s1 => ?_⟩
      have el : (xs.length : Int) = n := by rw [dpAll_len hd, List.length_map, hn]
      rw [el, show decide (n ≤ n) = true from decide_eq_true (Int.le_refl n)]
      refine ⟨_, rfl, iteF ?_⟩
      refine ⟨_, rfl, a, rfl, ⟨_, Nt.seqT (same_nt s1) hT⟩, for_tup (K := K) (a := a) (xs := xs) (fun i σ H' => ∃ v : Option V, σ = [some (.ref a), some (.int n), v] ∧ Same H H')
        ⟨_, rfl, s1⟩ (fun i σ H' _ ⟨_, _, q⟩ => Nt.seqT (same_nt q) hT) ?_ ?_⟩
      · rintro i x σ H2 hx ⟨v, rfl, k2⟩
        obtain ⟨d, hd1, hd2⟩ := dpAll_get hd hx
        obtain ⟨p, hp, rfl⟩ := get_map hd1
        obtain ⟨t, x1, x2, rfl, ht, q1, q2⟩ := dp_two hd2
        obtain rfl := dp_str q1
        obtain rfl := dp_int q2
        obtain ⟨m1, m2, m3⟩ := ok p (List.mem_of_getElem? hp)
        exact ⟨_, rfl, t, p.1, p.2, rfl, Nt.seqT (same_nt k2) ht, m1, m2, m3, fun H3 k3 => ⟨_, rfl, iteF ⟨_, rfl, k2.trans k3⟩⟩⟩
      · rintro σ H2 ⟨v, rfl, k2⟩
        exact k H2 k2
abbrev s_is_long : Stmt := top 22
theorem sc_is_long : FnScope ["thing", "low", "top", "first", "last", "home"] ["thing", "low", "top"] (defScope s_is_long) := ⟨rfl, rfl, rfl, by decide +kernel, rfl, by decide +kernel, by decide +kernel⟩
def spIsLong (K : PySem.W.Frag) : Sp := fun vs H Q _ => ∃ (t : Addr) (f l h low tp : Int), vs = [.ref t, .int low, .int tp] ∧ SqT K H t [.int f, .int l, .int h] ∧ low ≤ f ∧ f + 2 ≤ l ∧ l ≤ tp ∧ 0 ≤ h ∧ h ≤ 1 ∧ Q (.bl true) H
theorem ok_is_long {f fTu fWh : Addr} {fd fdTu fdWh : FuncData} (F : Fun K "_is_long" "_is_long" s_is_long f fd) (T : Txt mg)
    (Nis_tuple : Fn K mg "is_tuple" s_is_tuple ["thing", "many"] fTu fdTu) (Gis_tuple : FnOk P w K mg base CX0 1 fTu fdTu ["thing", "many"] (spIsTuple K))
    (Nis_whole : Fn K mg "is_whole" sWhole ["thing", "low", "high"] fWh fdWh) (Gis_whole : FnOk P w K mg base CX0 1 fWh fdWh ["thing", "low", "high"] spWhole) :
    FnOk P w K mg base CX0 2 f fd ["thing", "low", "top"] (spIsLong K) := by
  refine F.ok sc_is_long (fun vs H Q E h => ?_) (fun cdv A outer s H vs Q E hr h => ?_)
  · obtain ⟨t, fi, la, h, low, tp, rfl, _⟩ := h
    rfl
  · obtain ⟨t, fi, la, h, low, tp, rfl, hT, a1, a2, a3, a4, a5, k⟩ := h
    refine ⟨_, pss_cons (ps_if (pt_not (pt_val (pe_call Gis_tuple (hr.mono (by decide)) (by rfl) Nis_tuple.g Nis_tuple.kp Nis_tuple.b .nil pass0 (pa_cons (pv 0) (pa_cons pe_int pa_nil))))) (pss_one (ps_ret pe_bl)) pss_nil)
      (pss_cons (ps_asg (pv 0) (pg_tup (by rfl) (pgs_cons (pg_name (i := 3) sc_is_long.nd rfl (Or.inl rfl)) (pgs_cons (pg_name (i := 4) sc_is_long.nd rfl (Or.inl rfl)) (pgs_cons (pg_name (i := 5) sc_is_long.nd rfl (Or.inl rfl)) pgs_nil)))))
      (pss_one (ps_ret (pe_and (pe_call Gis_whole (hr.mono (by decide)) (by rfl) Nis_whole.g Nis_whole.kp Nis_whole.b .nil pass0 (pa_cons (pv 3) (pa_cons (pv 1) (pa_cons (pv 2) pa_nil)))) (pe_and (pe_call Gis_whole (hr.mono (by decide)) (by rfl) Nis_whole.g Nis_whole.kp Nis_whole.b .nil pass0 (pa_cons (pv 4) (pa_cons (pe_op op_add (pv 3) pe_int) (pa_cons (pv 2) pa_nil)))) (pe_one (pe_call Gis_whole (hr.mono (by decide)) (by rfl) Nis_whole.g Nis_whole.kp Nis_whole.b .nil pass0 (pa_cons (pv 5) (pa_cons pe_int (pa_cons pe_int pa_nil)))))))))), ?_⟩
    refine ⟨_, rfl, t, 3, _, rfl, hT, _, rfl, iteF ?_⟩
    refine ⟨_, rfl, t, _, rfl, hT, rfl, _, _, rfl, _, _, rfl, _, _, rfl, rfl, ?_⟩
    refine ⟨_, rfl, _, rfl, _, rfl, .int fi, low, tp, rfl, .int fi, ?_⟩
    rw [show wh low tp (.int fi) = true by simp [wh]; omega]
    refine ⟨_, rfl, iteT ?_⟩
    refine ⟨_, rfl, _, rfl, _, _, rfl, rfl, _, rfl, .int la, fi + 2, tp, rfl, .int la, ?_⟩
    rw [show wh (fi + 2) tp (.int la) = true by simp [wh]; omega]
    refine ⟨_, rfl, iteT ?_⟩
    refine ⟨_, rfl, .int h, 0, 1, rfl, .int h, ?_⟩
    rw [show wh 0 1 (.int h) = true by simp [wh]; omega]
    exact k
abbrev s_check_longs : Stmt := top 21
theorem sc_check_longs : FnScope ["longs", "top", "low", "long"] ["longs", "top"] (defScope s_check_longs) := ⟨rfl, rfl, rfl, by decide +kernel, rfl, by decide +kernel, by decide +kernel⟩
def spCheckLongs (K : PySem.W.Frag) : Sp := fun vs H Q _ => ∃ (a : Addr) (tp : Int) (xs : List V) (lo : List (Int × Int × Int)), vs = [.ref a, .int tp] ∧ SqX K H a xs ∧ DpAll K H xs (lo.map dL) ∧ lo.length ≤ 2 ∧ longsOk tp 0 lo ∧ ∀ H', Same H H' → Q .non H'
def lastOf (lo : List (Int × Int × Int)) (i : Nat) : Int := ((lo.take i).getLast?.map fun q => q.2.1).getD 0
theorem ok_check_longs {f fL fC : Addr} {fd fdL fdC : FuncData} (F : Fun K "_check_longs" "_check_longs" s_check_longs f fd) (T : Txt mg)
    (Nis_list : Fn K mg "is_list" s_is_list ["thing", "low", "high"] fL fdL) (Gis_list : FnOk P w K mg base CX0 1 fL fdL ["thing", "low", "high"] (spIsList K))
    (Nis_long : Fn K mg "_is_long" s_is_long ["thing", "low", "top"] fC fdC) (Gis_long : FnOk P w K mg base CX0 2 fC fdC ["thing", "low", "top"] (spIsLong K)) :
    FnOk P w K mg base CX0 3 f fd ["longs", "top"] (spCheckLongs K) := by
  refine F.ok sc_check_longs (fun vs H Q E h => ?_) (fun cdv A outer s H vs Q E hr h => ?_)
  · obtain ⟨a, n, xs, st, rfl, _⟩ := h
    rfl
  · obtain ⟨a, tp, xs, lo, rfl, hX, hd, l2, ok, k⟩ := h
    rcases id hX with hL | hT
    · skip
      refine ⟨_, pss_cons (ps_if (pt_not (pt_val (pe_call Gis_list (hr.mono (by decide)) (by rfl) Nis_list.g Nis_list.kp Nis_list.b .nil pass0 (pa_cons (pv 0) (pa_cons pe_int (pa_cons pe_int pa_nil)))))) (pss_one ps_never) pss_nil)
      (pss_cons (ps_set (i := 2) sc_check_longs.nd rfl (Or.inl rfl) pe_int)
      (pss_one (ps_for PassesOwn.never rfl (pi_list (pv 0)) (pg_name (i := 3) sc_check_longs.nd rfl (Or.inl rfl)) (pss_cons (ps_if (pt_not (pt_val (pe_call Gis_long (hr.mono (by decide)) (by rfl) Nis_long.g Nis_long.kp Nis_long.b .nil pass0 (pa_cons (pv 3) (pa_cons (pv 2) (pa_cons (pv 1) pa_nil)))))) (pss_one ps_never) pss_nil)
          (pss_one (ps_set (i := 2) sc_check_longs.nd rfl (Or.inl rfl) (pe_ix ix_tup (pv 3) pe_int (fun _ _ => rfl)))))))), ?_⟩
      refine ⟨_, rfl, a, 0, 2, xs, rfl, hX, fun H1 s1 => ?_⟩
      have el : (xs.length : Int) = (lo.length : Int) := by rw [dpAll_len hd, List.length_map]
      rw [el, show decide ((0 : Int) ≤ (lo.length : Int)) = true from decide_eq_true (by omega), show decide ((lo.length : Int) ≤ 2) = true from decide_eq_true (by omega)]
      refine ⟨_, rfl, iteF ?_⟩
      refine ⟨_, rfl, a, rfl, ⟨_, Nt.seq (same_nt s1) hL⟩, for_list (K := K) (a := a) (xs := xs) (fun i σ H' => ∃ v : Option V, σ = [some (.ref a), some (.int tp), some (.int (lastOf lo i)), v] ∧ Same H H')
        ⟨_, rfl, s1⟩ (fun i σ H' _ ⟨_, _, q⟩ => Nt.seq (same_nt q) hL) ?_ ?_⟩
      · rintro i x σ H2 hx ⟨v, rfl, k2⟩
        obtain ⟨d, hd1, hd2⟩ := dpAll_get hd hx
        obtain ⟨p, hp, rfl⟩ := get_map hd1
        obtain ⟨t, x1, x2, x3, rfl, ht, q1, q2, q3⟩ := dp_three hd2
        obtain rfl := dp_int q1
        obtain rfl := dp_int q2
        obtain rfl := dp_int q3
        obtain ⟨m1, m2, m3, m4, m5⟩ := longs_get ok hp
        have ht2 := Nt.seqT (same_nt k2) ht
        refine ⟨_, rfl, _, rfl, _, rfl, t, _, _, _, _, _, rfl, ht2, m1, m2, m3, m4, m5, _, rfl, iteF ?_⟩
        refine ⟨_, rfl, t, _, 1, .int p.2.1, rfl, rfl, ht2, rfl, some (.ref t), ?_, k2⟩
        have e : lastOf lo (i + 1) = p.2.1 := by
          unfold lastOf
          rw [take_at hp, List.getLast?_append]
          simp
        rw [e]
        rfl
      · rintro σ H2 ⟨v, rfl, k2⟩
        exact k H2 k2
    · skip
      refine ⟨_, pss_cons (ps_if (pt_not (pt_val (pe_call Gis_list (hr.mono (by decide)) (by rfl) Nis_list.g Nis_list.kp Nis_list.b .nil pass0 (pa_cons (pv 0) (pa_cons pe_int (pa_cons pe_int pa_nil)))))) (pss_one ps_never) pss_nil)
      (pss_cons (ps_set (i := 2) sc_check_longs.nd rfl (Or.inl rfl) pe_int)
      (pss_one (ps_for PassesOwn.never rfl (pi_tup (pv 0)) (pg_name (i := 3) sc_check_longs.nd rfl (Or.inl rfl)) (pss_cons (ps_if (pt_not (pt_val (pe_call Gis_long (hr.mono (by decide)) (by rfl) Nis_long.g Nis_long.kp Nis_long.b .nil pass0 (pa_cons (pv 3) (pa_cons (pv 2) (pa_cons (pv 1) pa_nil)))))) (pss_one ps_never) pss_nil)
          (pss_one (ps_set (i := 2) sc_check_longs.nd rfl (Or.inl rfl) (pe_ix ix_tup (pv 3) pe_int (fun _ _ => rfl)))))))), ?_⟩
      refine ⟨_, rfl, a, 0, 2, xs, rfl, hX, fun H1 s1 => ?_⟩
      have el : (xs.length : Int) = (lo.length : Int) := by rw [dpAll_len hd, List.length_map]
      rw [el, show decide ((0 : Int) ≤ (lo.length : Int)) = true from decide_eq_true (by omega), show decide ((lo.length : Int) ≤ 2) = true from decide_eq_true (by omega)]
      refine ⟨_, rfl, iteF ?_⟩
      refine ⟨_, rfl, a, rfl, ⟨_, Nt.seqT (same_nt s1) hT⟩, for_tup (K := K) (a := a) (xs := xs) (fun i σ H' => ∃ v : Option V, σ = [some (.ref a), some (.int tp), some (.int (lastOf lo i)), v] ∧ Same H H')
        ⟨_, rfl, s1⟩ (fun i σ H' _ ⟨_, _, q⟩ => Nt.seqT (same_nt q) hT) ?_ ?_⟩
      · rintro i x σ H2 hx ⟨v, rfl, k2⟩
        obtain ⟨d, hd1, hd2⟩ := dpAll_get hd hx
        obtain ⟨p, hp, rfl⟩ := get_map hd1
        obtain ⟨t, x1, x2, x3, rfl, ht, q1, q2, q3⟩ := dp_three hd2
        obtain rfl := dp_int q1
        obtain rfl := dp_int q2
        obtain rfl := dp_int q3
        obtain ⟨m1, m2, m3, m4, m5⟩ := longs_get ok hp
        have ht2 := Nt.seqT (same_nt k2) ht
        refine ⟨_, rfl, _, rfl, _, rfl, t, _, _, _, _, _, rfl, ht2, m1, m2, m3, m4, m5, _, rfl, iteF ?_⟩
        refine ⟨_, rfl, t, _, 1, .int p.2.1, rfl, rfl, ht2, rfl, some (.ref t), ?_, k2⟩
        have e : lastOf lo (i + 1) = p.2.1 := by
          unfold lastOf
          rw [take_at hp, List.getLast?_append]
          simp
        rw [e]
        rfl
      · rintro σ H2 ⟨v, rfl, k2⟩
        exact k H2 k2
end
end K4

set_option maxRecDepth 100000
set_option maxHeartbeats 4000000
/-! enumerate(a tuple) -/
namespace My
open PySem PySem.Spec PyProof.Rows L2
open Builtin in
set_option maxHeartbeats 1000000 in
theorem meets_enum_of {v : Value} {o : Obj} {H : Heap → Prop} (B : Begins v o H) :
    Meets (Builtin.«enumerate.__new__» ⟨[.type "enumerate", v], []⟩) (fun _ R s => H s.heap ∧
      R (.ok (.ret (.ref (s.heap.push o).objs.size))) { s with heap := (s.heap.push o).push { cls := .type "enumerate", data := .fields #[.none, .bool false, .ref s.heap.objs.size, rawInt 0, .none, .none] } }) :=
  .of_wp fun prog w A R s hh => by
    obtain ⟨hp, g, d, tk, os⟩ := s
    obtain ⟨hB, hR⟩ := hh
    have hsub := sub_enumerate
    have it1 : ∀ {A' : Around} {E : Value → Shared → Prop} {Q : Value → Shared → Prop}, Q (.ref hp.objs.size) ⟨hp.push o, g, d, tk, os⟩ → wpAny (model prog w) A' (pyIter v) Q E ⟨hp, g, d, tk, os⟩ :=
      fun z => B.iter prog w _ _ ⟨hp, g, d, tk, os⟩ _ hB z
    wp_walk using it1
    refine wpAny_stack_any fun st => wpAny_pure ?_
    split
    · rename_i c _ _ _ _ _
      cases (c == Value.type "enumerate") <;> (wp_walk using it1; exact ⟨_, rfl, hR⟩)
    · wp_walk using it1
      exact ⟨_, rfl, hR⟩
theorem call_enum_tuple {prog : Program} {w : World} {A : Around} {E : Value → Shared → Prop} {s : Shared} {a : Addr} {items : Array Value} {Q : Value → Shared → Prop} (ht : s.heap.IsTuple a items)
    (h : ∀ h', IsEnum h' (s.heap.objs.size + 1) s.heap.objs.size 0 .none → h'.IsTupleIter s.heap.objs.size a 0 → (∀ b o, s.heap.get? b = some o → h'.get? b = some o) →
      Q (.ref (s.heap.objs.size + 1)) { s with heap := h' }) : wpAny (model prog w) A (call (.type "enumerate") [.ref a]) Q E s := by
  refine callType_new F.called_enumerate (by decide) (F.typeCall_enumerate_1 _) (F.newCall_enumerate_1 _) (fun obj => F.args_object_init_2 obj _) F.entry_enumerate_new (meets_enum_of (begins_tuple a items)) ⟨ht, ?_⟩
  have z1 : (s.heap.push { cls := .type "tuple_iterator", data := .fields #[.ref a, .int 0 0] }).objs.size = s.heap.objs.size + 1 := Heap.size_push ..
  have ge := Heap.get?_push_size (s.heap.push { cls := .type "tuple_iterator", data := .fields #[.ref a, .int 0 0] }) (o := { cls := .type "enumerate", data := .fields #[.none, .bool false, .ref s.heap.objs.size, rawInt 0, .none, .none] }) rfl
  rw [z1] at ge
  show _ ∧ _
  rw [z1]
  exact ⟨⟨_, ge, rfl⟩, h _ ge ⟨_, Heap.get?_push_of_some _ (Heap.get?_push_size _ rfl), rfl, rfl⟩ fun b o x => Heap.get?_push_of_some _ (Heap.get?_push_of_some _ x)⟩
/-- the tuple at a, each item in a new pair with its number -/
def IteT (K : PySem.W.Frag) (a : Addr) : It :=
  ⟨fun i H => ∃ (xs : List V) (x : V), SqT K H a xs ∧ xs[i]? = some x,
   fun i H v H' => ∃ T x, v = .ref T ∧ H T = none ∧ H' = upd H T (.tup [.int (i : Nat), x]) ∧ ∀ xs, SqT K H a xs → xs[i]? = some x,
   fun i H => ∃ xs : List V, SqT K H a xs ∧ xs.length ≤ i⟩
theorem turn_enumT {P : Program} {w : World} {K : PySem.W.Frag} {elts : List Expr} {kk : Nat} {tp : Pos} (a e it : Addr) :
    Turn P w K (.Tuple elts kk tp) (IteT K a) [e, it] e (fun i h => (∃ old, IsEnum h e it ((i : Nat) : Int) old) ∧ h.IsTupleIter it a i ∧ e ≠ it) := by
  have two : ∀ {b : Addr}, b ∈ [e, it] → b = e ∨ b = it := fun {b} hb => by simpa using hb
  constructor
  case mem => exact List.mem_cons_self
  case obj =>
    rintro i h ⟨⟨old, he⟩, ⟨o, ho, hc, hd⟩, hne⟩ b hb
    rcases two hb with rfl | rfl
    · exact ⟨_, he, fun v q => nomatch q⟩
    · exact ⟨o, ho, fun v q => by rw [hd] at q; cases q⟩
  case keep =>
    rintro i h h' ⟨⟨old, he⟩, ⟨o, ho, r⟩, hne⟩ k
    exact ⟨⟨old, k e List.mem_cons_self _ he⟩, ⟨o, k it (by simp) _ ho, r⟩, hne⟩
  case self =>
    rintro A i s Q E ⟨⟨_, he⟩, _⟩ hQ
    exact wpAny_pyIter_enum he hQ
  case item =>
    rintro X rfl rfl rfl hc i pins s σ H E I hf ⟨⟨old, he⟩, hit, hne⟩ ⟨xs, x, hq, hx⟩
    obtain ⟨its, rv, p, hz⟩ := I.tuple hq
    have pt : s.heap.IsTuple a its.toArray := let ⟨o, h1, h2, n, h3⟩ := p; ⟨o, h1, h2, n, h3⟩
    obtain ⟨u, hu, ru⟩ := rv.get hx
    have hi : i < its.toArray.size := by
      have := (List.getElem?_eq_some_iff.mp hu).1
      simpa using this
    have ane : a ≠ it := by
      rintro rfl
      obtain ⟨o1, h1, h2, _⟩ := hit
      obtain ⟨o2, h3, h4, _⟩ := pt
      rw [h1] at h3
      cases h3
      rw [h2] at h4
      simp at h4
    have aee : a ≠ e := by
      rintro rfl
      obtain ⟨o2, h3, h4, _⟩ := pt
      have h1 : s.heap.get? a = some _ := he
      rw [h1] at h3
      cases h3
      simp at h4
    have le : e < s.heap.objs.size := Heap.lt_size he
    have li : it < s.heap.objs.size := by
      obtain ⟨_, q, _⟩ := hit
      exact Heap.lt_size q
    have D := Draws.tuple (prog := X.prog) (w := X.w) (A := X.A.in1) (show X.A.in1.handled = none from I.ok.hd hc) it a ane its.toArray
    refine wpAny_pyNext_enum_itemD D he ⟨hit, pt⟩ hi hne (fun z => ?_) fun y h' tk hy ho hst hT hsz hk => ?_
    · rcases List.mem_cons.mp z with z | z
      · exact hne z
      · exact aee (List.mem_singleton.mp z).symm
    · have ey : y = u := by
        have z : its.toArray[i]? = some u := by simpa using hu
        exact Option.some.inj (hy.symm.trans z)
      subst ey
      refine ⟨_, rfl, wpAny_letOwnedTupleGo_enum (s := { s with heap := h', toks := tk + 1 }) ho fun h2 he2 sb => ?_⟩
      have hT2 : h2.get? s.heap.objs.size = some { cls := .type "tuple", data := .seq #[.int i tk, y] } := (sb.2 _ (Nat.ne_of_gt le)).trans hT
      have new : ObjOk X.prog X.w (upd H s.heap.objs.size (.tup [.int (i : Nat), x])) h2 s.heap.objs.size (.tup [.int (i : Nat), x]) :=
        ⟨(by show 2 ≤ sizeLine; decide), [.int i tk, y], .cons ⟨_, rfl⟩ (.cons ru .nil), ⟨_, hT2, rfl, _, rfl⟩⟩
      have I1 := I.turnedNew (t' := tk + 1) (ch := [e, it]) (h' := h2) (fun b o hb q => (sb.2 b (fun z => hb (by simp [z]))).trans (hk b o (fun z => hb (by simp [z])) (fun z => hb (by simp [z])) q)) hf (Nat.le_refl _) new
      refine ⟨.ref s.heap.objs.size, _, I1, rfl, ⟨_, x, rfl, I.hok.fresh (Nat.le_refl _), rfl, fun ys hy => by rw [I.tuple_inj hy hq]; exact hx⟩, ⟨⟨y, ?_⟩, ?_, hne⟩, fun b hb => ?_⟩
      · have e1 : ((i + 1 : Nat) : Int) = (i : Int) + 1 := by omega
        rw [e1]
        exact he2
      · obtain ⟨o, q1, q2⟩ := hst.1
        exact ⟨o, (sb.2 it (Ne.symm hne)).trans q1, q2⟩
      · have lb : b < s.heap.objs.size := by
          rcases two hb with rfl | rfl
          · exact le
          · exact li
        rw [upd_ne (Nat.ne_of_lt lb)]
        exact (hf b hb).1
  case done =>
    rintro X rfl rfl rfl hc i pins s σ H E I hf ⟨⟨old, he⟩, hit, hne⟩ ⟨xs, hq, hx⟩
    obtain ⟨its, rv, p, hz⟩ := I.tuple hq
    have pt : s.heap.IsTuple a its.toArray := let ⟨o, h1, h2, n, h3⟩ := p; ⟨o, h1, h2, n, h3⟩
    have ane : a ≠ it := by
      rintro rfl
      obtain ⟨o1, h1, h2, _⟩ := hit
      obtain ⟨o2, h3, h4, _⟩ := pt
      rw [h1] at h3
      cases h3
      rw [h2] at h4
      simp at h4
    obtain ⟨f0, f1, f2, f3, f4, f5⟩ := hf it (by simp)
    have hl := rv.length
    -- at the end the place is not told by Draws (it stands at any i ≥ the size): the library's end of a tuple's iterator
    have D : Draws X.prog X.w X.A.in1 it [it, a] i (fun _ _ => False) (fun j h => j = i ∧ h.IsTupleIter it a i ∧ h.IsTuple a its.toArray) := by
      constructor
      case live => rintro j h ⟨_, ⟨o, ho, _⟩, _⟩; exact ⟨o, ho⟩
      case frame => rintro j h h' ⟨ej, st1, st2⟩ hk; exact ⟨ej, st1.at fun o e => hk it (by simp) o e, st2.at fun o e => hk a (by simp) o e⟩
      case item => rintro j s Q E hj ⟨ej, _⟩ _; exact absurd hj (by omega)
      case done => rintro s Q E ⟨_, st1, st2⟩ hE; exact wpAny_nextOf_tuple_end (show X.A.in1.handled = none from I.ok.hd hc) st1 st2 (by simp; omega) hE
    exact wpAny_pyNext_enum_endD D he ⟨rfl, hit, pt⟩ fun h' eb => ⟨rfl, I.turned (t' := s.toks) (fun b o hb q => eb b o hb q) f0 f1 f3 f4 f5⟩
def iEnumT (K : PySem.W.Frag) (ta : TA) : TI := fun σ H R => ta σ H fun vs H1 => ∃ a xs, vs = [.ref a] ∧ SqT K H1 a xs ∧ R (IteT K a) H1
theorem pi_enumT {X : Cx} {e : Expr} {ta : TA} {p pos tp : Pos} {elts : List Expr} {kk : Nat} (hg : Gl X "enumerate") (hm : X.mg "enumerate" = none) (ha : PA X [e] ta) (hs : starEach [e] X.env = [(false, eval e X.env)] := by rfl) :
    PI X (.Tuple elts kk tp) (.Call (.Name "enumerate" p) [e] [] pos) (iEnumT X.K ta) := by
  refine ⟨fun pins s σ H R I h => Call_ (ld_blt I hg hm boot_enumerate (PyProof.Rows.callWith_type1 (thn (ha.run pos pins s σ H _ I h) ?_) hs rfl))⟩
  rintro us s1 ⟨vs, H1, I1, r1, a, xs, rfl, hq, q⟩
  cases r1 with
  | cons r rr =>
    cases rr
    cases r
    obtain ⟨its, rv, p, hz⟩ := I1.tuple hq
    have pt : s1.heap.IsTuple a its.toArray := let ⟨o, h1, h2, n, h3⟩ := p; ⟨o, h1, h2, n, h3⟩
    refine call_enum_tuple pt fun h' he hit hk => wpAny_pyIter_enum he ?_
    have I2 : Inv X pins σ H1 { s1 with heap := h' } := I1.kept (t' := s1.toks) hk
    refine ⟨s1.heap.objs.size + 1, [s1.heap.objs.size + 1, s1.heap.objs.size], _, _, H1, rfl, I2, turn_enumT a (s1.heap.objs.size + 1) s1.heap.objs.size, ⟨⟨.none, he⟩, hit, Nat.succ_ne_self _⟩, fun b hb => ?_, q⟩
    have lb : s1.heap.objs.size ≤ b := by
      have e' : b = s1.heap.objs.size + 1 ∨ b = s1.heap.objs.size := by simpa using hb
      rcases e' with z | z
      · rw [z]; exact Nat.le_add_right _ _
      · rw [z]; exact Nat.le_refl _
    exact I1.fpOk lb (I1.hok.fresh lb)
theorem walk_enumT {K : PySem.W.Frag} {a : Addr} {xs : List V} : Walk (IteT K a) xs.length (fun H => SqT K H a xs) (YPair (fun i => some (.int (i : Nat))) (fun i => xs[i]?)) := by
  refine ⟨fun i _ hi q => ⟨xs, xs[i], q, by simp [hi]⟩, fun _ q => ⟨xs, q, Nat.le_refl _⟩, ?_⟩
  rintro i H v H' _ q ⟨T, x, h1, h2, h3, h4⟩
  exact ⟨T, .int (i : Nat), x, h1, h2, h3, rfl, h4 xs q⟩
/-- a dict comprehension over a walk -/
theorem dc_it {J : It} {n : Nat} {G : Hp → Prop} {Y : Nat → Hp → V → Hp → Prop} (w : Walk J n G Y) {g : TG} {tt : TT} {tk tv : TE} {vs : List Nat} {σ : L2.St} {H1 : Hp} {D : Addr} {Qd : Hp → Prop} (Pv : Nat → Hp → Prop) (h0 : Pv 0 (upd H1 D (.dK [])))
    (hG : ∀ i H, i ≤ n → Pv i H → G H)
    (hs : ∀ i x H H', i < n → Pv i H → Y i H x H' → g x (wipe σ vs) H' fun σ2 H2 => wipe σ2 vs = wipe σ vs ∧ tt σ2 H2 fun b H3 =>
      if b = true then tk σ2 H3 fun y H4 => tv σ2 H4 fun z H5 => ∃ kvs k, y = kV k ∧ H5 D = some (.dK kvs) ∧ kvs.length < sizeLine ∧ Pv (i + 1) (upd H5 D (.dK (putK kvs k z))) else Pv (i + 1) H3) (hd : ∀ H, Pv n H → Qd H) :
    ∃ W : Nat → Nat → Hp → Prop, (∃ m, W 0 m (upd H1 D (.dK []))) ∧ ∀ i m H, W i m H →
      (J.stop i H ∧ Qd H) ∨ (J.go i H ∧ ∃ Nx : Hp → Prop, (∀ H', Nx H' → ∃ m', m' < m ∧ W (i + 1) m' H') ∧ ∀ x H', J.yld i H x H' → g x (wipe σ vs) H' fun σ2 H2 => wipe σ2 vs = wipe σ vs ∧ tt σ2 H2 fun b H3 =>
        if b = true then tk σ2 H3 fun y H4 => tv σ2 H4 fun z H5 => ∃ kvs k, y = kV k ∧ H5 D = some (.dK kvs) ∧ kvs.length < sizeLine ∧ Nx (upd H5 D (.dK (putK kvs k z))) else Nx H3) := by
  refine ⟨fun i m H => i + m = n ∧ Pv i H, ⟨n, by simp, h0⟩, ?_⟩
  rintro i m H ⟨ei, p⟩
  have g1 := hG i H (by omega) p
  cases m with
  | zero =>
    have e : i = n := by omega
    subst e
    exact .inl ⟨w.stops H g1, hd H p⟩
  | succ m =>
    refine .inr ⟨w.goes i H (by omega) g1, Pv (i + 1), fun H' q => ⟨m, Nat.lt_succ_self m, by omega, q⟩, fun x H' y => hs i x H H' (by omega) p (w.yields i H x H' (by omega) g1 y)⟩
end My

set_option maxRecDepth 100000
set_option maxHeartbeats 4000000
namespace K4
open PySem PySem.Spec PyProof.Rows L2 GxR Gd TL My
/-! ### a line in the heap -/
def lf (p1 p2 p3 d : Addr) : List (Str × V) := putF "_numbers" (.ref d) (putF "_longs" (.ref p3) (putF "_stretches" (.ref p2) (putF "_places" (.ref p1) [])))
theorem lf_get (p1 p2 p3 d : Addr) (g : Str) : (lf p1 p2 p3 d).lookup g = if g = "_numbers" then some (.ref d) else if g = "_longs" then some (.ref p3) else if g = "_stretches" then some (.ref p2) else if g = "_places" then some (.ref p1) else none := by
  unfold lf
  rw [lookup_putF, lookup_putF, lookup_putF, lookup_putF]
  rfl
def posOf (ps : List (Str × Int)) (z : Str) : Option Nat := ps.findIdx? fun p => decide (p.1 = z)
/-- what stands in the dict of numbers -/
def NumsAt (H : Hp) (d : Addr) (ps : List (Str × Int)) : Prop := ∃ kvs : List (Key × V), H d = some (.dK kvs) ∧ kvs.length ≤ ps.length ∧ ∀ z, valV kvs (Sum.inr z) = (posOf ps z).map fun j => V.int (j : Nat)
structure LineAt (K : PySem.W.Frag) (C : Addr) (w : Wd) (H : Hp) (x : Addr) : Prop where
  ex : ∃ dx p1 p2 p3 d xs1 xs2 xs3, H x = some (.ins C dx (lf p1 p2 p3 d)) ∧ SqT K H p1 xs1 ∧ DpAll K H xs1 (w.ps.map dP) ∧ SqT K H p2 xs2 ∧ DpAll K H xs2 (w.st.map dP) ∧ SqT K H p3 xs3 ∧ DpAll K H xs3 (w.lo.map dL) ∧ NumsAt H d w.ps
theorem NumsAt.nt {H H' : Hp} {d : Addr} {ps : List (Str × Int)} (e : Nt H H') (h : NumsAt H d ps) : NumsAt H' d ps := by
  obtain ⟨kvs, h1, h2⟩ := h
  exact ⟨kvs, e _ _ (by simp) h1, h2⟩
theorem LineAt.nt {K : PySem.W.Frag} {C : Addr} {w : Wd} {H H' : Hp} {x : Addr} (e : Nt H H') (h : LineAt K C w H x) : LineAt K C w H' x := by
  obtain ⟨dx, p1, p2, p3, d, xs1, xs2, xs3, h1, h2, h3, h4, h5, h6, h7, h8⟩ := h
  exact ⟨dx, p1, p2, p3, d, xs1, xs2, xs3, e _ _ (by simp) h1, e.seqT h2, dpAll_nt e h3, e.seqT h4, dpAll_nt e h5, e.seqT h6, dpAll_nt e h7, h8.nt e⟩
structure ClsT (K : PySem.W.Frag) (C : Addr) : Prop where
  cl : Cls K C
  n1 : NoAttr K C "_places"
  n2 : NoAttr K C "_stretches"
  n3 : NoAttr K C "_longs"
  n4 : NoAttr K C "_numbers"
theorem tup_of {K : PySem.W.Frag} {H : Hp} {a : Addr} {xs : List V} {G : VK} (h : SqX K H a xs) (k : ∀ p H', Same H H' → SqT K H' p xs → G (.ref p) H') :
    ∃ p ys, [V.ref a] = [V.ref p] ∧ ((SqL K H p ys ∧ ∀ l, H l = none → G (.ref l) (upd H l (.tup ys))) ∨ (SqT K H p ys ∧ G (.ref p) H)) := by
  rcases h with h | h
  · exact ⟨a, xs, rfl, .inl ⟨h, fun l hl => k l _ (same_alloc hl) (SqT.of upd_same)⟩⟩
  · exact ⟨a, xs, rfl, .inr ⟨h, k a H (Same.refl H) h⟩⟩
/-- lists and tuples stay -/
def Ls (H H' : Hp) : Prop := ∀ c o, (∀ ps, o ≠ .tbl ps) → (∀ C d fs, o ≠ .ins C d fs) → H c = some o → H' c = some o
theorem Ls.trans {H H1 H2 : Hp} (a : Ls H H1) (b : Ls H1 H2) : Ls H H2 := fun c o n m h => b c o n m (a c o n m h)
theorem Ls.seq {K : PySem.W.Frag} {H H' : Hp} {a : Addr} {xs : List V} (e : Ls H H') (h : SqL K H a xs) : SqL K H' a xs := by
  rcases h with (h | ⟨o, h⟩) | h
  · exact .inl (.inl (e _ _ (by simp) (by simp) h))
  · exact .inl (.inr ⟨o, e _ _ (by simp) (by simp) h⟩)
  · exact .inr h
theorem Ls.seqT {K : PySem.W.Frag} {H H' : Hp} {a : Addr} {xs : List V} (e : Ls H H') (h : SqT K H a xs) : SqT K H' a xs := by
  rcases h with (h | ⟨o, h⟩) | h
  · exact .inl (.inl (e _ _ (by simp) (by simp) h))
  · exact .inl (.inr ⟨o, e _ _ (by simp) (by simp) h⟩)
  · exact .inr h
theorem Ls.seqX {K : PySem.W.Frag} {H H' : Hp} {a : Addr} {xs : List V} (e : Ls H H') (h : SqX K H a xs) : SqX K H' a xs := h.elim (fun q => .inl (e.seq q)) fun q => .inr (e.seqT q)
section
variable {K : PySem.W.Frag} {H H' : Hp}
mutual
theorem dp_ls (e : Ls H H') : ∀ {v : V} {d : PyData}, Dp K H v d → Dp K H' v d
  | _, _, .non => .non
  | _, _, .bl b => .bl b
  | _, _, .int i => .int i
  | _, _, .str z => .str z
  | _, _, .lst h a => .lst (e.seq h) (dpAll_ls e a)
  | _, _, .tup h a => .tup (e.seqT h) (dpAll_ls e a)
theorem dpAll_ls (e : Ls H H') : ∀ {vs : List V} {ds : List PyData}, DpAll K H vs ds → DpAll K H' vs ds
  | _, _, .nil => .nil
  | _, _, .cons h t => .cons (dp_ls e h) (dpAll_ls e t)
end
end
/-- all but the new line and the table stays -/
structure KI (x Pt : Addr) (H H' : Hp) : Prop where
  keep : ∀ c o, c ≠ x → c ≠ Pt → H c = some o → H' c = some o
  tab : TabG H' Pt
theorem KI.ls {x Pt C dx : Addr} {fs : List (Str × V)} {H H' : Hp} (hx : H x = some (.ins C dx fs)) (t : TabG H Pt) (k : KI x Pt H H') : Ls H H' := fun c o n m h => by
  refine k.keep c o ?_ (ne_tab t h n) h
  rintro rfl
  rw [hx] at h
  exact m _ _ _ (Option.some.inj h).symm
theorem KI.trans {x Pt : Addr} {H H1 H2 : Hp} (a : KI x Pt H H1) (b : KI x Pt H1 H2) : KI x Pt H H2 := ⟨fun c o n1 n2 h => b.keep c o n1 n2 (a.keep c o n1 n2 h), b.tab⟩
theorem KI.of {x Pt : Addr} {H H' : Hp} (k : KT Pt H H') : KI x Pt H H' := ⟨fun c o _ n h => k.keep c o n h, k.tab⟩
theorem KI.same {x Pt : Addr} {H H' : Hp} (t : TabG H Pt) (s : Same H H') : KI x Pt H H' := KI.of (same_kt t s)
theorem KI.put {x Pt : Addr} {H : Hp} {o : HO} (t : TabG H Pt) (n : x ≠ Pt) : KI x Pt H (upd H x o) := by
  obtain ⟨ps, e, ht⟩ := t
  exact ⟨fun c u nx _ h => by rw [upd_ne nx]; exact h, ps, by rw [upd_ne n.symm]; exact e, ht⟩
theorem posOf_nil (z : Str) : posOf [] z = none := rfl
theorem posOf_snoc (ps : List (Str × Int)) (p : Str × Int) (z : Str) (h : p.1 ∉ ps.map (·.1)) : posOf (ps ++ [p]) z = if p.1 = z then some ps.length else posOf ps z := by
  unfold posOf
  rw [List.findIdx?_append]
  by_cases e : p.1 = z
  · rw [if_pos e]
    have n : ps.findIdx? (fun p => decide (p.1 = z)) = none := by
      rw [List.findIdx?_eq_none_iff]
      intro q hq
      have : q.1 ≠ z := fun eq => h (List.mem_map.mpr ⟨q, hq, eq.trans e.symm⟩)
      simpa using this
    rw [n]
    simp [List.findIdx?_cons, e]
  · rw [if_neg e]
    simp [List.findIdx?_cons, e]
theorem same_ls {H H' : Hp} (e : Same H H') : Ls H H' := fun c o _ _ h => e c o h
theorem KB.seq' {D : Addr} {H H' : Hp} (n : H D = none) (k : KB D H H') : Ls H H' := fun c o _ _ h => k c o (fun e => by rw [e, n] at h; cases h) h
section
variable {P : Program} {w : World} {K : PySem.W.Frag} {mg : Str → Option Value} {base : Heap}
abbrev s_init : Stmt := inClass (top 23) 0
theorem sc_init : FnScope ["self", "places", "stretches", "longs", "top", "rows", "number", "name", "_"] ["self", "places", "stretches", "longs"] (defScope s_init) := ⟨rfl, rfl, rfl, by decide +kernel, rfl, by decide +kernel, by decide +kernel⟩
/-- a def that may have defaults -/
structure FunV (K : PySem.W.Frag) (x qual : Str) (st : Stmt) (f : Addr) (fd : FuncData) : Prop where
  ex : ∃ (oc : Value) (od : Option Addr) (dV kV doc pm : Value) (an : Option Addr) (cdv ct : Value) (osl : Array (Option Value)),
    fd = PySem.W.fnOf x qual (defArgs st) (defBody st) (defScope st) dV kV doc pm an cdv ct ∧ K.lookup f = some ⟨oc, od, .func fd, osl⟩ ∧ PySem.W.codeIn K cdv qual = true
theorem FunV.ok {x qual : Str} {st : Stmt} {f : Addr} {fd : FuncData} {N ps : List Str} {k : Nat} {sp : Sp} (F : FunV K x qual st f fd) (S : FnScope N ps (defScope st)) (len : ∀ vs H Q E, sp vs H Q E → vs.length = ps.length)
    (hbody : ∀ (cdv : Value) (A : Around) (outer : List Env) (s : Shared) (H : Hp) (vs : List V) (Q : VK) (E : XK), Room k (A.deeper (envOfC qual (defScope st) s.heap.objs.size f cdv)) → sp vs H Q E →
      ∃ t, PSs (cxOf CX0 P w K mg base N qual (defScope st) f cdv A outer s H E).nox (defBody st) t ∧ t { nx := fun _ H' => Q .non H', rt := Q } (start N vs) H) : FnOk P w K mg base CX0 (k + 1) f fd ps sp := by
  obtain ⟨oc, od, dV, kV, doc, pm, an, cdv, ct, osl, rfl, lk, hcd⟩ := F.ex
  refine fn_of lk hcd S len fun A outer s H vs Q E hr hsp => ?_
  obtain ⟨t, h, q⟩ := hbody cdv A outer s H vs Q E hr hsp
  exact ⟨t, h.nox, q⟩
/-- what is handed in where longs stand -/
def LongsIn (K : PySem.W.Frag) (H : Hp) (v : V) (lo : List (Int × Int × Int)) : Prop := (v = .non ∧ lo = []) ∨ ∃ a xs, v = .ref a ∧ SqX K H a xs ∧ DpAll K H xs (lo.map dL)
def spInit (K : PySem.W.Frag) (C Pt : Addr) : Sp := fun vs H Q _ => ∃ (x dx a1 a2 : Addr) (v3 : V) (xs1 xs2 : List V) (wd : Wd), vs = [.ref x, .ref a1, .ref a2, v3] ∧ H x = some (.ins C dx []) ∧
  SqX K H a1 xs1 ∧ DpAll K H xs1 (wd.ps.map dP) ∧ SqX K H a2 xs2 ∧ DpAll K H xs2 (wd.st.map dP) ∧ LongsIn K H v3 wd.lo ∧ wd.Ok ∧ TabG H Pt ∧
  ∀ H', KI x Pt H H' → LineAt K C wd H' x → Q .non H'
theorem rows_read {σ : L2.St} {H : Hp} {v : V} {lo : List (Int × Int × Int)} {G : VK} (hv : σ[3]? = some (some v)) (hL : LongsIn K H v lo)
    (k : ∀ a xs H', Same H H' → SqX K H' a xs → DpAll K H' xs (lo.map dL) → G (.ref a) H') :
    tIf (tTest (tOp (fun x y H Q => y = V.non ∧ Q (V.bl (decide (x = V.non))) H) (tVar 3) (tC V.non))) (tTup tNil) (tVar 3) σ H G := by
  refine ⟨v, hv, rfl, _, rfl, ?_⟩
  rcases hL with ⟨rfl, rfl⟩ | ⟨a, xs, rfl, h1, h2⟩
  · refine iteT ⟨Nat.zero_le _, fun p hp => ?_⟩
    exact k p [] _ (same_alloc hp) (.inr (SqT.of upd_same)) .nil
  · have e : decide (V.ref a = V.non) = false := decide_eq_false (by simp)
    rw [e]
    exact iteF ⟨_, hv, k a xs H (Same.refl H) h1 h2⟩
theorem tup_read {σ : L2.St} {H : Hp} {i : Nat} {a : Addr} {xs : List V} {G : VK} (hv : σ[i]? = some (some (.ref a))) (h : SqX K H a xs) (k : ∀ p H', Same H H' → SqT K H' p xs → G (.ref p) H') :
    tCB (fun xs H Q => ∃ p ys, xs = [V.ref p] ∧ ((SqL K H p ys ∧ ∀ l, H l = none → Q (.ref l) (upd H l (.tup ys))) ∨ (SqT K H p ys ∧ Q (.ref p) H))) (tCons (tVar i) tNil) σ H G := by
  refine ⟨_, hv, a, xs, rfl, ?_⟩
  rcases h with h | h
  · exact .inl ⟨h, fun l hl => k l _ (same_alloc hl) (SqT.of upd_same)⟩
  · exact .inr ⟨h, k a H (Same.refl H) h⟩
theorem fld_read {D : Ends} {σ : L2.St} {H : Hp} {i : Nat} {a x C dx : Addr} {xs : List V} {f : Str} {fs : List (Str × V)} (h0 : σ[0]? = some (some (.ref x))) (hv : σ[i]? = some (some (.ref a))) (hx : H x = some (.ins C dx fs)) (c : Cls K C) (n : NoAttr K C f) (l : fs.length < 1000)
    (h : SqX K H a xs) (k : ∀ p H', Same H H' → SqT K H' p xs → D.nx σ (upd H' x (.ins C dx (putF f (.ref p) fs)))) :
    sFld K (tVar 0) (tCB (fun xs H Q => ∃ p ys, xs = [V.ref p] ∧ ((SqL K H p ys ∧ ∀ l, H l = none → Q (.ref l) (upd H l (.tup ys))) ∨ (SqT K H p ys ∧ Q (.ref p) H))) (tCons (tVar i) tNil)) f D σ H :=
  tup_read hv h fun p H' s hp => ⟨_, h0, x, C, dx, fs, rfl, s _ _ hx, c, n, l, k p H' s hp⟩
theorem LongsIn.ls {H H' : Hp} {v : V} {lo : List (Int × Int × Int)} (e : Ls H H') (h : LongsIn K H v lo) : LongsIn K H' v lo := by
  rcases h with ⟨rfl, rfl⟩ | ⟨a, xs, rfl, h1, h2⟩
  · exact .inl ⟨rfl, rfl⟩
  · exact .inr ⟨a, xs, rfl, e.seqX h1, dpAll_ls e h2⟩
theorem ok_init {f fP fS fL C Pt : Addr} {fd fdP fdS fdL : FuncData} (F : FunV K "__init__" "Line.__init__" s_init f fd) (T : Txt mg) (TC : ClsT K C)
    (Ncheck_places : Fn K mg "_check_places" s_check_places ["places"] fP fdP) (Gcheck_places : FnOk P w K mg base CX0 4 fP fdP ["places"] (spCheckPlaces K Pt))
    (Ncheck_stretches : Fn K mg "_check_stretches" s_check_stretches ["stretches", "many"] fS fdS) (Gcheck_stretches : FnOk P w K mg base CX0 3 fS fdS ["stretches", "many"] (spCheckStretches K))
    (Ncheck_longs : Fn K mg "_check_longs" s_check_longs ["longs", "top"] fL fdL) (Gcheck_longs : FnOk P w K mg base CX0 3 fL fdL ["longs", "top"] (spCheckLongs K)) :
    FnOk P w K mg base CX0 5 f fd ["self", "places", "stretches", "longs"] (spInit K C Pt) := by
  refine F.ok sc_init (fun vs H Q E h => ?_) (fun cdv A outer s H vs Q E hr h => ?_)
  · obtain ⟨x, dx, a1, a2, v3, xs1, xs2, wd, rfl, _⟩ := h
    rfl
  · obtain ⟨x, dx, a1, a2, v3, xs1, xs2, wd, rfl, hx, hX1, hd1, hX2, hd2, hX3, ok, tb, k⟩ := h
    have nxP : x ≠ Pt := ne_tab tb hx (by simp)
    have ok' := ok
    have l1 : xs1.length = wd.ps.length := by rw [dpAll_len hd1, List.length_map]
    rcases id hX1 with hL | hT
    · skip
      refine ⟨_, pss_cons (ps_expr (pe_call Gcheck_places (hr.mono (by decide)) (by rfl) Ncheck_places.g Ncheck_places.kp Ncheck_places.b .nil pass0 (pa_cons (pv 1) pa_nil)))
      (pss_cons (ps_set (i := 4) sc_init.nd rfl (Or.inl rfl) (pe_op op_sub (pe_callB call_len_seq (by rfl) T.len_ PySem.boot_len (pa_cons (pv 1) pa_nil)) pe_int))
      (pss_cons (ps_expr (pe_call Gcheck_stretches (hr.mono (by decide)) (by rfl) Ncheck_stretches.g Ncheck_stretches.kp Ncheck_stretches.b .nil pass0 (pa_cons (pv 2) (pa_cons (pv 4) pa_nil))))
      (pss_cons (ps_set (i := 5) sc_init.nd rfl (Or.inl rfl) (pe_ifExp (pt_cmpR op_isN (pv 3) pe_non (nomark _)) (pe_tup pa_nil) (pv 3)))
      (pss_cons (ps_expr (pe_call Gcheck_longs (hr.mono (by decide)) (by rfl) Ncheck_longs.g Ncheck_longs.kp Ncheck_longs.b .nil pass0 (pa_cons (pv 5) (pa_cons (pv 4) pa_nil))))
      (pss_cons (ps_fld (pv 0) (pe_callTy call_tuple_of (by rfl) T.tuple_ (by decide +kernel) (pa_cons (pv 1) pa_nil)) rfl)
      (pss_cons (ps_fld (pv 0) (pe_callTy call_tuple_of (by rfl) T.tuple_ (by decide +kernel) (pa_cons (pv 2) pa_nil)) rfl)
      (pss_cons (ps_fld (pv 0) (pe_callTy call_tuple_of (by rfl) T.tuple_ (by decide +kernel) (pa_cons (pv 5) pa_nil)) rfl)
      (pss_one (ps_fld (pv 0) (pe_dc (own := [("number", 6), ("name", 7), ("_", 8)]) (g := gTup K 2 (gCons (gName 6) (gCons (gTup K 2 (gCons (gName 7) (gCons (gName 8) gNil))) gNil))) (tt := tYes) rfl sc_init.nd (pi_enum (by rfl) T.enumerate_ (pa_cons (pv 1) pa_nil)) (blkOk_by (own := [("number", 6), ("name", 7), ("_", 8)]) (N := ["self", "places", "stretches", "longs", "top", "rows", "number", "name", "_"]) (sc := defScope s_init) (by decide +kernel)) (fun _ _ _ _ _ => (pg_tup (by rfl) (pgs_cons (pg_name (i := 6) sc_init.nd rfl (Or.inl rfl)) (pgs_cons (pg_tup (by rfl) (pgs_cons (pg_name (i := 7) sc_init.nd rfl (Or.inl rfl)) (pgs_cons (pg_name (i := 8) sc_init.nd rfl (Or.inl rfl)) pgs_nil))) pgs_nil)))) (fun _ _ _ _ _ => pts_nil) (fun _ _ _ _ _ => pv 7) (fun _ _ _ _ _ => pv 6)) rfl))))))))), ?_⟩
      refine ⟨_, rfl, a1, xs1, wd.ps, rfl, hX1, hd1, ok.p2, ok.p6, ok.nm, ok.nd, tb, fun H1 k1 => ?_⟩
      have i1 : KI x Pt H H1 := KI.of k1
      have e1 := i1.ls hx tb
      have hx1 := KT.nt tb k1 x _ (by simp) hx
      refine ⟨_, rfl, a1, xs1, rfl, e1.seqX hX1, _, _, rfl, rfl, ?_⟩
      refine ⟨_, rfl, _, rfl, a2, _, xs2, wd.st, rfl, e1.seqX hX2, dpAll_ls e1 hd2, (by have := ok.sl; omega), ok.st, fun H2 s2 => ?_⟩
      have i2 := i1.trans (KI.same (x := x) i1.tab s2)
      have e2 := i2.ls hx tb
      refine rows_read (σ := _) rfl (hX3.ls e2) (fun a3 xs3 H3 s3 hX3' hd3' => ?_)
      have i3 := i2.trans (KI.same (x := x) i2.tab s3)
      refine ⟨_, rfl, _, rfl, a3, _, xs3, wd.lo, rfl, hX3', hd3', ok.ll, (by have q := ok.lo; rw [show ((xs1.length : Int) - 1) = ((wd.ps.length - 1 : Nat) : Int) by have := ok.p2; omega]; exact q), fun H4 s4 => ?_⟩
      have i4 := i3.trans (KI.same (x := x) i3.tab s4)
      have e4 := i4.ls hx tb
      have hx4 := s4 _ _ (s3 _ _ (s2 _ _ hx1))
      refine fld_read (i := 1) rfl rfl hx4 TC.cl TC.n1 (by decide) (e4.seqX hX1) (fun p1 H5 s5 hp1 => ?_)
      have j5 := i4.trans (KI.same (x := x) i4.tab s5)
      have i6 := j5.trans (KI.put (o := .ins C dx (putF "_places" (.ref p1) [])) j5.tab nxP)
      have hx6 : (upd H5 x (.ins C dx (putF "_places" (.ref p1) []))) x = some (.ins C dx (putF "_places" (.ref p1) [])) := upd_same
      have u6 : Ls H5 (upd H5 x (.ins C dx (putF "_places" (.ref p1) []))) := (KI.put j5.tab nxP).ls (s5 _ _ hx4) j5.tab
      generalize upd H5 x (.ins C dx (putF "_places" (.ref p1) [])) = H6 at i6 hx6 u6 ⊢
      have e6 := i6.ls hx tb
      refine fld_read (i := 2) rfl rfl hx6 TC.cl TC.n2 (Nat.lt_of_le_of_lt (length_putF _ _ _) (by decide)) (e6.seqX hX2) (fun p2 H7 s7 hp2 => ?_)
      have j7 := i6.trans (KI.same (x := x) i6.tab s7)
      have i8 := j7.trans (KI.put (o := .ins C dx (putF "_stretches" (.ref p2) (putF "_places" (.ref p1) []))) j7.tab nxP)
      have hx8 : (upd H7 x (.ins C dx (putF "_stretches" (.ref p2) (putF "_places" (.ref p1) [])))) x = some (.ins C dx (putF "_stretches" (.ref p2) (putF "_places" (.ref p1) []))) := upd_same
      have u8 : Ls H7 (upd H7 x (.ins C dx (putF "_stretches" (.ref p2) (putF "_places" (.ref p1) [])))) := (KI.put j7.tab nxP).ls (s7 _ _ hx6) j7.tab
      generalize upd H7 x (.ins C dx (putF "_stretches" (.ref p2) (putF "_places" (.ref p1) []))) = H8 at i8 hx8 u8 ⊢
      have e8 := i8.ls hx tb
      have lf8 : (putF "_stretches" (.ref p2) (putF "_places" (.ref p1) [])).length ≤ 2 := Nat.le_trans (length_putF _ _ _) (Nat.succ_le_succ (length_putF _ _ _))
      have e34 : Ls H3 H8 := (((((same_ls s4).trans (same_ls s5)).trans u6).trans (same_ls s7)).trans u8)
      refine fld_read (i := 5) rfl rfl hx8 TC.cl TC.n3 (Nat.lt_of_le_of_lt lf8 (by decide)) (e34.seqX hX3') (fun p3 H9 s9 hp3 => ?_)
      have j9 := i8.trans (KI.same (x := x) i8.tab s9)
      have iA := j9.trans (KI.put (o := .ins C dx (putF "_longs" (.ref p3) (putF "_stretches" (.ref p2) (putF "_places" (.ref p1) [])))) j9.tab nxP)
      have hxA : (upd H9 x (.ins C dx (putF "_longs" (.ref p3) (putF "_stretches" (.ref p2) (putF "_places" (.ref p1) []))))) x = some (.ins C dx (putF "_longs" (.ref p3) (putF "_stretches" (.ref p2) (putF "_places" (.ref p1) [])))) := upd_same
      have uA : Ls H9 (upd H9 x (.ins C dx (putF "_longs" (.ref p3) (putF "_stretches" (.ref p2) (putF "_places" (.ref p1) []))))) := (KI.put j9.tab nxP).ls (s9 _ _ hx8) j9.tab
      generalize upd H9 x (.ins C dx (putF "_longs" (.ref p3) (putF "_stretches" (.ref p2) (putF "_places" (.ref p1) [])))) = HA at iA hxA uA ⊢
      have eA := iA.ls hx tb
      have hp1A : SqT K HA p1 xs1 := uA.seqT ((same_ls s9).seqT (u8.seqT ((same_ls s7).seqT (u6.seqT hp1))))
      have hp2A : SqT K HA p2 xs2 := uA.seqT ((same_ls s9).seqT (u8.seqT hp2))
      have hp3A : SqT K HA p3 xs3 := uA.seqT hp3
      have hd3A := dpAll_ls (e34.trans ((same_ls s9).trans uA)) hd3'
      have hd1A := dpAll_ls eA hd1
      have hd2A := dpAll_ls eA hd2
      refine ⟨_, rfl, a1, xs1, rfl, eA.seq hL, fun D hD => dc_it (walk_enum (K := K) (xs := xs1)) (fun i H' => KB D HA H' ∧ ∃ kvs : List (Key × V), H' D = some (.dK kvs) ∧ kvs.length ≤ i ∧ ∀ z, valV kvs (Sum.inr z) = (posOf (wd.ps.take i) z).map fun j => V.int (j : Nat)) ?_ ?_ ?_ ?_⟩
      · exact ⟨KB.alloc hD, [], upd_same, Nat.zero_le _, fun z => rfl⟩
      · rintro i H' hi ⟨kb, _⟩
        exact (KB.seq' hD kb).seq (eA.seq hL)
      · rintro i v H' H'' hi ⟨kb, kvs, hk1, hk2, hk3⟩ ⟨T1, X, Y, rfl, hT1, rfl, q1, q2⟩
        obtain rfl := Option.some.inj q1
        obtain ⟨d, hg1, hg2⟩ := dpAll_get hd1A q2
        obtain ⟨p, hp, rfl⟩ := get_map hg1
        obtain ⟨t, x1, x2, rfl, ht, r1, r2⟩ := dp_two hg2
        obtain rfl := dp_str r1
        obtain rfl := dp_int r2
        have nD : D ≠ T1 := fun e => by rw [← e, hk1] at hT1; cases hT1
        have ht1 : SqT K (upd H' T1 (.tup [.int (i : Nat), .ref t])) t [.str p.1, .int p.2] := (same_ls (same_alloc hT1)).seqT ((KB.seq' hD kb).seqT ht)
        refine ⟨T1, _, rfl, SqT.of upd_same, rfl, _, _, rfl, _, _, rfl, t, _, rfl, ht1, rfl, _, _, rfl, _, _, rfl, rfl, rfl, rfl, ?_⟩
        refine lcY ⟨_, rfl, _, rfl, kvs, Sum.inr p.1, rfl, by rw [upd_ne nD]; exact hk1, (by show kvs.length < sizeLine; have := ok.p6; exact Nat.lt_of_le_of_lt hk2 (Nat.lt_trans (Nat.lt_of_lt_of_le hi (by omega : xs1.length ≤ 6)) (by decide))), ?_⟩
        refine ⟨fun c o n h => by rw [upd_ne n]; exact (same_alloc hT1) _ _ (kb c o n h), _, upd_same, Nat.le_trans (length_putK _ _ _) (Nat.succ_le_succ hk2), fun z => ?_⟩
        rw [valV_put, take_at hp, posOf_snoc _ _ _ (fresh_name ok.nd hp)]
        have li : (wd.ps.take i).length = i := by rw [List.length_take]; have := (List.getElem?_eq_some_iff.mp hp).1; omega
        by_cases ez : p.1 = z
        · rw [if_pos ez, if_pos (by rw [ez]), li]
          rfl
        · rw [if_neg ez, if_neg (fun e => ez (Sum.inr.inj e).symm)]
          exact hk3 z
      · rintro H' ⟨kb, kvs, hk1, hk2, hk3⟩
        have nxD : x ≠ D := fun e => by rw [← e, hxA] at hD; cases hD
        have sB : Same HA H' := fun c o h => kb c o (fun e => by rw [e, hD] at h; cases h) h
        have jB := iA.trans (KI.same (x := x) iA.tab sB)
        have iB := jB.trans (KI.put (o := .ins C dx (lf p1 p2 p3 D)) jB.tab nxP)
        have uB : Ls H' (upd H' x (.ins C dx (lf p1 p2 p3 D))) := (KI.put jB.tab nxP).ls (sB _ _ hxA) jB.tab
        have eB := (same_ls sB).trans uB
        refine ⟨_, rfl, x, C, dx, _, rfl, sB _ _ hxA, TC.cl, TC.n4, (Nat.lt_of_le_of_lt (Nat.le_trans (length_putF _ _ _) (Nat.succ_le_succ lf8)) (by decide)), k _ iB ⟨dx, p1, p2, p3, D, xs1, xs2, xs3, upd_same, eB.seqT hp1A, dpAll_ls eB hd1A, eB.seqT hp2A, dpAll_ls eB hd2A, eB.seqT hp3A, dpAll_ls eB hd3A, kvs, ?_, ?_, fun z => ?_⟩⟩
        · rw [upd_ne nxD.symm]
          exact hk1
        · omega
        · rw [hk3 z, List.take_of_length_le (by omega)]
    · skip
      refine ⟨_, pss_cons (ps_expr (pe_call Gcheck_places (hr.mono (by decide)) (by rfl) Ncheck_places.g Ncheck_places.kp Ncheck_places.b .nil pass0 (pa_cons (pv 1) pa_nil)))
      (pss_cons (ps_set (i := 4) sc_init.nd rfl (Or.inl rfl) (pe_op op_sub (pe_callB call_len_seq (by rfl) T.len_ PySem.boot_len (pa_cons (pv 1) pa_nil)) pe_int))
      (pss_cons (ps_expr (pe_call Gcheck_stretches (hr.mono (by decide)) (by rfl) Ncheck_stretches.g Ncheck_stretches.kp Ncheck_stretches.b .nil pass0 (pa_cons (pv 2) (pa_cons (pv 4) pa_nil))))
      (pss_cons (ps_set (i := 5) sc_init.nd rfl (Or.inl rfl) (pe_ifExp (pt_cmpR op_isN (pv 3) pe_non (nomark _)) (pe_tup pa_nil) (pv 3)))
      (pss_cons (ps_expr (pe_call Gcheck_longs (hr.mono (by decide)) (by rfl) Ncheck_longs.g Ncheck_longs.kp Ncheck_longs.b .nil pass0 (pa_cons (pv 5) (pa_cons (pv 4) pa_nil))))
      (pss_cons (ps_fld (pv 0) (pe_callTy call_tuple_of (by rfl) T.tuple_ (by decide +kernel) (pa_cons (pv 1) pa_nil)) rfl)
      (pss_cons (ps_fld (pv 0) (pe_callTy call_tuple_of (by rfl) T.tuple_ (by decide +kernel) (pa_cons (pv 2) pa_nil)) rfl)
      (pss_cons (ps_fld (pv 0) (pe_callTy call_tuple_of (by rfl) T.tuple_ (by decide +kernel) (pa_cons (pv 5) pa_nil)) rfl)
      (pss_one (ps_fld (pv 0) (pe_dc (own := [("number", 6), ("name", 7), ("_", 8)]) (g := gTup K 2 (gCons (gName 6) (gCons (gTup K 2 (gCons (gName 7) (gCons (gName 8) gNil))) gNil))) (tt := tYes) rfl sc_init.nd (pi_enumT (by rfl) T.enumerate_ (pa_cons (pv 1) pa_nil)) (blkOk_by (own := [("number", 6), ("name", 7), ("_", 8)]) (N := ["self", "places", "stretches", "longs", "top", "rows", "number", "name", "_"]) (sc := defScope s_init) (by decide +kernel)) (fun _ _ _ _ _ => (pg_tup (by rfl) (pgs_cons (pg_name (i := 6) sc_init.nd rfl (Or.inl rfl)) (pgs_cons (pg_tup (by rfl) (pgs_cons (pg_name (i := 7) sc_init.nd rfl (Or.inl rfl)) (pgs_cons (pg_name (i := 8) sc_init.nd rfl (Or.inl rfl)) pgs_nil))) pgs_nil)))) (fun _ _ _ _ _ => pts_nil) (fun _ _ _ _ _ => pv 7) (fun _ _ _ _ _ => pv 6)) rfl))))))))), ?_⟩
      refine ⟨_, rfl, a1, xs1, wd.ps, rfl, hX1, hd1, ok.p2, ok.p6, ok.nm, ok.nd, tb, fun H1 k1 => ?_⟩
      have i1 : KI x Pt H H1 := KI.of k1
      have e1 := i1.ls hx tb
      have hx1 := KT.nt tb k1 x _ (by simp) hx
      refine ⟨_, rfl, a1, xs1, rfl, e1.seqX hX1, _, _, rfl, rfl, ?_⟩
      refine ⟨_, rfl, _, rfl, a2, _, xs2, wd.st, rfl, e1.seqX hX2, dpAll_ls e1 hd2, (by have := ok.sl; omega), ok.st, fun H2 s2 => ?_⟩
      have i2 := i1.trans (KI.same (x := x) i1.tab s2)
      have e2 := i2.ls hx tb
      refine rows_read (σ := _) rfl (hX3.ls e2) (fun a3 xs3 H3 s3 hX3' hd3' => ?_)
      have i3 := i2.trans (KI.same (x := x) i2.tab s3)
      refine ⟨_, rfl, _, rfl, a3, _, xs3, wd.lo, rfl, hX3', hd3', ok.ll, (by have q := ok.lo; rw [show ((xs1.length : Int) - 1) = ((wd.ps.length - 1 : Nat) : Int) by have := ok.p2; omega]; exact q), fun H4 s4 => ?_⟩
      have i4 := i3.trans (KI.same (x := x) i3.tab s4)
      have e4 := i4.ls hx tb
      have hx4 := s4 _ _ (s3 _ _ (s2 _ _ hx1))
      refine fld_read (i := 1) rfl rfl hx4 TC.cl TC.n1 (by decide) (e4.seqX hX1) (fun p1 H5 s5 hp1 => ?_)
      have j5 := i4.trans (KI.same (x := x) i4.tab s5)
      have i6 := j5.trans (KI.put (o := .ins C dx (putF "_places" (.ref p1) [])) j5.tab nxP)
      have hx6 : (upd H5 x (.ins C dx (putF "_places" (.ref p1) []))) x = some (.ins C dx (putF "_places" (.ref p1) [])) := upd_same
      have u6 : Ls H5 (upd H5 x (.ins C dx (putF "_places" (.ref p1) []))) := (KI.put j5.tab nxP).ls (s5 _ _ hx4) j5.tab
      generalize upd H5 x (.ins C dx (putF "_places" (.ref p1) [])) = H6 at i6 hx6 u6 ⊢
      have e6 := i6.ls hx tb
      refine fld_read (i := 2) rfl rfl hx6 TC.cl TC.n2 (Nat.lt_of_le_of_lt (length_putF _ _ _) (by decide)) (e6.seqX hX2) (fun p2 H7 s7 hp2 => ?_)
      have j7 := i6.trans (KI.same (x := x) i6.tab s7)
      have i8 := j7.trans (KI.put (o := .ins C dx (putF "_stretches" (.ref p2) (putF "_places" (.ref p1) []))) j7.tab nxP)
      have hx8 : (upd H7 x (.ins C dx (putF "_stretches" (.ref p2) (putF "_places" (.ref p1) [])))) x = some (.ins C dx (putF "_stretches" (.ref p2) (putF "_places" (.ref p1) []))) := upd_same
      have u8 : Ls H7 (upd H7 x (.ins C dx (putF "_stretches" (.ref p2) (putF "_places" (.ref p1) [])))) := (KI.put j7.tab nxP).ls (s7 _ _ hx6) j7.tab
      generalize upd H7 x (.ins C dx (putF "_stretches" (.ref p2) (putF "_places" (.ref p1) []))) = H8 at i8 hx8 u8 ⊢
      have e8 := i8.ls hx tb
      have lf8 : (putF "_stretches" (.ref p2) (putF "_places" (.ref p1) [])).length ≤ 2 := Nat.le_trans (length_putF _ _ _) (Nat.succ_le_succ (length_putF _ _ _))
      have e34 : Ls H3 H8 := (((((same_ls s4).trans (same_ls s5)).trans u6).trans (same_ls s7)).trans u8)
      refine fld_read (i := 5) rfl rfl hx8 TC.cl TC.n3 (Nat.lt_of_le_of_lt lf8 (by decide)) (e34.seqX hX3') (fun p3 H9 s9 hp3 => ?_)
      have j9 := i8.trans (KI.same (x := x) i8.tab s9)
      have iA := j9.trans (KI.put (o := .ins C dx (putF "_longs" (.ref p3) (putF "_stretches" (.ref p2) (putF "_places" (.ref p1) [])))) j9.tab nxP)
      have hxA : (upd H9 x (.ins C dx (putF "_longs" (.ref p3) (putF "_stretches" (.ref p2) (putF "_places" (.ref p1) []))))) x = some (.ins C dx (putF "_longs" (.ref p3) (putF "_stretches" (.ref p2) (putF "_places" (.ref p1) [])))) := upd_same
      have uA : Ls H9 (upd H9 x (.ins C dx (putF "_longs" (.ref p3) (putF "_stretches" (.ref p2) (putF "_places" (.ref p1) []))))) := (KI.put j9.tab nxP).ls (s9 _ _ hx8) j9.tab
      generalize upd H9 x (.ins C dx (putF "_longs" (.ref p3) (putF "_stretches" (.ref p2) (putF "_places" (.ref p1) [])))) = HA at iA hxA uA ⊢
      have eA := iA.ls hx tb
      have hp1A : SqT K HA p1 xs1 := uA.seqT ((same_ls s9).seqT (u8.seqT ((same_ls s7).seqT (u6.seqT hp1))))
      have hp2A : SqT K HA p2 xs2 := uA.seqT ((same_ls s9).seqT (u8.seqT hp2))
      have hp3A : SqT K HA p3 xs3 := uA.seqT hp3
      have hd3A := dpAll_ls (e34.trans ((same_ls s9).trans uA)) hd3'
      have hd1A := dpAll_ls eA hd1
      have hd2A := dpAll_ls eA hd2
      refine ⟨_, rfl, a1, xs1, rfl, eA.seqT hT, fun D hD => dc_it (walk_enumT (K := K) (xs := xs1)) (fun i H' => KB D HA H' ∧ ∃ kvs : List (Key × V), H' D = some (.dK kvs) ∧ kvs.length ≤ i ∧ ∀ z, valV kvs (Sum.inr z) = (posOf (wd.ps.take i) z).map fun j => V.int (j : Nat)) ?_ ?_ ?_ ?_⟩
      · exact ⟨KB.alloc hD, [], upd_same, Nat.zero_le _, fun z => rfl⟩
      · rintro i H' hi ⟨kb, _⟩
        exact (KB.seq' hD kb).seqT (eA.seqT hT)
      · rintro i v H' H'' hi ⟨kb, kvs, hk1, hk2, hk3⟩ ⟨T1, X, Y, rfl, hT1, rfl, q1, q2⟩
        obtain rfl := Option.some.inj q1
        obtain ⟨d, hg1, hg2⟩ := dpAll_get hd1A q2
        obtain ⟨p, hp, rfl⟩ := get_map hg1
        obtain ⟨t, x1, x2, rfl, ht, r1, r2⟩ := dp_two hg2
        obtain rfl := dp_str r1
        obtain rfl := dp_int r2
        have nD : D ≠ T1 := fun e => by rw [← e, hk1] at hT1; cases hT1
        have ht1 : SqT K (upd H' T1 (.tup [.int (i : Nat), .ref t])) t [.str p.1, .int p.2] := (same_ls (same_alloc hT1)).seqT ((KB.seq' hD kb).seqT ht)
        refine ⟨T1, _, rfl, SqT.of upd_same, rfl, _, _, rfl, _, _, rfl, t, _, rfl, ht1, rfl, _, _, rfl, _, _, rfl, rfl, rfl, rfl, ?_⟩
        refine lcY ⟨_, rfl, _, rfl, kvs, Sum.inr p.1, rfl, by rw [upd_ne nD]; exact hk1, (by show kvs.length < sizeLine; have := ok.p6; exact Nat.lt_of_le_of_lt hk2 (Nat.lt_trans (Nat.lt_of_lt_of_le hi (by omega : xs1.length ≤ 6)) (by decide))), ?_⟩
        refine ⟨fun c o n h => by rw [upd_ne n]; exact (same_alloc hT1) _ _ (kb c o n h), _, upd_same, Nat.le_trans (length_putK _ _ _) (Nat.succ_le_succ hk2), fun z => ?_⟩
        rw [valV_put, take_at hp, posOf_snoc _ _ _ (fresh_name ok.nd hp)]
        have li : (wd.ps.take i).length = i := by rw [List.length_take]; have := (List.getElem?_eq_some_iff.mp hp).1; omega
        by_cases ez : p.1 = z
        · rw [if_pos ez, if_pos (by rw [ez]), li]
          rfl
        · rw [if_neg ez, if_neg (fun e => ez (Sum.inr.inj e).symm)]
          exact hk3 z
      · rintro H' ⟨kb, kvs, hk1, hk2, hk3⟩
        have nxD : x ≠ D := fun e => by rw [← e, hxA] at hD; cases hD
        have sB : Same HA H' := fun c o h => kb c o (fun e => by rw [e, hD] at h; cases h) h
        have jB := iA.trans (KI.same (x := x) iA.tab sB)
        have iB := jB.trans (KI.put (o := .ins C dx (lf p1 p2 p3 D)) jB.tab nxP)
        have uB : Ls H' (upd H' x (.ins C dx (lf p1 p2 p3 D))) := (KI.put jB.tab nxP).ls (sB _ _ hxA) jB.tab
        have eB := (same_ls sB).trans uB
        refine ⟨_, rfl, x, C, dx, _, rfl, sB _ _ hxA, TC.cl, TC.n4, (Nat.lt_of_le_of_lt (Nat.le_trans (length_putF _ _ _) (Nat.succ_le_succ lf8)) (by decide)), k _ iB ⟨dx, p1, p2, p3, D, xs1, xs2, xs3, upd_same, eB.seqT hp1A, dpAll_ls eB hd1A, eB.seqT hp2A, dpAll_ls eB hd2A, eB.seqT hp3A, dpAll_ls eB hd3A, kvs, ?_, ?_, fun z => ?_⟩⟩
        · rw [upd_ne nxD.symm]
          exact hk1
        · omega
        · rw [hk3 z, List.take_of_length_le (by omega)]
end
end K4

set_option maxRecDepth 100000
set_option maxHeartbeats 4000000
namespace K4
open PySem PySem.Spec PyProof.Rows L2 GxR Gd TL My
structure Mt (K : PySem.W.Frag) (C : Addr) (m q : Str) (st : Stmt) (ps : List Str) (f : Addr) (fd : FuncData) : Prop where
  fn : Fun K m q st f fd
  m : Meth K C m f
  b : Binds K fd ps []
def betw (i j : Nat) : V := if j = i + 1 then .int (i : Nat) else if i = j + 1 then .int (j : Nat) else .non
def lbt (lo : List (Int × Int × Int)) (a b : Int) : V := match lo.findIdx? fun p => decide (p.1 = a) && decide (p.2.1 = b) with
  | some j => .int (j : Nat)
  | none => .non
theorem lf_numbers (p1 p2 p3 d : Addr) : (lf p1 p2 p3 d).lookup (Str.ofString "_numbers") = some (V.ref d) := by rw [lf_get, if_pos rfl]
theorem lf_longs (p1 p2 p3 d : Addr) : (lf p1 p2 p3 d).lookup (Str.ofString "_longs") = some (V.ref p3) := by rw [lf_get, if_neg (by decide +kernel), if_pos rfl]
theorem lf_no (p1 p2 p3 d : Addr) {m : Str} (h : (decide (m = "_numbers") || decide (m = "_longs") || decide (m = "_stretches") || decide (m = "_places")) = false) : (lf p1 p2 p3 d).lookup m = none := by
  rw [lf_get]
  rw [Bool.or_eq_false_iff, Bool.or_eq_false_iff, Bool.or_eq_false_iff, decide_eq_false_iff_not, decide_eq_false_iff_not, decide_eq_false_iff_not, decide_eq_false_iff_not] at h
  obtain ⟨⟨⟨h1, h2⟩, h3⟩, h4⟩ := h
  rw [if_neg h1, if_neg h2, if_neg h3, if_neg h4]
theorem lf_places (p1 p2 p3 d : Addr) : (lf p1 p2 p3 d).lookup (Str.ofString "_places") = some (V.ref p1) := by rw [lf_get, if_neg (by decide +kernel), if_neg (by decide +kernel), if_neg (by decide +kernel), if_pos rfl]
theorem lf_stretches (p1 p2 p3 d : Addr) : (lf p1 p2 p3 d).lookup (Str.ofString "_stretches") = some (V.ref p2) := by rw [lf_get, if_neg (by decide +kernel), if_neg (by decide +kernel), if_pos rfl]
section
variable {P : Program} {w : World} {K : PySem.W.Frag} {mg : Str → Option Value} {base : Heap}
abbrev s_told : Stmt := inClass (top 23) 17
theorem sc_told : FnScope ["self"] ["self"] (defScope s_told) := ⟨rfl, rfl, rfl, by decide +kernel, rfl, by decide +kernel, by decide +kernel⟩
def spTold (K : PySem.W.Frag) (C : Addr) : Sp := fun vs H Q _ => ∃ (x : Addr) (wd : Wd), vs = [.ref x] ∧ LineAt K C wd H x ∧ ∀ t H', Same H H' → Dp K H' (.ref t) (.tuple [.tuple (wd.ps.map dP), .tuple (wd.st.map dP), .tuple (wd.lo.map dL)]) → Q (.ref t) H'
theorem ok_told {f C : Addr} {fd : FuncData} (F : Fun K "told" "Line.told" s_told f fd) (T : Txt mg) (TC : ClsT K C) : FnOk P w K mg base CX0 1 f fd ["self"] (spTold K C) := by
  refine F.ok sc_told (fun vs H Q E h => ?_) (fun cdv A outer s H vs Q E hr h => ?_)
  · obtain ⟨x, wd, rfl, _⟩ := h
    rfl
  · obtain ⟨x, wd, rfl, ⟨dx, p1, p2, p3, d, xs1, xs2, xs3, hx, hp1, hd1, hp2, hd2, hp3, hd3, hN⟩, k⟩ := h
    refine ⟨_, pss_one (ps_ret (pe_tup (pa_cons (pe_fld (pv 0) rfl) (pa_cons (pe_fld (pv 0) rfl) (pa_cons (pe_fld (pv 0) rfl) pa_nil))))), ?_⟩
    refine ⟨_, rfl, x, C, dx, _, _, rfl, hx, TC.cl, TC.n1, lf_places _ _ _ _, _, rfl, x, C, dx, _, _, rfl, hx, TC.cl, TC.n2, lf_stretches _ _ _ _, _, rfl, x, C, dx, _, _, rfl, hx, TC.cl, TC.n3, lf_longs _ _ _ _, (by show 3 ≤ sizeLine; decide), fun t ht => ?_⟩
    have e := same_nt (same_alloc (o := .tup [.ref p1, .ref p2, .ref p3]) ht)
    exact k t _ (same_alloc ht) (.tup (SqT.of upd_same) (.cons (.tup (e.seqT hp1) (dpAll_nt e hd1)) (.cons (.tup (e.seqT hp2) (dpAll_nt e hd2)) (.cons (.tup (e.seqT hp3) (dpAll_nt e hd3)) .nil))))
end
end K4

set_option maxRecDepth 100000
set_option maxHeartbeats 4000000
/-! the names that a law draws: three ways, all good, all apart -/
namespace My
open PySem PySem.Spec PyProof.Rows L2 GxR Gd TL
theorem tl_inj {a b : Str} (h : tl a = tl b) : a = b := by
  obtain ⟨⟨x⟩⟩ := a
  obtain ⟨⟨y⟩⟩ := b
  have e : x = y := h
  rw [e]
theorem name_of {z : Str} (h1 : 1 ≤ (tl z).length) (h2 : (tl z).length ≤ 6) (h3 : ∀ c ∈ tl z, lc c = true) : NameOk z := by
  rw [tl_len] at h1 h2
  exact ⟨h1, h2, List.all_eq_true.mpr h3⟩
theorem tl_to {z : Str} {j : Nat} (h : j ≤ (tl z).length) : tl (cutS z none (some (j : Int))) = (tl z).take j := by
  show (((tl z).drop (HT.sIx z.length 0 none)).take (HT.sIx z.length z.length (some (j : Int)) - HT.sIx z.length 0 none)) = _
  rw [HT.sIx_none, HT.sIx_nat, ← tl_len, Nat.min_eq_left h]
  simp
theorem tl_cut {z : Str} {a b : Nat} (h : b ≤ (tl z).length) (ha : a ≤ b) : tl (cutS z (some (a : Int)) (some (b : Int))) = ((tl z).drop a).take (b - a) := by
  show (((tl z).drop (HT.sIx z.length 0 (some (a : Int)))).take (HT.sIx z.length z.length (some (b : Int)) - HT.sIx z.length 0 (some (a : Int)))) = _
  rw [HT.sIx_nat, HT.sIx_nat, ← tl_len, Nat.min_eq_left h, Nat.min_eq_left (Nat.le_trans ha h)]
theorem joinL_ones : ∀ cs : List Nat, joinL [] (cs.map fun c => [c]) = cs
  | [] => rfl
  | [c] => rfl
  | c :: d :: r => by
    have ih := joinL_ones (d :: r)
    show [c] ++ ([] ++ joinL [] ((d :: r).map fun c => [c])) = _
    rw [ih]
    rfl
theorem tl_ones (cs : List Nat) : tl (Txt.join (Str.ofString "") (cs.map fun c => ⟨#[c]⟩)) = cs := by
  rw [join_eq, tl_join, List.map_map]
  have e : tl (Str.ofString "") = [] := by decide +kernel
  rw [e]
  exact joinL_ones cs
/-- all good, all apart -/
structure Nms (ns : List Str) : Prop where
  ok : ∀ z ∈ ns, NameOk z
  nd : ns.Nodup
theorem nms_of {f : Nat → Str} {n : Nat} (ok : ∀ k, k < n → NameOk (f k)) (ap : ∀ j k, j < k → k < n → f j ≠ f k) : Nms ((List.range n).map f) := by
  refine ⟨fun z hz => ?_, ?_⟩
  · obtain ⟨k, hk, rfl⟩ := List.mem_map.mp hz
    exact ok k (List.mem_range.mp hk)
  · show ((List.range n).map f).Pairwise (· ≠ ·)
    rw [List.pairwise_map]
    have p : (List.range n).Pairwise (fun a b => a < b) := List.pairwise_lt_range
    refine List.Pairwise.imp_of_mem ?_ p
    intro a b ha hb hab
    exact ap a b hab (List.mem_range.mp hb)
/-! the first way -/
def wds : List Str := ["place", "staff", "ticket", "low", "high", "long", "pilot", "train", "at", "to", "in", "get", "a"]
theorem wds_ok : ∀ z ∈ wds, NameOk z := by
  intro z hz
  have h : (wds.all fun z => decide (1 ≤ (tl z).length) && decide ((tl z).length ≤ 6) && (tl z).all lc) = true := by decide +kernel
  have q := List.all_eq_true.mp h z hz
  rw [Bool.and_eq_true, Bool.and_eq_true, decide_eq_true_eq, decide_eq_true_eq] at q
  exact name_of q.1.1 q.1.2 (List.all_eq_true.mp q.2)
theorem wds_nd : wds.Nodup := by decide +kernel
def nm0 (a : Int) (k : Nat) : Str := (wds[((a + 5 * (k : Int)) % 13).toNat]?).getD ⟨#[]⟩
theorem nm0_at (a : Int) (k : Nat) : atI wds ((a + 5 * (k : Int)) % 13) = some (nm0 a k) := by
  have h0 := Int.emod_nonneg (a + 5 * (k : Int)) (by decide : (13 : Int) ≠ 0)
  have h1 := Int.emod_lt_of_pos (a + 5 * (k : Int)) (by decide : (0 : Int) < 13)
  have hl : wds.length = 13 := by decide +kernel
  generalize e : (a + 5 * (k : Int)) % 13 = m at h0 h1
  obtain ⟨j, rfl⟩ := Int.eq_ofNat_of_zero_le h0
  have hj : j < wds.length := by omega
  unfold nm0
  rw [e, Int.toNat_natCast, List.getElem?_eq_getElem hj]
  exact atI_nat (List.getElem?_eq_getElem hj)
theorem nm0_ok (a : Int) (n : Nat) (hn : n ≤ 7) : Nms ((List.range n).map (nm0 a)) := by
  have hl : wds.length = 13 := by decide +kernel
  have key : ∀ k : Nat, ∃ j : Nat, ((j : Nat) : Int) = (a + 5 * (k : Int)) % 13 ∧ ∃ h : j < wds.length, nm0 a k = wds[j] := fun k => by
    have h0 := Int.emod_nonneg (a + 5 * (k : Int)) (by decide : (13 : Int) ≠ 0)
    have h1 := Int.emod_lt_of_pos (a + 5 * (k : Int)) (by decide : (0 : Int) < 13)
    unfold nm0
    generalize (a + 5 * (k : Int)) % 13 = m at h0 h1
    obtain ⟨j, rfl⟩ := Int.eq_ofNat_of_zero_le h0
    have hj : j < wds.length := by omega
    exact ⟨j, rfl, hj, by rw [Int.toNat_natCast, List.getElem?_eq_getElem hj]; rfl⟩
  refine nms_of (fun k hk => ?_) (fun j k hjk hk e => ?_)
  · obtain ⟨j, _, hj, e⟩ := key k
    rw [e]
    exact wds_ok _ (List.getElem_mem hj)
  · obtain ⟨j1, a1, b1, c1⟩ := key j
    obtain ⟨j2, a2, b2, c2⟩ := key k
    rw [c1, c2] at e
    have nd : wds.Pairwise (· ≠ ·) := wds_nd
    rcases Nat.lt_trichotomy j1 j2 with h | h | h
    · exact List.pairwise_iff_getElem.mp nd j1 j2 b1 b2 h e
    · omega
    · exact List.pairwise_iff_getElem.mp nd j2 j1 b2 b1 h e.symm
/-! the second way -/
structure Stem (z : Str) : Prop where
  len : (tl z).length = 6
  ok : ∀ c ∈ tl z, lc c = true
def nm1 (z : Str) (a : Int) (k : Nat) : Str := cutS z none (some (1 + (a + 5 * (k : Int)) % 6))
theorem nm1_ok {z : Str} (h : Stem z) (a : Int) (n : Nat) (hn : n < 7) : Nms ((List.range n).map (nm1 z a)) := by
  have key : ∀ k : Nat, ∃ j : Nat, ((j : Nat) : Int) = 1 + (a + 5 * (k : Int)) % 6 ∧ 1 ≤ j ∧ j ≤ 6 ∧ tl (nm1 z a k) = (tl z).take j := fun k => by
    have h0 := Int.emod_nonneg (a + 5 * (k : Int)) (by decide : (6 : Int) ≠ 0)
    have h1 := Int.emod_lt_of_pos (a + 5 * (k : Int)) (by decide : (0 : Int) < 6)
    unfold nm1
    generalize (a + 5 * (k : Int)) % 6 = m at h0 h1
    obtain ⟨j, rfl⟩ := Int.eq_ofNat_of_zero_le h0
    refine ⟨1 + j, by omega, by omega, by omega, ?_⟩
    have e : (1 + (j : Int)) = ((1 + j : Nat) : Int) := by omega
    rw [e]
    exact tl_to (by rw [h.len]; omega)
  refine nms_of (fun k hk => ?_) (fun j k hjk hk e => ?_)
  · obtain ⟨j, _, j1, j6, e⟩ := key k
    have hl := h.len
    refine name_of ?_ ?_ (fun c hc => h.ok c (by rw [e] at hc; exact List.mem_of_mem_take hc)) <;> rw [e, List.length_take] <;> omega
  · obtain ⟨j1, a1, _, b1, c1⟩ := key j
    obtain ⟨j2, a2, _, b2, c2⟩ := key k
    have l := congrArg (fun z => (tl z).length) e
    have hl := h.len
    simp only [c1, c2, List.length_take] at l
    omega
/-! the third way -/
def abc : Str := "abcdefghijklmnopqrstuvwxyz"
def lt1 (a : Int) (k : Nat) : Nat := 97 + ((a + 7 * (k : Int)) % 26).toNat
theorem abc_at {i : Int} (h0 : 0 ≤ i) (h1 : i < 26) : atI abc.cps.toList i = some (97 + i.toNat) := by
  obtain ⟨j, rfl⟩ := Int.eq_ofNat_of_zero_le h0
  have h : ∀ j : Fin 26, abc.cps.toList[j.1]? = some (97 + j.1) := by decide +kernel
  rw [Int.toNat_natCast]
  exact atI_nat (h ⟨j, by omega⟩)
theorem lt1_at (a : Int) (k : Nat) : atI abc.cps.toList ((a + 7 * (k : Int)) % 26) = some (lt1 a k) := abc_at (Int.emod_nonneg _ (by decide)) (Int.emod_lt_of_pos _ (by decide))
theorem lt1_lc (a : Int) (k : Nat) : lc (lt1 a k) = true := by
  have h0 := Int.emod_nonneg (a + 7 * (k : Int)) (by decide : (26 : Int) ≠ 0)
  have h1 := Int.emod_lt_of_pos (a + 7 * (k : Int)) (by decide : (0 : Int) < 26)
  unfold lt1 lc
  rw [Bool.and_eq_true, decide_eq_true_eq, decide_eq_true_eq]
  omega
def nm2 (z : Str) (a t : Int) (k : Nat) : Str := cutS z none (some t) ++ ⟨#[lt1 a k]⟩ ++ cutS z (some t) (some (t + (a + (k : Int)) % (6 - t)))
theorem nm2_ok {z : Str} (h : Stem z) (a t : Int) (t0 : 0 ≤ t) (t6 : t < 6) (n : Nat) (hn : n ≤ 7) : Nms ((List.range n).map (nm2 z a t)) := by
  obtain ⟨t, rfl⟩ := Int.eq_ofNat_of_zero_le t0
  have hl := h.len
  have key : ∀ k : Nat, ∃ m : Nat, t + m < 6 ∧ tl (nm2 z a t k) = (tl z).take t ++ ([lt1 a k] ++ ((tl z).drop t).take m) := fun k => by
    have h0 := Int.emod_nonneg (a + (k : Int)) (show (6 - (t : Int)) ≠ 0 by omega)
    have h1 := Int.emod_lt_of_pos (a + (k : Int)) (show (0 : Int) < 6 - (t : Int) by omega)
    unfold nm2
    generalize (a + (k : Int)) % (6 - (t : Int)) = m at h0 h1
    obtain ⟨m, rfl⟩ := Int.eq_ofNat_of_zero_le h0
    refine ⟨m, by omega, ?_⟩
    rw [tl_append, tl_append, tl_to (by omega), show ((t : Int) + (m : Int)) = ((t + m : Nat) : Int) by omega, tl_cut (by omega) (by omega), show t + m - t = m by omega, List.append_assoc]
  refine nms_of (fun k hk => ?_) (fun j k hjk hk e => ?_)
  · obtain ⟨m, hm, e⟩ := key k
    refine name_of ?_ ?_ (fun c hc => ?_)
    · rw [e, List.length_append, List.length_append]
      simp
      omega
    · rw [e, List.length_append, List.length_append, List.length_take, List.length_take, List.length_drop]
      simp
      omega
    · rw [e] at hc
      rcases List.mem_append.mp hc with q | q
      · exact h.ok c (List.mem_of_mem_take q)
      · rcases List.mem_append.mp q with q | q
        · rw [List.mem_singleton.mp q]
          exact lt1_lc a k
        · exact h.ok c (List.mem_of_mem_drop (List.mem_of_mem_take q))
  · obtain ⟨m1, hm1, c1⟩ := key j
    obtain ⟨m2, hm2, c2⟩ := key k
    have l := congrArg (fun z => (tl z)[t]?) e
    simp only [c1, c2] at l
    have lt : ((tl z).take t).length = t := by rw [List.length_take]; omega
    have g : ∀ (c : Nat) (r : List Nat), ((tl z).take t ++ ([c] ++ r))[t]? = some c := fun c r => by
      rw [List.getElem?_append_right (by omega), lt, Nat.sub_self]
      rfl
    rw [g, g] at l
    have l := Option.some.inj l
    unfold lt1 at l
    have h0 := Int.emod_nonneg (a + 7 * (j : Int)) (by decide : (26 : Int) ≠ 0)
    have h1 := Int.emod_nonneg (a + 7 * (k : Int)) (by decide : (26 : Int) ≠ 0)
    omega
end My

set_option maxRecDepth 100000
set_option maxHeartbeats 4000000
namespace K4
open PySem PySem.Spec PyProof.Rows L2 GxR Gd TL My
theorem range_snoc (f : Nat → Str) (i : Nat) : ((List.range (i + 1)).map f).map V.str = ((List.range i).map f).map V.str ++ [V.str (f i)] := by
  rw [List.range_succ, List.map_append, List.map_append]
  rfl
theorem ixL {X : Cx} {K : PySem.W.Frag} (h : X.K = K) : IxR X (rIxL K) := h ▸ ix_list
theorem cmul {m : Nat} (i : Nat) (h : i < m) (hm : m ≤ 7) : CMul 5 (0 + (i : Int)) := .inl ⟨by decide, by decide⟩
theorem cmul7 (i : Nat) : CMul 7 (0 + (i : Int)) := .inl ⟨by decide, by decide⟩
theorem atI_map {α β : Type} {f : α → β} {xs : List α} {i : Int} {v : α} (h : atI xs i = some v) : atI (xs.map f) i = some (f v) := by
  unfold atI at h ⊢
  rw [List.length_map]
  cases e : ixN xs.length i with
  | none => rw [e] at h; cases h
  | some j =>
    rw [e] at h
    show (xs.map f)[j]? = _
    rw [List.getElem?_map, show xs[j]? = some v from h]
    rfl
theorem lt_line (i : Nat) (h : i ≤ 100) : i < sizeLine := Nat.lt_of_le_of_lt h (by decide)
section
variable {P : Program} {w : World} {K : PySem.W.Frag} {mg : Str → Option Value} {base : Heap}
abbrev s_law_names : Stmt := top 28
theorem sc_law_names : FnScope ["_law_box_here", "_law_many", "_law_letters", "_law_words", "_law_way", "_law_first", "_law_stem", "_law_at", "_law_k"] ["_law_box_here", "_law_many"] (defScope s_law_names) := ⟨rfl, rfl, rfl, by decide +kernel, rfl, by decide +kernel, by decide +kernel⟩
def spNames : Sp := fun vs H Q _ => ∃ (b : Addr) (m : Nat) (n : Int), vs = [.ref b, .int (m : Nat)] ∧ Bx b n H ∧ n ≤ 90000 ∧ m ≤ 7 ∧
  ∀ (ns : List Str) (a : Addr) (H' : Hp), KB b H H' → Bx b (n + 20) H' → H' a = some (.lst (ns.map V.str)) → ns.length = m → Nms ns → Q (.ref a) H'
theorem ok_names {f fT : Addr} {fd fdT : FuncData} (F : Fun K "_law_names" "_law_names" s_law_names f fd) (T : Txt mg)
    (Nlaw_take : Fn K mg "_law_take" sTake ["_law_box_here", "_law_many"] fT fdT) (Glaw_take : FnOk P w K mg base CX0 1 fT fdT ["_law_box_here", "_law_many"] spTake) :
    FnOk P w K mg base CX0 2 f fd ["_law_box_here", "_law_many"] spNames := by
  refine F.ok sc_law_names (fun vs H Q E h => ?_) (fun cdv A outer s H vs Q E hr h => ?_)
  · obtain ⟨b, m, n, rfl, _⟩ := h
    rfl
  · obtain ⟨b, m, n, rfl, hB, hn, hm, k⟩ := h
    refine ⟨_, pss_cons (ps_set (i := 2) sc_law_names.nd rfl (Or.inr rfl) pe_str)
      (pss_cons (ps_set (i := 3) sc_law_names.nd rfl (Or.inr rfl) (pe_lst (pa_cons pe_str (pa_cons pe_str (pa_cons pe_str (pa_cons pe_str (pa_cons pe_str (pa_cons pe_str (pa_cons pe_str (pa_cons pe_str (pa_cons pe_str (pa_cons pe_str (pa_cons pe_str (pa_cons pe_str (pa_cons pe_str pa_nil)))))))))))))))
      (pss_cons (ps_set (i := 4) sc_law_names.nd rfl (Or.inl rfl) (pe_call Glaw_take (hr.mono (by decide)) (by rfl) Nlaw_take.g Nlaw_take.kp Nlaw_take.b .nil pass0 (pa_cons (pv 0) (pa_cons pe_int pa_nil))))
      (pss_cons (ps_set (i := 5) sc_law_names.nd rfl (Or.inr rfl) (pe_call Glaw_take (hr.mono (by decide)) (by rfl) Nlaw_take.g Nlaw_take.kp Nlaw_take.b .nil pass0 (pa_cons (pv 0) (pa_cons pe_int pa_nil))))
      (pss_cons (ps_if (pt_cmpR op_eq (pv 4) pe_int (nomark _)) (pss_one (ps_ret (pe_lc (own := [("_law_k", 8)]) (g := gName 8) (tt := tYes) rfl sc_law_names.nd (pi_range1 (by rfl) T.range_ (pa_cons (pv 1) pa_nil)) (blkOk_by (own := [("_law_k", 8)]) (N := ["_law_box_here", "_law_many", "_law_letters", "_law_words", "_law_way", "_law_first", "_law_stem", "_law_at", "_law_k"]) (sc := defScope s_law_names) (by decide +kernel)) (fun _ _ _ _ _ => (pg_name (i := 8) sc_law_names.nd rfl (Or.inl rfl))) (fun _ _ _ _ _ => pts_nil) (fun _ _ _ _ _ => (pe_ix (ixL (K := K) rfl) (pv 3) (pe_op op_mod (pe_op op_add (pv 5) (pe_op op_mul pe_int (pv 8))) pe_int) (fun _ _ => rfl)))))) pss_nil)
      (pss_cons (ps_set (i := 6) sc_law_names.nd rfl (Or.inr rfl) (pe_join pe_str (pe_lc (own := [("_law_k", 8)]) (g := gName 8) (tt := tYes) rfl sc_law_names.nd (pi_range1 (by rfl) T.range_ (pa_cons pe_int pa_nil)) (blkOk_by (own := [("_law_k", 8)]) (N := ["_law_box_here", "_law_many", "_law_letters", "_law_words", "_law_way", "_law_first", "_law_stem", "_law_at", "_law_k"]) (sc := defScope s_law_names) (by decide +kernel)) (fun _ _ _ _ _ => (pg_name (i := 8) sc_law_names.nd rfl (Or.inl rfl))) (fun _ _ _ _ _ => pts_nil) (fun _ _ _ _ _ => (pe_ix ix_str (pv 2) (pe_call Glaw_take (hr.mono (by decide)) (by rfl) Nlaw_take.g Nlaw_take.kp Nlaw_take.b .nil pass0 (pa_cons (pv 0) (pa_cons pe_int pa_nil))) (fun _ _ => rfl))))))
      (pss_cons (ps_if (PW.pt (pw_and (pt_cmpR op_eq (pv 4) pe_int (nomark _)) (pw_and1 (pt_cmpR op_lt (pv 1) pe_int (nomark _))))) (pss_one (ps_ret (pe_lc (own := [("_law_k", 8)]) (g := gName 8) (tt := tYes) rfl sc_law_names.nd (pi_range1 (by rfl) T.range_ (pa_cons (pv 1) pa_nil)) (blkOk_by (own := [("_law_k", 8)]) (N := ["_law_box_here", "_law_many", "_law_letters", "_law_words", "_law_way", "_law_first", "_law_stem", "_law_at", "_law_k"]) (sc := defScope s_law_names) (by decide +kernel)) (fun _ _ _ _ _ => (pg_name (i := 8) sc_law_names.nd rfl (Or.inl rfl))) (fun _ _ _ _ _ => pts_nil) (fun _ _ _ _ _ => (pe_slice sl_str (pv 6) po_none (po_some (pe_op op_add pe_int (pe_op op_mod (pe_op op_add (pv 5) (pe_op op_mul pe_int (pv 8))) pe_int)))))))) pss_nil)
      (pss_cons (ps_set (i := 7) sc_law_names.nd rfl (Or.inr rfl) (pe_call Glaw_take (hr.mono (by decide)) (by rfl) Nlaw_take.g Nlaw_take.kp Nlaw_take.b .nil pass0 (pa_cons (pv 0) (pa_cons pe_int pa_nil))))
      (pss_one (ps_ret (pe_lc (own := [("_law_k", 8)]) (g := gName 8) (tt := tYes) rfl sc_law_names.nd (pi_range1 (by rfl) T.range_ (pa_cons (pv 1) pa_nil)) (blkOk_by (own := [("_law_k", 8)]) (N := ["_law_box_here", "_law_many", "_law_letters", "_law_words", "_law_way", "_law_first", "_law_stem", "_law_at", "_law_k"]) (sc := defScope s_law_names) (by decide +kernel)) (fun _ _ _ _ _ => (pg_name (i := 8) sc_law_names.nd rfl (Or.inl rfl))) (fun _ _ _ _ _ => pts_nil) (fun _ _ _ _ _ => (pe_op op_add_str (pe_op op_add_str (pe_slice sl_str (pv 6) po_none (po_some (pv 7))) (pe_ix ix_str (pv 2) (pe_op op_mod (pe_op op_add (pv 5) (pe_op op_mul pe_int (pv 8))) pe_int) (fun _ _ => rfl))) (pe_slice sl_str (pv 6) (po_some (pv 7)) (po_some (pe_op op_add (pv 7) (pe_op op_mod (pe_op op_add (pv 5) (pv 8)) (pe_op op_sub pe_int (pv 7)))))))))))))))))), ?_⟩
    refine ⟨(by show 13 ≤ sizeLine; decide), fun L hL => ?_⟩
    have k0 : KB b H _ := KB.alloc (o := .lst [.str "place", .str "staff", .str "ticket", .str "low", .str "high", .str "long", .str "pilot", .str "train", .str "at", .str "to", .str "in", .str "get", .str "a"]) hL
    have B0 := hB.alloc (o := .lst [.str "place", .str "staff", .str "ticket", .str "low", .str "high", .str "long", .str "pilot", .str "train", .str "at", .str "to", .str "in", .str "get", .str "a"]) hL
    have nLb : L ≠ b := hB.fresh hL
    have hW : (upd H L (.lst [.str "place", .str "staff", .str "ticket", .str "low", .str "high", .str "long", .str "pilot", .str "train", .str "at", .str "to", .str "in", .str "get", .str "a"])) L = some (.lst (wds.map V.str)) := upd_same
    generalize upd H L (.lst [.str "place", .str "staff", .str "ticket", .str "low", .str "high", .str "long", .str "pilot", .str "train", .str "at", .str "to", .str "in", .str "get", .str "a"]) = H0 at k0 B0 hW ⊢
    refine ⟨_, rfl, b, 4, n, rfl, B0, by omega, by decide, by decide, fun way H1 w0 w1 off1 B1 => ?_⟩
    refine ⟨_, rfl, b, 26, n + 1, rfl, B1, by omega, by decide, by decide, fun a H2 a0 a1 off2 B2 => ?_⟩
    have k2 : KB b H H2 := (k0.trans (KB.off off1)).trans (KB.off off2)
    have hW2 : H2 L = some (.lst (wds.map V.str)) := by rw [off2 L nLb, off1 L nLb]; exact hW
    clear hW k0 B0 B1 off1 off2
    refine ⟨_, rfl, rfl, _, rfl, ite2 (fun c => ?_) (fun c => ?_)⟩
    · refine ⟨_, rfl, m, rfl, by omega, by omega, fun D hD => ?_⟩
      have nD : L ≠ D := ne_of_none hW2 hD
      refine lc_range (lo := 0) (n := m) (fun i H' => H' = upd H2 D (.lst (((List.range i).map (nm0 a)).map V.str))) rfl ?_ ?_
      · rintro i H' hi rfl
        refine ⟨rfl, lcY ?_⟩
        refine ⟨_, rfl, _, rfl, _, rfl, _, _, rfl, rfl, cmul i hi hm, _, _, rfl, rfl, _, _, rfl, rfl, (by show (0 : Int) < 13; decide), L, wds.map V.str, _, .str (nm0 a i), rfl, rfl, SqL.of (by rw [upd_ne nD]; exact hW2), ?_, _, upd_same, ?_, ?_⟩
        · rw [Int.zero_add]
          exact atI_map (nm0_at a i)
        · rw [List.length_map, List.length_map, List.length_range]
          exact lt_line i (by omega)
        · rw [upd_upd, range_snoc]
      · rintro H' rfl
        exact k _ D _ (k2.trans (KB.alloc hD)) ((B2.alloc hD).mono (by omega)) upd_same (by simp) (nm0_ok a m hm)
    · clear c
      refine ⟨⟨_, rfl⟩, 6, rfl, by decide, by decide, fun D hD => ?_⟩
      have nDb : D ≠ b := B2.fresh hD
      refine lc_range (lo := 0) (n := 6) (fun i H' => ∃ cs : List Nat, H' D = some (.lst ((cs.map fun c => (⟨#[c]⟩ : Str)).map V.str)) ∧ cs.length = i ∧ (∀ c ∈ cs, lc c = true) ∧ KB b H2 H' ∧ Bx b (n + 2 + i) H')
        ⟨[], upd_same, rfl, by simp, KB.alloc hD, (B2.alloc hD).mono (by simp; omega)⟩ ?_ ?_
      · rintro i H3 hi ⟨cs, hz, hl, h1, k3, B3⟩
        refine ⟨rfl, lcY ?_⟩
        refine ⟨_, rfl, _, rfl, b, 26, n + 2 + i, rfl, B3, by omega, by decide, by decide, fun d' H4 e0 e1 off4 B4 => ?_⟩
        have hz4 : H4 D = some (.lst ((cs.map fun c => (⟨#[c]⟩ : Str)).map V.str)) := by rw [off4 D nDb]; exact hz
        refine ⟨_, d', 97 + d'.toNat, rfl, rfl, by decide +kernel, abc_at e0 e1, _, hz4, ?_, cs ++ [97 + d'.toNat], ?_, ?_, ?_, ?_, ?_⟩
        · rw [List.length_map, List.length_map, hl]
          exact lt_line i (by omega)
        · rw [upd_same, List.map_append, List.map_append]
          rfl
        · rw [List.length_append, hl]
          rfl
        · intro z hz
          rcases List.mem_append.mp hz with q | q
          · exact h1 z q
          · rw [List.mem_singleton.mp q]
            unfold lc
            rw [Bool.and_eq_true, decide_eq_true_eq, decide_eq_true_eq]
            omega
        · intro c o nc e
          rw [upd_ne (ne_of_none e hD)]
          exact (k3.trans (KB.off off4)) c o nc e
        · exact (B4.put nDb).mono (by push_cast; omega)
      · rintro H3 ⟨cs, hz, hl, h1, k3, B3⟩
        have et := tl_ones cs
        have jl : (Txt.join (Str.ofString "") (cs.map fun c => (⟨#[c]⟩ : Str))).length = 6 := by rw [← tl_len, et, hl]
        have hS : Stem (Txt.join (Str.ofString "") (cs.map fun c => (⟨#[c]⟩ : Str))) := ⟨by rw [et, hl], by rw [et]; exact h1⟩
        refine ⟨_, D, _, rfl, rfl, .inl (SqL.of hz), ?_, ?_⟩
        · have e0 : (Str.ofString "").length = 0 := by decide +kernel
          have hs := sum_ones (cs.map fun c => (⟨#[c]⟩ : Str)) (fun z hz => by obtain ⟨c, _, rfl⟩ := List.mem_map.mp hz; exact Nat.le_refl 1)
          rw [List.length_map] at hs
          rw [e0]
          omega
        generalize Txt.join (Str.ofString "") (cs.map fun c => (⟨#[c]⟩ : Str)) = st at hS jl ⊢
        have hW3 : H3 L = some (.lst (wds.map V.str)) := k3 L _ nLb hW2
        have kH := k2.trans k3
        clear hz et h1 k3
        have w2 : ∀ t : Int, 0 ≤ t → t < 6 → ∀ H4, (∀ a, a ≠ b → H4 a = H3 a) → Bx b (n + 2 + 6 + 1) H4 → tRet (tLc (iRng1 (tCons (tVar 1) tNil)) (gName 8) tYes
            (tOp (fun x y H Q => ∃ i j, x = V.str i ∧ y = V.str j ∧ i.length + j.length ≤ sizeLine ∧ Q (V.str (i ++ j)) H)
              (tOp (fun x y H Q => ∃ i j, x = V.str i ∧ y = V.str j ∧ i.length + j.length ≤ sizeLine ∧ Q (V.str (i ++ j)) H) (tSl rSlS (tVar 6) tNoPart (tPart (tVar 7)))
                (tOp rIxS (tVar 2) (tOp (rI (fun x j => 0 < j) fun i j => V.int (i % j)) (tOp (rI0 fun i j => V.int (i + j)) (tVar 5) (tOp (rI CMul fun i j => V.int (i * j)) (tC (V.int 7)) (tVar 8))) (tC (V.int 26)))))
              (tSl rSlS (tVar 6) (tPart (tVar 7)) (tPart (tOp (rI0 fun i j => V.int (i + j)) (tVar 7) (tOp (rI (fun x j => 0 < j) fun i j => V.int (i % j)) (tOp (rI0 fun i j => V.int (i + j)) (tVar 5) (tVar 8)) (tOp (rI0 fun i j => V.int (i - j)) (tC (V.int 6)) (tVar 7)))))))
            [8]) { nx := fun x H' => Q V.non H', rt := Q } [some (.ref b), some (.int (m : Nat)), some (.str abc), some (.ref L), some (.int way), some (.int a), some (.str st), some (.int t), none] H4 := by
          intro t t0 t6 H4 off4 B4
          refine ⟨_, rfl, m, rfl, by omega, by omega, fun D2 hD2 => ?_⟩
          refine lc_range (lo := 0) (n := m) (fun i H' => H' = upd H4 D2 (.lst (((List.range i).map (nm2 st a t)).map V.str))) rfl ?_ ?_
          · rintro i H' hi rfl
            refine ⟨rfl, lcY ?_⟩
            refine ⟨_, rfl, _, rfl, _, rfl, st, rfl, (by rw [jl]; decide), _, rfl, _, rfl, _, rfl, _, _, rfl, rfl, cmul7 i, _, _, rfl, rfl, _, _, rfl, rfl, (by show (0 : Int) < 26; decide), abc, _, lt1 a i, rfl, rfl, by decide +kernel, ?_, _, _, rfl, rfl, ?_,
              _, rfl, _, rfl, _, rfl, _, rfl, _, rfl, _, rfl, _, _, rfl, rfl, _, rfl, _, _, rfl, rfl, _, _, rfl, rfl, (by show (0 : Int) < 6 - t; omega), _, _, rfl, rfl, _, rfl, st, rfl, (by rw [jl]; decide), _, _, rfl, rfl, ?_, _, upd_same, ?_, ?_⟩
            · rw [Int.zero_add]
              exact lt1_at a i
            · have := cutS_length st none (some t)
              rw [jl] at this
              exact Nat.le_trans (Nat.add_le_add this (Nat.le_refl 1)) (by decide)
            · have q1 := cutS_length st none (some t)
              have q2 := cutS_length st (some t) (some (t + (a + (0 + (i : Int))) % (6 - t)))
              rw [jl] at q1 q2
              rw [← tl_len, tl_append, List.length_append, tl_len]
              exact Nat.le_trans (Nat.add_le_add (Nat.add_le_add q1 (Nat.le_refl 1)) q2) (by decide)
            · rw [List.length_map, List.length_map, List.length_range]
              exact lt_line i (by omega)
            · rw [upd_upd, range_snoc]
              unfold nm2
              rw [Int.zero_add]
          · rintro H' rfl
            exact k _ D2 _ ((kH.trans (KB.off off4)).trans (KB.alloc hD2)) ((B4.alloc hD2).mono (by omega)) upd_same (by simp) (nm2_ok hS a t t0 t6 m hm)
        refine ⟨_, rfl, rfl, _, rfl, ite2 (fun c1 => ⟨_, rfl, _, _, rfl, rfl, _, rfl, ite2 (fun c2 => ?_) (fun c2 => ?_)⟩) (fun c1 => iteF ?_)⟩
        · have c2' : (m : Int) < 7 := of_decide_eq_true c2
          refine ⟨_, rfl, m, rfl, by omega, by omega, fun D2 hD2 => ?_⟩
          refine lc_range (lo := 0) (n := m) (fun i H' => H' = upd H3 D2 (.lst (((List.range i).map (nm1 st a)).map V.str))) rfl ?_ ?_
          · rintro i H' hi rfl
            refine ⟨rfl, lcY ?_⟩
            refine ⟨_, rfl, _, rfl, _, rfl, _, _, rfl, rfl, cmul i hi hm, _, _, rfl, rfl, _, _, rfl, rfl, (by show (0 : Int) < 6; decide), _, _, rfl, rfl, _, rfl, st, rfl, (by rw [jl]; decide), _, upd_same, ?_, ?_⟩
            · rw [List.length_map, List.length_map, List.length_range]
              exact lt_line i (by omega)
            · rw [upd_upd, range_snoc]
              unfold nm1
              rw [Int.zero_add]
          · rintro H' rfl
            exact k _ D2 _ (kH.trans (KB.alloc hD2)) ((B3.alloc hD2).mono (by omega)) upd_same (by simp) (nm1_ok hS a m (by omega))
        · exact ⟨_, rfl, b, 6, n + 2 + 6, rfl, B3, by omega, by decide, by decide, fun t H4 t0 t6 off4 B4 => w2 t t0 t6 H4 off4 B4⟩
        · exact ⟨_, rfl, b, 6, n + 2 + 6, rfl, B3, by omega, by decide, by decide, fun t H4 t0 t6 off4 B4 => w2 t t0 t6 H4 off4 B4⟩
end
end K4

set_option maxRecDepth 100000
set_option maxHeartbeats 400000
/-! Data that stand in the heap themselves: nothing of it is a constant of the program. -/
namespace My
open PySem PySem.Spec PyProof.Rows L2 GxR Gd TL
mutual
inductive Dr (H : Hp) : V → PyData → Prop
  | non : Dr H .non .none
  | bl (b : Bool) : Dr H (.bl b) (.bool b)
  | int (i : Int) : Dr H (.int i) (.int i)
  | str (z : Str) : Dr H (.str z) (.str z)
  | lst {a : Addr} {xs : List V} {ds : List PyData} (e : H a = some (.lst xs)) (h : DrAll H xs ds) : Dr H (.ref a) (.list ds)
  | tup {a : Addr} {xs : List V} {ds : List PyData} (e : H a = some (.tup xs)) (h : DrAll H xs ds) : Dr H (.ref a) (.tuple ds)
inductive DrAll (H : Hp) : List V → List PyData → Prop
  | nil : DrAll H [] []
  | cons {v : V} {vs : List V} {d : PyData} {ds : List PyData} (h : Dr H v d) (t : DrAll H vs ds) : DrAll H (v :: vs) (d :: ds)
end
section
variable {K : PySem.W.Frag} {H H' : Hp}
mutual
theorem Dr.dp : ∀ {v : V} {d : PyData}, Dr H v d → Dp K H v d
  | _, _, .non => .non
  | _, _, .bl b => .bl b
  | _, _, .int i => .int i
  | _, _, .str z => .str z
  | _, _, .lst e h => .lst (SqL.of e) (DrAll.dp h)
  | _, _, .tup e h => .tup (SqT.of e) (DrAll.dp h)
theorem DrAll.dp : ∀ {vs : List V} {ds : List PyData}, DrAll H vs ds → DpAll K H vs ds
  | _, _, .nil => .nil
  | _, _, .cons h t => .cons (Dr.dp h) (DrAll.dp t)
end
mutual
theorem dr_nt (e : Nt H H') : ∀ {v : V} {d : PyData}, Dr H v d → Dr H' v d
  | _, _, .non => .non
  | _, _, .bl b => .bl b
  | _, _, .int i => .int i
  | _, _, .str z => .str z
  | _, _, .lst h a => .lst (e _ _ (by simp) h) (drAll_nt e a)
  | _, _, .tup h a => .tup (e _ _ (by simp) h) (drAll_nt e a)
theorem drAll_nt (e : Nt H H') : ∀ {vs : List V} {ds : List PyData}, DrAll H vs ds → DrAll H' vs ds
  | _, _, .nil => .nil
  | _, _, .cons h t => .cons (dr_nt e h) (drAll_nt e t)
end
theorem drAll_len : ∀ {xs : List V} {ds : List PyData}, DrAll H xs ds → xs.length = ds.length
  | _, _, .nil => rfl
  | _, _, .cons _ t => congrArg Nat.succ (drAll_len t)
theorem drAll_app : ∀ {xs ys : List V} {ds es : List PyData}, DrAll H xs ds → DrAll H ys es → DrAll H (xs ++ ys) (ds ++ es)
  | _, _, _, _, .nil, k => k
  | _, _, _, _, .cons a t, k => .cons a (drAll_app t k)
theorem drAll_mem : ∀ {xs : List V} {ds : List PyData}, DrAll H xs ds → ∀ x ∈ xs, ∃ d ∈ ds, Dr H x d
  | _, _, .nil, x, h => by cases h
  | _, _, .cons a t, x, h => by
    rcases List.mem_cons.mp h with rfl | h
    · exact ⟨_, List.mem_cons_self, a⟩
    · obtain ⟨d, h1, h2⟩ := drAll_mem t x h
      exact ⟨d, List.mem_cons_of_mem _ h1, h2⟩
end
end My

set_option maxRecDepth 100000
set_option maxHeartbeats 4000000
namespace K4
open PySem PySem.Spec PyProof.Rows L2 GxR Gd TL My
theorem hide_mono {D : Addr} {A B : Hp} (e : Nt A B) : Nt (hide D A) (hide D B) := fun c o n h => by
  obtain ⟨q, h⟩ := hide_some h
  rw [hide_ne q]
  exact e c o n h
/-- what is new in H since H0 -/
def nw (H0 H : Hp) : Hp := fun c => match H0 c with
  | none => H c
  | some _ => none
theorem nw_none {H0 H : Hp} {c : Addr} (h : H0 c = none) : nw H0 H c = H c := by unfold nw; rw [h]
theorem nw_some {H0 H : Hp} {c : Addr} {o : HO} (h : nw H0 H c = some o) : H0 c = none ∧ H c = some o := by
  unfold nw at h
  cases e : H0 c with
  | none => rw [e] at h; exact ⟨rfl, h⟩
  | some _ => rw [e] at h; cases h
theorem nw_mono {H0 A B : Hp} {b : Addr} (hb : H0 b ≠ none) (k : KB b A B) : Nt (nw H0 A) (nw H0 B) := fun c o _ h => by
  obtain ⟨h1, h2⟩ := nw_some h
  rw [nw_none h1]
  exact k c o (fun e => hb (e ▸ h1)) h2
theorem nw_put {D : Addr} {H0 H : Hp} {o : HO} : Nt (hide D (nw H0 H)) (hide D (nw H0 (upd H D o))) := fun c u n h => by
  obtain ⟨q, h⟩ := hide_some h
  obtain ⟨h1, h2⟩ := nw_some h
  rw [hide_ne q, nw_none h1, upd_ne q]
  exact h2
theorem nw_new {K : PySem.W.Frag} {p D : Addr} {H0 H : Hp} {xs : List V} (h1 : p ≠ D) (h2 : H0 p = none) : SqT K (hide D (nw H0 (upd H p (.tup xs)))) p xs := SqT.of (by rw [hide_ne h1, nw_none h2]; exact upd_same)
theorem nw_newR {p D : Addr} {H0 H : Hp} {xs : List V} (h1 : p ≠ D) (h2 : H0 p = none) : hide D (nw H0 (upd H p (.tup xs))) p = some (.tup xs) := by rw [hide_ne h1, nw_none h2]; exact upd_same
theorem fresh0 {H A : Hp} {b p : Addr} (k : KB b H A) (n : p ≠ b) (h : A p = none) : H p = none := by
  cases e : H p with
  | none => rfl
  | some o => rw [k p o n e] at h; cases h
theorem hide_put {D b : Addr} {H : Hp} {o : HO} : Nt (hide D (hide b H)) (hide D (hide b (upd H D o))) := fun c u n h => by
  obtain ⟨q, h⟩ := hide_some h
  obtain ⟨q2, h⟩ := hide_some h
  rw [hide_ne q, hide_ne q2, upd_ne q]
  exact h
theorem dp_new {K : PySem.W.Frag} {p D b : Addr} {H : Hp} {xs : List V} (h1 : p ≠ D) (h2 : p ≠ b) : SqT K (hide D (hide b (upd H p (.tup xs)))) p xs := SqT.of (by rw [hide_ne h1, hide_ne h2]; exact upd_same)
theorem cut_last {xs : List V} : cutV xs none (some (-1)) = xs.dropLast := by
  unfold cutV
  rw [List.dropLast_eq_take, HT.sIx_none, List.drop_zero]
  have e : HT.sIx xs.length xs.length (some (-1)) = ((-1 : Int) + (xs.length : Int)).toNat := rfl
  rw [e]
  congr 1
  omega
def lastL (l0 : Int) (lo : List (Int × Int × Int)) : Int := (lo.getLast?.map fun q => q.2.1).getD l0
theorem longsOk_snoc {top : Int} : ∀ {l0 : Int} {lo : List (Int × Int × Int)} {f l h : Int}, longsOk top l0 lo → lastL l0 lo ≤ f → f + 2 ≤ l → l ≤ top → 0 ≤ h → h ≤ 1 → longsOk top l0 (lo ++ [(f, l, h)])
  | l0, [], f, l, h, _, a, b, c, d, e => ⟨a, b, c, d, e, True.intro⟩
  | l0, (f0, x, h0) :: r, f, l, h, q, a, b, c, d, e => by
    obtain ⟨q1, q2, q3, q4, q5, q6⟩ := q
    refine ⟨q1, q2, q3, q4, q5, longsOk_snoc q6 ?_ b c d e⟩
    unfold lastL at a ⊢
    rw [List.getLast?_cons] at a
    cases z : r.getLast? with
    | none => rw [z] at a; simpa using a
    | some y => rw [z] at a; simpa using a
theorem lastL_snoc (l0 : Int) (lo : List (Int × Int × Int)) (p : Int × Int × Int) : lastL l0 (lo ++ [p]) = p.2.1 := by
  unfold lastL
  rw [List.getLast?_append]
  simp
theorem last_at {xs : List V} {v : V} (h : xs.getLast? = some v) : atI xs (-1) = some v := by
  unfold atI
  have hp : 0 < xs.length := by
    cases xs with
    | nil => simp at h
    | cons a r => simp
  have e : ixN xs.length (-1) = some (xs.length - 1) := by
    unfold ixN
    rw [if_neg (by decide)]
    split
    · congr 1
      omega
    · omega
  rw [e]
  rw [List.getLast?_eq_getElem?] at h
  exact h
section
variable {P : Program} {w : World} {K : PySem.W.Frag} {mg : Str → Option Value} {base : Heap}
abbrev s_law_world : Stmt := top 29
theorem sc_law_world : FnScope ["_law_box_here", "_law_many", "_law_names_here", "_law_places", "_law_stretches", "_law_longs", "_law_low", "_law_turn", "_law_first", "_law_last", "_law_name", "_law_k"] ["_law_box_here"] (defScope s_law_world) := ⟨rfl, rfl, rfl, by decide +kernel, rfl, by decide +kernel, by decide +kernel⟩
def spWorld (K : PySem.W.Frag) : Sp := fun vs H Q _ => ∃ (b : Addr) (n : Int), vs = [.ref b] ∧ Bx b n H ∧ n ≤ 1000 ∧
  ∀ (wd : Wd) (v : V) (H' : Hp), wd.Ok → KB b H H' → Dr (nw H H') v wd.data → Bx b (n + 100) H' → Q v H'
theorem ok_world {f fT fN : Addr} {fd fdT fdN : FuncData} (F : Fun K "_law_world" "_law_world" s_law_world f fd) (T : Txt mg)
    (Nlaw_take : Fn K mg "_law_take" sTake ["_law_box_here", "_law_many"] fT fdT) (Glaw_take : FnOk P w K mg base CX0 1 fT fdT ["_law_box_here", "_law_many"] spTake)
    (Nlaw_names : Fn K mg "_law_names" s_law_names ["_law_box_here", "_law_many"] fN fdN) (Glaw_names : FnOk P w K mg base CX0 2 fN fdN ["_law_box_here", "_law_many"] spNames) :
    FnOk P w K mg base CX0 3 f fd ["_law_box_here"] (spWorld K) := by
  refine F.ok sc_law_world (fun vs H Q E h => ?_) (fun cdv A outer s H vs Q E hr h => ?_)
  · obtain ⟨b, n, rfl, _⟩ := h
    rfl
  · obtain ⟨b, n, rfl, hB, hn, k⟩ := h
    have hbn : H b ≠ none := by
      obtain ⟨_, _, _, h, _⟩ := hB
      rw [h]
      simp
    refine ⟨_, pss_cons (ps_set (i := 1) sc_law_world.nd rfl (Or.inl rfl) (pe_op op_add pe_int (pe_call Glaw_take (hr.mono (by decide)) (by rfl) Nlaw_take.g Nlaw_take.kp Nlaw_take.b .nil pass0 (pa_cons (pv 0) (pa_cons pe_int pa_nil)))))
      (pss_cons (ps_set (i := 2) sc_law_world.nd rfl (Or.inl rfl) (pe_call Glaw_names (hr.mono (by decide)) (by rfl) Nlaw_names.g Nlaw_names.kp Nlaw_names.b .nil pass0 (pa_cons (pv 0) (pa_cons (pe_op op_add (pv 1) pe_int) pa_nil))))
      (pss_cons (ps_setLc (i := 3) (own := [("_law_name", 10)]) (g := gName 10) (tt := tYes) rfl sc_law_world.nd rfl rfl (sw_true rfl rfl rfl (by decide +kernel)) (pi_list (pe_slice sl_list (pv 2) po_none (po_some (pe_un un_neg pe_int)))) (blkOk_by (own := [("_law_name", 10)]) (N := ["_law_box_here", "_law_many", "_law_names_here", "_law_places", "_law_stretches", "_law_longs", "_law_low", "_law_turn", "_law_first", "_law_last", "_law_name", "_law_k"]) (sc := defScope s_law_world) (by decide +kernel)) (fun _ _ _ _ _ => (pg_name (i := 10) sc_law_world.nd rfl (Or.inl rfl))) (fun _ _ _ _ _ => pts_nil) (fun _ _ _ _ _ => (pe_tup (pa_cons (pv 10) (pa_cons (pe_op op_add pe_int (pe_call Glaw_take (hr.mono (by decide)) (by rfl) Nlaw_take.g Nlaw_take.kp Nlaw_take.b .nil pass0 (pa_cons (pv 0) (pa_cons pe_int pa_nil)))) pa_nil)))))
      (pss_cons (ps_setLc (i := 4) (own := [("_law_k", 11)]) (g := gName 11) (tt := tYes) rfl sc_law_world.nd rfl rfl (sw_true rfl rfl rfl (by decide +kernel)) (pi_range1 (by rfl) T.range_ (pa_cons (pe_op op_sub (pv 1) pe_int) pa_nil)) (blkOk_by (own := [("_law_k", 11)]) (N := ["_law_box_here", "_law_many", "_law_names_here", "_law_places", "_law_stretches", "_law_longs", "_law_low", "_law_turn", "_law_first", "_law_last", "_law_name", "_law_k"]) (sc := defScope s_law_world) (by decide +kernel)) (fun _ _ _ _ _ => (pg_name (i := 11) sc_law_world.nd rfl (Or.inl rfl))) (fun _ _ _ _ _ => pts_nil) (fun _ _ _ _ _ => (pe_tup (pa_cons (pe_ix (ixL (K := K) rfl) (pe_lst (pa_cons pe_str (pa_cons pe_str pa_nil))) (pe_call Glaw_take (hr.mono (by decide)) (by rfl) Nlaw_take.g Nlaw_take.kp Nlaw_take.b .nil pass0 (pa_cons (pv 0) (pa_cons pe_int pa_nil))) (fun _ _ => rfl)) (pa_cons (pe_call Glaw_take (hr.mono (by decide)) (by rfl) Nlaw_take.g Nlaw_take.kp Nlaw_take.b .nil pass0 (pa_cons (pv 0) (pa_cons pe_int pa_nil))) pa_nil)))))
      (pss_cons (ps_set (i := 5) sc_law_world.nd rfl (Or.inl rfl) (pe_lst pa_nil))
      (pss_cons (ps_set (i := 6) sc_law_world.nd rfl (Or.inl rfl) pe_int)
      (pss_cons (ps_for PassesOwn.never rfl (pi_range1 (by rfl) T.range_ (pa_cons (pe_call Glaw_take (hr.mono (by decide)) (by rfl) Nlaw_take.g Nlaw_take.kp Nlaw_take.b .nil pass0 (pa_cons (pv 0) (pa_cons pe_int pa_nil))) pa_nil)) (pg_name (i := 7) sc_law_world.nd rfl (Or.inl rfl)) (pss_one (ps_if (pt_cmpR op_lt (pe_op op_add (pv 6) pe_int) (pv 1) (nomark _)) (pss_cons (ps_set (i := 8) sc_law_world.nd rfl (Or.inl rfl) (pe_op op_add (pv 6) (pe_call Glaw_take (hr.mono (by decide)) (by rfl) Nlaw_take.g Nlaw_take.kp Nlaw_take.b .nil pass0 (pa_cons (pv 0) (pa_cons (pe_op op_sub (pe_op op_sub (pv 1) pe_int) (pv 6)) pa_nil)))))
              (pss_cons (ps_set (i := 9) sc_law_world.nd rfl (Or.inl rfl) (pe_op op_add (pe_op op_add (pv 8) pe_int) (pe_call Glaw_take (hr.mono (by decide)) (by rfl) Nlaw_take.g Nlaw_take.kp Nlaw_take.b .nil pass0 (pa_cons (pv 0) (pa_cons (pe_op op_sub (pe_op op_sub (pv 1) pe_int) (pv 8)) pa_nil)))))
              (pss_cons (ps_expr (pe_bm PySem.F.plainAttrs_list PySem.F.slot_list_append PySem.F.type_list_append mt_append (pv 5) (pa_cons (pe_tup (pa_cons (pv 8) (pa_cons (pv 9) (pa_cons (pe_call Glaw_take (hr.mono (by decide)) (by rfl) Nlaw_take.g Nlaw_take.kp Nlaw_take.b .nil pass0 (pa_cons (pv 0) (pa_cons pe_int pa_nil))) pa_nil)))) pa_nil)))
              (pss_one (ps_set (i := 6) sc_law_world.nd rfl (Or.inl rfl) (pv 9)))))) pss_nil)))
      (pss_one (ps_ret (pe_lst (pa_cons (pv 3) (pa_cons (pv 4) (pa_cons (pv 5) (pa_cons (pe_ix ix_list (pv 2) (pe_un un_neg pe_int) (fun _ _ => rfl)) pa_nil))))))))))))), ?_⟩
    refine ⟨_, rfl, b, 5, n, rfl, hB, by omega, by decide, by decide, fun d H1 d0 d1 off1 B1 => ?_⟩
    obtain ⟨d, rfl⟩ := Int.eq_ofNat_of_zero_le d0
    refine ⟨_, _, rfl, rfl, ?_⟩
    have em : (2 + (d : Int)) = ((2 + d : Nat) : Int) := by omega
    have hm7 : 2 + d + 1 ≤ 7 := by omega
    have hm2 : 2 ≤ 2 + d := by omega
    show tSeq _ _ _ (List.set _ 1 (some (.int (2 + (d : Int))))) H1
    rw [em]
    generalize 2 + d = m at hm7 hm2
    refine ⟨_, rfl, _, rfl, _, _, rfl, rfl, b, m + 1, n + 1, rfl, B1, by omega, hm7, fun ns La H2 k2 B2 hLa hl hns => ?_⟩
    obtain ⟨nm, sp, rfl⟩ : ∃ nm sp, ns = nm ++ [sp] := by
      rcases List.eq_nil_or_concat ns with e | ⟨nm, sp, e⟩
      · rw [e] at hl
        cases hl
      · exact ⟨nm, sp, by rw [e, List.concat_eq_append]⟩
    have hlm : nm.length = m := by rw [List.length_append] at hl; exact Nat.succ.inj hl
    have hnd := List.nodup_append.mp hns.nd
    have hsp : sp ∉ nm := fun h => hnd.2.2 sp h sp (List.mem_singleton.mpr rfl) rfl
    have ecut : cutV ((nm ++ [sp]).map V.str) none (some (-1)) = nm.map V.str := by
      rw [cut_last, List.map_append]
      exact List.dropLast_concat
    have nLb : La ≠ b := fun e => by
      obtain ⟨_, _, _, h, _⟩ := B1
      obtain ⟨_, _, _, h2, _⟩ := B2
      rw [e, h2] at hLa
      cases nm with
      | nil => simp at hLa
      | cons a r => simp at hLa
    have k02 : KB b H H2 := (KB.off off1).trans k2
    refine ⟨_, rfl, _, rfl, _, rfl, La, _, rfl, SqL.of hLa, fun p1 hp1 => ⟨p1, rfl, ⟨_, SqL.of upd_same⟩, fun D hD => ?_⟩⟩
    have n1b : p1 ≠ b := B2.fresh hp1
    have hp1' : (upd H2 p1 (.lst (cutV ((nm ++ [sp]).map V.str) none (some (-1))))) p1 = some (.lst (nm.map V.str)) := by rw [upd_same, ecut]
    have k03 : KB b H2 (upd H2 p1 (.lst (cutV ((nm ++ [sp]).map V.str) none (some (-1))))) := KB.alloc hp1
    have B3 := B2.alloc (o := .lst (cutV ((nm ++ [sp]).map V.str) none (some (-1)))) hp1
    generalize upd H2 p1 (.lst (cutV ((nm ++ [sp]).map V.str) none (some (-1)))) = H3 at hp1' k03 B3 hD ⊢
    have nDb : D ≠ b := B3.fresh hD
    have nD0 : H D = none := fresh0 (k02.trans k03) nDb hD
    refine lc_it (walk_list (K := K) (xs := nm.map V.str)) (fun i H' => ∃ (ps : List (Str × Int)) (xs : List V), ps.map (·.1) = nm.take i ∧ (∀ p ∈ ps, 1 ≤ p.2 ∧ p.2 ≤ 3) ∧ H' D = some (.lst xs) ∧ DrAll (hide D (nw H H')) xs (ps.map dP) ∧ KB b H3 H' ∧ Bx b (n + 21 + i) H')
      ⟨[], [], by simp, by simp, upd_same, .nil, KB.alloc hD, (B3.alloc hD).mono (by simp; omega)⟩ ?_ ?_ ?_
    · rintro i H' hi ⟨ps, xs, _, _, _, _, kb, _⟩
      exact SqL.of (kb _ _ n1b hp1')
    · rintro i x H' H'' hi ⟨ps, xs, e1, e2, e3, e4, kb, B'⟩ ⟨rfl, hx⟩
      obtain ⟨z, hz, rfl⟩ := get_map hx
      rw [List.length_map] at hi
      have lx : xs.length = i := by
        rw [drAll_len e4, List.length_map, ← List.length_map (f := (·.1)), e1, List.length_take]
        omega
      refine ⟨rfl, lcY ?_⟩
      refine ⟨_, rfl, _, rfl, b, 3, _, rfl, B', by omega, by decide, by decide, fun r H4 r0 r1 off4 B4 => ⟨_, _, rfl, rfl, (by show 2 ≤ sizeLine; decide), fun p hp => ?_⟩⟩
      have e34 : H4 D = some (.lst xs) := by rw [off4 D nDb]; exact e3
      have npD : D ≠ p := ne_of_none e34 hp
      have npb : p ≠ b := B4.fresh hp
      have np0 : H p = none := fresh0 (((k02.trans k03).trans kb).trans (KB.off off4)) npb hp
      have eN := (hide_mono (D := D) (nw_mono hbn ((KB.off off4).trans (KB.alloc (o := .tup [.str z, .int (1 + r)]) hp)))).trans (nw_put (o := .lst (xs ++ [.ref p])))
      refine ⟨xs, by rw [upd_ne npD]; exact e34, by rw [lx]; exact lt_line i (by omega), ps ++ [(z, 1 + r)], xs ++ [.ref p], ?_, ?_, upd_same, ?_, ?_, ?_⟩
      · rw [List.map_append, e1, take_at hz]
        rfl
      · intro q hq
        rcases List.mem_append.mp hq with h | h
        · exact e2 q h
        · rw [List.mem_singleton.mp h]
          exact ⟨by show 1 ≤ 1 + r; omega, by show 1 + r ≤ 3; omega⟩
      · rw [List.map_append]
        exact drAll_app (drAll_nt eN e4) (.cons (.tup (nw_put _ _ (by simp) (nw_newR npD.symm np0)) (.cons (.str _) (.cons (.int _) .nil))) .nil)
      · intro c o nc e
        rw [upd_ne (ne_of_none e hD)]
        exact ((kb.trans (KB.off off4)).trans (KB.alloc hp)) c o nc e
      · exact ((B4.alloc hp).put nDb).mono (by push_cast; omega)
    · rintro H4 ⟨ps, xsP, e1, e2, e3, e4, kb4, B4⟩
      rw [List.length_map, List.take_of_length_le (Nat.le_refl _)] at e1
      rw [List.length_map, hlm] at B4
      have dpP := drAll_nt (hide_nt D _) e4
      have lps : ps.length = m := by rw [← List.length_map (f := (·.1)), e1, hlm]
      have k04 := (k02.trans k03).trans kb4
      have hLa4 := (k03.trans kb4) _ _ nLb hLa
      clear e4 k02 k03 kb4 hp1' hD hLa k2 B3 B2 B1 hB
      have em1 : ((m : Int) - 1) = ((m - 1 : Nat) : Int) := by omega
      refine ⟨_, rfl, _, _, rfl, rfl, ((m - 1 : Nat) : Int), (by show [V.int ((m : Int) - 1)] = _; rw [em1]), by omega, by omega, fun D2 hD2 => ?_⟩
      have nD2b : D2 ≠ b := B4.fresh hD2
      have nD20 : H D2 = none := fresh0 k04 nD2b hD2
      refine lc_range (lo := 0) (n := m - 1) (fun i H' => ∃ (st : List (Str × Int)) (xs : List V), st.length = i ∧ (∀ p ∈ st, (p.1 = "staff" ∨ p.1 = "ticket") ∧ 0 ≤ p.2 ∧ p.2 ≤ 1) ∧ H' D2 = some (.lst xs) ∧ DrAll (hide D2 (nw H H')) xs (st.map dP) ∧ KB b H4 H' ∧ Bx b (n + 40 + 2 * i) H')
        ⟨[], [], rfl, by simp, upd_same, .nil, KB.alloc hD2, (B4.alloc hD2).mono (by omega)⟩ ?_ ?_
      · rintro i H' hi ⟨st, xs, e1, e2, e3, e4, kb, B'⟩
        have lx : xs.length = i := by rw [drAll_len e4, List.length_map, e1]
        refine ⟨rfl, lcY ?_⟩
        refine ⟨(by show 2 ≤ sizeLine; decide), fun L hL => ⟨_, rfl, b, 2, _, rfl, B'.alloc hL, by omega, by decide, by decide, fun i1 H5 i0 i2 off5 B5 => ?_⟩⟩
        have hL5 : H5 L = some (.lst [.str "staff", .str "ticket"]) := by rw [off5 L (B'.fresh hL)]; exact upd_same
        have hz : ∃ z : Str, atI [V.str "staff", V.str "ticket"] i1 = some (.str z) ∧ (z = "staff" ∨ z = "ticket") := by
          rcases (by omega : i1 = 0 ∨ i1 = 1) with rfl | rfl
          · exact ⟨_, rfl, .inl rfl⟩
          · exact ⟨_, rfl, .inr rfl⟩
        obtain ⟨z, hz1, hz2⟩ := hz
        refine ⟨L, _, i1, .str z, rfl, rfl, SqL.of hL5, hz1, _, rfl, b, 2, _, rfl, B5, by omega, by decide, by decide, fun h6 H6 h0 h1 off6 B6 => ⟨(by show 2 ≤ sizeLine; decide), fun p hp => ?_⟩⟩
        have k5 : KB b H' H6 := ((KB.alloc (o := .lst [.str "staff", .str "ticket"]) hL).trans (KB.off off5)).trans (KB.off off6)
        have e36 : H6 D2 = some (.lst xs) := k5 _ _ nD2b e3
        have npD : D2 ≠ p := ne_of_none e36 hp
        have npb : p ≠ b := B6.fresh hp
        have np0 : H p = none := fresh0 ((k04.trans kb).trans k5) npb hp
        have eN := (hide_mono (D := D2) (nw_mono hbn (k5.trans (KB.alloc (o := .tup [.str z, .int h6]) hp)))).trans (nw_put (o := .lst (xs ++ [.ref p])))
        refine ⟨xs, by rw [upd_ne npD]; exact e36, by rw [lx]; exact lt_line i (by omega), st ++ [(z, h6)], xs ++ [.ref p], ?_, ?_, upd_same, ?_, ?_, ?_⟩
        · rw [List.length_append, e1]
          rfl
        · intro q hq
          rcases List.mem_append.mp hq with h | h
          · exact e2 q h
          · rw [List.mem_singleton.mp h]
            exact ⟨hz2, h0, by show h6 ≤ 1; omega⟩
        · rw [List.map_append]
          exact drAll_app (drAll_nt eN e4) (.cons (.tup (nw_put _ _ (by simp) (nw_newR npD.symm np0)) (.cons (.str _) (.cons (.int _) .nil))) .nil)
        · intro c o nc e
          rw [upd_ne (ne_of_none e hD2)]
          exact ((kb.trans k5).trans (KB.alloc hp)) c o nc e
        · exact ((B6.alloc hp).put nD2b).mono (by push_cast; omega)
      · rintro H5 ⟨st, xsS, f1, f2, f3, f4, kb5, B5⟩
        have dpS := drAll_nt (hide_nt D2 _) f4
        have dpP5 := drAll_nt (nw_mono hbn kb5) dpP
        have e35 := kb5 _ _ nDb e3
        have hLa5 := kb5 _ _ nLb hLa4
        have k05 := k04.trans kb5
        clear f4 dpP e3 hLa4 k04 kb5 B4 hD2
        refine ⟨Nat.zero_le _, fun L5 h5 => ?_⟩
        have nL5b : L5 ≠ b := B5.fresh h5
        have nL50 : H L5 = none := fresh0 k05 nL5b h5
        have kA : KB b H5 (upd H5 L5 (.lst [])) := KB.alloc h5
        have hL5' : (upd H5 L5 (.lst [])) L5 = some (.lst []) := upd_same
        have BA := B5.alloc (o := .lst []) h5
        have nhL5 : ∀ c o, H5 c = some o → c ≠ L5 := fun c o h => ne_of_none h h5
        generalize upd H5 L5 (.lst []) = HA at kA hL5' BA ⊢
        refine ⟨_, rfl, b, 3, _, rfl, BA, by omega, by decide, by decide, fun tn H6 t0 t3 off6 B6 => ?_⟩
        have kA6 := kA.trans (KB.off off6)
        have hL56 : H6 L5 = some (.lst []) := by rw [off6 L5 nL5b]; exact hL5'
        refine ⟨tn, rfl, by omega, by omega, for_it (walk_range (lo := 0) (n := tn.toNat)) (fun i σ H' => ∃ (v7 v8 v9 v10 v11 : Option V) (lo : List (Int × Int × Int)) (xs : List V), σ = [some (.ref b), some (.int (m : Nat)), some (.ref La), some (.ref D), some (.ref D2), some (.ref L5), some (.int (lastL 0 lo)), v7, v8, v9, v10, v11] ∧
          H' L5 = some (.lst xs) ∧ DrAll (hide L5 (nw H H')) xs (lo.map dL) ∧ lo.length ≤ i ∧ longsOk ((m - 1 : Nat) : Int) 0 lo ∧ 0 ≤ lastL 0 lo ∧ lastL 0 lo ≤ ((m - 1 : Nat) : Int) ∧ (∀ c o, c ≠ L5 → c ≠ b → H6 c = some o → H' c = some o) ∧ Bx b (n + 60 + 3 * i) H') ?_ ?_ ?_ ?_⟩
        · refine ⟨_, _, _, _, _, [], [], rfl, hL56, .nil, Nat.zero_le _, True.intro, Int.le_refl 0, ?_, fun c o _ _ h => h, B6.mono (by omega)⟩
          show (0 : Int) ≤ _
          omega
        · intros; trivial
        · rintro i x σ H' H'' hi ⟨v7, v8, v9, v10, v11, lo, xs, rfl, e1, e2, e3, e4, e5, e6, e7, B'⟩ ⟨rfl, rfl⟩
          have lx : xs.length = lo.length := by rw [drAll_len e2, List.length_map]
          refine ⟨_, rfl, _, _, rfl, rfl, _, rfl, _, _, rfl, rfl, _, rfl, ite2 (fun c => ?_) (fun c => ?_)⟩
          · have c' : lastL 0 lo + 2 < (m : Int) := of_decide_eq_true c
            generalize hlow : lastL 0 lo = low at e5 e6 c' ⊢
            refine ⟨_, rfl, _, rfl, _, rfl, _, _, rfl, rfl, _, rfl, _, _, rfl, rfl, b, (m : Int) - 2 - low, _, rfl, B', by omega, by omega, dec9000 (by omega) (by omega), fun r1 H7 r10 r11 off7 B7 => ⟨_, _, rfl, rfl, ?_⟩⟩
            refine ⟨_, rfl, _, _, rfl, rfl, _, rfl, _, rfl, _, _, rfl, rfl, _, rfl, _, _, rfl, rfl, b, (m : Int) - 2 - (low + r1), _, rfl, B7, by omega, by omega, dec9000 (by omega) (by omega), fun r2 H8 r20 r21 off8 B8 => ⟨_, _, rfl, rfl, ?_⟩⟩
            have e18 : H8 L5 = some (.lst xs) := by rw [off8 L5 nL5b, off7 L5 nL5b]; exact e1
            refine ⟨_, rfl, .inl ⟨rfl, _, SqL.of e18⟩, _, rfl, _, rfl, _, rfl, b, 2, _, rfl, B8, by omega, by decide, by decide, fun h H9 h0 h1 off9 B9 => ⟨(by show 3 ≤ sizeLine; decide), fun p hp => ?_⟩⟩
            have e19 : H9 L5 = some (.lst xs) := by rw [off9 L5 nL5b]; exact e18
            have npL : L5 ≠ p := ne_of_none e19 hp
            have npb : p ≠ b := B9.fresh hp
            have k9 : KB b _ H9 := ((KB.off off7).trans (KB.off off8)).trans (KB.off off9)
            have np0 : H p = none := by
              cases e : H p with
              | none => rfl
              | some o =>
                have z5 := k05 _ _ npb e
                have z9 := k9 _ _ npb (e7 _ _ (nhL5 _ _ z5) npb (kA6 _ _ npb z5))
                rw [z9] at hp
                cases hp
            have eN := (hide_mono (D := L5) (nw_mono hbn (k9.trans (KB.alloc (o := .tup [.int (low + r1), .int (low + r1 + 2 + r2), .int h]) hp)))).trans (nw_put (o := .lst (xs ++ [.ref p])))
            refine ⟨L5, xs, .ref p, rfl, rfl, by rw [upd_ne npL]; exact e19, by rw [lx]; exact lt_line _ (by omega), ?_⟩
            refine ⟨_, rfl, some (.int (0 + (i : Nat))), some (.int (low + r1)), some (.int (low + r1 + 2 + r2)), v10, v11, lo ++ [(low + r1, low + r1 + 2 + r2, h)], xs ++ [.ref p], ?_, upd_same, ?_, ?_, ?_, ?_, ?_, ?_, ?_⟩
            · rw [lastL_snoc]
              rfl
            · rw [List.map_append]
              exact drAll_app (drAll_nt eN e2) (.cons (.tup (nw_put _ _ (by simp) (nw_newR npL.symm np0)) (.cons (.int _) (.cons (.int _) (.cons (.int _) .nil)))) .nil)
            · rw [List.length_append]
              exact Nat.succ_le_succ e3
            · refine longsOk_snoc e4 (by rw [hlow]; omega) (by omega) (by omega) h0 (by omega)
            · rw [lastL_snoc]
              show 0 ≤ low + r1 + 2 + r2
              omega
            · rw [lastL_snoc]
              show low + r1 + 2 + r2 ≤ _
              omega
            · intro c o nc nb e
              rw [upd_ne nc]
              have z := k9 _ _ nb (e7 c o nc nb e)
              rw [upd_ne (ne_of_none z hp)]
              exact z
            · exact ((B9.alloc hp).put nL5b).mono (by push_cast; omega)
          · exact ⟨_, _, _, _, _, lo, xs, rfl, e1, e2, Nat.le_succ_of_le e3, e4, e5, e6, e7, B'.mono (by push_cast; omega)⟩
        · rintro σ H7 ⟨v7, v8, v9, v10, v11, lo, xsL, rfl, g1, g2, g3, g4, g5, g6, g7, B7⟩
          have k57 : KB b H5 H7 := fun c o nc h => g7 c o (nhL5 c o h) nc (kA6 c o nc h)
          have dpL := drAll_nt (hide_nt L5 _) g2
          have dpP7 := drAll_nt (nw_mono hbn k57) dpP5
          have dpS7 := drAll_nt (nw_mono hbn k57) dpS
          have e37 := k57 _ _ nDb e35
          have f37 := k57 _ _ nD2b f3
          have hLa7 := k57 _ _ nLb hLa5
          refine ⟨_, rfl, _, rfl, _, rfl, _, rfl, _, rfl, La, _, _, .str sp, rfl, rfl, SqL.of hLa7, last_at (by rw [List.map_append]; simp), (by show 4 ≤ sizeLine; decide), fun R hR => ?_⟩
          have eR := nw_mono hbn (KB.alloc (b := b) (o := .lst [.ref D, .ref D2, .ref L5, .str sp]) hR)
          have nR0 : H R = none := fresh0 (k05.trans k57) (B7.fresh hR) hR
          refine k ⟨ps, st, lo, sp⟩ _ _ ?_ ((k05.trans k57).trans (KB.alloc hR)) (.lst (by rw [nw_none nR0]; exact upd_same) (.cons (.lst (eR _ _ (by simp) (by rw [nw_none nD0]; exact e37)) (drAll_nt eR dpP7)) (.cons (.lst (eR _ _ (by simp) (by rw [nw_none nD20]; exact f37)) (drAll_nt eR dpS7)) (.cons (.lst (eR _ _ (by simp) (by rw [nw_none nL50]; exact g1)) (drAll_nt eR dpL)) (.cons (.str _) .nil))))) ((B7.alloc hR).mono (by omega))
          refine ⟨?_, ?_, ?_, ?_, ?_, f2, ?_, ?_, hns.ok sp (by simp), ?_⟩
          · show 2 ≤ ps.length
            omega
          · show ps.length ≤ 6
            omega
          · intro p hp
            refine ⟨hns.ok p.1 (List.mem_append_left _ ?_), e2 p hp⟩
            rw [← e1]
            exact List.mem_map.mpr ⟨p, hp, rfl⟩
          · show (ps.map (·.1)).Nodup
            rw [e1]
            exact hnd.1
          · show st.length + 1 = ps.length
            omega
          · show lo.length ≤ 2
            omega
          · show longsOk ((ps.length - 1 : Nat) : Int) 0 lo
            rw [lps]
            exact g4
          · show sp ∉ ps.map (·.1)
            rw [e1]
            exact hsp
end
end K4

set_option maxRecDepth 100000
set_option maxHeartbeats 1000000
/-! Refusals: a try with clauses, named or not, in any order; a class's def called by the class; isinstance of what was caught. -/
namespace My
open PySem PySem.Spec PyProof.Rows L2 GxR
/-! ### a try with clauses, named or not -/
abbrev Cl := Value × Option Nat × (Addr → Value → Option Addr → TS)
/-- what follows is the same by two ways: I holds there -/
theorem cutR {A : Prop} {G : Hp → Prop} (I : Hp → Prop) (main : (∀ H, I H → G H) → A) (last : ∀ H, I H → G H) : A := main last
def endsOff (i : Nat) (D : Ends) : Ends :=
  { nx := fun τ G => D.nx (τ.set i none) G, rt := D.rt, bk := fun τ G => D.bk (τ.set i none) G, ct := fun τ G => D.ct (τ.set i none) G }
def suiteOf (i : Option Nat) (t : TS) (a : Addr) (D : Ends) (σ : L2.St) (H : Hp) : Prop :=
  match i with
  | none => t D σ H
  | some i => t (endsOff i D) (σ.set i (some (.ref a))) H
/-- what the clauses wish, one behind the other -/
def wCl (K : PySem.W.Frag) (Wout : WX) (D : Ends) : List Cl → WX
  | [] => Wout
  | p :: l => fun cls d σ H => ∃ b, PySem.W.exmOne K cls p.1 = some b ∧
      (b = true → ∀ a, H a = none → suiteOf p.2.1 (p.2.2 a cls d) a D σ H) ∧ (b = false → wCl K Wout D l cls d σ H)
def SuiteOk (X : Cx) (ss : List Stmt) (ts : Addr → Value → Option Addr → TS) : Prop :=
  ∀ (a : Addr) (oe : Obj) (cls : Value) (d : Option Addr) (pn : List (Addr × Obj)), Zc cls d oe → (∃ fv, oe.data = .fields fv) → PSs (X.suite a ((a, oe) :: pn)) ss (ts a cls d)
inductive Clauses (X : Cx) : List ExceptHandler → List Cl → Prop
  | nil : Clauses X [] []
  | plain {x : Str} {c : Value} {ts : Addr → Value → Option Addr → TS} {st : Stmt} {ss : List Stmt} {p q : Pos} {hds : List ExceptHandler} {l : List Cl}
      (hc : Names X x c) (hsu : SuiteOk X (st :: ss) ts) (r : Clauses X hds l) : Clauses X (.ExceptHandler (some (.Name x p)) none (st :: ss) q :: hds) ((c, none, ts) :: l)
  | named {x n : Str} {i : Nat} {c : Value} {ts : Addr → Value → Option Addr → TS} {st : Stmt} {ss : List Stmt} {p q : Pos} {hds : List ExceptHandler} {l : List Cl}
      (hc : Names X x c) (hi : X.N[i]? = some n) (hn : X.env.kindOf n = some .local) (hsu : SuiteOk X (st :: ss) ts) (r : Clauses X hds l) :
      Clauses X (.ExceptHandler (some (.Name x p)) (some n) (st :: ss) q :: hds) ((c, some i, ts) :: l)
/-- an exception in hand -/
structure InHand (X : Cx) (pins : List (Addr × Obj)) (σ : L2.St) (H : Hp) (cls : Value) (d : Option Addr) (a : Addr) (B : Heap) (sI s : Shared) : Prop where
  inv : Inv X pins σ H sI
  grd : ∀ b o, sI.heap.get? b = some o → b ∉ frs X.stack → B.get? b = some o
  up : sI.heap.UpToSlots s.heap
  fly : HandSPX.FlyingZ B (X.env :: X.outer) a (Zc cls d) s.heap
  new : H a = none
  os : s.os = sI.os
  ag : AllBare s.gens
section
variable {X : Cx} {pins : List (Addr × Obj)} {σ : L2.St} {H : Hp} {cls : Value} {d : Option Addr} {a : Addr} {B : Heap} {sI s : Shared}
theorem InHand.now (h : InHand X pins σ H cls d a B sI s) : Inv X pins σ H s := h.inv.landed h.grd h.fly.1 h.up h.os h.ag
theorem InHand.move (h : InHand X pins σ H cls d a B sI s) {g : Heap} (f : HandSPX.FlyingZ B (X.env :: X.outer) a (Zc cls d) g) (u : s.heap.UpToSlots g) :
    InHand X pins σ H cls d a B sI { s with heap := g } := ⟨h.inv, h.grd, h.up.trans u, f, h.new, h.os, h.ag⟩
theorem InHand.seen (h : InHand X pins σ H cls d a B sI s) (hf : X.env.frame = some X.env.locals) :
    ∃ oe fv, s.heap.get? a = some oe ∧ Zc cls d oe ∧ oe.data = .fields fv ∧ a ≠ X.env.locals ∧ a ∉ X.fs := by
  obtain ⟨oe, fv, e1, e2, e3⟩ := h.fly.there
  have off : a ∉ frs (X.env :: X.outer) := by
    intro m
    obtain ⟨_, o2, e4, no⟩ := h.fly.2.2.1.mem m
    rw [e1] at e4
    obtain rfl := Option.some.inj e4
    exact no _ e3
  refine ⟨oe, fv, e1, e2, e3, fun z => off ?_, fun z => off ?_⟩
  · rw [z]
    exact List.mem_filterMap.mpr ⟨X.env, by simp, hf⟩
  · obtain ⟨v, hv, q⟩ := List.mem_filterMap.mp z
    exact List.mem_filterMap.mpr ⟨v, by simp [hv], q⟩
/-- the suite of a clause behind the try's own end -/
theorem InHand.leave (ok : X.Ok) {oe : Obj} {D : Ends} {f : Flow} {s2 : Shared} (h : SP (X.suite a ((a, oe) :: (X.pn ++ pins))) [] D f s2) : SP X pins D f s2 := by
  cases f with
  | ret u => obtain ⟨v, τ, G, J, r, q⟩ := h; exact ⟨v, τ, G, J.unsuite ok, r, q⟩
  | next => obtain ⟨τ, G, J, q⟩ := h; exact ⟨τ, G, J.unsuite ok, q⟩
  | brk => obtain ⟨τ, G, J, q⟩ := h; exact ⟨τ, G, J.unsuite ok, q⟩
  | cont => obtain ⟨τ, G, J, q⟩ := h; exact ⟨τ, G, J.unsuite ok, q⟩
/-- no clause took it -/
theorem InHand.out (hs : X.stack = X.env :: X.outer) (hf : X.env.frame = some X.env.locals) {Wout : WX} (tk : Takes X Wout) (h : InHand X pins σ H cls d a B sI s) (w : Wout cls d σ H) {Q : Flow → Shared → Prop} :
    wpAny (model X.prog X.w) X.A (handleBy (.ref a) X.env []) Q X.xe s := by
  have fly := h.fly
  refine wpAny_handleBy_nil ?_
  obtain ⟨_, _, _, oe, fv, T, _, _, e1, _, e2, e3, _⟩ := id h.fly
  unfold PySem.passOn
  refine wpAny_bind (wpAny_field e1 e2 e3 ?_)
  rw [if_neg (by simp)]
  have last : wpAny (model X.prog X.w) X.A (setFlight (.ref a) X.env.frame) (fun _ z => wpAny (model X.prog X.w) X.A (throw (.ref a) : Sem Flow) Q X.xe z) X.xe s := by
    rw [hf]
    refine HandSPX.setFlight_upZ fly fun g held up => wpAny_throw (tk _ _ ⟨a, B, sI, pins, σ, H, cls, d, rfl, h.inv, h.grd, h.up.trans up, .inr (.inr ?_), h.new, h.os, h.ag, w⟩)
    rw [hs]
    exact held
  first
    | exact wpAny_bind last
    | exact wpAny_bind (wpAny_pure (wpAny_bind last))
/-- the class that a clause names, told -/
theorem InHand.named (h : InHand X pins σ H cls d a B sI s) (hf : X.env.frame = some X.env.locals) {x : Str} {c : Value} {p : Pos} (hc : Names X x c) {Q : Value → Shared → Prop} {E : Value → Shared → Prop} (q : Q c s) :
    wpAny (model X.prog X.w) (X.A.mark (some (.ref a))) (eval (.Name x p) X.env) Q E s := by
  obtain ⟨oe, fv, e1, _, e3, n1, n2⟩ := h.seen hf
  have S := h.now.suite e1 e3 h.new n1 n2
  obtain ⟨hg, hd, hm | ⟨hm, hv, hn⟩⟩ := hc
  · exact ld_glob (X := X.suite a ((a, oe) :: (X.pn ++ pins))) S hg hm q hd
  · exact ld_blt (X := X.suite a ((a, oe) :: (X.pn ++ pins))) S hg hm hv q hn hd
theorem InHand.through (hs : X.stack = X.env :: X.outer) (hf : X.env.frame = some X.env.locals) (hN : X.N.Nodup) {Wout : WX} (tk : Takes X Wout) {D : Ends} {hds : List ExceptHandler} {l : List Cl}
    (ck : Clauses X hds l) : ∀ {s : Shared}, InHand X pins σ H cls d a B sI s → wCl X.K Wout D l cls d σ H → wpAny (model X.prog X.w) X.A (handleBy (.ref a) X.env hds) (SP X pins D) X.xe s := by
  induction ck with
  | nil => exact fun h w => h.out hs hf tk w
  | @plain x c ts st ss p q hds l hc hsu r ih =>
    rintro s h ⟨b, hb, yes, no⟩
    have fly := h.fly
    obtain ⟨oe, fv, e1, e2, _⟩ := h.seen hf
    have own : PySem.W.Looks (model X.prog X.w) s.heap (typeOf (.ref a)) cls := fun _ _ _ z k q => wpAny_typeOf_ref (k _ _ e1) (by rw [e2.1]; exact q)
    refine wpAny_handleBy_cons (codeAny_handlers_test (h.named hf hc ((PySem.W.exm_one h.now.kIn own hb).here ?_))) (fun z => by cases z)
    cases b with
    | false => exact ih h (no rfl)
    | true =>
      refine codeAny_handlers_suite (HandSPX.lands_againZ fly fun g f2 u2 => ?_)
      have h2 := h.move f2 u2
      obtain ⟨oe2, fv2, i1, i2, i3, i4, i5⟩ := h2.seen hf
      exact wpAny_mono ((hsu a oe2 cls d (X.pn ++ pins) i2 ⟨_, i3⟩).run [] _ _ _ _ (h2.now.suite i1 i3 h.new i4 i5) (yes rfl a h.new)) (fun f z y => InHand.leave h.inv.ok y) fun _ _ z => z.elim
  | @named x n i c ts st ss p q hds l hc hi hn hsu r ih =>
    rintro s h ⟨b, hb, yes, no⟩
    have fly := h.fly
    obtain ⟨oe, fv, e1, e2, _⟩ := h.seen hf
    have own : PySem.W.Looks (model X.prog X.w) s.heap (typeOf (.ref a)) cls := fun _ _ _ z k q => wpAny_typeOf_ref (k _ _ e1) (by rw [e2.1]; exact q)
    refine wpAny_handleBy_cons (codeAny_handlers_test (h.named hf hc ((PySem.W.exm_one h.now.kIn own hb).here ?_))) (fun z => by cases z)
    cases b with
    | false => exact ih h (no rfl)
    | true =>
      refine codeAny_handlers_suite_as (HandSPX.lands_againZ fly fun g f2 u2 => ?_)
      have h2 := h.move f2 u2
      obtain ⟨oe2, fv2, i1, i2, i3, i4, i5⟩ := h2.seen hf
      refine store_ok (X := X.suite a ((a, oe2) :: (X.pn ++ pins))) (v := .ref a) (h2.now.suite i1 i3 h.new i4 i5) hN hi (.inl hn) rfl (fun z J => ?_) (.inr hn)
      refine wpAny_mono ((hsu a oe2 cls d (X.pn ++ pins) i2 ⟨_, i3⟩).run [] z _ _ _ J (yes rfl a h.new)) (fun f y k => ?_) fun _ _ z => z.elim
      have k' := InHand.leave h.inv.ok k
      cases f with
      | next => obtain ⟨τ, G, J2, q2⟩ := k'; exact gone_ok J2 hN hi hn fun _ J3 => ⟨_, _, J3, q2⟩
      | brk => obtain ⟨τ, G, J2, q2⟩ := k'; exact gone_ok J2 hN hi hn fun _ J3 => ⟨_, _, J3, q2⟩
      | cont => obtain ⟨τ, G, J2, q2⟩ := k'; exact gone_ok J2 hN hi hn fun _ J3 => ⟨_, _, J3, q2⟩
      | ret u => obtain ⟨v, τ, G, J2, r2, q2⟩ := k'; exact gone_ok J2 hN hi hn fun _ J3 => ⟨_, _, _, J3, r2, q2⟩
end
/-- try: body, any clauses -/
theorem ps_try_cl {X : Cx} {body : List Stmt} {hd : ExceptHandler} {hds : List ExceptHandler} {l : List Cl} {pos : Pos} {tb : WX → TS} {Wout : WX} (hs : X.stack = X.env :: X.outer) (hf : X.env.frame = some X.env.locals) (hN : X.N.Nodup)
    (tk : Takes X Wout) (ck : Clauses X (hd :: hds) l)
    (hb : ∀ (W : WX) (pn : List (Addr × Obj)) (xe : Value → Shared → Prop), Takes (X.tr pn xe) W → PassesOwn (model X.prog X.w) X.A X.env xe → PSs (X.tr pn xe) body (tb W)) :
    PS X (.Try body (hd :: hds) [] [] pos) (fun D σ H => tb (wCl X.K Wout D l) D σ H) := by
  refine ⟨fun pins s σ H D I h => wpAny_Try_except ?_⟩
  have ok := I.ok
  have fr : X.A.frames = some (X.env :: X.outer) := by rw [ok.frames, hs]
  let xe : Value → Shared → Prop := fun e z => wpAny (model X.prog X.w) X.A (noteFrame e X.env) (fun _ z2 => wpAny (model X.prog X.w) X.A (setFlight e none)
    (fun _ z3 => wpAny (model X.prog X.w) X.A (handleBy e X.env (hd :: hds)) (SP X pins D) X.xe z3) X.xe z2) X.xe z
  have take : Takes (X.tr (X.pn ++ pins) xe) (wCl X.K Wout D l) := by
    rintro _ z ⟨a, B, sI, pn, τ, G, cls, d, rfl, J, grd, up, sky, new, os, ag, w⟩
    rw [show (X.tr (X.pn ++ pins) xe).stack = X.env :: X.outer from hs] at sky
    refine Sky.land Zc.steady fr hf sky fun g fly u => ?_
    exact InHand.through hs hf hN tk ck (s := { z with heap := g }) ⟨J.ofTry ok, grd, up.trans u, fly, new, os, ag⟩ w
  refine wpAny_mono ((hb _ _ xe take PassesOwn.looking).run [] s σ H D (I.toTry _) h) (fun f z k => ?_) fun _ _ z => z
  cases f with
  | next => obtain ⟨τ, G, J, q⟩ := k; exact wpAny_execs_nil ⟨τ, G, J.ofTry ok, q⟩
  | brk => obtain ⟨τ, G, J, q⟩ := k; exact ⟨τ, G, J.ofTry ok, q⟩
  | cont => obtain ⟨τ, G, J, q⟩ := k; exact ⟨τ, G, J.ofTry ok, q⟩
  | ret u => obtain ⟨v, τ, G, J, r, q⟩ := k; exact ⟨v, τ, G, J.ofTry ok, r, q⟩
/-! ### C.m(e, ..), C a class of the program -/
/-- what the written part says of a def f that a class at C tells by its name -/
structure ClsDef (K : PySem.W.Frag) (C f : Addr) (n : Str) : Prop where
  ga : PySem.W.specialIn K (.ref C) "__getattribute__" = some (some (.builtin "type.__getattribute__"))
  rd : PySem.W.readsIn K C (.type "type") = true
  at_ : PySem.W.findCls K (.ref C) (.type "type") n = some (.val (.ref f))
section
variable {X : Cx} {CX : CXT} {k : Nat} {C f : Addr} {fd : FuncData} {ps : List Str} {sp : Sp} {dvs : List V} {ds : List Value} {E : XK} {x n : Str} {p1 p2 pos : Pos} {e : Expr} {es : List Expr} {t : TA}
theorem pe_ccall {pl : Sem Bool} (T : ClsDef X.K C f n) (F : FnOk X.prog X.w X.K X.mg X.base CX k f fd ps sp) (hr : Room k X.A) (hg : Gl X x) (hm : X.mg x = some (.ref C)) (hk : PySem.W.keepIn X.K (.ref f) = true)
    (hb : Binds X.K fd ps ds) (hd : Vals dvs ds) (hx : Passes CX X E) (ha : PA X (e :: es) t) (hdb : (x == ("__debug__" : Str)) = false := by decide)
    (hc : eval (.Call (.Attribute (.Name x p1) n p2) (e :: es) [] pos) X.env = (do
      let ov ← eval (.Name x p1) X.env
      standAt p2.atName
      let (f, first) ← holding [ov] (getMethod ov n pl)
      callWith pos f first (backTo pos (starEach (e :: es) X.env)) (backToKw pos (keywordEach [] X.env))) := by rfl)
    (he : starEach (e :: es) X.env = (false, eval e X.env) :: starEach es X.env := by rfl) (hpl : (backTo pos (starEach es X.env)).any (·.1) = false := by rfl) :
    PE X (.Call (.Attribute (.Name x p1) n p2) (e :: es) [] pos) (tCall sp dvs E t) := by
  refine ⟨fun pins s σ H Q I h => PySem.W.methodCall_KW (ld_glob I hg hm ?_ hdb) hc⟩
  refine PySem.W.method_cls I.kIn T.ga (PySem.W.cls_value I.kIn T.rd T.at_ rfl ?_)
  refine PySem.W.callWith_K (h₀ := X.base) I.ok.mod.kin hk (thn (ha.run pos pins _ σ H _ (I.tok _) h) ?_) he hpl
  rintro us s1 ⟨vs, H1, I1, r, q⟩
  refine ⟨I1.kIn, ?_⟩
  have both := r.append hd
  have len : (us ++ ds).length = ps.length := (both.length).symm.trans (F.len _ _ _ _ q)
  refine wpAny_call (codeAny_mono (F.run X.A X.stack s1 H1 ⟨us, []⟩ (us ++ ds) (vs ++ dvs) Q E hr I1.env0 (hb s1 us I1.kIn len) both q) ?_)
  intro res z hz
  match res, hz with
  | .ok (.ret u), hz => exact I1.after hz
  | .error e, hz => exact hx pins σ H1 s1 e z I1 hz
  | .ok .next, hz => exact hz.elim
  | .ok .brk, hz => exact hz.elim
  | .ok .cont, hz => exact hz.elim
end
/-! ### o.m(e, ..) in a try's body -/
section
variable {X : Cx} {CX : CXT} {k : Nat} {C f : Addr} {fd : FuncData} {ps : List Str} {sp : Sp} {E : L2.St → XK} {m : Str} {pos apos : Pos} {e o : Expr} {es : List Expr} {ta : TE} {t : TA}
def tMethX (C : Addr) (m : Str) (sp : Sp) (E : L2.St → XK) (ta : TE) (t : TA) : TE := fun σ H Q => ta σ H fun x G => ∃ a dx fs, x = .ref a ∧ G a = some (.ins C dx fs) ∧ fs.lookup m = none ∧
  t σ G fun vs G2 => sp (x :: vs) G2 Q (E σ)
theorem pe_methX {pl : Sem Bool} (he : PE X o ta) (c : Cls X.K C) (hm : Meth X.K C m f) (F : FnOk X.prog X.w X.K X.mg X.base CX k f fd ps sp) (hr : Room k X.A) (hb : Binds X.K fd ps []) (hx : ∀ σ, PassesAt CX X σ (E σ)) (ha : PA X (e :: es) t)
    (hst : starEach (e :: es) X.env = (false, eval e X.env) :: starEach es X.env := by rfl) (hpl : (backTo pos (starEach es X.env)).any (·.1) = false := by rfl)
    (ht : eval (.Call (.Attribute o m apos) (e :: es) [] pos) X.env = (do
      let ov ← eval o X.env
      standAt apos.atName
      let (f, first) ← holding [ov] (getMethod ov m pl)
      callWith pos f first (backTo pos (starEach (e :: es) X.env)) (backToKw pos (keywordEach [] X.env))) := by rfl) :
    PE X (.Call (.Attribute o m apos) (e :: es) [] pos) (tMethX C m sp E ta t) := by
  refine ⟨fun pins s σ H Q I h => PySem.W.methodCall_KW (pl := pl) (thn (he.run pins s σ H _ I h) ?_) ht⟩
  rintro u z ⟨x, G, J, rx, a, dx, fs, rfl, ea, l, q⟩
  obtain rfl : u = Value.ref a := rx
  refine getmeth_ok J ea c hm l (PySem.W.callWith_K (first := [.ref a]) (h₀ := X.base) I.ok.mod.kin hm.kp (thn (ha.run pos pins z σ G _ J q) ?_) hst hpl)
  rintro us y ⟨vs, G2, J2, r, q2⟩
  exact ⟨J2.kIn, run_fnS (us := .ref a :: us) (vs := .ref a :: vs) F hr hb (hx σ) J2 (.cons rfl r) q2⟩
end
/-! ### the family: an __init__ over another class's, one field -/
/-- StaffError.__init__(self, text) and the like -/
def spUp (K : PySem.W.Frag) : Sp := fun vs H Q _ => ∃ (a C : Addr) (z : Str), vs = [.ref a, .str z] ∧ OexC K C ∧ H a = some (exo a C none) ∧ Q .non H
/-- C.__init__(self, x), its one field f -/
def spOne (K : PySem.W.Frag) (C : Addr) (f : Str) : Sp := fun vs H Q _ => ∃ (a : Addr) (v : V), vs = [.ref a, v] ∧ H a = some (exo a C none) ∧
  ∀ dx, H dx = none → dx ≠ a → Q .non (upd (upd H dx (exd dx [(f, v)])) a (exo a C (some dx)))
/-- what is left of a made exception: its dict alone -/
theorem made_eq {H : Hp} {a d C : Addr} {fs : List (Str × V)} (n : H a = none) (ne : d ≠ a) :
    upd (del (upd (upd (upd H a (exo a C none)) d (exd d fs)) a (exo a C (some d))) a) d (.xd fs) = upd H d (.xd fs) := by
  funext b
  by_cases hd : b = d
  · rw [hd, upd_same, upd_same]
  · rw [upd_ne hd, upd_ne hd]
    by_cases ha : b = a
    · rw [ha, del_same, n]
    · rw [del_ne ha, upd_ne ha, upd_ne hd, upd_ne ha]
/-- raise C(x): what is to be shown -/
theorem made_one {K : PySem.W.Frag} {C : Addr} {f : Str} {v : V} {H : Hp} {W : Value → Option Addr → Hp → Prop} (k : ∀ d, H d = none → W (.ref C) (some d) (upd H d (.xd [(f, v)]))) :
    ([v] : List V).length ≤ 1000 ∧ ∀ a, H a = none → spOne K C f (.ref a :: ([v] ++ [])) (upd H a (exo a C none))
      (fun u H2 => u = .non ∧ ∃ (d : Addr) (fs : List (Str × V)), H2 a = some (exo a C (some d)) ∧ H2 d = some (exd d fs) ∧ H d = none ∧ W (.ref C) (some d) (upd (del H2 a) d (.xd fs))) (fun _ _ _ => False) := by
  refine ⟨by simp, fun a n => ⟨a, v, rfl, upd_same, fun dx hdx ne => ⟨rfl, dx, [(f, v)], upd_same, ?_, ?_, ?_⟩⟩⟩
  · rw [upd_ne ne, upd_same]
  · rw [upd_ne ne] at hdx
    exact hdx
  · rw [made_eq n ne]
    rw [upd_ne ne] at hdx
    exact k dx hdx
/-- a class is its own -/
theorem sub_self {K : PySem.W.Frag} {C : Addr} {cd : ClassData} {r : List Value} (h : PySem.W.clsIn K C = some cd) (e : cd.mro = .ref C :: r) : PySem.W.subIn K (.ref C) (.ref C) = some true := by
  show PySem.W.mroIn K C (.ref C) = some true
  unfold PySem.W.mroIn
  rw [h]
  simp [e]
/-! ### isinstance of what was caught -/
structure CauC (K : PySem.W.Frag) (D : Addr) : Prop where
  cl : (PySem.W.clsIn K D).isSome = true
  ga : PySem.W.findIn K (.ref D) "__getattribute__" = some (some (.builtin "BaseException.__getattribute__"))
  gg : PySem.W.findIn K (.ref D) "__getattr__" = some none
  sub : PySem.W.subIn K (.ref D) (.type "BaseException") = some true
  co : PySem.W.findIn K (.ref D) "__class__" = some (some (.builtin "object.__class__"))
  cg : PySem.W.specialIn K (.builtin "object.__class__") "__get__" = some (some (.builtin "getset_descriptor.__get__"))
  ct : PySem.W.takesIn K (.builtin "object.__class__") = some true
  mo : PySem.W.mroIn K D (.type "object") = some true
/-- isinstance(e, c), e what the suite holds (cls its class, d its dict) -/
def rIsD (K : PySem.W.Frag) (D a : Addr) (cls : Value) (d : Option Addr) : List V → Hp → VK → Prop := fun xs H Q => ∃ (c : V) (cv : Value) (b : Bool) (dd : Addr) (fs : List (Str × V)),
  xs = [.ref a, c] ∧ (∀ u, RelV c u → u = cv) ∧ PySem.W.kitOne K (.ref D) cv = some b ∧ cls = .ref D ∧ d = some dd ∧ H dd = some (.xd fs) ∧ Q (.bl b) H
theorem call_isD {X : Cx} {a D : Addr} {cls : Value} {d : Option Addr} {oe : Obj} {pn : List (Addr × Obj)} (T : CauC X.K D) (hz : Zc cls d oe) (hf : ∃ fv, oe.data = .fields fv) :
    CallR (X.suite a ((a, oe) :: pn)) (.builtin "isinstance") (rIsD X.K D a cls d) := by
  rintro pins s σ H xs us Q I r ⟨c, cv, b, dd, fs, rfl, hcv, e, rfl, rfl, ed, q⟩
  cases r with
  | cons rx rr =>
    cases rr with
    | cons rt rr =>
      cases rr
      cases rx
      obtain rfl := hcv _ rt
      obtain ⟨hget, _⟩ := I.pin (a, oe) (by simp)
      obtain ⟨fv, hv⟩ := hf
      have hx : ObjOk X.prog X.w H s.heap dd (.xd fs) := I.hok dd _ ed
      obtain ⟨mA, hns, _⟩ := hx
      obtain ⟨od, ho, _⟩ := lookIn_ns hns
      have J : PySem.W.InstAt s.heap a oe D (some od) := ⟨hget, hz.1, by unfold PySem.W.notCls; rw [hv] <;> rfl, by rw [hz.2]; exact ho⟩
      exact PySem.W.kia_one (PySem.W.kitx_exc T.cl T.ga T.gg T.sub T.co T.cg T.ct T.mo) I.kIn J e (fun z => nomatch z) fun tk => ⟨.bl b, H, I.tok _, rfl, q⟩
/-- a call of a def that may raise, where it does not -/
theorem pass_no {X : Cx} : Passes (L2.CX X.prog X.w) X E0 := fun _ _ _ _ _ _ _ ⟨_, _, _, _, _, _, _, _, _, _, _, _, z⟩ => z.elim
theorem takes_never {X : Cx} : Takes X (fun _ _ _ _ => False) := fun _ _ ⟨_, _, _, _, _, _, _, _, _, _, _, _, _, _, _, _, z⟩ => z.elim
end My

set_option maxRecDepth 100000
set_option maxHeartbeats 400000
/-! Several refusals of one family: what the written part says of each. -/
namespace My
open PySem PySem.Spec PyProof.Rows L2 GxR Gd TL
/-- the class above them -/
structure SeT (K : PySem.W.Frag) (mg : Str → Option Value) (CS fS : Addr) (fdS : FuncData) (st : Stmt) : Prop where
  ve : mg "ValueError" = none
  vi : PySem.W.findCls K (.type "ValueError") (.type "type") "__init__" = some (.val (.builtin "ValueError.__init__"))
  g : mg "StaffError" = some (.ref CS)
  c : ClsDef K CS fS "__init__"
  k : PySem.W.keepIn K (.ref fS) = true
  F : Fun K "__init__" "StaffError.__init__" st fS fdS
  b : Binds K fdS ["self", "text"] []
/-- one of them -/
structure ExC (K : PySem.W.Frag) (mg : Str → Option Value) (x q : Str) (st : Stmt) (C f : Addr) (fd : FuncData) : Prop where
  g : mg x = some (.ref C)
  F : Fun K "__init__" q st f fd
  b : Binds K fd ["self", "found"] []
  o : OexC K C
  i : PySem.W.findIn K (.ref C) "__init__" = some (some (.ref f))
  t : PySem.W.typeIn K (.ref f) = some (.type "function")
  n : PySem.W.findIn K (.ref C) "found" = some none
  e : PySem.W.exmOne K (.ref C) (.ref C) = some true
  x : XfC K C
  u : CauC K C
section
variable {X : Cx} {CX : CXT} {k : Nat} {C f : Addr} {fd : FuncData} {ps : List Str} {sp : Sp} {E : L2.St → XK} {m : Str} {pos apos : Pos} {o : Expr} {ta : TE}
def tMethX0 (C : Addr) (m : Str) (sp : Sp) (E : L2.St → XK) (ta : TE) : TE := fun σ H Q => ta σ H fun x G => ∃ a dx fs, x = .ref a ∧ G a = some (.ins C dx fs) ∧ fs.lookup m = none ∧ sp [x] G Q (E σ)
/-- o.m() in a try's body -/
theorem pe_methX0 {pl : Sem Bool} (he : PE X o ta) (c : Cls X.K C) (hm : Meth X.K C m f) (F : FnOk X.prog X.w X.K X.mg X.base CX k f fd ps sp) (hr : Room k X.A) (hb : Binds X.K fd ps []) (hx : ∀ σ, PassesAt CX X σ (E σ))
    (ht : eval (.Call (.Attribute o m apos) [] [] pos) X.env = (do
      let who ← eval o X.env
      standAt apos.atName
      let (g, ahead) ← holding [who] (getMethod who m pl)
      callWith pos g ahead (backTo pos (starEach [] X.env)) (backToKw pos (keywordEach [] X.env))) := by rfl) :
    PE X (.Call (.Attribute o m apos) [] [] pos) (tMethX0 C m sp E ta) := by
  refine ⟨fun pins s σ H Q I h => PySem.W.methodCall_KW (pl := pl) (thn (he.run pins s σ H _ I h) ?_) ht⟩
  rintro u z ⟨x, G, J, rx, a, dx, fs, rfl, ea, l, q⟩
  obtain rfl := show u = Value.ref a from rx
  refine getmeth_ok J ea c hm l ?_
  exact PySem.W.callWith_K0 (first := [.ref a]) J.kIn hm.kp (run_fnS (us := [.ref a]) (vs := [.ref a]) F hr hb (hx σ) J (.cons rfl .nil) q)
end
end My

set_option maxRecDepth 100000
set_option maxHeartbeats 1000000
/-! The end of a law whose own def shows dicts: the module table is tracked, so that no new thing is it. For laws without tables. -/
namespace Gd
open PySem PySem.Spec PyProof.Rows L2 GxR
/-- the module table: it is there -/
def smU : HO := .ext fun h => ∃ o, h.get? sysModules = some o
def SmAt (H : Hp) : Prop := ∃ o, H sysModules = some (.frz o smU)
theorem SmAt.same {H H' : Hp} (h : SmAt H) (s : Same H H') : SmAt H' := let ⟨o, e⟩ := h; ⟨o, s _ _ e⟩
theorem smU_ne {u : HO} (n : ∀ φ, u ≠ .ext φ) : smU ≠ u := fun z => n _ z.symm
open Classical in
noncomputable def hs0 (K : PySem.W.Frag) (a : Addr) (vs : List Value) (ns : List Int) (o1 : Obj) : Hp := fun b =>
  if b = sysModules then some (.frz o1 smU) else if b = a ∧ K.lookup a = none then some (.frz (scriptO vs) (.lst (ns.map V.int))) else none
theorem hs0_inv {K : PySem.W.Frag} {a b : Addr} {vs : List Value} {ns : List Int} {o1 : Obj} {u : HO} (h : hs0 K a vs ns o1 b = some u) :
    (b = sysModules ∧ u = .frz o1 smU) ∨ (b = a ∧ K.lookup a = none ∧ u = .frz (scriptO vs) (.lst (ns.map V.int))) := by
  unfold hs0 at h
  split at h
  · rename_i c
    exact .inl ⟨c, (Option.some.inj h).symm⟩
  · split at h
    · rename_i c
      exact .inr ⟨c.1, c.2, (Option.some.inj h).symm⟩
    · cases h
section
variable {P : Program} {w : World} {K : PySem.W.Frag} {mg mb : Str → Option Value} {CX : CXT} {k : Nat} {fa a : Addr} {fd : FuncData} {x : Str} {sp : Sp} {s1 : Shared} {vs : List Value} {ns : List Int}
theorem law_scall (KX : K.In s1.heap) (nsG : s1.heap.Ns mainGlobals mg) (nsB : s1.heap.Ns builtinsNs mb) (isB : ∀ x : Str, x ≠ "__name__" → mb x = bootBuiltins x) (lim : s1.heap.NoLimit) (gens : s1.gens = #[])
    (hsm : ∃ o, s1.heap.get? sysModules = some o) (k1 : K.lookup sysModules = none) (na : a ≠ sysModules) (ha : s1.heap.get? a = some (scriptO vs)) (hi : IntsAre vs ns) (hl : ns.length ≤ sizeLine) (hr : Room k callerA)
    (F : ∀ base : Heap, K.In base → base.Ns mainGlobals mg → GOk P w K mg base CX k fa fd [x] sp) (hbind : ∀ (s : Shared) (u : Value), BindsTo s fd ⟨[u], []⟩ [(x, u)])
    (hsp : ∀ H : Hp, SmAt H → SqL K H a (ns.map V.int) → sp [.ref a] H (fun v _ => v = .bl true) fun _ _ _ => False) (hCX : ∀ H e s', CX [] H s1 (fun _ _ _ => False) e s' → False) :
    codeAny (model P w) callerA (.call (.ref fa) ⟨[.ref a], []⟩) (fun r s' => r = .ok (.ret (.bool true)) ∧ OldK s1.heap s'.heap ∧ s'.os = s1.os ∧ AllBare s'.gens) s1 := by
  have rv := vals_ints hi
  have hlen := hi.length
  obtain ⟨o1, ho1⟩ := hsm
  let H := hs0 K a vs ns o1
  have off : ∀ {b : Addr}, b ≠ sysModules → b ≠ a → H b = none := fun {b} n1 n2 => by
    cases q : H b with
    | none => rfl
    | some u =>
      rcases hs0_inv q with ⟨e, _⟩ | ⟨e, _⟩
      · exact absurd e n1
      · exact absurd e n2
  have dic : ∀ {b : Addr} {m : Str → Option Value}, b ≠ sysModules → s1.heap.Ns b m → (hidT s1.heap H).Ns b m := by
    rintro b m n1 ⟨o, es, ep, e, d, rest⟩
    refine ⟨o, es, ep, hidT_get e (off n1 ?_), d, rest⟩
    rintro rfl
    rw [ha] at e
    obtain rfl := Option.some.inj e
    cases d
  have KH : K.In (hidT s1.heap H) := by
    intro b o e
    refine hidT_get (KX b o e) ?_
    cases q : H b with
    | none => rfl
    | some u =>
      rcases hs0_inv q with ⟨rfl, _⟩ | ⟨rfl, z, _⟩
      · rw [k1] at e
        cases e
      · rw [z] at e
        cases e
  have limH : (hidT s1.heap H).NoLimit := let ⟨mc, h1, h2⟩ := lim; ⟨mc, dic (by decide) h1, h2⟩
  have M : L2.Mod K mg (hidT s1.heap H) := ⟨KH, dic (by decide) nsG, ⟨mb, dic (by decide) nsB, isB⟩, limH⟩
  have hS : SqL K H a (ns.map V.int) := by
    cases q : K.lookup a with
    | none => exact .inl (.inr ⟨scriptO vs, (if_neg na).trans (if_pos ⟨rfl, q⟩)⟩)
    | some o =>
      have e := KX a o q
      rw [ha] at e
      obtain rfl := Option.some.inj e
      exact .inr ⟨_, vs.toArray, _, q, rfl, rfl, rfl, by rw [List.size_toArray, hlen]; exact hl, by simpa using rv⟩
  have hok : HOk P w H s1.heap := by
    intro b u q
    rcases hs0_inv q with ⟨rfl, rfl⟩ | ⟨rfl, _, rfl⟩
    · exact ⟨ho1, ⟨_, ho1⟩, ⟨_, ho1⟩, fun h1 h2 ⟨o, z⟩ k => ⟨o, k _ z⟩⟩
    · exact ⟨ha, by rw [List.length_map]; exact hl, vs, _, rv, ha⟩
  have e0 : Env0 P w K mg (hidT s1.heap H) callerA [] s1 H :=
    ⟨rfl, M, fun b o e => of_hidT e, Nat.le_of_eq (hidT_size _ _), trivial, (fun b hb => by cases (show b ∈ ([] : List Addr) from hb)), hok, .of_eq gens⟩
  refine codeAny_mono ((F _ KH (dic (by decide) nsG)).go callerA [] s1 H ⟨[.ref a], []⟩ [.ref a] [.ref a] (fun v _ => v = .bl true) (fun _ _ _ => False) rfl hr e0 (hbind s1 (.ref a)) (.cons rfl .nil) (hsp H ⟨o1, if_pos rfl⟩ hS)) ?_
  intro r z h
  match r, h with
  | .ok .next, h => exact h.elim
  | .ok .brk, h => exact h.elim
  | .ok .cont, h => exact h.elim
  | .error e, h => exact (hCX H e z h).elim
  | .ok (.ret u), h =>
    obtain ⟨v, G, os, bare, un, hokG, rv', q⟩ := h
    obtain rfl : v = .bl true := q
    obtain rfl : u = Value.bool true := rv'
    have plain : ∀ b o, s1.heap.get? b = some o → z.heap.get? b = some o := by
      intro b o e
      cases q : H b with
      | none => exact un.keep b o e q (fun y => by cases (show b ∈ ([] : List Addr) from y)) (by simp)
      | some y =>
        rcases hs0_inv q with ⟨rfl, rfl⟩ | ⟨rfl, _, rfl⟩
        · obtain ⟨e2, _⟩ := hokG sysModules _ (un.frzs _ _ _ q)
          rw [ho1] at e
          exact Option.some.inj e ▸ e2
        · obtain ⟨e2, _⟩ := hokG b _ (un.frzs b _ _ q)
          rw [ha] at e
          exact Option.some.inj e ▸ e2
    exact ⟨rfl, ⟨fun b o e => .inl (plain b o e), fun b o e => ⟨o, plain b o e⟩⟩, os, bare⟩
end
/-- what is to be known of such a law -/
def GLawS (l : PySem.W.OpenLaw) (w : World) (K : PySem.W.Frag) (CX : CXT) (k n : Nat) (x : Str) (mg : Str → Option Value) (fa : Addr) : Prop :=
  ∃ (fd : FuncData) (sp : Sp), K.lookup sysModules = none ∧ (∀ (s : Shared) (u : Value), BindsTo s fd ⟨[u], []⟩ [(x, u)]) ∧
    (∀ (H : Hp) (a : Addr) (ns : List Int), ns.length ≤ n → SmAt H → SqL K H a (ns.map V.int) → sp [.ref a] H (fun v _ => v = .bl true) fun _ _ _ => False) ∧
    ∀ base : Heap, K.In base → base.Ns mainGlobals mg → GOk l.prog w K mg base CX k fa fd [x] sp
open PySem.W in
theorem walk_s {l : PySem.W.OpenLaw} {n k : Nat} {q : Program} {loose : List Str} {XP : (Str → Option Value) → Heap → Prop} {YP : World → Heap → Prop} {d : DefRec} {K : Params → PySem.W.Frag} {CX : World → CXT} {x : Str}
    (no : importsNone q = true) (hn : l.most = some n) (small : n ≤ sizeLine) (hdf : d.params.defaults = []) (hr : Room k callerA) (hY : ∀ (w : World) (h : Heap), YP w h → (K w.params).In h)
    (F : ∀ (w : World) (mg : Str → Option Value) (fa : Addr) (h : Heap), YP w h → (K w.params).In h → h.Ns mainGlobals mg → mg d.name = some (.ref fa) → GLawS l w (K w.params) (CX w) k n x mg fa)
    (hCX : ∀ (w : World) (H : Hp) (s : Shared) (e : Value) (s' : Shared), CX w [] H s (fun _ _ _ => False) e s' → False) :
    PySem.W.WalkO q loose XP YP l.row.toRowW d [] (fun f vs => PySem.call f vs) := by
  intro w s0 s1 mg mb G Y fa o pm cd doc dV kV ho hd hcd hD hmg hg args vals as pre lay rd well low
  obtain ⟨a, vs, ns, rfl, rfl, hobj, hints, hlen⟩ := Att.script_of hn pre well
  have na : a ≠ sysModules := by
    cases rd with
    | cons r1 r2 =>
      cases r1 with
      | list _ _ _ _ => exact beq_eq_false_iff_ne.mp (low a (by simp))
  have KX := hY w _ Y
  obtain ⟨fd, sp, k1, hb, hsp, hF⟩ := F w mg fa _ Y KX G.T.g hmg
  have run := law_scall KX G.T.g G.T.b G.T.builtins G.T.nolimit hg (let ⟨_, ⟨o, _, _, e, _⟩, _⟩ := (G.T.seer no).mods; ⟨o, e⟩) k1 na hobj hints (Nat.le_trans hlen small) hr hF hb (fun H a1 a2 => hsp H a ns hlen a1 a2) (fun H e s' => hCX w H s1 e s')
  refine enter_call (codeAny_mono run ?_)
  rintro r z ⟨rfl, old, os, bare⟩
  exact ⟨.inl ⟨.bool true, .bool true, [], rfl, fun _ => rfl, .bool true, Att.post_true l _, fun _ => ⟨List.Pairwise.nil, fun _ m => (nomatch m)⟩⟩, old, os, bare⟩
end Gd

set_option maxRecDepth 100000
set_option maxHeartbeats 1000000
/-! Data with dicts: what repr asks of them. -/
namespace My
open PySem PySem.Spec PyProof.Rows L2 GxR Gd TL
theorem same_new {H : Hp} {p : Addr} {o : HO} (n : H p = none) : Same H (upd H p o) := fun b u e => by rw [upd_ne (ne_of_none e n)]; exact e
theorem sameT {K : PySem.W.Frag} {H H' : Hp} {a : Addr} {xs : List V} (s : Same H H') (h : SqT K H a xs) : SqT K H' a xs := by
  rcases h with (h | ⟨o, h⟩) | h
  · exact .inl (.inl (s _ _ h))
  · exact .inl (.inr ⟨o, s _ _ h⟩)
  · exact .inr h
def keyD : Key → PyData
  | .inl i => .int i
  | .inr x => .str x
mutual
/-- v is the data d, dicts too -/
inductive Dq (K : PySem.W.Frag) (H : Hp) : V → PyData → Prop
  | non : Dq K H .non .none
  | bl (b : Bool) : Dq K H (.bl b) (.bool b)
  | int (i : Int) : Dq K H (.int i) (.int i)
  | str (z : Str) : Dq K H (.str z) (.str z)
  | lst {a : Addr} {xs : List V} {ds : List PyData} (e : SqL K H a xs) (h : DqAll K H xs ds) : Dq K H (.ref a) (.list ds)
  | tup {a : Addr} {xs : List V} {ds : List PyData} (e : SqT K H a xs) (h : DqAll K H xs ds) : Dq K H (.ref a) (.tuple ds)
  | dic {a : Addr} {kvs : List (Key × V)} {ds : List (PyData × PyData)} (e : H a = some (.dK kvs)) (h : DqKv K H kvs ds) : Dq K H (.ref a) (.dict ds)
inductive DqAll (K : PySem.W.Frag) (H : Hp) : List V → List PyData → Prop
  | nil : DqAll K H [] []
  | cons {v : V} {vs : List V} {d : PyData} {ds : List PyData} (h : Dq K H v d) (t : DqAll K H vs ds) : DqAll K H (v :: vs) (d :: ds)
inductive DqKv (K : PySem.W.Frag) (H : Hp) : List (Key × V) → List (PyData × PyData) → Prop
  | nil : DqKv K H [] []
  | cons {k : Key} {v : V} {r : List (Key × V)} {d : PyData} {ds : List (PyData × PyData)} (h : Dq K H v d) (t : DqKv K H r ds) : DqKv K H ((k, v) :: r) ((keyD k, d) :: ds)
end
mutual
theorem Dq.of {K : PySem.W.Frag} {H : Hp} : ∀ {v : V} {d : PyData}, Dp K H v d → Dq K H v d
  | _, _, .non => .non
  | _, _, .bl b => .bl b
  | _, _, .int i => .int i
  | _, _, .str z => .str z
  | _, _, .lst e h => .lst e (DqAll.of h)
  | _, _, .tup e h => .tup e (DqAll.of h)
theorem DqAll.of {K : PySem.W.Frag} {H : Hp} : ∀ {vs : List V} {ds : List PyData}, DpAll K H vs ds → DqAll K H vs ds
  | _, _, .nil => .nil
  | _, _, .cons h t => .cons (Dq.of h) (DqAll.of t)
end
mutual
theorem Dq.same {K : PySem.W.Frag} {H H' : Hp} (s : Same H H') : ∀ {v : V} {d : PyData}, Dq K H v d → Dq K H' v d
  | _, _, .non => .non
  | _, _, .bl b => .bl b
  | _, _, .int i => .int i
  | _, _, .str z => .str z
  | _, _, .lst e h => .lst (s.seq e) (DqAll.same s h)
  | _, _, .tup e h => .tup (sameT s e) (DqAll.same s h)
  | _, _, .dic e h => .dic (s _ _ e) (DqKv.same s h)
theorem DqAll.same {K : PySem.W.Frag} {H H' : Hp} (s : Same H H') : ∀ {vs : List V} {ds : List PyData}, DqAll K H vs ds → DqAll K H' vs ds
  | _, _, .nil => .nil
  | _, _, .cons h t => .cons (Dq.same s h) (DqAll.same s t)
theorem DqKv.same {K : PySem.W.Frag} {H H' : Hp} (s : Same H H') : ∀ {kvs : List (Key × V)} {ds : List (PyData × PyData)}, DqKv K H kvs ds → DqKv K H' kvs ds
  | _, _, .nil => .nil
  | _, _, .cons h t => .cons (Dq.same s h) (DqKv.same s t)
end
theorem keyD_reads {h : Heap} {k : Key} {v : Value} (e : keyIs k v = true) : Reads h v (keyD k) [] := by
  rcases keyIs_shape e with ⟨i, t, rfl, rfl⟩ | ⟨x, t, rfl, rfl⟩
  · exact .int i t
  · exact .str x t
section
variable {X : Cx} {pins : List (Addr × Obj)} {σ : L2.St} {H : Hp} {s : Shared}
theorem ne_sm {K : PySem.W.Frag} {H : Hp} {a : Addr} {xs : List V} (n : K.lookup sysModules = none) (sm : SmAt H) (h : SqL K H a xs) : a ≠ sysModules := by
  rintro rfl
  obtain ⟨o, e⟩ := sm
  rcases h with (h | ⟨u, h⟩) | ⟨u, _, _, h, _⟩
  · rw [e] at h
    cases h
  · rw [e] at h
    cases h
  · rw [n] at h
    cases h
mutual
theorem Dq.reads (n : X.K.lookup sysModules = none) (sm : SmAt H) (I : Inv X pins σ H s) : ∀ (d : PyData) (v : V) (u : Value), Dq X.K H v d → RelV v u → ∃ as, Reads s.heap u d as ∧ sysModules ∉ as
  | .none, _, _, h, r => by
    cases h
    cases r
    exact ⟨_, .none, by simp⟩
  | .bool b, _, _, h, r => by
    cases h
    cases r
    exact ⟨_, .bool b, by simp⟩
  | .int i, _, _, h, r => by
    cases h
    obtain ⟨t, rfl⟩ := r
    exact ⟨_, .int i t, by simp⟩
  | .str z, _, _, h, r => by
    cases h
    obtain ⟨t, rfl⟩ := r
    exact ⟨_, .str z t, by simp⟩
  | .list ds, _, _, h, r => by
    cases h with
    | lst hs ha =>
      cases r
      obtain ⟨its, rv, ⟨o, m, ho, hc, _, hd⟩, _⟩ := I.list hs
      obtain ⟨as, hr, no⟩ := Dq.readsAll n sm I ds _ its ha rv
      exact ⟨_, .list ho hc hd hr, fun m => (List.mem_cons.mp m).elim (ne_sm n sm hs).symm no⟩
  | .tuple ds, _, _, h, r => by
    cases h with
    | tup hs ha =>
      cases r
      obtain ⟨its, rv, ⟨o, ho, hc, m, hd⟩, _⟩ := I.tuple hs
      obtain ⟨as, hr, no⟩ := Dq.readsAll n sm I ds _ its ha rv
      exact ⟨_, .tuple ho hc hd hr, no⟩
  | .dict ds, _, _, h, r => by
    cases h with
    | dic e hk =>
      cases r
      obtain ⟨_, ne, vs, rel, o, es, ep, ho, hx, hd, _, hp, _⟩ := dk_of I.hok e
      obtain ⟨as, bs, h1, h2, n1, n2⟩ := Dq.readsKv n sm I ds _ vs es.toList hk rel hp
      refine ⟨_, .dict ho hx.1 hd h1 h2, fun m => ?_⟩
      rw [List.cons_append] at m
      rcases List.mem_cons.mp m with m | m
      · exact (beq_eq_false_iff_ne.mp ne) m.symm
      · exact (List.mem_append.mp m).elim n1 n2
theorem Dq.readsAll (n : X.K.lookup sysModules = none) (sm : SmAt H) (I : Inv X pins σ H s) : ∀ (ds : List PyData) (vs : List V) (us : List Value), DqAll X.K H vs ds → Vals vs us → ∃ as, ReadsAll s.heap us ds as ∧ sysModules ∉ as
  | [], _, _, h, r => by
    cases h
    cases r
    exact ⟨_, .nil, by simp⟩
  | d :: ds, _, _, h, r => by
    cases h with
    | cons h1 h2 =>
      cases r with
      | cons r1 r2 =>
        obtain ⟨as, q1, n1⟩ := Dq.reads n sm I d _ _ h1 r1
        obtain ⟨bs, q2, n2⟩ := Dq.readsAll n sm I ds _ _ h2 r2
        exact ⟨_, .cons q1 q2, fun m => (List.mem_append.mp m).elim n1 n2⟩
theorem Dq.readsKv (n : X.K.lookup sysModules = none) (sm : SmAt H) (I : Inv X pins σ H s) : ∀ (ds : List (PyData × PyData)) (kvs : List (Key × V)) (vs : List (Key × Value)) (es : List DictEntry), DqKv X.K H kvs ds → KV kvs vs → Pairs (mixKind X.prog X.w) es vs →
    ∃ as bs, ReadsAll s.heap (es.map (·.key)) (ds.map (·.1)) as ∧ ReadsAll s.heap (es.map (·.val)) (ds.map (·.2)) bs ∧ sysModules ∉ as ∧ sysModules ∉ bs
  | [], _, _, _, h, r, p => by
    cases h
    cases r
    cases p
    exact ⟨_, _, .nil, .nil, by simp, by simp⟩
  | (_, d) :: ds, _, _, _, h, r, p => by
    cases h with
    | cons h1 h2 =>
      cases r with
      | cons r1 r2 =>
        cases p with
        | cons p1 p2 p3 =>
          obtain ⟨as, q1, n1⟩ := Dq.reads n sm I d _ _ h1 r1.2
          obtain ⟨bs, cs, q2, q3, n2, n3⟩ := Dq.readsKv n sm I ds _ _ _ h2 r2 p3
          refine ⟨_, _, .cons (keyD_reads ?_) q2, .cons ?_ q3, by simpa using n2, fun m => (List.mem_append.mp m).elim n1 n3⟩
          · have e := r1.1
            dsimp only at e ⊢
            rw [e]
            exact p1
          · dsimp only
            rw [p2]
            exact q1
end
end
/-- repr(v), v data with dicts -/
def rReprQ (K : PySem.W.Frag) : List V → Hp → VK → Prop := fun xs H Q => ∃ v d, xs = [v] ∧ SmAt H ∧ Dq K H v d ∧ d.showable = true ∧ d.depth ≤ 100 ∧ d.shown.length ≤ sizeLine ∧ Q (.str d.shown) H
theorem call_reprQ {X : Cx} {k : Nat} (n : X.K.lookup sysModules = none) (gd : X.A.guards = some []) (hr : Room k X.A) : CallR X (.builtin "repr") (rReprQ X.K) := by
  rintro pins s σ H xs us Q I r ⟨v, d, rfl, sm, dq, hs, hdep, hsz, q⟩
  have whole : ∀ {a : Addr} {as : List Addr}, Reads s.heap (.ref a) d as → sysModules ∉ as → wpAny (model X.prog X.w) X.A (call (.builtin "repr") [.ref a]) (EP X pins σ Q) X.xe s := by
    intro a as rd no
    have hun := hr.un
    exact repr_of_reads' rd hs (fun _ => no) gd (by omega) (fun _ _ z => z) (fun h' u tk hk => ⟨.str _, H, I.kept hk, ⟨_, rfl⟩, q⟩) hsz
  cases dq with
  | non => exact call_repr gd hr pins s σ H _ us Q I r ⟨_, _, rfl, .non, hs, hdep, hsz, q⟩
  | bl b => exact call_repr gd hr pins s σ H _ us Q I r ⟨_, _, rfl, .bl b, hs, hdep, hsz, q⟩
  | int i => exact call_repr gd hr pins s σ H _ us Q I r ⟨_, _, rfl, .int i, hs, hdep, hsz, q⟩
  | str z => exact call_repr gd hr pins s σ H _ us Q I r ⟨_, _, rfl, .str z, hs, hdep, hsz, q⟩
  | lst e h =>
    obtain ⟨as, rd, no⟩ := Dq.reads n sm I _ _ us.head! (.lst e h) (by cases r with | cons a b => cases b; exact a)
    cases r with
    | cons a b => cases b; cases a; exact whole rd no
  | tup e h =>
    obtain ⟨as, rd, no⟩ := Dq.reads n sm I _ _ us.head! (.tup e h) (by cases r with | cons a b => cases b; exact a)
    cases r with
    | cons a b => cases b; cases a; exact whole rd no
  | dic e h =>
    obtain ⟨as, rd, no⟩ := Dq.reads n sm I _ _ us.head! (.dic e h) (by cases r with | cons a b => cases b; exact a)
    cases r with
    | cons a b => cases b; cases a; exact whole rd no
end My

set_option maxRecDepth 100000
set_option maxHeartbeats 1000000
/-! x in texts, x any thing -/
namespace My
open PySem PySem.Spec PyProof.Rows L2 GxR Gd TL
open PySem.SeqAt PySem.MeetsSeq in
theorem str_eq_dict (b : Str) (u : Tok) (l : Addr) (c : Value) (es : Array DictEntry) (n : Nat) (dd : Option Addr) (sl : Array (Option Value)) :
    Meets (Builtin.«str.__eq__» ⟨[.str b u, .ref l], []⟩) (fun _ R s => s.heap.get? l = some { cls := c, dict := dd, data := .dict es n, slots := sl } ∧ R (.ok (.ret .notImplemented)) s) :=
  .of_wp fun prog w A R s h => by obtain ⟨hp, g, d, tk, os⟩ := s; obtain ⟨hl, h⟩ := h; wp_walk using wpAny_loadPart hl, wpAny_load hl; exact ⟨_, rfl, h⟩
end My
namespace My
open PySem PySem.Spec PyProof.Rows L2 GxR Gd TL
open PySem.SeqAt PySem.MeetsSeq in
theorem rcAt_str_dict {A : Around} {s : Shared} {l : Addr} {o : Obj} {es : Array DictEntry} {n : Nat} (b : Str) (u : Tok) (ho : s.heap.get? l = some o) (hc : o.cls = .type "dict") (hd : o.data = .dict es n) (hu : A.units < cLine) : RcAt A s (.str b u) (.ref l) false := fun prog w E Q h => by
  obtain ⟨cls, dd, data, sl⟩ := o
  simp only at hc hd
  subst hc hd
  have ty : s.TypeIs (.ref l) "dict" := ⟨_, ho, rfl⟩
  refine rc_eq_decline_or (k := false) (typeIs_str s b u) ty (by decide) PySem.F.sub_dict_str PySem.F.slot_str_eq PySem.F.slot_dict_eq_refl
    (fun _ hq => call_meets PySem.F.slot_str_eq (typeIs_str s b u) PySem.F.entry_str_eq (PySem.F.args_str_eq_2 _ _) (str_eq_dict b u l (.type "dict") es n dd sl) ⟨ho, hq⟩)
    (fun _ hq => ?_)
    (fun _ hq => wpAny_of_eq (rfl : isSame (.str b u) (.ref l) = pure false) hq) (.inr hu) h
  refine wpAny_call_entry PySem.F.slot_dict_eq_refl ty PySem.F.entry_dict_eq ?_ (PySem.F.args_dict_eq_2 _ _)
  show wpAny _ _ (Builtin.Dict.dictSlotArgs "__eq__" ⟨[.ref l, .str b u], []⟩ >>= _) _ _ s
  refine wpAny_bind ?_
  unfold Builtin.Dict.dictSlotArgs
  refine wpAny_bind (wpAny_notOrdered_dict ty ?_)
  show wpAny _ _ (pure (Value.ref l, Value.str b u)) _ _ s
  refine wpAny_pure ?_
  refine wpAny_bind (wpAny_isInstance (T := "str") (typeIs_str s b u) PySem.F.sub_str_dict ?_)
  simp only [Bool.not_false, if_true]
  refine wpAny_bind (wpAny_rule (wpAny_pure ⟨_, rfl, hq⟩))
open PySem.SeqAt PySem.MeetsSeq in
theorem eqAt_str_dict {A : Around} {s : Shared} {l : Addr} {o : Obj} {es : Array DictEntry} {n : Nat} (b : Str) (u : Tok) (ho : s.heap.get? l = some o) (hc : o.cls = .type "dict") (hd : o.data = .dict es n) (hu : A.units < cLine) : EqAt A s (.str b u) (.ref l) false := fun prog w E Q h => by
  unfold eqBool
  refine wpAny_holding ?_
  refine wpAny_ite_split (fun hab => absurd (eq_of_beq hab) nofun) (fun _ => ?_)
  exact wpAny_bind (rcAt_str_dict b u ho hc hd hu prog w E _ (wpAny_truthy_bool h))
/-- any thing in a list of texts -/
def rInT (K : PySem.W.Frag) : R2 := fun x y H Q => ∃ (p : Addr) (zs : List Str), y = .ref p ∧ SqL K H p (zs.map V.str) ∧
  ((flatV x = true ∧ Q (.bl (inV x (zs.map V.str))) H) ∨ ((∃ a, x = .ref a ∧ ((∃ xs, SqL K H a xs) ∨ (∃ xs, SqT K H a xs) ∨ ∃ kvs, H a = some (.dK kvs))) ∧ Q (.bl false) H))
theorem any_false {α : Type} : ∀ xs : List α, (xs.any fun _ => false) = false
  | [] => rfl
  | _ :: r => by rw [List.any_cons, any_false r]; rfl
theorem op_inT {X : Cx} (hu : X.A.units + 2 < cLine) : OpR X (compareOp .In) (rInT X.K) := by
  rintro pins s σ H x y v u Q I rx ry ⟨p, zs, rfl, hp, cs⟩
  rcases cs with ⟨fx, q⟩ | ⟨⟨a, rfl, ha⟩, q⟩
  · refine op_in_seq pins s σ H x _ v u Q I rx ry ⟨p, _, rfl, .inl hp, fx, ?_, q⟩
    rw [List.all_map]
    exact List.all_eq_true.mpr fun _ _ => rfl
  · cases ry
    cases rx
    obtain ⟨its, r, pl, hz⟩ := I.list hp
    refine SeqAt.in_listAt (fun _ => false) pl.isList (fun w hw => ?_) ⟨.bl _, H, I, rfl, ?_⟩
    · obtain ⟨z, hz, rz⟩ : ∃ z : Str, z ∈ zs ∧ RelV (.str z) w := by
        have hw2 : w ∈ its := by simpa using hw
        clear pl hz hp hw
        induction zs generalizing its with
        | nil => cases r; cases hw2
        | cons z zs ih =>
          cases r with
          | cons r1 r2 =>
            rcases List.mem_cons.mp hw2 with rfl | hw
            · exact ⟨z, List.mem_cons_self, r1⟩
            · obtain ⟨z', h1, h2⟩ := ih _ r2 hw
              exact ⟨z', List.mem_cons_of_mem _ h1, h2⟩
      obtain ⟨t, rfl⟩ := rz
      have hu2 : X.A.in1.units < cLine := by show X.A.units + 1 < cLine; omega
      rcases ha with ⟨xs, h⟩ | ⟨xs, h⟩ | ⟨kvs, h⟩
      · obtain ⟨its2, _, pl2, _⟩ := I.list h
        exact SeqAt.EqAt.str_list z t pl2.isList hu2
      · obtain ⟨its2, _, pl2, _⟩ := I.tuple h
        exact SeqAt.EqAt.str_tuple z t pl2 hu2
      · obtain ⟨_, _, vs, _, o, es, ep, h1, h2, h3, _⟩ := dk_of I.hok h
        exact eqAt_str_dict z t h1 h2.1 h3 hu2
    · rw [← Array.any_toList, any_false]
      exact q
def rInTt (K : PySem.W.Frag) : R2 := fun x y H Q => ∃ (p : Addr) (zs : List Str), y = .ref p ∧ SqT K H p (zs.map V.str) ∧
  ((flatV x = true ∧ Q (.bl (inV x (zs.map V.str))) H) ∨ ((∃ a, x = .ref a ∧ ((∃ xs, SqL K H a xs) ∨ (∃ xs, SqT K H a xs) ∨ ∃ kvs, H a = some (.dK kvs))) ∧ Q (.bl false) H))
theorem op_inTt {X : Cx} (hu : X.A.units + 2 < cLine) : OpR X (compareOp .In) (rInTt X.K) := by
  rintro pins s σ H x y v u Q I rx ry ⟨p, zs, rfl, hp, cs⟩
  rcases cs with ⟨fx, q⟩ | ⟨⟨a, rfl, ha⟩, q⟩
  · refine op_in_seq pins s σ H x _ v u Q I rx ry ⟨p, _, rfl, .inr hp, fx, ?_, q⟩
    rw [List.all_map]
    exact List.all_eq_true.mpr fun _ _ => rfl
  · cases ry
    cases rx
    obtain ⟨its, r, pl, hz⟩ := I.tuple hp
    refine SeqAt.in_tupleAt (fun _ => false) pl (fun w hw => ?_) ⟨.bl _, H, I, rfl, ?_⟩
    · obtain ⟨z, hz, rz⟩ : ∃ z : Str, z ∈ zs ∧ RelV (.str z) w := by
        have hw2 : w ∈ its := by simpa using hw
        clear pl hz hp hw
        induction zs generalizing its with
        | nil => cases r; cases hw2
        | cons z zs ih =>
          cases r with
          | cons r1 r2 =>
            rcases List.mem_cons.mp hw2 with rfl | hw
            · exact ⟨z, List.mem_cons_self, r1⟩
            · obtain ⟨z', h1, h2⟩ := ih _ r2 hw
              exact ⟨z', List.mem_cons_of_mem _ h1, h2⟩
      obtain ⟨t, rfl⟩ := rz
      have hu2 : X.A.in1.units < cLine := by show X.A.units + 1 < cLine; omega
      rcases ha with ⟨xs, h⟩ | ⟨xs, h⟩ | ⟨kvs, h⟩
      · obtain ⟨its2, _, pl2, _⟩ := I.list h
        exact SeqAt.EqAt.str_list z t pl2.isList hu2
      · obtain ⟨its2, _, pl2, _⟩ := I.tuple h
        exact SeqAt.EqAt.str_tuple z t pl2 hu2
      · obtain ⟨_, _, vs, _, o, es, ep, h1, h2, h3, _⟩ := dk_of I.hok h
        exact eqAt_str_dict z t h1 h2.1 h3 hu2
    · rw [← Array.any_toList, any_false]
      exact q
end My

set_option maxRecDepth 100000
set_option maxHeartbeats 400000
/-! small data: what repr asks of them -/
namespace My
open PySem PySem.Spec PyProof.Rows L2 GxR Gd TL
structure Sm (d : PyData) (k m : Nat) : Prop where
  lay : d.canLay0 = true
  dep : d.depth ≤ k
  wt : d.weight ≤ m
  ish : d.intsShort 13 = true
  sh : d.showable = true
theorem Sm.rep {d : PyData} {k m : Nat} (h : Sm d k m) (hk : k ≤ 64) (hm : m ≤ 2 ^ 20) : d.showable = true ∧ d.depth ≤ 100 ∧ d.shown.length ≤ sizeLine := by
  refine ⟨h.sh, Nat.le_trans h.dep (by omega), Nat.le_trans (shown_le13 ?_ h.ish) (by rw [sizeLine_eq]; decide)⟩
  unfold PyData.layable0
  rw [Bool.and_eq_true, Bool.and_eq_true, decide_eq_true_eq, decide_eq_true_eq]
  exact ⟨⟨h.lay, Nat.le_trans h.dep hk⟩, Nat.le_trans h.wt hm⟩
theorem Sm.mono {d : PyData} {k m k' m' : Nat} (h : Sm d k m) (hk : k ≤ k') (hm : m ≤ m') : Sm d k' m' := ⟨h.lay, Nat.le_trans h.dep hk, Nat.le_trans h.wt hm, h.ish, h.sh⟩
theorem sm_none : Sm .none 0 0 := ⟨rfl, Nat.le_refl 0, Nat.le_refl 0, rfl, rfl⟩
theorem sm_bool (b : Bool) : Sm (.bool b) 0 0 := ⟨rfl, Nat.le_refl 0, Nat.le_refl 0, rfl, rfl⟩
theorem sm_int {i : Int} (h : i.natAbs ≤ 1000) : Sm (.int i) 0 20 := by
  have hl : i.natAbs.log2 ≤ 10 := by
    by_cases z : i.natAbs = 0
    · rw [z]; decide
    · have : i.natAbs.log2 < 11 := (Nat.log2_lt z).mpr (by omega)
      omega
  refine ⟨rfl, Nat.le_refl 0, ?_, ?_, ?_⟩
  · unfold PyData.weight
    split
    · omega
    · omega
  · exact intsShort_of_noneOrIn (lo := -2000) (hi := 2000) (by decide) (by decide) (.int i) (by simp [noneOrIn]; omega)
  · unfold PyData.showable
    rw [decide_eq_true_eq]
    omega
theorem sm_str {z : Str} (g : Good z) (h : z.length ≤ 6) : Sm (.str z) 0 6 := by
  refine ⟨?_, Nat.le_refl 0, h, rfl, rfl⟩
  unfold PyData.canLay0
  unfold PyData.strOk
  rw [Array.all_eq_true_iff_forall_mem]
  intro c hc
  exact decide_eq_true (g c (Array.mem_toList_iff.mpr hc))
theorem sm_all {k m : Nat} : ∀ {ds : List PyData}, (∀ d ∈ ds, Sm d k m) → PyData.canLayAll0 ds = true ∧ PyData.depthAll ds ≤ k ∧ PyData.weightAll ds ≤ ds.length * (m + 1) ∧ PyData.intsShortAll 13 ds = true ∧ PyData.showableAll ds = true
  | [], _ => ⟨rfl, Nat.zero_le _, Nat.zero_le _, rfl, rfl⟩
  | d :: r, h => by
    obtain ⟨a1, a2, a3, a4, a5⟩ := sm_all (ds := r) fun x hx => h x (List.mem_cons_of_mem _ hx)
    have b := h d List.mem_cons_self
    refine ⟨?_, ?_, ?_, ?_, ?_⟩
    · unfold PyData.canLayAll0; rw [b.lay, a1]; rfl
    · unfold PyData.depthAll; exact Nat.max_le.mpr ⟨b.dep, a2⟩
    · unfold PyData.weightAll
      have := b.wt
      rw [List.length_cons, Nat.succ_mul]
      omega
    · unfold PyData.intsShortAll; rw [b.ish, a4]; rfl
    · unfold PyData.showableAll; rw [b.sh, a5]; rfl
theorem sm_list {k m : Nat} {ds : List PyData} (h : ∀ d ∈ ds, Sm d k m) : Sm (.list ds) (k + 1) (ds.length * (m + 1)) := by
  obtain ⟨a1, a2, a3, a4, a5⟩ := sm_all h
  exact ⟨by unfold PyData.canLay0; exact a1, by unfold PyData.depth; omega, by unfold PyData.weight; exact a3, by unfold PyData.intsShort; exact a4, by unfold PyData.showable; exact a5⟩
theorem sm_tuple {k m : Nat} {ds : List PyData} (h : ∀ d ∈ ds, Sm d k m) : Sm (.tuple ds) (k + 1) (ds.length * (m + 1)) := by
  obtain ⟨a1, a2, a3, a4, a5⟩ := sm_all h
  exact ⟨by unfold PyData.canLay0; exact a1, by unfold PyData.depth; omega, by unfold PyData.weight; exact a3, by unfold PyData.intsShort; exact a4, by unfold PyData.showable; exact a5⟩
theorem sm_dP {p : Str × Int} (g : Good p.1) (h : p.1.length ≤ 6) (hr : p.2.natAbs ≤ 1000) : Sm (dP p) 1 42 :=
  sm_tuple (k := 0) (m := 20) (ds := [.str p.1, .int p.2]) fun d hd => by
    simp only [List.mem_cons, List.not_mem_nil, or_false] at hd
    rcases hd with rfl | rfl
    · exact (sm_str g h).mono (Nat.le_refl 0) (by decide)
    · exact sm_int hr
theorem sm_names {a b : Str} (ha : NameOk a) (hb : NameOk b) : Sm (.tuple [.str a, .str b]) 1 14 :=
  sm_tuple (k := 0) (m := 6) (ds := [.str a, .str b]) fun d hd => by
    simp only [List.mem_cons, List.not_mem_nil, or_false] at hd
    rcases hd with rfl | rfl
    · exact sm_str ha.good ha.2.1
    · exact sm_str hb.good hb.2.1
end My

set_option maxRecDepth 100000
set_option maxHeartbeats 400000
/-! data with longer texts and numbers: what repr asks of them -/
namespace My
open PySem PySem.Spec PyProof.Rows L2 GxR Gd TL
structure Sb (d : PyData) (k m : Nat) : Prop where
  lv : d.leavesShort 40 = true
  dep : d.depth ≤ k
  wt : d.weight ≤ m
  sh : d.showable = true
theorem Sb.rep {d : PyData} {k m : Nat} (h : Sb d k m) (hk : k ≤ 100) (hm : m ≤ 390000) : d.showable = true ∧ d.depth ≤ 100 ∧ d.shown.length ≤ sizeLine := by
  refine ⟨h.sh, Nat.le_trans h.dep hk, ?_⟩
  have h1 := PyData.shown_le 40 (by decide) d h.lv
  have h2 := h.wt
  refine Nat.le_trans h1 (Nat.le_trans (m := 42 * 390000 + 40) (by omega) (by rw [sizeLine_eq]; decide))
theorem Sb.mono {d : PyData} {k m k' m' : Nat} (h : Sb d k m) (hk : k ≤ k') (hm : m ≤ m') : Sb d k' m' := ⟨h.lv, Nat.le_trans h.dep hk, Nat.le_trans h.wt hm, h.sh⟩
theorem sb_none : Sb .none 0 0 := ⟨rfl, Nat.le_refl 0, Nat.le_refl 0, rfl⟩
theorem sb_bool (b : Bool) : Sb (.bool b) 0 0 := ⟨rfl, Nat.le_refl 0, Nat.le_refl 0, rfl⟩
theorem text_int {i : Int} (h : i.natAbs < 10 ^ 31) : (Str.ofString (toString i)).length ≤ 32 := by
  have e := int_text_length_le10 (k := 31) (by decide) h
  rw [PySem.ofString_length]
  exact e
theorem sb_int {i : Int} (h : i.natAbs < 10 ^ 31) : Sb (.int i) 0 110 := by
  have hl : i.natAbs.log2 ≤ 109 := by
    by_cases z : i.natAbs = 0
    · rw [z]; decide
    · have : i.natAbs.log2 < 110 := (Nat.log2_lt z).mpr (Nat.lt_of_lt_of_le h (by decide))
      omega
  refine ⟨?_, Nat.le_refl 0, ?_, ?_⟩
  · unfold PyData.leavesShort
    rw [decide_eq_true_eq]
    exact Nat.le_trans (text_int h) (by decide)
  · unfold PyData.weight
    split <;> omega
  · unfold PyData.showable
    rw [decide_eq_true_eq]
    omega
theorem sb_str {z : Str} {m : Nat} (g : Good z) (h : z.length ≤ m) : Sb (.str z) 0 m := by
  refine ⟨?_, Nat.le_refl 0, h, rfl⟩
  unfold PyData.leavesShort
  rw [List.all_eq_true]
  intro c hc
  have := g c hc
  rw [decide_eq_true_eq]
  exact Nat.lt_trans this (by decide)
theorem sb_all {k m : Nat} : ∀ {ds : List PyData}, (∀ d ∈ ds, Sb d k m) → PyData.leavesShortAll 40 ds = true ∧ PyData.depthAll ds ≤ k ∧ PyData.weightAll ds ≤ ds.length * (m + 1) ∧ PyData.showableAll ds = true
  | [], _ => ⟨rfl, Nat.zero_le _, Nat.zero_le _, rfl⟩
  | d :: r, h => by
    obtain ⟨a1, a2, a3, a4⟩ := sb_all (ds := r) fun x hx => h x (List.mem_cons_of_mem _ hx)
    have b := h d List.mem_cons_self
    refine ⟨?_, ?_, ?_, ?_⟩
    · unfold PyData.leavesShortAll; rw [b.lv, a1]; rfl
    · unfold PyData.depthAll; exact Nat.max_le.mpr ⟨b.dep, a2⟩
    · unfold PyData.weightAll
      have := b.wt
      rw [List.length_cons, Nat.succ_mul]
      omega
    · unfold PyData.showableAll; rw [b.sh, a4]; rfl
theorem sb_list {k m : Nat} {ds : List PyData} (h : ∀ d ∈ ds, Sb d k m) : Sb (.list ds) (k + 1) (ds.length * (m + 1)) := by
  obtain ⟨a1, a2, a3, a4⟩ := sb_all h
  exact ⟨by unfold PyData.leavesShort; exact a1, by unfold PyData.depth; omega, by unfold PyData.weight; exact a3, by unfold PyData.showable; exact a4⟩
theorem sb_tuple {k m : Nat} {ds : List PyData} (h : ∀ d ∈ ds, Sb d k m) : Sb (.tuple ds) (k + 1) (ds.length * (m + 1)) := by
  obtain ⟨a1, a2, a3, a4⟩ := sb_all h
  exact ⟨by unfold PyData.leavesShort; exact a1, by unfold PyData.depth; omega, by unfold PyData.weight; exact a3, by unfold PyData.showable; exact a4⟩
theorem good_int (i : Int) : Good (Str.ofString (toString i)) := good_of _
end My

set_option maxRecDepth 100000
set_option maxHeartbeats 400000
namespace K4
open PySem PySem.Spec PyProof.Rows L2 GxR Gd TL My
/-! ### what is due -/
def seqOf (H : Hp) : V → Option (List V)
  | .ref a => match H a with
    | some (.lst xs) => some xs
    | some (.tup xs) => some xs
    | _ => none
  | _ => none
def tupOf (H : Hp) : V → Option (List V)
  | .ref a => match H a with
    | some (.tup xs) => some xs
    | _ => none
  | _ => none
theorem tup_some {H : Hp} {v : V} {xs : List V} (h : tupOf H v = some xs) : ∃ a, v = .ref a ∧ H a = some (.tup xs) := by
  unfold tupOf at h
  split at h
  · split at h
    · rename_i e
      exact ⟨_, rfl, by rw [e, Option.some.inj h]⟩
    · cases h
  · cases h
theorem seq_some {H : Hp} {v : V} {xs : List V} (h : seqOf H v = some xs) : ∃ a, v = .ref a ∧ (H a = some (.lst xs) ∨ H a = some (.tup xs)) := by
  unfold seqOf at h
  split at h
  · split at h
    · rename_i e
      exact ⟨_, rfl, .inl (by rw [e, Option.some.inj h])⟩
    · rename_i e
      exact ⟨_, rfl, .inr (by rw [e, Option.some.inj h])⟩
    · cases h
  · cases h
theorem seq_lst {H : Hp} {a : Addr} {xs : List V} (h : H a = some (.lst xs)) : seqOf H (.ref a) = some xs := by
  show (match H a with | some (.lst xs) => some xs | some (.tup xs) => some xs | _ => none) = _
  rw [h]
theorem seq_tup {H : Hp} {a : Addr} {xs : List V} (h : H a = some (.tup xs)) : seqOf H (.ref a) = some xs := by
  show (match H a with | some (.lst xs) => some xs | some (.tup xs) => some xs | _ => none) = _
  rw [h]
theorem tup_tup {H : Hp} {a : Addr} {xs : List V} (h : H a = some (.tup xs)) : tupOf H (.ref a) = some xs := by
  show (match H a with | some (.tup xs) => some xs | _ => none) = _
  rw [h]
theorem tup_lst {H : Hp} {a : Addr} {xs : List V} (h : H a = some (.lst xs)) : tupOf H (.ref a) = none := by
  show (match H a with | some (.tup xs) => some xs | _ => none) = _
  rw [h]
theorem tup_dic {H : Hp} {a : Addr} {xs : List (Key × V)} (h : H a = some (.dK xs)) : tupOf H (.ref a) = none := by
  show (match H a with | some (.tup xs) => some xs | _ => none) = _
  rw [h]
theorem seq_dic {H : Hp} {a : Addr} {xs : List (Key × V)} (h : H a = some (.dK xs)) : seqOf H (.ref a) = none := by
  show (match H a with | some (.lst xs) => some xs | some (.tup xs) => some xs | _ => none) = _
  rw [h]
theorem tup_nt {H H' : Hp} (e : Nt H H') {v : V} (th : Th H v) : tupOf H' v = tupOf H v := by
  cases th with
  | non => rfl
  | bl b => rfl
  | int i => rfl
  | str z h g => rfl
  | lst a xs h => rw [tup_lst h, tup_lst (e _ _ (by simp) h)]
  | tup a xs h => rw [tup_tup h, tup_tup (e _ _ (by simp) h)]
  | dic a h => rw [tup_dic h, tup_dic (e _ _ (by simp) h)]
theorem seq_nt {H H' : Hp} (e : Nt H H') {v : V} (th : Th H v) : seqOf H' v = seqOf H v := by
  cases th with
  | non => rfl
  | bl b => rfl
  | int i => rfl
  | str z h g => rfl
  | lst a xs h => rw [seq_lst h, seq_lst (e _ _ (by simp) h)]
  | tup a xs h => rw [seq_tup h, seq_tup (e _ _ (by simp) h)]
  | dic a h => rw [seq_dic h, seq_dic (e _ _ (by simp) h)]
theorem th_nt {H H' : Hp} (e : Nt H H') {v : V} (th : Th H v) : Th H' v := by
  cases th with
  | non => exact .non
  | bl b => exact .bl b
  | int i => exact .int i
  | str z h g => exact .str z h g
  | lst a xs h => exact .lst a xs (e _ _ (by simp) h)
  | tup a xs h => exact .tup a xs (e _ _ (by simp) h)
  | dic a h => exact .dic a (e _ _ (by simp) h)
inductive Tag
  | places | name | twice | number | stretches | longs
def Tag.s : Tag → String
  | .places => "places"
  | .name => "name"
  | .twice => "twice"
  | .number => "number"
  | .stretches => "stretches"
  | .longs => "longs"
abbrev Due := Option (Tag × V)
/-- of one place, names ahead of it -/
def pl1 (H : Hp) (as : List Str) (v : V) : Due := match tupOf H v with
  | some [n, q] => if nm n = true then (if n ∈ as.map V.str then some (.twice, n) else if wh 1 3 q = true then none else some (.number, q)) else some (.name, n)
  | _ => some (.places, v)
def st1 (H : Hp) (v : V) : Bool := match tupOf H v with
  | some [k, h] => (decide (k = .str "staff") || decide (k = .str "ticket")) && wh 0 1 h
  | _ => false
def intOf : V → Int
  | .int i => i
  | _ => 0
def lo1 (H : Hp) (low top : Int) (v : V) : Bool := match tupOf H v with
  | some [f, l, h] => wh low top f && wh (intOf f + 2) top l && wh 0 1 h
  | _ => false
def isl (H : Hp) (lo hi : Int) (v : V) : Bool := match seqOf H v with
  | some xs => decide (lo ≤ (xs.length : Int)) && decide ((xs.length : Int) ≤ hi)
  | none => false
def ist (H : Hp) (n : Int) (v : V) : Bool := match tupOf H v with
  | some xs => decide ((xs.length : Int) = n)
  | none => false
/-- what a tuple holds -/
def Kids (H : Hp) (v : V) : Prop := ∀ xs, seqOf H v = some xs → ∀ x ∈ xs, Th H x
theorem Kids.nt {H H' : Hp} (e : Nt H H') {v : V} (th : Th H v) (k : Kids H v) : Kids H' v := fun xs hs x hx => th_nt e (k xs (by rw [← seq_nt e th]; exact hs) x hx)
theorem seq_of_tup {H : Hp} {v : V} {xs : List V} (h : tupOf H v = some xs) : seqOf H v = some xs := by
  obtain ⟨a, rfl, e⟩ := tup_some h
  exact seq_tup e
theorem ist_true {H : Hp} {n : Nat} {v : V} (h : ist H n v = true) : ∃ xs, tupOf H v = some xs ∧ xs.length = n := by
  unfold ist at h
  split at h
  · rename_i xs e
    exact ⟨xs, e, by have := of_decide_eq_true h; omega⟩
  · cases h
theorem nm_str {v : V} (h : nm v = true) : ∃ z, v = .str z ∧ NameOk z := by
  cases v with
  | str z =>
    refine ⟨z, rfl, ?_⟩
    unfold nm at h
    simp only [Bool.and_eq_true, decide_eq_true_eq] at h
    exact ⟨h.1.1, h.1.2, h.2⟩
  | _ => cases h
theorem inV_mem {z : Str} {as : List Str} : inV (.str z) (as.map V.str) = decide (V.str z ∈ as.map V.str) := by
  rw [Bool.eq_iff_iff]
  unfold inV
  rw [List.any_map, List.any_eq_true, decide_eq_true_eq, List.mem_map]
  constructor
  · rintro ⟨y, hy, e⟩
    have e' : (y == z) = true := e
    exact ⟨y, hy, by rw [eq_of_beq e']⟩
  · rintro ⟨y, hy, e⟩
    refine ⟨y, hy, ?_⟩
    rw [V.str.inj e]
    show (z == z) = true
    simp
/-! ### the refusals -/
abbrev sSE : Stmt := inClass (top 2) 0
theorem scSE : FnScope ["self", "text"] ["self", "text"] (defScope sSE) := ⟨rfl, rfl, rfl, by decide +kernel, rfl, by decide +kernel, by decide +kernel⟩
abbrev sNoName : Stmt := inClass (top 3) 0
theorem scNoName : FnScope ["self", "found"] ["self", "found"] (defScope sNoName) := ⟨rfl, rfl, rfl, by decide +kernel, rfl, by decide +kernel, by decide +kernel⟩
abbrev sNoPlaces : Stmt := inClass (top 6) 0
theorem scNoPlaces : FnScope ["self", "found"] ["self", "found"] (defScope sNoPlaces) := ⟨rfl, rfl, rfl, by decide +kernel, rfl, by decide +kernel, by decide +kernel⟩
abbrev sNoStretches : Stmt := inClass (top 7) 0
theorem scNoStretches : FnScope ["self", "found"] ["self", "found"] (defScope sNoStretches) := ⟨rfl, rfl, rfl, by decide +kernel, rfl, by decide +kernel, by decide +kernel⟩
abbrev sNoLongs : Stmt := inClass (top 8) 0
theorem scNoLongs : FnScope ["self", "found"] ["self", "found"] (defScope sNoLongs) := ⟨rfl, rfl, rfl, by decide +kernel, rfl, by decide +kernel, by decide +kernel⟩
abbrev sNoNumber : Stmt := inClass (top 9) 0
theorem scNoNumber : FnScope ["self", "found"] ["self", "found"] (defScope sNoNumber) := ⟨rfl, rfl, rfl, by decide +kernel, rfl, by decide +kernel, by decide +kernel⟩
abbrev sTwice : Stmt := inClass (top 10) 0
theorem scTwice : FnScope ["self", "found"] ["self", "found"] (defScope sTwice) := ⟨rfl, rfl, rfl, by decide +kernel, rfl, by decide +kernel, by decide +kernel⟩
section
variable {P : Program} {w : World} {K : PySem.W.Frag} {mg : Str → Option Value} {base : Heap} {CS fS C fN : Addr} {fdS fdN : FuncData}
theorem ok_SE (T : SeT K mg CS fS fdS sSE) {CX : CXT} : FnOk P w K mg base CX0 1 fS fdS ["self", "text"] (spUp K) := by
  refine T.F.ok scSE (fun vs H Q E h => ?_) (fun cdv A outer s H vs Q E hr h => ?_)
  · obtain ⟨a, C, z, rfl, _⟩ := h
    rfl
  · obtain ⟨a, C, z, rfl, o, e, k⟩ := h
    refine ⟨_, pss_one (ps_expr (pe_veinit (by rfl) T.ve T.vi (pa_cons (pv 0) (pa_cons (pv 1) pa_nil)))), ?_⟩
    exact ⟨_, rfl, _, rfl, a, C, _, rfl, by simp, o, e, k⟩
theorem ok_NoName (S : SeT K mg CS fS fdS sSE) (T : ExC K mg "NoName" "NoName.__init__" sNoName C fN fdN) : FnOk P w K mg base CX0 2 fN fdN ["self", "found"] (spOne K C "found") := by
  refine T.F.ok scNoName (fun vs H Q E h => ?_) (fun cdv A outer s H vs Q E hr h => ?_)
  · obtain ⟨a, v, rfl, _⟩ := h
    rfl
  · obtain ⟨a, v, rfl, e, k⟩ := h
    refine ⟨_, pss_cons (ps_expr (pe_ccall S.c (ok_SE (CX := CX0) S) hr (by rfl) S.g S.k S.b .nil pass0 (pa_cons (pv 0) (pa_cons pe_str pa_nil))))
      (pss_one (ps_ost (pv 0) (pv 1))), ?_⟩
    refine ⟨_, rfl, a, C, _, rfl, T.o, e, ?_⟩
    exact ⟨_, rfl, _, rfl, a, C, rfl, T.o, T.n, .inl ⟨e, fun dx h1 h2 => k dx h1 h2⟩⟩
theorem ok_NoPlaces (S : SeT K mg CS fS fdS sSE) (T : ExC K mg "NoPlaces" "NoPlaces.__init__" sNoPlaces C fN fdN) : FnOk P w K mg base CX0 2 fN fdN ["self", "found"] (spOne K C "found") := by
  refine T.F.ok scNoPlaces (fun vs H Q E h => ?_) (fun cdv A outer s H vs Q E hr h => ?_)
  · obtain ⟨a, v, rfl, _⟩ := h
    rfl
  · obtain ⟨a, v, rfl, e, k⟩ := h
    refine ⟨_, pss_cons (ps_expr (pe_ccall S.c (ok_SE (CX := CX0) S) hr (by rfl) S.g S.k S.b .nil pass0 (pa_cons (pv 0) (pa_cons pe_str pa_nil))))
      (pss_one (ps_ost (pv 0) (pv 1))), ?_⟩
    refine ⟨_, rfl, a, C, _, rfl, T.o, e, ?_⟩
    exact ⟨_, rfl, _, rfl, a, C, rfl, T.o, T.n, .inl ⟨e, fun dx h1 h2 => k dx h1 h2⟩⟩
theorem ok_NoStretches (S : SeT K mg CS fS fdS sSE) (T : ExC K mg "NoStretches" "NoStretches.__init__" sNoStretches C fN fdN) : FnOk P w K mg base CX0 2 fN fdN ["self", "found"] (spOne K C "found") := by
  refine T.F.ok scNoStretches (fun vs H Q E h => ?_) (fun cdv A outer s H vs Q E hr h => ?_)
  · obtain ⟨a, v, rfl, _⟩ := h
    rfl
  · obtain ⟨a, v, rfl, e, k⟩ := h
    refine ⟨_, pss_cons (ps_expr (pe_ccall S.c (ok_SE (CX := CX0) S) hr (by rfl) S.g S.k S.b .nil pass0 (pa_cons (pv 0) (pa_cons pe_str pa_nil))))
      (pss_one (ps_ost (pv 0) (pv 1))), ?_⟩
    refine ⟨_, rfl, a, C, _, rfl, T.o, e, ?_⟩
    exact ⟨_, rfl, _, rfl, a, C, rfl, T.o, T.n, .inl ⟨e, fun dx h1 h2 => k dx h1 h2⟩⟩
theorem ok_NoLongs (S : SeT K mg CS fS fdS sSE) (T : ExC K mg "NoLongs" "NoLongs.__init__" sNoLongs C fN fdN) : FnOk P w K mg base CX0 2 fN fdN ["self", "found"] (spOne K C "found") := by
  refine T.F.ok scNoLongs (fun vs H Q E h => ?_) (fun cdv A outer s H vs Q E hr h => ?_)
  · obtain ⟨a, v, rfl, _⟩ := h
    rfl
  · obtain ⟨a, v, rfl, e, k⟩ := h
    refine ⟨_, pss_cons (ps_expr (pe_ccall S.c (ok_SE (CX := CX0) S) hr (by rfl) S.g S.k S.b .nil pass0 (pa_cons (pv 0) (pa_cons pe_str pa_nil))))
      (pss_one (ps_ost (pv 0) (pv 1))), ?_⟩
    refine ⟨_, rfl, a, C, _, rfl, T.o, e, ?_⟩
    exact ⟨_, rfl, _, rfl, a, C, rfl, T.o, T.n, .inl ⟨e, fun dx h1 h2 => k dx h1 h2⟩⟩
theorem ok_NoNumber (S : SeT K mg CS fS fdS sSE) (T : ExC K mg "NoNumber" "NoNumber.__init__" sNoNumber C fN fdN) : FnOk P w K mg base CX0 2 fN fdN ["self", "found"] (spOne K C "found") := by
  refine T.F.ok scNoNumber (fun vs H Q E h => ?_) (fun cdv A outer s H vs Q E hr h => ?_)
  · obtain ⟨a, v, rfl, _⟩ := h
    rfl
  · obtain ⟨a, v, rfl, e, k⟩ := h
    refine ⟨_, pss_cons (ps_expr (pe_ccall S.c (ok_SE (CX := CX0) S) hr (by rfl) S.g S.k S.b .nil pass0 (pa_cons (pv 0) (pa_cons pe_str pa_nil))))
      (pss_one (ps_ost (pv 0) (pv 1))), ?_⟩
    refine ⟨_, rfl, a, C, _, rfl, T.o, e, ?_⟩
    exact ⟨_, rfl, _, rfl, a, C, rfl, T.o, T.n, .inl ⟨e, fun dx h1 h2 => k dx h1 h2⟩⟩
theorem ok_Twice (S : SeT K mg CS fS fdS sSE) (T : ExC K mg "Twice" "Twice.__init__" sTwice C fN fdN) : FnOk P w K mg base CX0 2 fN fdN ["self", "found"] (spOne K C "found") := by
  refine T.F.ok scTwice (fun vs H Q E h => ?_) (fun cdv A outer s H vs Q E hr h => ?_)
  · obtain ⟨a, v, rfl, _⟩ := h
    rfl
  · obtain ⟨a, v, rfl, e, k⟩ := h
    refine ⟨_, pss_cons (ps_expr (pe_ccall S.c (ok_SE (CX := CX0) S) hr (by rfl) S.g S.k S.b .nil pass0 (pa_cons (pv 0) (pa_cons pe_str pa_nil))))
      (pss_one (ps_ost (pv 0) (pv 1))), ?_⟩
    refine ⟨_, rfl, a, C, _, rfl, T.o, e, ?_⟩
    exact ⟨_, rfl, _, rfl, a, C, rfl, T.o, T.n, .inl ⟨e, fun dx h1 h2 => k dx h1 h2⟩⟩
end
section
variable {P : Program} {w : World} {K : PySem.W.Frag} {mg : Str → Option Value} {base : Heap}
def spIsListG : Sp := fun vs H Q _ => ∃ (v : V) (lo hi : Int), vs = [v, .int lo, .int hi] ∧ Th H v ∧ ∀ H', Same H H' → Q (.bl (isl H lo hi v)) H'
theorem ok_is_listG {f : Addr} {fd : FuncData} (F : Fun K "is_list" "is_list" s_is_list f fd) (T : Txt mg) : FnOk P w K mg base CX0 1 f fd ["thing", "low", "high"] spIsListG := by
  refine F.ok sc_is_list (fun vs H Q E h => ?_) (fun cdv A outer s H vs Q E hr h => ?_)
  · obtain ⟨v, lo, hi, rfl, _⟩ := h
    rfl
  · obtain ⟨v, lo, hi, rfl, th, k⟩ := h
    refine ⟨_, pss_one (ps_ret (pe_and (pe_callB call_isiT (by rfl) T.isinstance_ (by decide +kernel) (pa_cons (pv 0) (pa_cons (pe_tup (pa_cons (pe_bltn (v := .ty "list") (by rfl) T.list_ (by decide +kernel) rfl) (pa_cons (pe_bltn (v := .ty "tuple") (by rfl) T.tuple_ (by decide +kernel) rfl) pa_nil))) pa_nil))) (pe_one (pe_chain op_le op_le (pv 1) (pe_callB call_len_seq (by rfl) T.len_ PySem.boot_len (pa_cons (pv 0) pa_nil)) (pv 2))))), ?_⟩
    refine ⟨_, rfl, (by show 2 ≤ sizeLine; decide), fun t ht => ?_⟩
    have e := same_alloc (o := .tup [.ty "list", .ty "tuple"]) ht
    have no : isl H lo hi v = false → Q (.bl false) (upd H t (.tup [.ty "list", .ty "tuple"])) := fun h => by
      have := k _ e
      rw [h] at this
      exact this
    cases th with
    | non => exact ⟨_, t, _, _, [.type "list", .type "tuple"], false, rfl, upd_same, .cons (.ty _) (.cons (.ty _) .nil), .base .non, (by rfl), _, rfl, iteF (no rfl)⟩
    | bl b => exact ⟨_, t, _, _, [.type "list", .type "tuple"], false, rfl, upd_same, .cons (.ty _) (.cons (.ty _) .nil), .base (.bl b), (by rfl), _, rfl, iteF (no rfl)⟩
    | int i => exact ⟨_, t, _, _, [.type "list", .type "tuple"], false, rfl, upd_same, .cons (.ty _) (.cons (.ty _) .nil), .base (.int i), (by rfl), _, rfl, iteF (no rfl)⟩
    | str z h g => exact ⟨_, t, _, _, [.type "list", .type "tuple"], false, rfl, upd_same, .cons (.ty _) (.cons (.ty _) .nil), .base (.str z), (by rfl), _, rfl, iteF (no rfl)⟩
    | dic a h => exact ⟨_, t, _, _, [.type "list", .type "tuple"], false, rfl, upd_same, .cons (.ty _) (.cons (.ty _) .nil), .base (.dK (e _ _ h)), (by rfl), _, rfl, iteF (no (by unfold isl; rw [seq_dic h]))⟩
    | lst a xs h =>
      have q := k _ e
      have ei : isl H lo hi (.ref a) = (decide (lo ≤ (xs.length : Int)) && decide ((xs.length : Int) ≤ hi)) := by unfold isl; rw [seq_lst h]
      rw [ei] at q
      refine ⟨_, t, _, _, [.type "list", .type "tuple"], true, rfl, upd_same, .cons (.ty _) (.cons (.ty _) .nil), .base (.lst (e _ _ h)), (by rfl), _, rfl, iteT ?_⟩
      refine ⟨_, rfl, _, rfl, a, xs, rfl, .inl (SqL.of (e _ _ h)), _, _, rfl, rfl, _, rfl, ite2 (fun c => ?_) (fun c => ?_)⟩
      · refine ⟨_, rfl, _, _, rfl, rfl, ?_⟩
        rw [c, Bool.true_and] at q
        exact q
      · rw [show decide (lo ≤ (xs.length : Int)) = false by simpa using c, Bool.false_and] at q
        exact q
    | tup a xs h =>
      have q := k _ e
      have ei : isl H lo hi (.ref a) = (decide (lo ≤ (xs.length : Int)) && decide ((xs.length : Int) ≤ hi)) := by unfold isl; rw [seq_tup h]
      rw [ei] at q
      refine ⟨_, t, _, _, [.type "list", .type "tuple"], true, rfl, upd_same, .cons (.ty _) (.cons (.ty _) .nil), .base (.tup (e _ _ h)), (by rfl), _, rfl, iteT ?_⟩
      refine ⟨_, rfl, _, rfl, a, xs, rfl, .inr (SqT.of (e _ _ h)), _, _, rfl, rfl, _, rfl, ite2 (fun c => ?_) (fun c => ?_)⟩
      · refine ⟨_, rfl, _, _, rfl, rfl, ?_⟩
        rw [c, Bool.true_and] at q
        exact q
      · rw [show decide (lo ≤ (xs.length : Int)) = false by simpa using c, Bool.false_and] at q
        exact q
def spIsTupleG : Sp := fun vs H Q _ => ∃ (v : V) (n : Int), vs = [v, .int n] ∧ Th H v ∧ Q (.bl (ist H n v)) H
theorem ok_is_tupleG {f : Addr} {fd : FuncData} (F : Fun K "is_tuple" "is_tuple" s_is_tuple f fd) (T : Txt mg) : FnOk P w K mg base CX0 1 f fd ["thing", "many"] spIsTupleG := by
  refine F.ok sc_is_tuple (fun vs H Q E h => ?_) (fun cdv A outer s H vs Q E hr h => ?_)
  · obtain ⟨v, n, rfl, _⟩ := h
    rfl
  · obtain ⟨v, n, rfl, th, k⟩ := h
    refine ⟨_, pss_one (ps_ret (pe_and (pe_callB call_isi (by rfl) T.isinstance_ (by decide +kernel) (pa_cons (pv 0) (pa_cons (pe_bltn (v := .ty "tuple") (by rfl) T.tuple_ (by decide +kernel) rfl) pa_nil))) (pe_one (pe_cmpR op_eq (pe_callB call_len_seq (by rfl) T.len_ PySem.boot_len (pa_cons (pv 0) pa_nil)) (pv 1) (nomark _))))), ?_⟩
    have no : ist H n v = false → Q (.bl false) H := fun h => by rw [h] at k; exact k
    cases th with
    | non => exact ⟨_, rfl, _, _, _, _, false, rfl, .ty "tuple", .base .non, (by rfl), _, rfl, iteF (no rfl)⟩
    | bl b => exact ⟨_, rfl, _, _, _, _, false, rfl, .ty "tuple", .base (.bl b), (by rfl), _, rfl, iteF (no rfl)⟩
    | int i => exact ⟨_, rfl, _, _, _, _, false, rfl, .ty "tuple", .base (.int i), (by rfl), _, rfl, iteF (no rfl)⟩
    | str z h g => exact ⟨_, rfl, _, _, _, _, false, rfl, .ty "tuple", .base (.str z), (by rfl), _, rfl, iteF (no rfl)⟩
    | dic a h => exact ⟨_, rfl, _, _, _, _, false, rfl, .ty "tuple", .base (.dK h), (by rfl), _, rfl, iteF (no (by unfold ist; rw [tup_dic h]))⟩
    | lst a xs h => exact ⟨_, rfl, _, _, _, _, false, rfl, .ty "tuple", .base (.lst h), (by rfl), _, rfl, iteF (no (by unfold ist; rw [tup_lst h]))⟩
    | tup a xs h =>
      have ei : ist H n (.ref a) = decide ((xs.length : Int) = n) := by unfold ist; rw [tup_tup h]
      rw [ei] at k
      refine ⟨_, rfl, _, _, _, _, true, rfl, .ty "tuple", .base (.tup h), (by rfl), _, rfl, iteT ?_⟩
      refine ⟨_, rfl, a, xs, rfl, .inr (SqT.of h), _, rfl, rfl, ?_⟩
      have e : decide (V.int (xs.length : Int) = V.int n) = decide ((xs.length : Int) = n) := by simp
      show Q (.bl (decide (V.int (xs.length : Int) = V.int n))) H
      rw [e]
      exact k
/-! ### a place -/
/-- what is wished of a check: nothing, or the refusal that is due -/
def Wish (cl : Tag → Addr) (J : Hp → Prop) (d : Due) (Q : VK) (E : XK) : Prop := match d with
  | none => ∀ H', J H' → Q .non H'
  | some (t, u) => ∀ H' e, J H' → H' e = none → E (.ref (cl t)) (some e) (upd H' e (.xd [("found", u)]))
variable {cl : Tag → Addr} {CS fS f1 f2 f3 f4 : Addr} {fdS fd1 fd2 fd3 fd4 : FuncData} {g1 g2 g3 g4 : Addr} {gd1 gd2 gd3 gd4 : FuncData}
def spPlaceX (cl : Tag → Addr) (Pt : Addr) : Sp := fun vs H Q E => ∃ (v : V) (l : Addr) (as : List Str), vs = [v, .ref l] ∧ Th H v ∧ Kids H v ∧ H l = some (.lst (as.map V.str)) ∧ TabG H Pt ∧ Wish cl (KT Pt H) (pl1 H as v) Q E
theorem ok_placeX {f Pt : Addr} {fd : FuncData} (F : Fun K "_check_place" "_check_place" s_check_place f fd) (T : Txt mg) (ES : SeT K mg CS fS fdS sSE)
    (ENoPlaces : ExC K mg "NoPlaces" "NoPlaces.__init__" sNoPlaces (cl .places) g1 gd1) (ENoName : ExC K mg "NoName" "NoName.__init__" sNoName (cl .name) g2 gd2) (ETwice : ExC K mg "Twice" "Twice.__init__" sTwice (cl .twice) g3 gd3) (ENoNumber : ExC K mg "NoNumber" "NoNumber.__init__" sNoNumber (cl .number) g4 gd4)
    (Nis_tuple : Fn K mg "is_tuple" s_is_tuple ["thing", "many"] f1 fd1) (Gis_tupleG : FnOk P w K mg base CX0 1 f1 fd1 ["thing", "many"] spIsTupleG)
    (Nis_name : Fn K mg "is_name" sName ["thing"] f2 fd2) (Gis_name : FnOk P w K mg base CX0 2 f2 fd2 ["thing"] (spName Pt))
    (Nis_whole : Fn K mg "is_whole" sWhole ["thing", "low", "high"] f3 fd3) (Gis_whole : FnOk P w K mg base CX0 1 f3 fd3 ["thing", "low", "high"] spWhole) :
    FnOk P w K mg base (CX P w) 4 f fd ["place", "ahead"] (spPlaceX cl Pt) := by
  refine F.okX sc_check_place (fun vs H Q E h => ?_) (fun cdv A outer s H vs Q E hr h => ?_)
  · obtain ⟨v, l, as, rfl, _⟩ := h
    rfl
  · obtain ⟨v, l, as, rfl, th, kd, hl, tb, k⟩ := h
    refine ⟨_, pss_cons (ps_if (pt_not (pt_val (pe_call Gis_tupleG (hr.mono (by decide)) (by rfl) Nis_tuple.g Nis_tuple.kp Nis_tuple.b .nil pass0 (pa_cons (pv 0) (pa_cons pe_int pa_nil))))) (pss_one (ps_raise rfl (takes_of rfl rfl rfl rfl) (pmk_oex ENoPlaces.o ENoPlaces.i ENoPlaces.t (ok_NoPlaces ES ENoPlaces) (hr.mono (by decide)) ENoPlaces.b .nil pass0 (by rfl) ENoPlaces.g (pa_cons (pv 0) pa_nil)))) pss_nil)
      (pss_cons (ps_asg (pv 0) (pg_tup (by rfl) (pgs_cons (pg_name (i := 2) sc_check_place.nd rfl (Or.inl rfl)) (pgs_cons (pg_name (i := 3) sc_check_place.nd rfl (Or.inl rfl)) pgs_nil))))
      (pss_cons (ps_if (pt_not (pt_val (pe_call Gis_name (hr.mono (by decide)) (by rfl) Nis_name.g Nis_name.kp Nis_name.b .nil pass0 (pa_cons (pv 2) pa_nil)))) (pss_one (ps_raise rfl (takes_of rfl rfl rfl rfl) (pmk_oex ENoName.o ENoName.i ENoName.t (ok_NoName ES ENoName) (hr.mono (by decide)) ENoName.b .nil pass0 (by rfl) ENoName.g (pa_cons (pv 2) pa_nil)))) pss_nil)
      (pss_cons (ps_if (pt_cmpR op_in_seq (pv 2) (pv 1) rfl) (pss_one (ps_raise rfl (takes_of rfl rfl rfl rfl) (pmk_oex ETwice.o ETwice.i ETwice.t (ok_Twice ES ETwice) (hr.mono (by decide)) ETwice.b .nil pass0 (by rfl) ETwice.g (pa_cons (pv 2) pa_nil)))) pss_nil)
      (pss_one (ps_if (pt_not (pt_val (pe_call Gis_whole (hr.mono (by decide)) (by rfl) Nis_whole.g Nis_whole.kp Nis_whole.b .nil pass0 (pa_cons (pv 3) (pa_cons pe_int (pa_cons pe_int pa_nil)))))) (pss_one (ps_raise rfl (takes_of rfl rfl rfl rfl) (pmk_oex ENoNumber.o ENoNumber.i ENoNumber.t (ok_NoNumber ES ENoNumber) (hr.mono (by decide)) ENoNumber.b .nil pass0 (by rfl) ENoNumber.g (pa_cons (pv 3) pa_nil)))) pss_nil))))), ?_⟩
    refine ⟨_, rfl, v, 2, rfl, th, ?_⟩
    cases hi : ist H 2 v with
    | false =>
      have e : pl1 H as v = some (.places, v) := by
        unfold pl1
        unfold ist at hi
        split
        · rename_i n q e
          rw [e] at hi
          cases hi
        · rfl
      rw [e] at k
      exact ⟨_, rfl, iteT ⟨_, rfl, made_one fun e he => k H e (KT.refl tb) he⟩⟩
    | true =>
      obtain ⟨xs, hx, h2⟩ := ist_true (n := 2) hi
      match xs, h2 with
      | [n, q], _ =>
        have e : pl1 H as v = if nm n = true then (if n ∈ as.map V.str then some (.twice, n) else if wh 1 3 q = true then none else some (.number, q)) else some (.name, n) := by
          unfold pl1
          rw [hx]
        rw [e] at k
        have thn := kd _ (seq_of_tup hx) n (by simp)
        have thq := kd _ (seq_of_tup hx) q (by simp)
        obtain ⟨t, rfl, ht⟩ := tup_some hx
        refine ⟨_, rfl, iteF ?_⟩
        refine ⟨_, rfl, t, _, rfl, SqT.of ht, rfl, _, _, rfl, _, _, rfl, rfl, ?_⟩
        refine ⟨_, rfl, n, rfl, thn, tb, fun H1 k1 => ?_⟩
        cases hn : nm n with
        | false =>
          rw [hn, if_neg Bool.false_ne_true] at k
          exact ⟨_, rfl, iteT ⟨_, rfl, made_one fun e he => k H1 e k1 he⟩⟩
        | true =>
          rw [hn, if_pos rfl] at k
          refine ⟨_, rfl, iteF ?_⟩
          obtain ⟨z, rfl, hz⟩ := nm_str hn
          have n1 := KT.nt tb k1
          refine ⟨_, rfl, _, rfl, l, _, rfl, .inl (SqL.of (n1 _ _ (by simp) hl)), rfl, flat_strs as, ?_⟩
          refine ⟨_, rfl, ?_⟩
          show if inV (.str z) (as.map V.str) = true then _ else _
          rw [inV_mem]
          by_cases hm : V.str z ∈ as.map V.str
          · rw [if_pos hm] at k
            rw [decide_eq_true hm]
            exact iteT ⟨_, rfl, made_one fun e he => k H1 e k1 he⟩
          · rw [if_neg hm] at k
            rw [decide_eq_false hm]
            refine iteF ?_
            refine ⟨_, rfl, q, 1, 3, rfl, th_nt n1 thq, ?_⟩
            cases hw : wh 1 3 q with
            | false =>
              rw [hw, if_neg Bool.false_ne_true] at k
              exact ⟨_, rfl, iteT ⟨_, rfl, made_one fun e he => k H1 e k1 he⟩⟩
            | true =>
              rw [hw, if_pos rfl] at k
              exact ⟨_, rfl, iteF (k H1 k1)⟩
end
end K4

set_option maxRecDepth 100000
set_option maxHeartbeats 400000
namespace K4
open PySem PySem.Spec PyProof.Rows L2 GxR Gd TL My
theorem pl1_nt {H H' : Hp} (e : Nt H H') {v : V} (th : Th H v) (as : List Str) : pl1 H' as v = pl1 H as v := by
  unfold pl1
  rw [tup_nt e th]
theorem st1_nt {H H' : Hp} (e : Nt H H') {v : V} (th : Th H v) : st1 H' v = st1 H v := by
  unfold st1
  rw [tup_nt e th]
theorem lo1_nt {H H' : Hp} (e : Nt H H') {v : V} (th : Th H v) (low top : Int) : lo1 H' low top v = lo1 H low top v := by
  unfold lo1
  rw [tup_nt e th]
def nameOf (H : Hp) (v : V) : Str := match tupOf H v with
  | some [.str z, _] => z
  | _ => ""
def plD (H : Hp) : List Str → List V → Due
  | _, [] => none
  | as, v :: r => match pl1 H as v with
    | some d => some d
    | none => plD H (as ++ [nameOf H v]) r
def placesD (H : Hp) (v : V) : Due := if isl H 2 6 v = true then plD H [] ((seqOf H v).getD []) else some (.places, v)
def stD (H : Hp) : List V → Due
  | [] => none
  | v :: r => if st1 H v = true then stD H r else some (.stretches, v)
def stretchesD (H : Hp) (n : Int) (v : V) : Due := if isl H n n v = true then stD H ((seqOf H v).getD []) else some (.stretches, v)
def lastLo (H : Hp) (v : V) : Int := match tupOf H v with
  | some [_, l, _] => intOf l
  | _ => 0
def loD (H : Hp) (top : Int) : Int → List V → Due
  | _, [] => none
  | low, v :: r => if lo1 H low top v = true then loD H top (lastLo H v) r else some (.longs, v)
def longsD (H : Hp) (top : Int) (v : V) : Due := if isl H 0 2 v = true then loD H top 0 ((seqOf H v).getD []) else some (.longs, v)
/-- things, and what they hold, and what that holds -/
def Deep (H : Hp) (v : V) : Prop := Th H v ∧ ∀ xs, seqOf H v = some xs → ∀ x ∈ xs, Th H x ∧ Kids H x
theorem Deep.kids {H : Hp} {v : V} (d : Deep H v) : Kids H v := fun xs h x hx => (d.2 xs h x hx).1
theorem Deep.nt {H H' : Hp} (e : Nt H H') {v : V} (d : Deep H v) : Deep H' v :=
  ⟨th_nt e d.1, fun xs hs x hx => by
    obtain ⟨a, b⟩ := d.2 xs (by rw [← seq_nt e d.1]; exact hs) x hx
    exact ⟨th_nt e a, b.nt e a⟩⟩
theorem pl1_none {H : Hp} {as : List Str} {v : V} (h : pl1 H as v = none) : ∃ t z q, v = .ref t ∧ H t = some (.tup [.str z, q]) ∧ nameOf H v = z ∧ NameOk z ∧ z ∉ as ∧ wh 1 3 q = true := by
  unfold pl1 at h
  split at h
  · rename_i n q e
    split at h
    · rename_i hn
      obtain ⟨z, rfl, hz⟩ := nm_str hn
      split at h
      · cases h
      · rename_i hm
        split at h
        · rename_i hw
          obtain ⟨t, rfl, ht⟩ := tup_some e
          refine ⟨t, z, q, rfl, ht, ?_, hz, fun m => hm (List.mem_map.mpr ⟨z, m, rfl⟩), hw⟩
          unfold nameOf
          rw [e]
        · cases h
    · cases h
  · cases h
theorem flat_in2 {k : V} (h : flatV k = true) (a b : Str) : inV k [.str a, .str b] = (decide (k = .str a) || decide (k = .str b)) := by
  unfold inV
  rw [List.any_cons, List.any_cons, List.any_nil, Bool.or_false]
  cases k with
  | str z =>
    show ((a == z) || (b == z)) = _
    rw [Bool.eq_iff_iff]
    simp only [Bool.or_eq_true, beq_iff_eq, decide_eq_true_eq, V.str.injEq]
    constructor
    · rintro (e | e)
      · exact .inl e.symm
      · exact .inr e.symm
    · rintro (e | e)
      · exact .inl e.symm
      · exact .inr e.symm
  | _ => simp [eqV]
theorem th_flat {H : Hp} {v : V} (th : Th H v) : flatV v = true ∨ ∃ a, v = .ref a ∧ ((∃ xs, H a = some (.lst xs)) ∨ (∃ xs, H a = some (.tup xs)) ∨ ∃ kvs, H a = some (.dK kvs)) := by
  cases th with
  | non => exact .inl rfl
  | bl b => exact .inl rfl
  | int i => exact .inl rfl
  | str z h g => exact .inl rfl
  | lst a xs h => exact .inr ⟨a, rfl, .inl ⟨_, h⟩⟩
  | tup a xs h => exact .inr ⟨a, rfl, .inr (.inl ⟨_, h⟩)⟩
  | dic a h => exact .inr ⟨a, rfl, .inr (.inr ⟨_, h⟩)⟩
section
variable {P : Program} {w : World} {K : PySem.W.Frag} {mg : Str → Option Value} {base : Heap}
def spIsStretchG : Sp := fun vs H Q _ => ∃ (v : V), vs = [v] ∧ Th H v ∧ Kids H v ∧ ∀ H', Same H H' → Q (.bl (st1 H v)) H'
theorem ok_is_stretchG {f f1 f2 : Addr} {fd fd1 fd2 : FuncData} (F : Fun K "_is_stretch" "_is_stretch" s_is_stretch f fd) (T : Txt mg)
    (Nis_tuple : Fn K mg "is_tuple" s_is_tuple ["thing", "many"] f1 fd1) (Gis_tupleG : FnOk P w K mg base CX0 1 f1 fd1 ["thing", "many"] spIsTupleG)
    (Nis_whole : Fn K mg "is_whole" sWhole ["thing", "low", "high"] f2 fd2) (Gis_whole : FnOk P w K mg base CX0 1 f2 fd2 ["thing", "low", "high"] spWhole) :
    FnOk P w K mg base CX0 2 f fd ["thing"] spIsStretchG := by
  refine F.ok sc_is_stretch (fun vs H Q E h => ?_) (fun cdv A outer s H vs Q E hr h => ?_)
  · obtain ⟨v, rfl, _⟩ := h
    rfl
  · obtain ⟨v, rfl, th, kd, k⟩ := h
    have hu2 := Nat.lt_of_le_of_lt (Nat.add_le_add_left (by decide : 2 ≤ 64) _) hr.units
    refine ⟨_, pss_cons (ps_if (pt_not (pt_val (pe_call Gis_tupleG (hr.mono (by decide)) (by rfl) Nis_tuple.g Nis_tuple.kp Nis_tuple.b .nil pass0 (pa_cons (pv 0) (pa_cons pe_int pa_nil))))) (pss_one (ps_ret pe_bl)) pss_nil)
      (pss_cons (ps_asg (pv 0) (pg_tup (by rfl) (pgs_cons (pg_name (i := 1) sc_is_stretch.nd rfl (Or.inl rfl)) (pgs_cons (pg_name (i := 2) sc_is_stretch.nd rfl (Or.inl rfl)) pgs_nil))))
      (pss_one (ps_ret (pe_and (pe_cmpR (op_inTt hu2) (pv 1) (pe_tup (pa_cons pe_str (pa_cons pe_str pa_nil))) rfl) (pe_one (pe_call Gis_whole (hr.mono (by decide)) (by rfl) Nis_whole.g Nis_whole.kp Nis_whole.b .nil pass0 (pa_cons (pv 2) (pa_cons pe_int (pa_cons pe_int pa_nil))))))))), ?_⟩
    refine ⟨_, rfl, v, 2, rfl, th, ?_⟩
    cases hi : ist H 2 v with
    | false =>
      have e : st1 H v = false := by
        unfold st1
        unfold ist at hi
        split
        · rename_i n q e
          rw [e] at hi
          cases hi
        · rfl
      have := k H (Same.refl _)
      rw [e] at this
      exact ⟨_, rfl, iteT this⟩
    | true =>
      obtain ⟨xs, hx, h2⟩ := ist_true (n := 2) hi
      match xs, h2 with
      | [n, q], _ =>
        have e : st1 H v = ((decide (n = .str "staff") || decide (n = .str "ticket")) && wh 0 1 q) := by
          unfold st1
          rw [hx]
        rw [e] at k
        have thn := kd _ (seq_of_tup hx) n (by simp)
        have thq := kd _ (seq_of_tup hx) q (by simp)
        obtain ⟨t, rfl, ht⟩ := tup_some hx
        refine ⟨_, rfl, iteF ?_⟩
        refine ⟨_, rfl, t, _, rfl, SqT.of ht, rfl, _, _, rfl, _, _, rfl, rfl, ?_⟩
        refine ⟨_, rfl, (by show 2 ≤ sizeLine; decide), fun u hu => ?_⟩
        have s1 := same_alloc (o := .tup [.str "staff", .str "ticket"]) hu
        have e1 : upd H u (.tup [.str "staff", .str "ticket"]) u = some (.tup [.str "staff", .str "ticket"]) := upd_same
        generalize upd H u (.tup [.str "staff", .str "ticket"]) = H1 at s1 e1 ⊢
        refine ⟨u, ["staff", "ticket"], rfl, SqT.of e1, ?_⟩
        have fin : (decide (n = .str "staff") || decide (n = .str "ticket")) = false → Q (.bl false) H1 := fun h => by
          have := k H1 s1
          rw [h, Bool.false_and] at this
          exact this
        rcases th_flat thn with fl | ⟨a, rfl, ha⟩
        · refine .inl ⟨fl, _, rfl, ?_⟩
          have ei := flat_in2 fl "staff" "ticket"
          show if inV n [.str "staff", .str "ticket"] = true then _ else _
          rw [ei]
          cases hb : (decide (n = .str "staff") || decide (n = .str "ticket")) with
          | false => exact iteF (fin hb)
          | true =>
            refine iteT ⟨_, rfl, q, 0, 1, rfl, th_nt (same_nt s1) thq, ?_⟩
            have := k H1 s1
            rw [hb, Bool.true_and] at this
            exact this
        · refine .inr ⟨⟨a, rfl, ?_⟩, _, rfl, iteF (fin rfl)⟩
          rcases ha with ⟨xs, h⟩ | ⟨xs, h⟩ | ⟨kvs, h⟩
          · exact .inl ⟨xs, SqL.of (s1 _ _ h)⟩
          · exact .inr (.inl ⟨xs, SqT.of (s1 _ _ h)⟩)
          · exact .inr (.inr ⟨kvs, s1 _ _ h⟩)
def spIsLongG : Sp := fun vs H Q _ => ∃ (v : V) (low tp : Int), vs = [v, .int low, .int tp] ∧ Th H v ∧ Kids H v ∧ Q (.bl (lo1 H low tp v)) H
theorem ok_is_longG {f f1 f2 : Addr} {fd fd1 fd2 : FuncData} (F : Fun K "_is_long" "_is_long" s_is_long f fd) (T : Txt mg)
    (Nis_tuple : Fn K mg "is_tuple" s_is_tuple ["thing", "many"] f1 fd1) (Gis_tupleG : FnOk P w K mg base CX0 1 f1 fd1 ["thing", "many"] spIsTupleG)
    (Nis_whole : Fn K mg "is_whole" sWhole ["thing", "low", "high"] f2 fd2) (Gis_whole : FnOk P w K mg base CX0 1 f2 fd2 ["thing", "low", "high"] spWhole) :
    FnOk P w K mg base CX0 2 f fd ["thing", "low", "top"] spIsLongG := by
  refine F.ok sc_is_long (fun vs H Q E h => ?_) (fun cdv A outer s H vs Q E hr h => ?_)
  · obtain ⟨v, low, tp, rfl, _⟩ := h
    rfl
  · obtain ⟨v, low, tp, rfl, th, kd, k⟩ := h
    refine ⟨_, pss_cons (ps_if (pt_not (pt_val (pe_call Gis_tupleG (hr.mono (by decide)) (by rfl) Nis_tuple.g Nis_tuple.kp Nis_tuple.b .nil pass0 (pa_cons (pv 0) (pa_cons pe_int pa_nil))))) (pss_one (ps_ret pe_bl)) pss_nil)
      (pss_cons (ps_asg (pv 0) (pg_tup (by rfl) (pgs_cons (pg_name (i := 3) sc_is_long.nd rfl (Or.inl rfl)) (pgs_cons (pg_name (i := 4) sc_is_long.nd rfl (Or.inl rfl)) (pgs_cons (pg_name (i := 5) sc_is_long.nd rfl (Or.inl rfl)) pgs_nil)))))
      (pss_one (ps_ret (pe_and (pe_call Gis_whole (hr.mono (by decide)) (by rfl) Nis_whole.g Nis_whole.kp Nis_whole.b .nil pass0 (pa_cons (pv 3) (pa_cons (pv 1) (pa_cons (pv 2) pa_nil)))) (pe_and (pe_call Gis_whole (hr.mono (by decide)) (by rfl) Nis_whole.g Nis_whole.kp Nis_whole.b .nil pass0 (pa_cons (pv 4) (pa_cons (pe_op op_add (pv 3) pe_int) (pa_cons (pv 2) pa_nil)))) (pe_one (pe_call Gis_whole (hr.mono (by decide)) (by rfl) Nis_whole.g Nis_whole.kp Nis_whole.b .nil pass0 (pa_cons (pv 5) (pa_cons pe_int (pa_cons pe_int pa_nil)))))))))), ?_⟩
    refine ⟨_, rfl, v, 3, rfl, th, ?_⟩
    cases hi : ist H 3 v with
    | false =>
      have e : lo1 H low tp v = false := by
        unfold lo1
        unfold ist at hi
        split
        · rename_i n q l e
          rw [e] at hi
          cases hi
        · rfl
      rw [e] at k
      exact ⟨_, rfl, iteT k⟩
    | true =>
      obtain ⟨xs, hx, h3⟩ := ist_true (n := 3) hi
      match xs, h3 with
      | [fi, la, h], _ =>
        have e : lo1 H low tp v = (wh low tp fi && wh (intOf fi + 2) tp la && wh 0 1 h) := by
          unfold lo1
          rw [hx]
        rw [e] at k
        have th1 := kd _ (seq_of_tup hx) fi (by simp)
        have th2 := kd _ (seq_of_tup hx) la (by simp)
        have th3 := kd _ (seq_of_tup hx) h (by simp)
        obtain ⟨t, rfl, ht⟩ := tup_some hx
        refine ⟨_, rfl, iteF ?_⟩
        refine ⟨_, rfl, t, _, rfl, SqT.of ht, rfl, _, _, rfl, _, _, rfl, _, _, rfl, rfl, ?_⟩
        refine ⟨_, rfl, _, rfl, _, rfl, fi, low, tp, rfl, th1, ?_⟩
        cases h1 : wh low tp fi with
        | false =>
          rw [h1, Bool.false_and, Bool.false_and] at k
          exact ⟨_, rfl, iteF k⟩
        | true =>
          rw [h1, Bool.true_and] at k
          obtain ⟨i, rfl⟩ : ∃ i, fi = .int i := by
            cases fi with
            | int i => exact ⟨i, rfl⟩
            | _ => cases h1
          refine ⟨_, rfl, iteT ?_⟩
          refine ⟨_, rfl, _, rfl, _, _, rfl, rfl, _, rfl, la, i + 2, tp, rfl, th2, ?_⟩
          have k' : Q (.bl (wh (i + 2) tp la && wh 0 1 h)) H := k
          cases h2 : wh (i + 2) tp la with
          | false =>
            rw [h2, Bool.false_and] at k'
            exact ⟨_, rfl, iteF k'⟩
          | true =>
            rw [h2, Bool.true_and] at k'
            exact ⟨_, rfl, iteT ⟨_, rfl, h, 0, 1, rfl, th3, k'⟩⟩
end
end K4

set_option maxRecDepth 100000
set_option maxHeartbeats 400000
namespace K4
open PySem PySem.Spec PyProof.Rows L2 GxR Gd TL My
theorem wish_of {cl : Tag → Addr} {J J' : Hp → Prop} {d : Due} {Q Q' : VK} {E : XK} (k : Wish cl J d Q E) (j : ∀ H', J' H' → J H') (n : d = none → ∀ H', J' H' → Q' .non H') : Wish cl J' d Q' E := by
  match d, k with
  | none, k => exact n rfl
  | some (t, u), k => exact fun H' e h he => k H' e (j H' h) he
theorem isl_true {H : Hp} {lo hi : Int} {v : V} (h : isl H lo hi v = true) : ∃ a xs, v = .ref a ∧ seqOf H v = some xs ∧ (H a = some (.lst xs) ∨ H a = some (.tup xs)) ∧ lo ≤ (xs.length : Int) ∧ (xs.length : Int) ≤ hi := by
  unfold isl at h
  split at h
  · rename_i xs e
    obtain ⟨a, rfl, h2⟩ := seq_some e
    simp only [Bool.and_eq_true, decide_eq_true_eq] at h
    exact ⟨a, xs, rfl, e, h2, h.1, h.2⟩
  · cases h
theorem pl1_snoc {H : Hp} {as : List Str} {v : V} {r : List V} (h : pl1 H as v = none) : plD H as (v :: r) = plD H (as ++ [nameOf H v]) r := by
  show (match pl1 H as v with | some d => some d | none => plD H (as ++ [nameOf H v]) r) = _
  rw [h]
theorem pl1_stop {H : Hp} {as : List Str} {v : V} {r : List V} {d : Tag × V} (h : pl1 H as v = some d) : plD H as (v :: r) = some d := by
  show (match pl1 H as v with | some d => some d | none => plD H (as ++ [nameOf H v]) r) = _
  rw [h]
theorem drop_at {xs : List V} {i : Nat} {x : V} (h : xs[i]? = some x) : xs.drop i = x :: xs.drop (i + 1) := by
  obtain ⟨h1, h2⟩ := List.getElem?_eq_some_iff.mp h
  rw [← h2]
  exact (List.getElem_cons_drop ..).symm
section
variable {P : Program} {w : World} {K : PySem.W.Frag} {mg : Str → Option Value} {base : Heap}
variable {cl : Tag → Addr} {CS fS f1 f2 f3 f4 : Addr} {fdS fd1 fd2 fd3 fd4 : FuncData} {g1 g2 g3 g4 : Addr} {gd1 gd2 gd3 gd4 : FuncData}
def spPlacesX (cl : Tag → Addr) (Pt : Addr) : Sp := fun vs H Q E => ∃ (v : V), vs = [v] ∧ Deep H v ∧ TabG H Pt ∧ Wish cl (KT Pt H) (placesD H v) Q E
theorem ok_placesX {f Pt : Addr} {fd : FuncData} (F : Fun K "_check_places" "_check_places" s_check_places f fd) (T : Txt mg) (ES : SeT K mg CS fS fdS sSE)
    (ENoPlaces : ExC K mg "NoPlaces" "NoPlaces.__init__" sNoPlaces (cl .places) g1 gd1)
    (Nis_list : Fn K mg "is_list" s_is_list ["thing", "low", "high"] f1 fd1) (Gis_listG : FnOk P w K mg base CX0 1 f1 fd1 ["thing", "low", "high"] spIsListG)
    (Ncheck_place : Fn K mg "_check_place" s_check_place ["place", "ahead"] f2 fd2) (Gcheck_placeX : FnOk P w K mg base (CX P w) 4 f2 fd2 ["place", "ahead"] (spPlaceX cl Pt)) :
    FnOk P w K mg base (CX P w) 5 f fd ["places"] (spPlacesX cl Pt) := by
  refine F.okX sc_check_places (fun vs H Q E h => ?_) (fun cdv A outer s H vs Q E hr h => ?_)
  · obtain ⟨v, rfl, _⟩ := h
    rfl
  · obtain ⟨v, rfl, dp, tb, k⟩ := h
    cases hi : isl H 2 6 v with
    | false =>
      have e : placesD H v = some (.places, v) := by
        unfold placesD
        rw [hi, if_neg Bool.false_ne_true]
      rw [e] at k
      refine ⟨_, pss_cons (ps_if (pt_not (pt_val (pe_call Gis_listG (hr.mono (by decide)) (by rfl) Nis_list.g Nis_list.kp Nis_list.b .nil pass0 (pa_cons (pv 0) (pa_cons pe_int (pa_cons pe_int pa_nil)))))) (pss_one (ps_raise rfl (takes_of rfl rfl rfl rfl) (pmk_oex ENoPlaces.o ENoPlaces.i ENoPlaces.t (ok_NoPlaces ES ENoPlaces) (hr.mono (by decide)) ENoPlaces.b .nil pass0 (by rfl) ENoPlaces.g (pa_cons (pv 0) pa_nil)))) pss_nil)
      (pss_cons (ps_set (i := 1) sc_check_places.nd rfl (Or.inl rfl) (pe_lst pa_nil))
      (pss_one (ps_for (passes_of rfl) rfl (pi_list (pv 0)) (pg_name (i := 2) sc_check_places.nd rfl (Or.inl rfl)) (pss_cons (ps_expr (pe_call Gcheck_placeX (hr.mono (by decide)) (by rfl) Ncheck_place.g Ncheck_place.kp Ncheck_place.b .nil (passes_call (takes_of rfl rfl rfl rfl) (fun _ _ _ _ h => h)) (pa_cons (pv 2) (pa_cons (pv 1) pa_nil))))
          (pss_one (ps_expr (pe_bm PySem.F.plainAttrs_list PySem.F.slot_list_append PySem.F.type_list_append mt_append (pv 1) (pa_cons (pe_ix ix_tup (pv 2) pe_int (fun _ _ => rfl)) pa_nil)))))))), ?_⟩
      refine ⟨_, rfl, _, 2, 6, rfl, dp.1, fun H1 s1 => ?_⟩
      rw [hi]
      exact ⟨_, rfl, iteT ⟨_, rfl, made_one fun e he => k H1 e (same_kt tb s1) he⟩⟩
    | true =>
      have e : placesD H v = plD H [] ((seqOf H v).getD []) := by
        unfold placesD
        rw [hi, if_pos rfl]
      obtain ⟨a, xs, rfl, hq, ha, l2, l6⟩ := isl_true hi
      rw [e, hq] at k
      replace k : Wish cl (My.KT Pt H) (plD H [] xs) Q E := k
      rcases ha with ha | ha
      · skip
        refine ⟨_, pss_cons (ps_if (pt_not (pt_val (pe_call Gis_listG (hr.mono (by decide)) (by rfl) Nis_list.g Nis_list.kp Nis_list.b .nil pass0 (pa_cons (pv 0) (pa_cons pe_int (pa_cons pe_int pa_nil)))))) (pss_one (ps_raise rfl (takes_of rfl rfl rfl rfl) (pmk_oex ENoPlaces.o ENoPlaces.i ENoPlaces.t (ok_NoPlaces ES ENoPlaces) (hr.mono (by decide)) ENoPlaces.b .nil pass0 (by rfl) ENoPlaces.g (pa_cons (pv 0) pa_nil)))) pss_nil)
      (pss_cons (ps_set (i := 1) sc_check_places.nd rfl (Or.inl rfl) (pe_lst pa_nil))
      (pss_one (ps_for (passes_of rfl) rfl (pi_list (pv 0)) (pg_name (i := 2) sc_check_places.nd rfl (Or.inl rfl)) (pss_cons (ps_expr (pe_call Gcheck_placeX (hr.mono (by decide)) (by rfl) Ncheck_place.g Ncheck_place.kp Ncheck_place.b .nil (passes_call (takes_of rfl rfl rfl rfl) (fun _ _ _ _ h => h)) (pa_cons (pv 2) (pa_cons (pv 1) pa_nil))))
          (pss_one (ps_expr (pe_bm PySem.F.plainAttrs_list PySem.F.slot_list_append PySem.F.type_list_append mt_append (pv 1) (pa_cons (pe_ix ix_tup (pv 2) pe_int (fun _ _ => rfl)) pa_nil)))))))), ?_⟩
        refine ⟨_, rfl, _, 2, 6, rfl, dp.1, fun H1 s1 => ?_⟩
        rw [hi]
        refine ⟨_, rfl, iteF ?_⟩
        refine ⟨Nat.zero_le _, fun L hL0 => ?_⟩
        have hLn : H L = none := s1.free hL0
        have kA := (same_kt tb s1).trans (KT.alloc (o := .lst []) (same_kt tb s1).tab hL0)
        have HX := Nt.seq (K := K) (KT.nt tb kA) (a := a) (xs := xs) (SqL.of ha)
        refine ⟨_, rfl, a, rfl, ⟨_, HX⟩, for_list (K := K) (a := a) (xs := xs) (fun i σ H' => ∃ (v : Option V) (as : List Str), σ = [some (.ref a), some (.ref L), v] ∧ H' L = some (.lst (as.map V.str)) ∧ as.length = i ∧ plD H as (xs.drop i) = plD H [] xs ∧ KT Pt H H')
          ⟨_, [], rfl, upd_same, rfl, rfl, kA⟩ (fun i σ H' _ ⟨_, _, _, _, _, _, q⟩ => Nt.seq (KT.nt tb q) (SqL.of ha)) ?_ ?_⟩
        · rintro i x σ H2 hx ⟨v, as, rfl, eL, el, ep, k2⟩
          obtain ⟨thx, kx⟩ := dp.2 xs hq x (List.mem_of_getElem? hx)
          rw [drop_at hx] at ep
          have hi := (List.getElem?_eq_some_iff.mp hx).1
          have n2 := KT.nt tb k2
          refine ⟨_, rfl, _, rfl, x, L, as, rfl, th_nt n2 thx, kx.nt n2 thx, eL, k2.tab, ?_⟩
          rw [pl1_nt n2 thx as]
          cases hp : pl1 H as x with
          | some d =>
            rw [pl1_stop hp] at ep
            rw [← ep] at k
            exact wish_of k (fun H' h => k2.trans h) nofun
          | none =>
            rw [pl1_snoc hp] at ep
            obtain ⟨t, z, q, rfl, ht, en, nz, _, _⟩ := pl1_none hp
            refine fun H3 k3 => ?_
            have eL3 : H3 L = some (.lst (as.map V.str)) := KT.nt k2.tab k3 L _ (by simp) eL
            have ht3 := KT.nt tb (k2.trans k3) _ _ (by simp) ht
            have nLP : L ≠ Pt := ne_tab k3.tab eL3 (by simp)
            refine ⟨_, rfl, .inl ⟨rfl, _, SqL.of eL3⟩, _, rfl, t, _, 0, .str z, rfl, rfl, SqT.of ht3, rfl, L, _, _, rfl, rfl, eL3, ?_, ?_⟩
            · rw [List.length_map, el]
              exact small1000 (by omega)
            · refine ⟨_, as ++ [z], rfl, ?_, by rw [List.length_append, el]; rfl, ?_, KT.put (k2.trans k3) hLn nLP⟩
              · rw [upd_same, List.map_append]
                rfl
              · rw [en] at ep
                exact ep
        · rintro σ H2 ⟨v, as, rfl, eL, el, ep, k2⟩
          rw [List.drop_length] at ep
          rw [← ep] at k
          exact k H2 k2
      · skip
        refine ⟨_, pss_cons (ps_if (pt_not (pt_val (pe_call Gis_listG (hr.mono (by decide)) (by rfl) Nis_list.g Nis_list.kp Nis_list.b .nil pass0 (pa_cons (pv 0) (pa_cons pe_int (pa_cons pe_int pa_nil)))))) (pss_one (ps_raise rfl (takes_of rfl rfl rfl rfl) (pmk_oex ENoPlaces.o ENoPlaces.i ENoPlaces.t (ok_NoPlaces ES ENoPlaces) (hr.mono (by decide)) ENoPlaces.b .nil pass0 (by rfl) ENoPlaces.g (pa_cons (pv 0) pa_nil)))) pss_nil)
      (pss_cons (ps_set (i := 1) sc_check_places.nd rfl (Or.inl rfl) (pe_lst pa_nil))
      (pss_one (ps_for (passes_of rfl) rfl (pi_tup (pv 0)) (pg_name (i := 2) sc_check_places.nd rfl (Or.inl rfl)) (pss_cons (ps_expr (pe_call Gcheck_placeX (hr.mono (by decide)) (by rfl) Ncheck_place.g Ncheck_place.kp Ncheck_place.b .nil (passes_call (takes_of rfl rfl rfl rfl) (fun _ _ _ _ h => h)) (pa_cons (pv 2) (pa_cons (pv 1) pa_nil))))
          (pss_one (ps_expr (pe_bm PySem.F.plainAttrs_list PySem.F.slot_list_append PySem.F.type_list_append mt_append (pv 1) (pa_cons (pe_ix ix_tup (pv 2) pe_int (fun _ _ => rfl)) pa_nil)))))))), ?_⟩
        refine ⟨_, rfl, _, 2, 6, rfl, dp.1, fun H1 s1 => ?_⟩
        rw [hi]
        refine ⟨_, rfl, iteF ?_⟩
        refine ⟨Nat.zero_le _, fun L hL0 => ?_⟩
        have hLn : H L = none := s1.free hL0
        have kA := (same_kt tb s1).trans (KT.alloc (o := .lst []) (same_kt tb s1).tab hL0)
        have HX := Nt.seqT (K := K) (KT.nt tb kA) (a := a) (xs := xs) (SqT.of ha)
        refine ⟨_, rfl, a, rfl, ⟨_, HX⟩, for_tup (K := K) (a := a) (xs := xs) (fun i σ H' => ∃ (v : Option V) (as : List Str), σ = [some (.ref a), some (.ref L), v] ∧ H' L = some (.lst (as.map V.str)) ∧ as.length = i ∧ plD H as (xs.drop i) = plD H [] xs ∧ KT Pt H H')
          ⟨_, [], rfl, upd_same, rfl, rfl, kA⟩ (fun i σ H' _ ⟨_, _, _, _, _, _, q⟩ => Nt.seqT (KT.nt tb q) (SqT.of ha)) ?_ ?_⟩
        · rintro i x σ H2 hx ⟨v, as, rfl, eL, el, ep, k2⟩
          obtain ⟨thx, kx⟩ := dp.2 xs hq x (List.mem_of_getElem? hx)
          rw [drop_at hx] at ep
          have hi := (List.getElem?_eq_some_iff.mp hx).1
          have n2 := KT.nt tb k2
          refine ⟨_, rfl, _, rfl, x, L, as, rfl, th_nt n2 thx, kx.nt n2 thx, eL, k2.tab, ?_⟩
          rw [pl1_nt n2 thx as]
          cases hp : pl1 H as x with
          | some d =>
            rw [pl1_stop hp] at ep
            rw [← ep] at k
            exact wish_of k (fun H' h => k2.trans h) nofun
          | none =>
            rw [pl1_snoc hp] at ep
            obtain ⟨t, z, q, rfl, ht, en, nz, _, _⟩ := pl1_none hp
            refine fun H3 k3 => ?_
            have eL3 : H3 L = some (.lst (as.map V.str)) := KT.nt k2.tab k3 L _ (by simp) eL
            have ht3 := KT.nt tb (k2.trans k3) _ _ (by simp) ht
            have nLP : L ≠ Pt := ne_tab k3.tab eL3 (by simp)
            refine ⟨_, rfl, .inl ⟨rfl, _, SqL.of eL3⟩, _, rfl, t, _, 0, .str z, rfl, rfl, SqT.of ht3, rfl, L, _, _, rfl, rfl, eL3, ?_, ?_⟩
            · rw [List.length_map, el]
              exact small1000 (by omega)
            · refine ⟨_, as ++ [z], rfl, ?_, by rw [List.length_append, el]; rfl, ?_, KT.put (k2.trans k3) hLn nLP⟩
              · rw [upd_same, List.map_append]
                rfl
              · rw [en] at ep
                exact ep
        · rintro σ H2 ⟨v, as, rfl, eL, el, ep, k2⟩
          rw [List.drop_length] at ep
          rw [← ep] at k
          exact k H2 k2
end
end K4

set_option maxRecDepth 100000
set_option maxHeartbeats 400000
namespace K4
open PySem PySem.Spec PyProof.Rows L2 GxR Gd TL My
theorem st_go {H : Hp} {v : V} {r : List V} (h : st1 H v = true) : stD H (v :: r) = stD H r := by
  show (if st1 H v = true then stD H r else some (.stretches, v)) = _
  rw [if_pos h]
theorem st_stop {H : Hp} {v : V} {r : List V} (h : st1 H v = false) : stD H (v :: r) = some (.stretches, v) := by
  show (if st1 H v = true then stD H r else some (.stretches, v)) = _
  rw [h, if_neg Bool.false_ne_true]
theorem lo_go {H : Hp} {low top : Int} {v : V} {r : List V} (h : lo1 H low top v = true) : loD H top low (v :: r) = loD H top (lastLo H v) r := by
  show (if lo1 H low top v = true then loD H top (lastLo H v) r else some (.longs, v)) = _
  rw [if_pos h]
theorem lo_stop {H : Hp} {low top : Int} {v : V} {r : List V} (h : lo1 H low top v = false) : loD H top low (v :: r) = some (.longs, v) := by
  show (if lo1 H low top v = true then loD H top (lastLo H v) r else some (.longs, v)) = _
  rw [h, if_neg Bool.false_ne_true]
theorem wh_int {lo hi : Int} {v : V} (h : wh lo hi v = true) : ∃ i, v = .int i := by
  cases v with
  | int i => exact ⟨i, rfl⟩
  | _ => cases h
theorem lo1_true {H : Hp} {low top : Int} {v : V} (h : lo1 H low top v = true) : ∃ t fi la q, v = .ref t ∧ H t = some (.tup [fi, .int la, q]) ∧ lastLo H v = la := by
  unfold lo1 at h
  split at h
  · rename_i fi l q e
    simp only [Bool.and_eq_true] at h
    obtain ⟨la, rfl⟩ := wh_int h.1.2
    obtain ⟨t, rfl, ht⟩ := tup_some e
    refine ⟨t, fi, la, q, rfl, ht, ?_⟩
    unfold lastLo
    rw [e]
    rfl
  · cases h
section
variable {P : Program} {w : World} {K : PySem.W.Frag} {mg : Str → Option Value} {base : Heap}
variable {cl : Tag → Addr} {CS fS f1 f2 : Addr} {fdS fd1 fd2 : FuncData} {g1 : Addr} {gd1 : FuncData}
def spStretchesX (cl : Tag → Addr) : Sp := fun vs H Q E => ∃ (v : V) (n : Int), vs = [v, .int n] ∧ Deep H v ∧ Wish cl (Same H) (stretchesD H n v) Q E
theorem ok_stretchesX {f : Addr} {fd : FuncData} (F : Fun K "_check_stretches" "_check_stretches" s_check_stretches f fd) (T : Txt mg) (ES : SeT K mg CS fS fdS sSE)
    (ENoStretches : ExC K mg "NoStretches" "NoStretches.__init__" sNoStretches (cl .stretches) g1 gd1)
    (Nis_list : Fn K mg "is_list" s_is_list ["thing", "low", "high"] f1 fd1) (Gis_listG : FnOk P w K mg base CX0 1 f1 fd1 ["thing", "low", "high"] spIsListG)
    (Nis_stretch : Fn K mg "_is_stretch" s_is_stretch ["thing"] f2 fd2) (Gis_stretchG : FnOk P w K mg base CX0 2 f2 fd2 ["thing"] spIsStretchG) :
    FnOk P w K mg base (CX P w) 4 f fd ["stretches", "many"] (spStretchesX cl) := by
  refine F.okX sc_check_stretches (fun vs H Q E h => ?_) (fun cdv A outer s H vs Q E hr h => ?_)
  · obtain ⟨v, n, rfl, _⟩ := h
    rfl
  · obtain ⟨v, n, rfl, dp, k⟩ := h
    cases hi : isl H n n v with
    | false =>
      have e : stretchesD H n v = some (.stretches, v) := by
        unfold stretchesD
        rw [hi, if_neg Bool.false_ne_true]
      rw [e] at k
      refine ⟨_, pss_cons (ps_if (pt_not (pt_val (pe_call Gis_listG (hr.mono (by decide)) (by rfl) Nis_list.g Nis_list.kp Nis_list.b .nil pass0 (pa_cons (pv 0) (pa_cons (pv 1) (pa_cons (pv 1) pa_nil)))))) (pss_one (ps_raise rfl (takes_of rfl rfl rfl rfl) (pmk_oex ENoStretches.o ENoStretches.i ENoStretches.t (ok_NoStretches ES ENoStretches) (hr.mono (by decide)) ENoStretches.b .nil pass0 (by rfl) ENoStretches.g (pa_cons (pv 0) pa_nil)))) pss_nil)
      (pss_one (ps_for (passes_of rfl) rfl (pi_list (pv 0)) (pg_name (i := 2) sc_check_stretches.nd rfl (Or.inl rfl)) (pss_one (ps_if (pt_not (pt_val (pe_call Gis_stretchG (hr.mono (by decide)) (by rfl) Nis_stretch.g Nis_stretch.kp Nis_stretch.b .nil pass0 (pa_cons (pv 2) pa_nil)))) (pss_one (ps_raise rfl (takes_of rfl rfl rfl rfl) (pmk_oex ENoStretches.o ENoStretches.i ENoStretches.t (ok_NoStretches ES ENoStretches) (hr.mono (by decide)) ENoStretches.b .nil pass0 (by rfl) ENoStretches.g (pa_cons (pv 2) pa_nil)))) pss_nil)))), ?_⟩
      refine ⟨_, rfl, _, rfl, _, rfl, _, n, n, rfl, dp.1, fun H1 s1 => ?_⟩
      rw [hi]
      exact ⟨_, rfl, iteT ⟨_, rfl, made_one fun e he => k H1 e s1 he⟩⟩
    | true =>
      have e : stretchesD H n v = stD H ((seqOf H v).getD []) := by
        unfold stretchesD
        rw [hi, if_pos rfl]
      obtain ⟨a, xs, rfl, hq, ha, l2, l6⟩ := isl_true hi
      rw [e, hq] at k
      replace k : Wish cl (Same H) (stD H xs) Q E := k
      rcases ha with ha | ha
      · skip
        refine ⟨_, pss_cons (ps_if (pt_not (pt_val (pe_call Gis_listG (hr.mono (by decide)) (by rfl) Nis_list.g Nis_list.kp Nis_list.b .nil pass0 (pa_cons (pv 0) (pa_cons (pv 1) (pa_cons (pv 1) pa_nil)))))) (pss_one (ps_raise rfl (takes_of rfl rfl rfl rfl) (pmk_oex ENoStretches.o ENoStretches.i ENoStretches.t (ok_NoStretches ES ENoStretches) (hr.mono (by decide)) ENoStretches.b .nil pass0 (by rfl) ENoStretches.g (pa_cons (pv 0) pa_nil)))) pss_nil)
      (pss_one (ps_for (passes_of rfl) rfl (pi_list (pv 0)) (pg_name (i := 2) sc_check_stretches.nd rfl (Or.inl rfl)) (pss_one (ps_if (pt_not (pt_val (pe_call Gis_stretchG (hr.mono (by decide)) (by rfl) Nis_stretch.g Nis_stretch.kp Nis_stretch.b .nil pass0 (pa_cons (pv 2) pa_nil)))) (pss_one (ps_raise rfl (takes_of rfl rfl rfl rfl) (pmk_oex ENoStretches.o ENoStretches.i ENoStretches.t (ok_NoStretches ES ENoStretches) (hr.mono (by decide)) ENoStretches.b .nil pass0 (by rfl) ENoStretches.g (pa_cons (pv 2) pa_nil)))) pss_nil)))), ?_⟩
        refine ⟨_, rfl, _, rfl, _, rfl, _, n, n, rfl, dp.1, fun H1 s1 => ?_⟩
        rw [hi]
        refine ⟨_, rfl, iteF ?_⟩
        refine ⟨_, rfl, a, rfl, ⟨_, Nt.seq (K := K) (same_nt s1) (a := a) (xs := xs) (SqL.of ha)⟩, for_list (K := K) (a := a) (xs := xs) (fun i σ H' => ∃ v : Option V, σ = [some (.ref a), some (.int n), v] ∧ stD H (xs.drop i) = stD H xs ∧ Same H H')
          ⟨_, rfl, rfl, s1⟩ (fun i σ H' _ ⟨_, _, _, q⟩ => Nt.seq (same_nt q) (SqL.of ha)) ?_ ?_⟩
        · rintro i x σ H2 hx ⟨v, rfl, ep, k2⟩
          obtain ⟨thx, kx⟩ := dp.2 xs hq x (List.mem_of_getElem? hx)
          rw [drop_at hx] at ep
          have n2 := same_nt k2
          refine ⟨_, rfl, x, rfl, th_nt n2 thx, kx.nt n2 thx, fun H3 k3 => ?_⟩
          rw [st1_nt n2 thx]
          cases hp : st1 H x with
          | false =>
            rw [st_stop hp] at ep
            rw [← ep] at k
            exact ⟨_, rfl, iteT ⟨_, rfl, made_one fun e he => k H3 e (k2.trans k3) he⟩⟩
          | true =>
            rw [st_go hp] at ep
            exact ⟨_, rfl, iteF ⟨_, rfl, ep, k2.trans k3⟩⟩
        · rintro σ H2 ⟨v, rfl, ep, k2⟩
          rw [List.drop_length] at ep
          rw [← ep] at k
          exact k H2 k2
      · skip
        refine ⟨_, pss_cons (ps_if (pt_not (pt_val (pe_call Gis_listG (hr.mono (by decide)) (by rfl) Nis_list.g Nis_list.kp Nis_list.b .nil pass0 (pa_cons (pv 0) (pa_cons (pv 1) (pa_cons (pv 1) pa_nil)))))) (pss_one (ps_raise rfl (takes_of rfl rfl rfl rfl) (pmk_oex ENoStretches.o ENoStretches.i ENoStretches.t (ok_NoStretches ES ENoStretches) (hr.mono (by decide)) ENoStretches.b .nil pass0 (by rfl) ENoStretches.g (pa_cons (pv 0) pa_nil)))) pss_nil)
      (pss_one (ps_for (passes_of rfl) rfl (pi_tup (pv 0)) (pg_name (i := 2) sc_check_stretches.nd rfl (Or.inl rfl)) (pss_one (ps_if (pt_not (pt_val (pe_call Gis_stretchG (hr.mono (by decide)) (by rfl) Nis_stretch.g Nis_stretch.kp Nis_stretch.b .nil pass0 (pa_cons (pv 2) pa_nil)))) (pss_one (ps_raise rfl (takes_of rfl rfl rfl rfl) (pmk_oex ENoStretches.o ENoStretches.i ENoStretches.t (ok_NoStretches ES ENoStretches) (hr.mono (by decide)) ENoStretches.b .nil pass0 (by rfl) ENoStretches.g (pa_cons (pv 2) pa_nil)))) pss_nil)))), ?_⟩
        refine ⟨_, rfl, _, rfl, _, rfl, _, n, n, rfl, dp.1, fun H1 s1 => ?_⟩
        rw [hi]
        refine ⟨_, rfl, iteF ?_⟩
        refine ⟨_, rfl, a, rfl, ⟨_, Nt.seqT (K := K) (same_nt s1) (a := a) (xs := xs) (SqT.of ha)⟩, for_tup (K := K) (a := a) (xs := xs) (fun i σ H' => ∃ v : Option V, σ = [some (.ref a), some (.int n), v] ∧ stD H (xs.drop i) = stD H xs ∧ Same H H')
          ⟨_, rfl, rfl, s1⟩ (fun i σ H' _ ⟨_, _, _, q⟩ => Nt.seqT (same_nt q) (SqT.of ha)) ?_ ?_⟩
        · rintro i x σ H2 hx ⟨v, rfl, ep, k2⟩
          obtain ⟨thx, kx⟩ := dp.2 xs hq x (List.mem_of_getElem? hx)
          rw [drop_at hx] at ep
          have n2 := same_nt k2
          refine ⟨_, rfl, x, rfl, th_nt n2 thx, kx.nt n2 thx, fun H3 k3 => ?_⟩
          rw [st1_nt n2 thx]
          cases hp : st1 H x with
          | false =>
            rw [st_stop hp] at ep
            rw [← ep] at k
            exact ⟨_, rfl, iteT ⟨_, rfl, made_one fun e he => k H3 e (k2.trans k3) he⟩⟩
          | true =>
            rw [st_go hp] at ep
            exact ⟨_, rfl, iteF ⟨_, rfl, ep, k2.trans k3⟩⟩
        · rintro σ H2 ⟨v, rfl, ep, k2⟩
          rw [List.drop_length] at ep
          rw [← ep] at k
          exact k H2 k2
def spLongsX (cl : Tag → Addr) : Sp := fun vs H Q E => ∃ (v : V) (tp : Int), vs = [v, .int tp] ∧ Deep H v ∧ Wish cl (Same H) (longsD H tp v) Q E
theorem ok_longsX {f : Addr} {fd : FuncData} (F : Fun K "_check_longs" "_check_longs" s_check_longs f fd) (T : Txt mg) (ES : SeT K mg CS fS fdS sSE)
    (ENoLongs : ExC K mg "NoLongs" "NoLongs.__init__" sNoLongs (cl .longs) g1 gd1)
    (Nis_list : Fn K mg "is_list" s_is_list ["thing", "low", "high"] f1 fd1) (Gis_listG : FnOk P w K mg base CX0 1 f1 fd1 ["thing", "low", "high"] spIsListG)
    (Nis_long : Fn K mg "_is_long" s_is_long ["thing", "low", "top"] f2 fd2) (Gis_longG : FnOk P w K mg base CX0 2 f2 fd2 ["thing", "low", "top"] spIsLongG) :
    FnOk P w K mg base (CX P w) 4 f fd ["longs", "top"] (spLongsX cl) := by
  refine F.okX sc_check_longs (fun vs H Q E h => ?_) (fun cdv A outer s H vs Q E hr h => ?_)
  · obtain ⟨v, n, rfl, _⟩ := h
    rfl
  · obtain ⟨v, tp, rfl, dp, k⟩ := h
    cases hi : isl H 0 2 v with
    | false =>
      have e : longsD H tp v = some (.longs, v) := by
        unfold longsD
        rw [hi, if_neg Bool.false_ne_true]
      rw [e] at k
      refine ⟨_, pss_cons (ps_if (pt_not (pt_val (pe_call Gis_listG (hr.mono (by decide)) (by rfl) Nis_list.g Nis_list.kp Nis_list.b .nil pass0 (pa_cons (pv 0) (pa_cons pe_int (pa_cons pe_int pa_nil)))))) (pss_one (ps_raise rfl (takes_of rfl rfl rfl rfl) (pmk_oex ENoLongs.o ENoLongs.i ENoLongs.t (ok_NoLongs ES ENoLongs) (hr.mono (by decide)) ENoLongs.b .nil pass0 (by rfl) ENoLongs.g (pa_cons (pv 0) pa_nil)))) pss_nil)
      (pss_cons (ps_set (i := 2) sc_check_longs.nd rfl (Or.inl rfl) pe_int)
      (pss_one (ps_for (passes_of rfl) rfl (pi_list (pv 0)) (pg_name (i := 3) sc_check_longs.nd rfl (Or.inl rfl)) (pss_cons (ps_if (pt_not (pt_val (pe_call Gis_longG (hr.mono (by decide)) (by rfl) Nis_long.g Nis_long.kp Nis_long.b .nil pass0 (pa_cons (pv 3) (pa_cons (pv 2) (pa_cons (pv 1) pa_nil)))))) (pss_one (ps_raise rfl (takes_of rfl rfl rfl rfl) (pmk_oex ENoLongs.o ENoLongs.i ENoLongs.t (ok_NoLongs ES ENoLongs) (hr.mono (by decide)) ENoLongs.b .nil pass0 (by rfl) ENoLongs.g (pa_cons (pv 3) pa_nil)))) pss_nil)
          (pss_one (ps_set (i := 2) sc_check_longs.nd rfl (Or.inl rfl) (pe_ix ix_tup (pv 3) pe_int (fun _ _ => rfl)))))))), ?_⟩
      refine ⟨_, rfl, _, 0, 2, rfl, dp.1, fun H1 s1 => ?_⟩
      rw [hi]
      exact ⟨_, rfl, iteT ⟨_, rfl, made_one fun e he => k H1 e s1 he⟩⟩
    | true =>
      have e : longsD H tp v = loD H tp 0 ((seqOf H v).getD []) := by
        unfold longsD
        rw [hi, if_pos rfl]
      obtain ⟨a, xs, rfl, hq, ha, l2, l6⟩ := isl_true hi
      rw [e, hq] at k
      replace k : Wish cl (Same H) (loD H tp 0 xs) Q E := k
      rcases ha with ha | ha
      · skip
        refine ⟨_, pss_cons (ps_if (pt_not (pt_val (pe_call Gis_listG (hr.mono (by decide)) (by rfl) Nis_list.g Nis_list.kp Nis_list.b .nil pass0 (pa_cons (pv 0) (pa_cons pe_int (pa_cons pe_int pa_nil)))))) (pss_one (ps_raise rfl (takes_of rfl rfl rfl rfl) (pmk_oex ENoLongs.o ENoLongs.i ENoLongs.t (ok_NoLongs ES ENoLongs) (hr.mono (by decide)) ENoLongs.b .nil pass0 (by rfl) ENoLongs.g (pa_cons (pv 0) pa_nil)))) pss_nil)
      (pss_cons (ps_set (i := 2) sc_check_longs.nd rfl (Or.inl rfl) pe_int)
      (pss_one (ps_for (passes_of rfl) rfl (pi_list (pv 0)) (pg_name (i := 3) sc_check_longs.nd rfl (Or.inl rfl)) (pss_cons (ps_if (pt_not (pt_val (pe_call Gis_longG (hr.mono (by decide)) (by rfl) Nis_long.g Nis_long.kp Nis_long.b .nil pass0 (pa_cons (pv 3) (pa_cons (pv 2) (pa_cons (pv 1) pa_nil)))))) (pss_one (ps_raise rfl (takes_of rfl rfl rfl rfl) (pmk_oex ENoLongs.o ENoLongs.i ENoLongs.t (ok_NoLongs ES ENoLongs) (hr.mono (by decide)) ENoLongs.b .nil pass0 (by rfl) ENoLongs.g (pa_cons (pv 3) pa_nil)))) pss_nil)
          (pss_one (ps_set (i := 2) sc_check_longs.nd rfl (Or.inl rfl) (pe_ix ix_tup (pv 3) pe_int (fun _ _ => rfl)))))))), ?_⟩
        refine ⟨_, rfl, _, 0, 2, rfl, dp.1, fun H1 s1 => ?_⟩
        rw [hi]
        refine ⟨_, rfl, iteF ?_⟩
        refine ⟨_, rfl, a, rfl, ⟨_, Nt.seq (K := K) (same_nt s1) (a := a) (xs := xs) (SqL.of ha)⟩, for_list (K := K) (a := a) (xs := xs) (fun i σ H' => ∃ (v : Option V) (low : Int), σ = [some (.ref a), some (.int tp), some (.int low), v] ∧ loD H tp low (xs.drop i) = loD H tp 0 xs ∧ Same H H')
          ⟨_, _, rfl, rfl, s1⟩ (fun i σ H' _ ⟨_, _, _, _, q⟩ => Nt.seq (same_nt q) (SqL.of ha)) ?_ ?_⟩
        · rintro i x σ H2 hx ⟨v, low, rfl, ep, k2⟩
          obtain ⟨thx, kx⟩ := dp.2 xs hq x (List.mem_of_getElem? hx)
          rw [drop_at hx] at ep
          have n2 := same_nt k2
          refine ⟨_, rfl, _, rfl, _, rfl, x, low, tp, rfl, th_nt n2 thx, kx.nt n2 thx, ?_⟩
          rw [lo1_nt n2 thx]
          cases hp : lo1 H low tp x with
          | false =>
            rw [lo_stop hp] at ep
            rw [← ep] at k
            exact ⟨_, rfl, iteT ⟨_, rfl, made_one fun e he => k H2 e k2 he⟩⟩
          | true =>
            rw [lo_go hp] at ep
            obtain ⟨t, fi, la, q, rfl, ht, en⟩ := lo1_true hp
            rw [en] at ep
            exact ⟨_, rfl, iteF ⟨_, rfl, t, _, 1, .int la, rfl, rfl, SqT.of (k2 _ _ ht), rfl, _, la, rfl, ep, k2⟩⟩
        · rintro σ H2 ⟨v, low, rfl, ep, k2⟩
          rw [List.drop_length] at ep
          rw [← ep] at k
          exact k H2 k2
      · skip
        refine ⟨_, pss_cons (ps_if (pt_not (pt_val (pe_call Gis_listG (hr.mono (by decide)) (by rfl) Nis_list.g Nis_list.kp Nis_list.b .nil pass0 (pa_cons (pv 0) (pa_cons pe_int (pa_cons pe_int pa_nil)))))) (pss_one (ps_raise rfl (takes_of rfl rfl rfl rfl) (pmk_oex ENoLongs.o ENoLongs.i ENoLongs.t (ok_NoLongs ES ENoLongs) (hr.mono (by decide)) ENoLongs.b .nil pass0 (by rfl) ENoLongs.g (pa_cons (pv 0) pa_nil)))) pss_nil)
      (pss_cons (ps_set (i := 2) sc_check_longs.nd rfl (Or.inl rfl) pe_int)
      (pss_one (ps_for (passes_of rfl) rfl (pi_tup (pv 0)) (pg_name (i := 3) sc_check_longs.nd rfl (Or.inl rfl)) (pss_cons (ps_if (pt_not (pt_val (pe_call Gis_longG (hr.mono (by decide)) (by rfl) Nis_long.g Nis_long.kp Nis_long.b .nil pass0 (pa_cons (pv 3) (pa_cons (pv 2) (pa_cons (pv 1) pa_nil)))))) (pss_one (ps_raise rfl (takes_of rfl rfl rfl rfl) (pmk_oex ENoLongs.o ENoLongs.i ENoLongs.t (ok_NoLongs ES ENoLongs) (hr.mono (by decide)) ENoLongs.b .nil pass0 (by rfl) ENoLongs.g (pa_cons (pv 3) pa_nil)))) pss_nil)
          (pss_one (ps_set (i := 2) sc_check_longs.nd rfl (Or.inl rfl) (pe_ix ix_tup (pv 3) pe_int (fun _ _ => rfl)))))))), ?_⟩
        refine ⟨_, rfl, _, 0, 2, rfl, dp.1, fun H1 s1 => ?_⟩
        rw [hi]
        refine ⟨_, rfl, iteF ?_⟩
        refine ⟨_, rfl, a, rfl, ⟨_, Nt.seqT (K := K) (same_nt s1) (a := a) (xs := xs) (SqT.of ha)⟩, for_tup (K := K) (a := a) (xs := xs) (fun i σ H' => ∃ (v : Option V) (low : Int), σ = [some (.ref a), some (.int tp), some (.int low), v] ∧ loD H tp low (xs.drop i) = loD H tp 0 xs ∧ Same H H')
          ⟨_, _, rfl, rfl, s1⟩ (fun i σ H' _ ⟨_, _, _, _, q⟩ => Nt.seqT (same_nt q) (SqT.of ha)) ?_ ?_⟩
        · rintro i x σ H2 hx ⟨v, low, rfl, ep, k2⟩
          obtain ⟨thx, kx⟩ := dp.2 xs hq x (List.mem_of_getElem? hx)
          rw [drop_at hx] at ep
          have n2 := same_nt k2
          refine ⟨_, rfl, _, rfl, _, rfl, x, low, tp, rfl, th_nt n2 thx, kx.nt n2 thx, ?_⟩
          rw [lo1_nt n2 thx]
          cases hp : lo1 H low tp x with
          | false =>
            rw [lo_stop hp] at ep
            rw [← ep] at k
            exact ⟨_, rfl, iteT ⟨_, rfl, made_one fun e he => k H2 e k2 he⟩⟩
          | true =>
            rw [lo_go hp] at ep
            obtain ⟨t, fi, la, q, rfl, ht, en⟩ := lo1_true hp
            rw [en] at ep
            exact ⟨_, rfl, iteF ⟨_, rfl, t, _, 1, .int la, rfl, rfl, SqT.of (k2 _ _ ht), rfl, _, la, rfl, ep, k2⟩⟩
        · rintro σ H2 ⟨v, low, rfl, ep, k2⟩
          rw [List.drop_length] at ep
          rw [← ep] at k
          exact k H2 k2
end
end K4

set_option maxRecDepth 100000
set_option maxHeartbeats 4000000
namespace K4
open PySem PySem.Spec PyProof.Rows L2 GxR Gd TL My
theorem pl_all {H : Hp} : ∀ {xs : List V} {as : List Str}, plD H as xs = none → ∀ x ∈ xs, ∃ t z q, x = .ref t ∧ H t = some (.tup [.str z, q])
  | [], _, _, _, hx => by cases hx
  | v :: r, as, h, x, hx => by
    cases hp : pl1 H as v with
    | some d =>
      rw [pl1_stop hp] at h
      cases h
    | none =>
      rw [pl1_snoc hp] at h
      rcases List.mem_cons.mp hx with rfl | hx
      · obtain ⟨t, z, q, e, ht, _⟩ := pl1_none hp
        exact ⟨t, z, q, e, ht⟩
      · exact pl_all h x hx
def manyOf (H : Hp) (v : V) : Int := (((seqOf H v).getD []).length : Int)
def dueD (H : Hp) (v1 v2 v3 : V) : Due := match placesD H v1 with
  | some d => some d
  | none => match stretchesD H (manyOf H v1 - 1) v2 with
    | some d => some d
    | none => if v3 = .non then none else longsD H (manyOf H v1 - 1) v3
def rowsOf (H : Hp) (v : V) : Option (List V) := if v = .non then some [] else seqOf H v
theorem seqX {K : PySem.W.Frag} {H : Hp} {a : Addr} {xs : List V} (h : seqOf H (.ref a) = some xs) : SqX K H a xs := by
  obtain ⟨b, e, h⟩ := seq_some h
  obtain rfl := V.ref.inj e
  rcases h with h | h
  · exact .inl (SqL.of h)
  · exact .inr (SqT.of h)
theorem stD_nt {H H' : Hp} (e : Nt H H') : ∀ {xs : List V}, (∀ x ∈ xs, Th H x) → stD H' xs = stD H xs
  | [], _ => rfl
  | v :: r, h => by
    show (if st1 H' v = true then stD H' r else some (.stretches, v)) = (if st1 H v = true then stD H r else some (.stretches, v))
    rw [st1_nt e (h v (by simp)), stD_nt e (fun x hx => h x (by simp [hx]))]
theorem loD_nt {H H' : Hp} (e : Nt H H') (top : Int) : ∀ {xs : List V} {low : Int}, (∀ x ∈ xs, Th H x) → loD H' top low xs = loD H top low xs
  | [], _, _ => rfl
  | v :: r, low, h => by
    show (if lo1 H' low top v = true then loD H' top (lastLo H' v) r else some (.longs, v)) = (if lo1 H low top v = true then loD H top (lastLo H v) r else some (.longs, v))
    have el : lastLo H' v = lastLo H v := by
      unfold lastLo
      rw [tup_nt e (h v (by simp))]
    rw [lo1_nt e (h v (by simp)), el, loD_nt e top (fun x hx => h x (by simp [hx]))]
theorem isl_nt {H H' : Hp} (e : Nt H H') {v : V} (th : Th H v) (lo hi : Int) : isl H' lo hi v = isl H lo hi v := by
  unfold isl
  rw [seq_nt e th]
theorem stretchesD_nt {H H' : Hp} (e : Nt H H') {v : V} (d : Deep H v) (n : Int) : stretchesD H' n v = stretchesD H n v := by
  unfold stretchesD
  rw [isl_nt e d.1, seq_nt e d.1]
  cases hs : seqOf H v with
  | none => rfl
  | some xs =>
    have e1 := stD_nt e (xs := xs) fun x hx => d.kids xs hs x hx
    show (if _ then stD H' xs else _) = (if _ then stD H xs else _)
    rw [e1]
theorem longsD_nt {H H' : Hp} (e : Nt H H') {v : V} (d : Deep H v) (n : Int) : longsD H' n v = longsD H n v := by
  unfold longsD
  rw [isl_nt e d.1, seq_nt e d.1]
  cases hs : seqOf H v with
  | none => rfl
  | some xs =>
    have e1 := loD_nt e n (low := 0) (xs := xs) fun x hx => d.kids xs hs x hx
    show (if _ then loD H' n 0 xs else _) = (if _ then loD H n 0 xs else _)
    rw [e1]
theorem ls_seq {H H' : Hp} (e : Ls H H') {v : V} {xs : List V} (h : seqOf H v = some xs) : seqOf H' v = some xs := by
  obtain ⟨a, rfl, h | h⟩ := seq_some h
  · exact seq_lst (e _ _ (by simp) (by simp) h)
  · exact seq_tup (e _ _ (by simp) (by simp) h)
theorem longs_empty (H : Hp) (top : Int) (a : Addr) (h : H a = some (.tup [])) : longsD H top (.ref a) = none := by
  unfold longsD isl
  rw [seq_tup h]
  rfl
theorem deep_empty {H : Hp} {a : Addr} (h : H a = some (.tup [])) : Deep H (.ref a) := ⟨.tup a [] h, fun xs e x hx => by
  rw [seq_tup h] at e
  obtain rfl := Option.some.inj e
  cases hx⟩
theorem fld_readG {K : PySem.W.Frag} {D : Ends} {σ : L2.St} {H : Hp} {i : Nat} {a x C dx : Addr} {xs : List V} {f : Str} {fs : List (Str × V)} (h0 : σ[0]? = some (some (.ref x))) (hv : σ[i]? = some (some (.ref a))) (hx : H x = some (.ins C dx fs)) (c : Cls K C) (n : NoAttr K C f) (l : fs.length < 1000)
    (h : seqOf H (.ref a) = some xs) (k : ∀ p H', Same H H' → H' p = some (.tup xs) → D.nx σ (upd H' x (.ins C dx (putF f (.ref p) fs)))) :
    sFld K (tVar 0) (tCB (fun xs H Q => ∃ p ys, xs = [V.ref p] ∧ ((SqL K H p ys ∧ ∀ l, H l = none → Q (.ref l) (upd H l (.tup ys))) ∨ (SqT K H p ys ∧ Q (.ref p) H))) (tCons (tVar i) tNil)) f D σ H := by
  obtain ⟨b, e, h⟩ := seq_some h
  obtain rfl := V.ref.inj e
  refine ⟨_, hv, a, xs, rfl, ?_⟩
  rcases h with h | h
  · exact .inl ⟨SqL.of h, fun p hp => ⟨_, h0, x, C, dx, fs, rfl, same_alloc hp _ _ hx, c, n, l, k p _ (same_alloc hp) upd_same⟩⟩
  · exact .inr ⟨SqT.of h, _, h0, x, C, dx, fs, rfl, hx, c, n, l, k a H (Same.refl H) h⟩
/-- the rows that are asked, and a new empty tuple where there are none -/
theorem rows_readG {σ : L2.St} {H : Hp} {v : V} {G : VK} (hv : σ[3]? = some (some v)) (dp : Deep H v)
    (k : ∀ u H', Same H H' → Deep H' u → (v = .non → ∃ a, u = .ref a ∧ H' a = some (.tup [])) → (v ≠ .non → u = v) → G u H') :
    tIf (tTest (tOp (fun x y H Q => y = V.non ∧ Q (V.bl (decide (x = V.non))) H) (tVar 3) (tC V.non))) (tTup tNil) (tVar 3) σ H G := by
  refine ⟨v, hv, rfl, _, rfl, ?_⟩
  by_cases h : v = .non
  · rw [decide_eq_true h]
    refine iteT ⟨Nat.zero_le _, fun p hp => ?_⟩
    exact k _ _ (same_alloc hp) (deep_empty upd_same) (fun _ => ⟨p, rfl, upd_same⟩) (fun n => absurd h n)
  · rw [decide_eq_false h]
    exact iteF ⟨_, hv, k v H (Same.refl H) dp (fun e => absurd e h) fun _ => rfl⟩
section
variable {P : Program} {w : World} {K : PySem.W.Frag} {mg : Str → Option Value} {base : Heap}
theorem FunV.okX {x qual : Str} {st : Stmt} {f : Addr} {fd : FuncData} {N ps : List Str} {k : Nat} {sp : Sp} (F : FunV K x qual st f fd) (S : FnScope N ps (defScope st)) (len : ∀ vs H Q E, sp vs H Q E → vs.length = ps.length)
    (hbody : ∀ (cdv : Value) (A : Around) (outer : List Env) (s : Shared) (H : Hp) (vs : List V) (Q : VK) (E : XK), Room k (A.deeper (envOfC qual (defScope st) s.heap.objs.size f cdv)) → sp vs H Q E →
      ∃ t, PSs (cxOf (CX P w) P w K mg base N qual (defScope st) f cdv A outer s H E) (defBody st) t ∧ t { nx := fun _ H' => Q .non H', rt := Q } (start N vs) H) : FnOk P w K mg base (CX P w) (k + 1) f fd ps sp := by
  obtain ⟨oc, od, dV, kV, doc, pm, an, cdv, ct, osl, rfl, lk, hcd⟩ := F.ex
  exact fn_of lk hcd S len fun A outer s H vs Q E hr hsp => hbody cdv A outer s H vs Q E hr hsp
variable {cl : Tag → Addr} {C CS fS f1 f2 f3 : Addr} {fdS fd1 fd2 fd3 : FuncData}
def LnAt (K : PySem.W.Frag) (C : Addr) (H : Hp) (x : Addr) (xs1 xs2 xs3 : List V) : Prop := ∃ dx p1 p2 p3 d, H x = some (.ins C dx (lf p1 p2 p3 d)) ∧ H p1 = some (.tup xs1) ∧ H p2 = some (.tup xs2) ∧ H p3 = some (.tup xs3)
def spInitX (K : PySem.W.Frag) (C : Addr) (cl : Tag → Addr) (Pt : Addr) : Sp := fun vs H Q E => ∃ (x dx : Addr) (v1 v2 v3 : V), vs = [.ref x, v1, v2, v3] ∧ H x = some (.ins C dx []) ∧ Deep H v1 ∧ Deep H v2 ∧ Deep H v3 ∧ TabG H Pt ∧
  (∀ t u, dueD H v1 v2 v3 = some (t, u) → ∀ H' e, KI x Pt H H' → H' e = none → E (.ref (cl t)) (some e) (upd H' e (.xd [("found", u)]))) ∧
  (dueD H v1 v2 v3 = none → ∀ H' xs1 xs2 xs3, KI x Pt H H' → seqOf H v1 = some xs1 → seqOf H v2 = some xs2 → rowsOf H v3 = some xs3 → LnAt K C H' x xs1 xs2 xs3 → Q .non H')
theorem ok_initX {f Pt : Addr} {fd : FuncData} (F : FunV K "__init__" "Line.__init__" s_init f fd) (T : Txt mg) (TC : ClsT K C)
    (Ncheck_places : Fn K mg "_check_places" s_check_places ["places"] f1 fd1) (GplacesX : FnOk P w K mg base (CX P w) 5 f1 fd1 ["places"] (spPlacesX cl Pt))
    (Ncheck_stretches : Fn K mg "_check_stretches" s_check_stretches ["stretches", "many"] f2 fd2) (GstretchesX : FnOk P w K mg base (CX P w) 4 f2 fd2 ["stretches", "many"] (spStretchesX cl))
    (Ncheck_longs : Fn K mg "_check_longs" s_check_longs ["longs", "top"] f3 fd3) (GlongsX : FnOk P w K mg base (CX P w) 4 f3 fd3 ["longs", "top"] (spLongsX cl)) :
    FnOk P w K mg base (CX P w) 6 f fd ["self", "places", "stretches", "longs"] (spInitX K C cl Pt) := by
  refine F.okX sc_init (fun vs H Q E h => ?_) (fun cdv A outer s H vs Q E hr h => ?_)
  · obtain ⟨x, dx, v1, v2, v3, rfl, _⟩ := h
    rfl
  · obtain ⟨x, dx, v1, v2, v3, rfl, hx, d1, d2, d3, tb, kE, kQ⟩ := h
    have nxP : x ≠ Pt := ne_tab tb hx (by simp)
    rcases Classical.em (∃ a xs, v1 = .ref a ∧ H a = some (.tup xs)) with ht | hl0
    · skip
      refine ⟨_, pss_cons (ps_expr (pe_call GplacesX (hr.mono (by decide)) (by rfl) Ncheck_places.g Ncheck_places.kp Ncheck_places.b .nil (passes_call (takes_of rfl rfl rfl rfl) (fun _ _ _ _ h => h)) (pa_cons (pv 1) pa_nil)))
      (pss_cons (ps_set (i := 4) sc_init.nd rfl (Or.inl rfl) (pe_op op_sub (pe_callB call_len_seq (by rfl) T.len_ PySem.boot_len (pa_cons (pv 1) pa_nil)) pe_int))
      (pss_cons (ps_expr (pe_call GstretchesX (hr.mono (by decide)) (by rfl) Ncheck_stretches.g Ncheck_stretches.kp Ncheck_stretches.b .nil (passes_call (takes_of rfl rfl rfl rfl) (fun _ _ _ _ h => h)) (pa_cons (pv 2) (pa_cons (pv 4) pa_nil))))
      (pss_cons (ps_set (i := 5) sc_init.nd rfl (Or.inl rfl) (pe_ifExp (pt_cmpR op_isN (pv 3) pe_non (nomark _)) (pe_tup pa_nil) (pv 3)))
      (pss_cons (ps_expr (pe_call GlongsX (hr.mono (by decide)) (by rfl) Ncheck_longs.g Ncheck_longs.kp Ncheck_longs.b .nil (passes_call (takes_of rfl rfl rfl rfl) (fun _ _ _ _ h => h)) (pa_cons (pv 5) (pa_cons (pv 4) pa_nil))))
      (pss_cons (ps_fld (pv 0) (pe_callTy call_tuple_of (by rfl) T.tuple_ (by decide +kernel) (pa_cons (pv 1) pa_nil)) rfl)
      (pss_cons (ps_fld (pv 0) (pe_callTy call_tuple_of (by rfl) T.tuple_ (by decide +kernel) (pa_cons (pv 2) pa_nil)) rfl)
      (pss_cons (ps_fld (pv 0) (pe_callTy call_tuple_of (by rfl) T.tuple_ (by decide +kernel) (pa_cons (pv 5) pa_nil)) rfl)
      (pss_one (ps_fld (pv 0) (pe_dc (own := [("number", 6), ("name", 7), ("_", 8)]) (g := gTup K 2 (gCons (gName 6) (gCons (gTup K 2 (gCons (gName 7) (gCons (gName 8) gNil))) gNil))) (tt := tYes) rfl sc_init.nd (pi_enumT (by rfl) T.enumerate_ (pa_cons (pv 1) pa_nil)) (blkOk_by (own := [("number", 6), ("name", 7), ("_", 8)]) (N := ["self", "places", "stretches", "longs", "top", "rows", "number", "name", "_"]) (sc := defScope s_init) (by decide +kernel)) (fun _ _ _ _ _ => (pg_tup (by rfl) (pgs_cons (pg_name (i := 6) sc_init.nd rfl (Or.inl rfl)) (pgs_cons (pg_tup (by rfl) (pgs_cons (pg_name (i := 7) sc_init.nd rfl (Or.inl rfl)) (pgs_cons (pg_name (i := 8) sc_init.nd rfl (Or.inl rfl)) pgs_nil))) pgs_nil)))) (fun _ _ _ _ _ => pts_nil) (fun _ _ _ _ _ => pv 7) (fun _ _ _ _ _ => pv 6)) rfl))))))))), ?_⟩
      refine ⟨_, rfl, v1, rfl, d1, tb, ?_⟩
      cases hp : placesD H v1 with
      | some d =>
        obtain ⟨t, u⟩ := d
        exact fun H' e h he => kE t u (by unfold dueD; rw [hp]) H' e (KI.of h) he
      | none =>
        have hi : isl H 2 6 v1 = true := by
          cases q : isl H 2 6 v1 with
          | true => rfl
          | false =>
            unfold placesD at hp
            rw [q, if_neg Bool.false_ne_true] at hp
            cases hp
        obtain ⟨a1, xs1, rfl, hq1, ha1, l2, l6⟩ := isl_true hi
        have all := pl_all (as := []) (xs := xs1) (H := H) (by
          have e : placesD H (.ref a1) = plD H [] ((seqOf H (.ref a1)).getD []) := by
            unfold placesD
            rw [hi, if_pos rfl]
          rw [e, hq1] at hp
          exact hp)
        have em : manyOf H (.ref a1) = (xs1.length : Int) := by
          unfold manyOf
          rw [hq1]
          rfl
        have due2 : dueD H (.ref a1) v2 v3 = match stretchesD H ((xs1.length : Int) - 1) v2 with
            | some d => some d
            | none => if v3 = .non then none else longsD H ((xs1.length : Int) - 1) v3 := by
          unfold dueD
          rw [hp, em]
        rw [due2] at kE kQ
        intro H1 k1
        have i1 : KI x Pt H H1 := KI.of k1
        have n1 := KT.nt tb k1
        have e1 := i1.ls hx tb
        have hx1 := n1 x _ (by simp) hx
        refine ⟨_, rfl, a1, xs1, rfl, e1.seqX (seqX hq1), _, _, rfl, rfl, ?_⟩
        refine ⟨_, rfl, _, rfl, v2, (xs1.length : Int) - 1, rfl, d2.nt n1, ?_⟩
        rw [stretchesD_nt n1 d2]
        cases hs : stretchesD H ((xs1.length : Int) - 1) v2 with
        | some d =>
          obtain ⟨t, u⟩ := d
          rw [hs] at kE
          exact fun H' e h he => kE t u rfl H' e (i1.trans (KI.same i1.tab h)) he
        | none =>
          rw [hs] at kE kQ
          replace kE : ∀ t u, (if v3 = V.non then none else longsD H ((xs1.length : Int) - 1) v3) = some (t, u) → _ := kE
          replace kQ : (if v3 = V.non then none else longsD H ((xs1.length : Int) - 1) v3) = none → _ := kQ
          have hi2 : isl H ((xs1.length : Int) - 1) ((xs1.length : Int) - 1) v2 = true := by
            cases q : isl H ((xs1.length : Int) - 1) ((xs1.length : Int) - 1) v2 with
            | true => rfl
            | false =>
              unfold stretchesD at hs
              rw [q, if_neg Bool.false_ne_true] at hs
              cases hs
          obtain ⟨a2, xs2, rfl, hq2, _, _, _⟩ := isl_true hi2
          intro H2 s2
          have i2 := i1.trans (KI.same (x := x) i1.tab s2)
          have n2 := n1.trans (same_nt s2)
          refine rows_readG (σ := _) rfl (d3.nt n2) (fun u H3 s3 du u1 u2 => ?_)
          have n3 := n2.trans (same_nt s3)
          have i3 := i2.trans (KI.same (x := x) i2.tab s3)
          have key : longsD H3 ((xs1.length : Int) - 1) u = if v3 = V.non then none else longsD H ((xs1.length : Int) - 1) v3 := by
            by_cases hn : v3 = .non
            · obtain ⟨a, rfl, ha⟩ := u1 hn
              rw [longs_empty _ _ _ ha, if_pos hn]
            · obtain rfl := u2 hn
              rw [longsD_nt n3 d3, if_neg hn]
          refine ⟨_, rfl, _, rfl, u, (xs1.length : Int) - 1, rfl, du, ?_⟩
          rw [← key] at kE kQ
          cases hl : longsD H3 ((xs1.length : Int) - 1) u with
          | some d =>
            obtain ⟨t, z⟩ := d
            rw [hl] at kE
            exact fun H' e h he => kE t z rfl H' e (i3.trans (KI.same i3.tab h)) he
          | none =>
            have hi3 : isl H3 0 2 u = true := by
              cases q : isl H3 0 2 u with
              | true => rfl
              | false =>
                unfold longsD at hl
                rw [q, if_neg Bool.false_ne_true] at hl
                cases hl
            obtain ⟨a3, xs3, rfl, hq3, _, _, _⟩ := isl_true hi3
            have hr3 : rowsOf H v3 = some xs3 := by
              unfold rowsOf
              by_cases hn : v3 = .non
              · obtain ⟨a, ea, ha⟩ := u1 hn
                obtain rfl := V.ref.inj ea
                rw [seq_tup ha] at hq3
                rw [if_pos hn, Option.some.inj hq3]
              · rw [if_neg hn, ← seq_nt n3 d3.1, ← u2 hn]
                exact hq3
            have kF := fun H' h4 h5 => kQ hl H' xs1 xs2 xs3 h4 hq1 hq2 hr3 h5
            clear kE kQ hl hi3 hs hi2 hi hp key due2 u1 u2 em
            intro H4 s4
            have i4 := i3.trans (KI.same (x := x) i3.tab s4)
            have e4 := i4.ls hx tb
            have hx4 := s4 _ _ (s3 _ _ (s2 _ _ hx1))
            refine fld_readG (i := 1) rfl rfl hx4 TC.cl TC.n1 (by decide) (ls_seq e4 hq1) (fun p1 H5 s5 hp1 => ?_)
            have j5 := i4.trans (KI.same (x := x) i4.tab s5)
            have i6 := j5.trans (KI.put (o := .ins C dx (putF "_places" (.ref p1) [])) j5.tab nxP)
            have hx6 : (upd H5 x (.ins C dx (putF "_places" (.ref p1) []))) x = some (.ins C dx (putF "_places" (.ref p1) [])) := upd_same
            have u6 : Ls H5 (upd H5 x (.ins C dx (putF "_places" (.ref p1) []))) := (KI.put j5.tab nxP).ls (s5 _ _ hx4) j5.tab
            generalize upd H5 x (.ins C dx (putF "_places" (.ref p1) [])) = H6 at i6 hx6 u6 ⊢
            have e6 := i6.ls hx tb
            refine fld_readG (i := 2) rfl rfl hx6 TC.cl TC.n2 (Nat.lt_of_le_of_lt (length_putF _ _ _) (by decide)) (ls_seq e6 hq2) (fun p2 H7 s7 hp2 => ?_)
            have j7 := i6.trans (KI.same (x := x) i6.tab s7)
            have i8 := j7.trans (KI.put (o := .ins C dx (putF "_stretches" (.ref p2) (putF "_places" (.ref p1) []))) j7.tab nxP)
            have hx8 : (upd H7 x (.ins C dx (putF "_stretches" (.ref p2) (putF "_places" (.ref p1) [])))) x = some (.ins C dx (putF "_stretches" (.ref p2) (putF "_places" (.ref p1) []))) := upd_same
            have u8 : Ls H7 (upd H7 x (.ins C dx (putF "_stretches" (.ref p2) (putF "_places" (.ref p1) [])))) := (KI.put j7.tab nxP).ls (s7 _ _ hx6) j7.tab
            generalize upd H7 x (.ins C dx (putF "_stretches" (.ref p2) (putF "_places" (.ref p1) []))) = H8 at i8 hx8 u8 ⊢
            have lf8 : (putF "_stretches" (.ref p2) (putF "_places" (.ref p1) [])).length ≤ 2 := Nat.le_trans (length_putF _ _ _) (Nat.succ_le_succ (length_putF _ _ _))
            have e38 : Ls H3 H8 := (((((same_ls s4).trans (same_ls s5)).trans u6).trans (same_ls s7)).trans u8)
            refine fld_readG (i := 5) rfl rfl hx8 TC.cl TC.n3 (Nat.lt_of_le_of_lt lf8 (by decide)) (ls_seq e38 hq3) (fun p3 H9 s9 hp3 => ?_)
            have j9 := i8.trans (KI.same (x := x) i8.tab s9)
            have iA := j9.trans (KI.put (o := .ins C dx (putF "_longs" (.ref p3) (putF "_stretches" (.ref p2) (putF "_places" (.ref p1) [])))) j9.tab nxP)
            have hxA : (upd H9 x (.ins C dx (putF "_longs" (.ref p3) (putF "_stretches" (.ref p2) (putF "_places" (.ref p1) []))))) x = some (.ins C dx (putF "_longs" (.ref p3) (putF "_stretches" (.ref p2) (putF "_places" (.ref p1) [])))) := upd_same
            have uA : Ls H9 (upd H9 x (.ins C dx (putF "_longs" (.ref p3) (putF "_stretches" (.ref p2) (putF "_places" (.ref p1) []))))) := (KI.put j9.tab nxP).ls (s9 _ _ hx8) j9.tab
            generalize upd H9 x (.ins C dx (putF "_longs" (.ref p3) (putF "_stretches" (.ref p2) (putF "_places" (.ref p1) [])))) = HA at iA hxA uA ⊢
            have eA := iA.ls hx tb
            have hp1A : HA p1 = some (.tup xs1) := ((((u6.trans (same_ls s7)).trans u8).trans (same_ls s9)).trans uA) _ _ (by simp) (by simp) hp1
            have hp2A : HA p2 = some (.tup xs2) := ((u8.trans (same_ls s9)).trans uA) _ _ (by simp) (by simp) hp2
            have hp3A : HA p3 = some (.tup xs3) := uA _ _ (by simp) (by simp) hp3
            have ha1 : H a1 = some (.tup xs1) := by
              obtain ⟨a, ys, e, h⟩ := ht
              obtain rfl := V.ref.inj e
              rw [seq_tup h] at hq1
              rw [h, Option.some.inj hq1]
            have hsA : SqT K HA a1 xs1 := SqT.of (eA _ _ (by simp) (by simp) ha1)
            refine ⟨_, rfl, a1, xs1, rfl, hsA, fun D hD => dc_it (walk_enumT (K := K) (xs := xs1)) (fun i H' => KB D HA H' ∧ ∃ kvs : List (Key × V), H' D = some (.dK kvs) ∧ kvs.length ≤ i) ?_ ?_ ?_ ?_⟩
            · exact ⟨KB.alloc hD, [], upd_same, Nat.zero_le _⟩
            · rintro i H' hi ⟨kb, _⟩
              exact (KB.seq' hD kb).seqT hsA
            · rintro i v H' H'' hi ⟨kb, kvs, hk1, hk2⟩ ⟨T1, X, Y, rfl, hT1, rfl, q1, q2⟩
              obtain rfl := Option.some.inj q1
              obtain ⟨t, z, q, rfl, ht⟩ := all Y (List.mem_of_getElem? q2)
              have nD : D ≠ T1 := fun e => by rw [← e, hk1] at hT1; cases hT1
              have ht1 : SqT K (upd H' T1 (.tup [.int (i : Nat), .ref t])) t [.str z, q] := SqT.of ((same_ls (same_alloc hT1)) _ _ (by simp) (by simp) ((KB.seq' hD kb) _ _ (by simp) (by simp) (eA _ _ (by simp) (by simp) ht)))
              refine ⟨T1, _, rfl, SqT.of upd_same, rfl, _, _, rfl, _, _, rfl, t, _, rfl, ht1, rfl, _, _, rfl, _, _, rfl, rfl, rfl, rfl, ?_⟩
              refine lcY ⟨_, rfl, _, rfl, kvs, Sum.inr z, rfl, by rw [upd_ne nD]; exact hk1, (by show kvs.length < sizeLine; exact Nat.lt_of_le_of_lt hk2 (Nat.lt_trans (Nat.lt_of_lt_of_le hi (by omega : xs1.length ≤ 6)) (by decide))), ?_⟩
              exact ⟨fun c o n h => by rw [upd_ne n]; exact (same_alloc hT1) _ _ (kb c o n h), _, upd_same, Nat.le_trans (length_putK _ _ _) (Nat.succ_le_succ hk2)⟩
            · rintro H' ⟨kb, kvs, hk1, hk2⟩
              have nxD : x ≠ D := fun e => by rw [← e, hxA] at hD; cases hD
              have sB : Same HA H' := fun c o h => kb c o (fun e => by rw [e, hD] at h; cases h) h
              have jB := iA.trans (KI.same (x := x) iA.tab sB)
              have iB := jB.trans (KI.put (o := .ins C dx (lf p1 p2 p3 D)) jB.tab nxP)
              have uB : Ls H' (upd H' x (.ins C dx (lf p1 p2 p3 D))) := (KI.put jB.tab nxP).ls (sB _ _ hxA) jB.tab
              have eB := (same_ls sB).trans uB
              exact ⟨_, rfl, x, C, dx, _, rfl, sB _ _ hxA, TC.cl, TC.n4, (Nat.lt_of_le_of_lt (Nat.le_trans (length_putF _ _ _) (Nat.succ_le_succ lf8)) (by decide)), kF _ iB ⟨dx, p1, p2, p3, D, upd_same, eB _ _ (by simp) (by simp) hp1A, eB _ _ (by simp) (by simp) hp2A, eB _ _ (by simp) (by simp) hp3A⟩⟩
    · skip
      refine ⟨_, pss_cons (ps_expr (pe_call GplacesX (hr.mono (by decide)) (by rfl) Ncheck_places.g Ncheck_places.kp Ncheck_places.b .nil (passes_call (takes_of rfl rfl rfl rfl) (fun _ _ _ _ h => h)) (pa_cons (pv 1) pa_nil)))
      (pss_cons (ps_set (i := 4) sc_init.nd rfl (Or.inl rfl) (pe_op op_sub (pe_callB call_len_seq (by rfl) T.len_ PySem.boot_len (pa_cons (pv 1) pa_nil)) pe_int))
      (pss_cons (ps_expr (pe_call GstretchesX (hr.mono (by decide)) (by rfl) Ncheck_stretches.g Ncheck_stretches.kp Ncheck_stretches.b .nil (passes_call (takes_of rfl rfl rfl rfl) (fun _ _ _ _ h => h)) (pa_cons (pv 2) (pa_cons (pv 4) pa_nil))))
      (pss_cons (ps_set (i := 5) sc_init.nd rfl (Or.inl rfl) (pe_ifExp (pt_cmpR op_isN (pv 3) pe_non (nomark _)) (pe_tup pa_nil) (pv 3)))
      (pss_cons (ps_expr (pe_call GlongsX (hr.mono (by decide)) (by rfl) Ncheck_longs.g Ncheck_longs.kp Ncheck_longs.b .nil (passes_call (takes_of rfl rfl rfl rfl) (fun _ _ _ _ h => h)) (pa_cons (pv 5) (pa_cons (pv 4) pa_nil))))
      (pss_cons (ps_fld (pv 0) (pe_callTy call_tuple_of (by rfl) T.tuple_ (by decide +kernel) (pa_cons (pv 1) pa_nil)) rfl)
      (pss_cons (ps_fld (pv 0) (pe_callTy call_tuple_of (by rfl) T.tuple_ (by decide +kernel) (pa_cons (pv 2) pa_nil)) rfl)
      (pss_cons (ps_fld (pv 0) (pe_callTy call_tuple_of (by rfl) T.tuple_ (by decide +kernel) (pa_cons (pv 5) pa_nil)) rfl)
      (pss_one (ps_fld (pv 0) (pe_dc (own := [("number", 6), ("name", 7), ("_", 8)]) (g := gTup K 2 (gCons (gName 6) (gCons (gTup K 2 (gCons (gName 7) (gCons (gName 8) gNil))) gNil))) (tt := tYes) rfl sc_init.nd (pi_enum (by rfl) T.enumerate_ (pa_cons (pv 1) pa_nil)) (blkOk_by (own := [("number", 6), ("name", 7), ("_", 8)]) (N := ["self", "places", "stretches", "longs", "top", "rows", "number", "name", "_"]) (sc := defScope s_init) (by decide +kernel)) (fun _ _ _ _ _ => (pg_tup (by rfl) (pgs_cons (pg_name (i := 6) sc_init.nd rfl (Or.inl rfl)) (pgs_cons (pg_tup (by rfl) (pgs_cons (pg_name (i := 7) sc_init.nd rfl (Or.inl rfl)) (pgs_cons (pg_name (i := 8) sc_init.nd rfl (Or.inl rfl)) pgs_nil))) pgs_nil)))) (fun _ _ _ _ _ => pts_nil) (fun _ _ _ _ _ => pv 7) (fun _ _ _ _ _ => pv 6)) rfl))))))))), ?_⟩
      refine ⟨_, rfl, v1, rfl, d1, tb, ?_⟩
      cases hp : placesD H v1 with
      | some d =>
        obtain ⟨t, u⟩ := d
        exact fun H' e h he => kE t u (by unfold dueD; rw [hp]) H' e (KI.of h) he
      | none =>
        have hi : isl H 2 6 v1 = true := by
          cases q : isl H 2 6 v1 with
          | true => rfl
          | false =>
            unfold placesD at hp
            rw [q, if_neg Bool.false_ne_true] at hp
            cases hp
        obtain ⟨a1, xs1, rfl, hq1, ha1, l2, l6⟩ := isl_true hi
        have all := pl_all (as := []) (xs := xs1) (H := H) (by
          have e : placesD H (.ref a1) = plD H [] ((seqOf H (.ref a1)).getD []) := by
            unfold placesD
            rw [hi, if_pos rfl]
          rw [e, hq1] at hp
          exact hp)
        have em : manyOf H (.ref a1) = (xs1.length : Int) := by
          unfold manyOf
          rw [hq1]
          rfl
        have due2 : dueD H (.ref a1) v2 v3 = match stretchesD H ((xs1.length : Int) - 1) v2 with
            | some d => some d
            | none => if v3 = .non then none else longsD H ((xs1.length : Int) - 1) v3 := by
          unfold dueD
          rw [hp, em]
        rw [due2] at kE kQ
        intro H1 k1
        have i1 : KI x Pt H H1 := KI.of k1
        have n1 := KT.nt tb k1
        have e1 := i1.ls hx tb
        have hx1 := n1 x _ (by simp) hx
        refine ⟨_, rfl, a1, xs1, rfl, e1.seqX (seqX hq1), _, _, rfl, rfl, ?_⟩
        refine ⟨_, rfl, _, rfl, v2, (xs1.length : Int) - 1, rfl, d2.nt n1, ?_⟩
        rw [stretchesD_nt n1 d2]
        cases hs : stretchesD H ((xs1.length : Int) - 1) v2 with
        | some d =>
          obtain ⟨t, u⟩ := d
          rw [hs] at kE
          exact fun H' e h he => kE t u rfl H' e (i1.trans (KI.same i1.tab h)) he
        | none =>
          rw [hs] at kE kQ
          replace kE : ∀ t u, (if v3 = V.non then none else longsD H ((xs1.length : Int) - 1) v3) = some (t, u) → _ := kE
          replace kQ : (if v3 = V.non then none else longsD H ((xs1.length : Int) - 1) v3) = none → _ := kQ
          have hi2 : isl H ((xs1.length : Int) - 1) ((xs1.length : Int) - 1) v2 = true := by
            cases q : isl H ((xs1.length : Int) - 1) ((xs1.length : Int) - 1) v2 with
            | true => rfl
            | false =>
              unfold stretchesD at hs
              rw [q, if_neg Bool.false_ne_true] at hs
              cases hs
          obtain ⟨a2, xs2, rfl, hq2, _, _, _⟩ := isl_true hi2
          intro H2 s2
          have i2 := i1.trans (KI.same (x := x) i1.tab s2)
          have n2 := n1.trans (same_nt s2)
          refine rows_readG (σ := _) rfl (d3.nt n2) (fun u H3 s3 du u1 u2 => ?_)
          have n3 := n2.trans (same_nt s3)
          have i3 := i2.trans (KI.same (x := x) i2.tab s3)
          have key : longsD H3 ((xs1.length : Int) - 1) u = if v3 = V.non then none else longsD H ((xs1.length : Int) - 1) v3 := by
            by_cases hn : v3 = .non
            · obtain ⟨a, rfl, ha⟩ := u1 hn
              rw [longs_empty _ _ _ ha, if_pos hn]
            · obtain rfl := u2 hn
              rw [longsD_nt n3 d3, if_neg hn]
          refine ⟨_, rfl, _, rfl, u, (xs1.length : Int) - 1, rfl, du, ?_⟩
          rw [← key] at kE kQ
          cases hl : longsD H3 ((xs1.length : Int) - 1) u with
          | some d =>
            obtain ⟨t, z⟩ := d
            rw [hl] at kE
            exact fun H' e h he => kE t z rfl H' e (i3.trans (KI.same i3.tab h)) he
          | none =>
            have hi3 : isl H3 0 2 u = true := by
              cases q : isl H3 0 2 u with
              | true => rfl
              | false =>
                unfold longsD at hl
                rw [q, if_neg Bool.false_ne_true] at hl
                cases hl
            obtain ⟨a3, xs3, rfl, hq3, _, _, _⟩ := isl_true hi3
            have hr3 : rowsOf H v3 = some xs3 := by
              unfold rowsOf
              by_cases hn : v3 = .non
              · obtain ⟨a, ea, ha⟩ := u1 hn
                obtain rfl := V.ref.inj ea
                rw [seq_tup ha] at hq3
                rw [if_pos hn, Option.some.inj hq3]
              · rw [if_neg hn, ← seq_nt n3 d3.1, ← u2 hn]
                exact hq3
            have kF := fun H' h4 h5 => kQ hl H' xs1 xs2 xs3 h4 hq1 hq2 hr3 h5
            clear kE kQ hl hi3 hs hi2 hi hp key due2 u1 u2 em
            intro H4 s4
            have i4 := i3.trans (KI.same (x := x) i3.tab s4)
            have e4 := i4.ls hx tb
            have hx4 := s4 _ _ (s3 _ _ (s2 _ _ hx1))
            refine fld_readG (i := 1) rfl rfl hx4 TC.cl TC.n1 (by decide) (ls_seq e4 hq1) (fun p1 H5 s5 hp1 => ?_)
            have j5 := i4.trans (KI.same (x := x) i4.tab s5)
            have i6 := j5.trans (KI.put (o := .ins C dx (putF "_places" (.ref p1) [])) j5.tab nxP)
            have hx6 : (upd H5 x (.ins C dx (putF "_places" (.ref p1) []))) x = some (.ins C dx (putF "_places" (.ref p1) [])) := upd_same
            have u6 : Ls H5 (upd H5 x (.ins C dx (putF "_places" (.ref p1) []))) := (KI.put j5.tab nxP).ls (s5 _ _ hx4) j5.tab
            generalize upd H5 x (.ins C dx (putF "_places" (.ref p1) [])) = H6 at i6 hx6 u6 ⊢
            have e6 := i6.ls hx tb
            refine fld_readG (i := 2) rfl rfl hx6 TC.cl TC.n2 (Nat.lt_of_le_of_lt (length_putF _ _ _) (by decide)) (ls_seq e6 hq2) (fun p2 H7 s7 hp2 => ?_)
            have j7 := i6.trans (KI.same (x := x) i6.tab s7)
            have i8 := j7.trans (KI.put (o := .ins C dx (putF "_stretches" (.ref p2) (putF "_places" (.ref p1) []))) j7.tab nxP)
            have hx8 : (upd H7 x (.ins C dx (putF "_stretches" (.ref p2) (putF "_places" (.ref p1) [])))) x = some (.ins C dx (putF "_stretches" (.ref p2) (putF "_places" (.ref p1) []))) := upd_same
            have u8 : Ls H7 (upd H7 x (.ins C dx (putF "_stretches" (.ref p2) (putF "_places" (.ref p1) [])))) := (KI.put j7.tab nxP).ls (s7 _ _ hx6) j7.tab
            generalize upd H7 x (.ins C dx (putF "_stretches" (.ref p2) (putF "_places" (.ref p1) []))) = H8 at i8 hx8 u8 ⊢
            have lf8 : (putF "_stretches" (.ref p2) (putF "_places" (.ref p1) [])).length ≤ 2 := Nat.le_trans (length_putF _ _ _) (Nat.succ_le_succ (length_putF _ _ _))
            have e38 : Ls H3 H8 := (((((same_ls s4).trans (same_ls s5)).trans u6).trans (same_ls s7)).trans u8)
            refine fld_readG (i := 5) rfl rfl hx8 TC.cl TC.n3 (Nat.lt_of_le_of_lt lf8 (by decide)) (ls_seq e38 hq3) (fun p3 H9 s9 hp3 => ?_)
            have j9 := i8.trans (KI.same (x := x) i8.tab s9)
            have iA := j9.trans (KI.put (o := .ins C dx (putF "_longs" (.ref p3) (putF "_stretches" (.ref p2) (putF "_places" (.ref p1) [])))) j9.tab nxP)
            have hxA : (upd H9 x (.ins C dx (putF "_longs" (.ref p3) (putF "_stretches" (.ref p2) (putF "_places" (.ref p1) []))))) x = some (.ins C dx (putF "_longs" (.ref p3) (putF "_stretches" (.ref p2) (putF "_places" (.ref p1) [])))) := upd_same
            have uA : Ls H9 (upd H9 x (.ins C dx (putF "_longs" (.ref p3) (putF "_stretches" (.ref p2) (putF "_places" (.ref p1) []))))) := (KI.put j9.tab nxP).ls (s9 _ _ hx8) j9.tab
            generalize upd H9 x (.ins C dx (putF "_longs" (.ref p3) (putF "_stretches" (.ref p2) (putF "_places" (.ref p1) [])))) = HA at iA hxA uA ⊢
            have eA := iA.ls hx tb
            have hp1A : HA p1 = some (.tup xs1) := ((((u6.trans (same_ls s7)).trans u8).trans (same_ls s9)).trans uA) _ _ (by simp) (by simp) hp1
            have hp2A : HA p2 = some (.tup xs2) := ((u8.trans (same_ls s9)).trans uA) _ _ (by simp) (by simp) hp2
            have hp3A : HA p3 = some (.tup xs3) := uA _ _ (by simp) (by simp) hp3
            have ha1 : H a1 = some (.lst xs1) := by
              rcases ha1 with h | h
              · exact h
              · exact absurd ⟨a1, xs1, rfl, h⟩ hl0
            have hsA : SqL K HA a1 xs1 := SqL.of (eA _ _ (by simp) (by simp) ha1)
            refine ⟨_, rfl, a1, xs1, rfl, hsA, fun D hD => dc_it (walk_enum (K := K) (xs := xs1)) (fun i H' => KB D HA H' ∧ ∃ kvs : List (Key × V), H' D = some (.dK kvs) ∧ kvs.length ≤ i) ?_ ?_ ?_ ?_⟩
            · exact ⟨KB.alloc hD, [], upd_same, Nat.zero_le _⟩
            · rintro i H' hi ⟨kb, _⟩
              exact (KB.seq' hD kb).seq hsA
            · rintro i v H' H'' hi ⟨kb, kvs, hk1, hk2⟩ ⟨T1, X, Y, rfl, hT1, rfl, q1, q2⟩
              obtain rfl := Option.some.inj q1
              obtain ⟨t, z, q, rfl, ht⟩ := all Y (List.mem_of_getElem? q2)
              have nD : D ≠ T1 := fun e => by rw [← e, hk1] at hT1; cases hT1
              have ht1 : SqT K (upd H' T1 (.tup [.int (i : Nat), .ref t])) t [.str z, q] := SqT.of ((same_ls (same_alloc hT1)) _ _ (by simp) (by simp) ((KB.seq' hD kb) _ _ (by simp) (by simp) (eA _ _ (by simp) (by simp) ht)))
              refine ⟨T1, _, rfl, SqT.of upd_same, rfl, _, _, rfl, _, _, rfl, t, _, rfl, ht1, rfl, _, _, rfl, _, _, rfl, rfl, rfl, rfl, ?_⟩
              refine lcY ⟨_, rfl, _, rfl, kvs, Sum.inr z, rfl, by rw [upd_ne nD]; exact hk1, (by show kvs.length < sizeLine; exact Nat.lt_of_le_of_lt hk2 (Nat.lt_trans (Nat.lt_of_lt_of_le hi (by omega : xs1.length ≤ 6)) (by decide))), ?_⟩
              exact ⟨fun c o n h => by rw [upd_ne n]; exact (same_alloc hT1) _ _ (kb c o n h), _, upd_same, Nat.le_trans (length_putK _ _ _) (Nat.succ_le_succ hk2)⟩
            · rintro H' ⟨kb, kvs, hk1, hk2⟩
              have nxD : x ≠ D := fun e => by rw [← e, hxA] at hD; cases hD
              have sB : Same HA H' := fun c o h => kb c o (fun e => by rw [e, hD] at h; cases h) h
              have jB := iA.trans (KI.same (x := x) iA.tab sB)
              have iB := jB.trans (KI.put (o := .ins C dx (lf p1 p2 p3 D)) jB.tab nxP)
              have uB : Ls H' (upd H' x (.ins C dx (lf p1 p2 p3 D))) := (KI.put jB.tab nxP).ls (sB _ _ hxA) jB.tab
              have eB := (same_ls sB).trans uB
              exact ⟨_, rfl, x, C, dx, _, rfl, sB _ _ hxA, TC.cl, TC.n4, (Nat.lt_of_le_of_lt (Nat.le_trans (length_putF _ _ _) (Nat.succ_le_succ lf8)) (by decide)), kF _ iB ⟨dx, p1, p2, p3, D, upd_same, eB _ _ (by simp) (by simp) hp1A, eB _ _ (by simp) (by simp) hp2A, eB _ _ (by simp) (by simp) hp3A⟩⟩
end
end K4

set_option maxRecDepth 100000
set_option maxHeartbeats 900000
/-! xs[lo:] = ys, another list -/
namespace My
open PySem PySem.Spec PyProof.Rows L2 GxR Gd
theorem tail_bounds {a n : Nat} (ha : a ≤ n) : sliceBounds (some (a : Int)) none none n = ((a : Int), (n : Int), 1) := by
  have h1 : ¬ ((a : Int) < 0) := Int.not_lt.mpr (by omega)
  simp only [sliceBounds, Option.getD_none, h1, if_false, show (1 : Int) > 0 by decide, if_true]
  have h2 : max (0 : Int) (min (a : Int) (n : Int)) = a := by omega
  rw [h2]
section
variable {s : Shared} {E : Value → Shared → Prop} {A : Around} {w : World} {prog : Program}
theorem tail_cut (xs ys : List Value) (a : Nat) : xs.toArray.extract 0 a ++ ys.toArray ++ xs.toArray.extract xs.toArray.size xs.toArray.size = (xs.take a ++ ys).toArray := by
  apply Array.toList_inj.mp
  simp
/-- at the store -/
theorem tail_store {l b sl : Addr} {xs ys : Array Value} {n n2 : Nat} {vl vu : Value} {a : Nat} {Q : Unit → Shared → Prop}
    (e : s.heap.get? l = some { cls := .type "list", data := .seq xs n })
    (e2 : s.heap.get? b = some { cls := .type "list", data := .seq ys n2 })
    (lb : l ≠ b) (hs : s.heap.IsSliceOf sl vl vu .none)
    (pl : IsPart vl (some (a : Int))) (pu : IsPart vu none) (ha : a ≤ xs.size) (hz : xs.size + ys.size ≤ sizeLine)
    (k : Q () { s with heap := s.heap.update l (Obj.mapSeq fun zs => zs.extract 0 a ++ ys ++ zs.extract xs.size zs.size) }) :
      wpAny (model prog w) A (setItem (.ref l) (.ref sl) (.ref b)) Q E s  := by
  have il := PySem.IsL.isList e
  have ib := PySem.IsL.isList e2
  obtain ⟨os, o1, o2, o3⟩ := id hs
  have ts : s.TypeIs (.ref sl) "slice" := ⟨os, o1, o2⟩
  have ne : Builtin.List.listSameRef (.ref l) (.ref b) = false := beq_eq_false_iff_ne.mpr lb
  have big : ((fun zs : Array Value => zs.extract 0 a ++ ys ++ zs.extract xs.size zs.size) xs).size ≤ sizeLine + 1 := by
    simp only [Array.size_append, Array.size_extract]; omega
  unfold setItem; (try with_reducible refine wpAny_holding ?_); first | refine wpAny_bind (wpAny_pure ?_) | skip
  refine wpAny_bind (wpAny_sequenceKey il.typeIs (by decide) (wpAny_bind (wpAny_callSpecial?_slot (name := Str.ofString "__setitem__") il.typeIs slot_list_setitem (wpAny_call_entry slot_list_setitem il.typeIs entry_list_setitem ?_ (args_list_setitem _ _ _)))))
  show wpAny _ _ (Builtin.List.listSubscript? (.ref sl) >>= _) _ _ _
  refine wpAny_bind (m := Builtin.List.listSubscript? (.ref sl)) ?_; unfold Builtin.List.listSubscript?
  refine wpAny_bind (wpAny_specialOf ts slice_no_index ?_)
  rw [if_pos (by rfl)]
  refine wpAny_pure ?_
  show wpAny _ _ (typeOf (.ref sl) >>= _) _ _ _
  refine wpAny_bind (wpAny_typeOf ts ?_)
  have two : ¬ ((Value.type "slice" != Value.type "slice") = true) := by decide
  rw [if_neg two, listSliceParts_eq]
  have none0 : ¬ ((rawPart none == rawInt 0) = true) := Bool.false_ne_true
  refine wpAny_bind (wpAny_bind (wpAny_field o1 o3 (x := .none) rfl (wpAny_bind (wpAny_listPart .none (by
    rw [if_neg none0]
    refine wpAny_bind (wpAny_field o1 o3 (x := vl) rfl (wpAny_bind (wpAny_listPart pl (wpAny_bind (wpAny_field o1 o3 (x := vu) rfl (wpAny_bind (wpAny_listPart pu (wpAny_pure ?_))))))))
    dsimp only
    have ne' : ¬ (Builtin.List.listSameRef (.ref l) (.ref b) = true) := by rw [ne]; exact Bool.false_ne_true
    rw [if_neg ne']
    refine wpAny_bind (m := Builtin.List.listAllItems (.ref b) "must assign iterable to extended slice") ?_; unfold Builtin.List.listAllItems
    refine wpAny_bind (wpAny_typeOf ib.typeIs (PySem.W.KFB.if_so (by decide) ?_))
    unfold Builtin.List.listItems
    have rw1 := (sliceIndices_raw (some (a : Int)) none none xs.size (by simp)).trans (congrArg (pure : Int × Int × Int → Sem (Int × Int × Int)) (tail_bounds ha))
    refine wpAny_bind (wpAny_seqItems e2 rfl (wpAny_pure (wpAny_bind (wpAny_bind (wpAny_seqItems e rfl (wpAny_pure (wpAny_bind (wpAny_of_eq rw1 ?_))))))))
    have one : ((1 : Int) == 1) = true := rfl
    refine PySem.W.KFB.if_so one (wpAny_bind (wpAny_rule (PySem.W.KFB.if_not (notLongL hz) ?_)))
    have m1 : (max (a : Int) (xs.size : Int)).toNat = xs.size := by omega
    have cut : (fun zs : Array Value => zs.extract 0 ((a : Int)).toNat ++ ys ++ zs.extract (max (a : Int) (xs.size : Int)).toNat zs.size) = fun zs => zs.extract 0 a ++ ys ++ zs.extract xs.size zs.size := by
      rw [m1, Int.toNat_natCast]
    show wpAny _ _ (updateSeq l (fun zs : Array Value => zs.extract 0 ((a : Int)).toNat ++ ys ++ zs.extract (max (a : Int) (xs.size : Int)).toNat zs.size) >>= _) _ _ s
    rw [cut]
    refine wpAny_bind (wpAny_updateSeq (hz := Nat.le_trans (Nat.le_add_right _ _) hz) (_hz' := big) e rfl (wpAny_bind (wpAny_letGo ?_)))
    exact wpAny_pure ⟨.none, rfl, wpAny_pure k⟩)))))
/-- at a row of the program -/
def gTail (to : TE) (tl th : TO) : TG := fun v σ H Q => to σ H fun o H1 => tl σ H1 fun lo H2 => th σ H2 fun hi H3 =>
  ∃ p b xs ys a, o = .ref p ∧ v = .ref b ∧ lo = some a ∧ hi = none ∧ 0 ≤ a ∧ a ≤ ((xs.length : Nat) : Int) ∧ p ≠ b ∧ H3 p = some (.lst xs) ∧ H3 b = some (.lst ys) ∧ xs.length + ys.length ≤ sizeLine ∧ Q σ (upd H3 p (.lst (xs.take a.toNat ++ ys)))
theorem pg_tail {X : Cx} {o : Expr} {lo hi : Option Expr} {pos p2 : Pos} {to : TE} {tl th : TO} (ho : PE X o to) (hl : PO X lo tl) (hu : PO X hi th)
    (ha : ∀ v, assign (.Subscript o (.Slice lo hi none p2) pos) X.env v = (do
      let ov ← holding [v] (eval o X.env); let iv ← holding [v, ov] (eval (.Slice lo hi none p2) X.env)
      standAt pos; holding [v, ov, iv] (setItem ov iv v)
      release [iv, v, ov] []) := by intro _; rfl) : PG X (.Subscript o (.Slice lo hi none p2) pos) (gTail to tl th) := by
  refine ⟨fun pins s σ H v u Q I r h => ?_⟩; rw [ha]
  refine wpAny_bind (wpAny_holding (thn (ho.run pins s σ H _ I h) fun ov s1 ⟨x, H1, I1, r1, q1⟩ => wpAny_bind (wpAny_holding ?_)))
  refine wpAny_Slice (thn (hl.run pins s1 σ H1 _ I1 q1) fun vl s2 ⟨l, H2, I2, pl, q2⟩ => thn (hu.run pins s2 σ H2 _ I2 q2) fun vu s3 ⟨m, H3, I3, pu, q3⟩ => ?_)
  rw [evalPart_none]
  refine wpAny_pure (wpAny_bind ?_); obtain ⟨p, b, xs, ys, a, rfl, rfl, rfl, rfl, a0, a1, pb, hp, hb, hz, q⟩ := q3
  cases r1
  cases r
  have I4 := I3.kept (h' := s3.heap.push { cls := .type "slice", data := .fields #[vl, vu, .none] }) (t' := s3.toks) fun _ _ g => Heap.get?_push_of_some _ g
  obtain ⟨k, rfl⟩ := Int.eq_ofNat_of_zero_le a0
  obtain ⟨z1, is1, n1, v1, g1, e1⟩ := I4.lstM hp
  obtain ⟨z2, is2, n2, v2, g2, e2⟩ := I4.lstM hb
  refine wpAny_standAt (wpAny_bind (wpAny_holding ?_))
  have ki : k ≤ is1.length := by omega
  refine tail_store (a := k) e1 e2 pb (Heap.IsSliceOf.new ..) pl pu (by rw [List.size_toArray]; exact ki) (by rw [List.size_toArray, List.size_toArray]; omega) ?_
  have I5 := I4.lset (f := fun zs => zs.extract 0 k ++ is2.toArray ++ zs.extract is1.toArray.size zs.size) (ys := xs.take k ++ ys) (its' := is1.take k ++ is2) (t' := s3.toks) hp e1 (tail_cut is1 is2 k) (Vals.append (v1.take _) v2) (by rw [List.length_append, List.length_take]; omega)
  exact wpAny_release ⟨σ, _, I5, q⟩
end
end My

set_option maxRecDepth 100000
set_option maxHeartbeats 400000
namespace K4
open PySem PySem.Spec PyProof.Rows L2 GxR Gd TL My
theorem eqDK {X : Cx} {K : PySem.W.Frag} (h : X.K = K) (hu : X.A.units + 64 < cLine) : OpR X (compareOp .Eq) (rEqD K) := h ▸ op_eqD hu
theorem low_mem (c : Nat) : decide (c ∈ (Str.ofString "abcdefghijklmnopqrstuvwxyz").cps.toList) = lc c := by
  have e : (Str.ofString "abcdefghijklmnopqrstuvwxyz").cps.toList = (List.range 26).map (97 + ·) := by decide +kernel
  rw [e, Bool.eq_iff_iff, decide_eq_true_eq, List.mem_map]
  unfold lc
  simp only [Bool.and_eq_true, decide_eq_true_eq, List.mem_range]
  constructor
  · rintro ⟨a, ha, rfl⟩
    omega
  · rintro ⟨h1, h2⟩
    exact ⟨c - 97, by omega, by omega⟩
theorem all_filter : ∀ l : List Nat, l.all lc = decide (l.filter (fun c => !lc c) = [])
  | [] => rfl
  | c :: r => by
    cases h : lc c with
    | true =>
      rw [List.all_cons, h, Bool.true_and, all_filter r, List.filter_cons_of_neg (by simp [h])]
    | false =>
      rw [List.all_cons, h, Bool.false_and, List.filter_cons_of_pos (by simp [h])]
      simp
theorem sm_shaped {d : PyData} {k m : Nat} (h : Sm d k m) (hk : k ≤ 64) : SeqAt.shaped d = true := by
  unfold SeqAt.shaped
  rw [h.lay, Bool.true_and, decide_eq_true_eq]
  exact Nat.le_trans h.dep hk
theorem chars_dp {K : PySem.W.Frag} {H : Hp} : ∀ l : List Nat, DpAll K H (l.map fun c => V.str ⟨#[c]⟩) (l.map fun c => PyData.str ⟨#[c]⟩)
  | [] => .nil
  | c :: r => .cons (.str _) (chars_dp r)
theorem eqv_nil : ∀ l : List Nat, PyData.eqv (.list (l.map fun c => PyData.str ⟨#[c]⟩)) (.list []) = decide (l = [])
  | [] => rfl
  | c :: r => rfl
theorem nm_len (z : Str) : nm (.str z) = (decide (1 ≤ z.length) && decide (z.length ≤ 6) && z.cps.toList.all lc) := rfl
theorem small_line {n : Nat} (h : n ≤ 1000000) : n ≤ sizeLine := Nat.le_trans h (by rw [sizeLine_eq]; decide)
section
variable {P : Program} {w : World} {K : PySem.W.Frag} {mg : Str → Option Value} {base : Heap}
abbrev s_law_is_name : Stmt := top 30
theorem sc_law_is_name : FnScope ["_law_thing", "_law_letters", "_law_sign"] ["_law_thing"] (defScope s_law_is_name) := ⟨rfl, rfl, rfl, by decide +kernel, rfl, by decide +kernel, by decide +kernel⟩
abbrev s_law_whole : Stmt := top 31
theorem sc_law_whole : FnScope ["_law_thing", "_law_low", "_law_high"] ["_law_thing", "_law_low", "_law_high"] (defScope s_law_whole) := ⟨rfl, rfl, rfl, by decide +kernel, rfl, by decide +kernel, by decide +kernel⟩
abbrev s_law_is_row : Stmt := top 32
theorem sc_law_is_row : FnScope ["_law_thing", "_law_size"] ["_law_thing", "_law_size"] (defScope s_law_is_row) := ⟨rfl, rfl, rfl, by decide +kernel, rfl, by decide +kernel, by decide +kernel⟩
abbrev s_law_places_due : Stmt := top 33
theorem sc_law_places_due : FnScope ["_law_places", "_law_names_here", "_law_thing"] ["_law_places"] (defScope s_law_places_due) := ⟨rfl, rfl, rfl, by decide +kernel, rfl, by decide +kernel, by decide +kernel⟩
abbrev s_law_due : Stmt := top 34
theorem sc_law_due : FnScope ["_law_places", "_law_stretches", "_law_longs", "_law_due_here", "_law_thing", "_law_low"] ["_law_places", "_law_stretches", "_law_longs"] (defScope s_law_due) := ⟨rfl, rfl, rfl, by decide +kernel, rfl, by decide +kernel, by decide +kernel⟩
def spLawName : Sp := fun vs H Q _ => ∃ v, vs = [v] ∧ Th H v ∧ ∀ H', Same H H' → Q (.bl (nm v)) H'
theorem ok_law_is_name {f : Addr} {fd : FuncData} (F : Fun K "_law_is_name" "_law_is_name" s_law_is_name f fd) (T : Txt mg) :
    FnOk P w K mg base CX0 2 f fd ["_law_thing"] spLawName := by
  refine F.ok sc_law_is_name (fun vs H Q E h => ?_) (fun cdv A outer s H vs Q E hr h => ?_)
  · obtain ⟨v, rfl, _⟩ := h
    rfl
  · obtain ⟨v, rfl, th, k⟩ := h
    have hu := hr.units
    refine ⟨_, pss_cons (ps_set (i := 1) sc_law_is_name.nd rfl (Or.inr rfl) pe_str)
      (pss_one (ps_ret (pe_and (pe_callB call_isi (by rfl) T.isinstance_ (by decide +kernel) (pa_cons (pv 0) (pa_cons (pe_bltn (v := .ty "str") (by rfl) T.str_ (by decide +kernel) rfl) pa_nil))) (pe_and (pe_chain op_lt op_lt pe_int (pe_callB call_len_str (by rfl) T.len_ PySem.boot_len (pa_cons (pv 0) pa_nil)) pe_int) (pe_one (pe_cmpR (eqDK (K := K) rfl hu) (pe_lc (own := [("_law_sign", 2)]) (g := gName 2) rfl sc_law_is_name.nd (pi_str (pv 0)) (blkOk_by (own := [("_law_sign", 2)]) (N := ["_law_thing", "_law_letters", "_law_sign"]) (sc := defScope s_law_is_name) (by decide +kernel)) (fun _ _ _ _ _ => (pg_name (i := 2) sc_law_is_name.nd rfl (Or.inl rfl))) (fun _ _ _ _ _ => pts_one (pt_cmpR op_notIn_str (pv 2) (pv 1) rfl)) (fun _ _ _ _ _ => (pv 2))) (pe_lst pa_nil) (nomark _))))))), ?_⟩
    have no : (nm v = false) → Q (.bl false) H := fun e => by
      have := k H (Same.refl H)
      rw [e] at this
      exact this
    obtain ⟨t, ty, cs⟩ := th.ty (K := K)
    rcases cs with ⟨i, rfl, rfl⟩ | ⟨b, rfl, rfl⟩ | ⟨z, rfl, ⟨zl, zg⟩, rfl⟩ | ⟨n1, n2, n3, ht⟩
    · exact ⟨_, rfl, _, _, _, _, false, rfl, .ty "str", ty, (by rfl), _, rfl, iteF (no rfl)⟩
    · exact ⟨_, rfl, _, _, _, _, false, rfl, .ty "str", ty, (by rfl), _, rfl, iteF (no rfl)⟩
    · refine ⟨_, rfl, _, _, _, _, true, rfl, .ty "str", ty, (by rfl), _, rfl, iteT ?_⟩
      refine ⟨_, rfl, z, rfl, small_line zl, _, _, rfl, rfl, ?_⟩
      refine ⟨_, rfl, ite2 (fun c0 => ?_) (fun c0 => ⟨_, rfl, iteF (no (by rw [nm_len]; have : ¬ ((0 : Int) < z.length) := fun h => c0 (decide_eq_true h); rw [decide_eq_false (p := 1 ≤ z.length) (by omega), Bool.false_and, Bool.false_and]))⟩)⟩
      refine ⟨_, _, rfl, rfl, _, rfl, ite2 (fun c1 => ?_) (fun c1 => (no (by rw [nm_len]; have : ¬ ((z.length : Int) < 7) := fun h => c1 (decide_eq_true h); rw [decide_eq_false (p := z.length ≤ 6) (by omega), Bool.and_false, Bool.false_and])))⟩
      have l0 : 1 ≤ z.length := by have := of_decide_eq_true c0; omega
      have l6 : z.length ≤ 6 := by have := of_decide_eq_true c1; omega
      refine ⟨_, rfl, z, rfl, fun D hD => lc_it walk_str (fun i H' => ∃ cs : List Nat, H' D = some (.lst (cs.map fun c => V.str ⟨#[c]⟩)) ∧ cs = (z.cps.toList.take i).filter (fun c => !lc c) ∧ Same H H') ?_ ?_ ?_ ?_⟩
      · exact ⟨[], upd_same, rfl, same_alloc hD⟩
      · intros; trivial
      · rintro i x H1 H2 hi ⟨cs, e1, e2, s1⟩ ⟨rfl, c, hc, rfl⟩
        refine ⟨rfl, _, rfl, _, rfl, _, _, rfl, rfl, _, rfl, ?_⟩
        rw [StrLaws.found_one, low_mem]
        have hc' : z.cps.toList[i]? = some c := by rw [Array.getElem?_toList]; exact hc
        cases hl : lc c with
        | true => exact ⟨cs, e1, by rw [take_at hc', List.filter_append, e2]; simp [hl], s1⟩
        | false =>
          refine ⟨_, rfl, _, e1, ?_, cs ++ [c], ?_, by rw [take_at hc', List.filter_append, e2]; simp [hl], ?_⟩
          · rw [List.length_map, e2]
            have h1 := List.length_filter_le (fun c => !lc c) (z.cps.toList.take i)
            have h2 := List.length_take_le i z.cps.toList
            have h3 : i < z.length := hi
            exact lt_line _ (by omega)
          · rw [upd_same, List.map_append]
            rfl
          · exact fun c o h => by
              rw [upd_ne (ne_of_none h hD)]
              exact s1 _ _ h
      · rintro H1 ⟨cs, e1, e2, s1⟩
        refine ⟨Nat.zero_le _, fun L hL => ?_⟩
        have hc6 : cs.length ≤ 6 := by
          rw [e2]
          refine Nat.le_trans (List.length_filter_le _ _) (Nat.le_trans (List.length_take_le _ _) ?_)
          exact l6
        refine ⟨.list (cs.map fun c => .str ⟨#[c]⟩), .list [], .lst (SqL.of (same_alloc hL _ _ e1)) (chars_dp cs), .lst (SqL.of upd_same) .nil, ?_, rfl, ?_⟩
        · refine sm_shaped (k := 1) (m := 100) ((sm_list (k := 0) (m := 6) fun d hd => ?_).mono (by decide) (by rw [List.length_map]; omega)) (by decide)
          obtain ⟨c, hc, rfl⟩ := List.mem_map.mp hd
          rw [e2] at hc
          have hz := zg c (List.mem_of_mem_take (List.mem_filter.mp hc).1)
          exact sm_str (fun d hd => by
            obtain rfl : d = c := List.mem_singleton.mp hd
            exact hz) (by show 1 ≤ 6; decide)
        · have ek : nm (.str z) = decide (cs = []) := by
            rw [nm_len, decide_eq_true l0, decide_eq_true l6, Bool.true_and, Bool.true_and, e2, List.take_of_length_le (by exact Nat.le_refl _)]
            exact all_filter _
          have q := k (upd H1 L (.lst [])) (s1.trans (same_alloc hL))
          rw [ek] at q
          rw [eqv_nil]
          exact q
    · have e : nm v = false := by
        cases v with
        | str z => exact absurd rfl (n3 z)
        | _ => rfl
      rcases ht with rfl | rfl | rfl | rfl
      · exact ⟨_, rfl, _, _, _, _, false, rfl, .ty "str", ty, (by rfl), _, rfl, iteF (no e)⟩
      · exact ⟨_, rfl, _, _, _, _, false, rfl, .ty "str", ty, (by rfl), _, rfl, iteF (no e)⟩
      · exact ⟨_, rfl, _, _, _, _, false, rfl, .ty "str", ty, (by rfl), _, rfl, iteF (no e)⟩
      · exact ⟨_, rfl, _, _, _, _, false, rfl, .ty "str", ty, (by rfl), _, rfl, iteF (no e)⟩
def spLawWhole : Sp := fun vs H Q _ => ∃ (v : V) (lo hi : Int), vs = [v, .int lo, .int hi] ∧ Th H v ∧ Q (.bl (wh lo hi v)) H
theorem ok_law_whole {f : Addr} {fd : FuncData} (F : Fun K "_law_whole" "_law_whole" s_law_whole f fd) (T : Txt mg) :
    FnOk P w K mg base CX0 1 f fd ["_law_thing", "_law_low", "_law_high"] spLawWhole := by
  refine F.ok sc_law_whole (fun vs H Q E h => ?_) (fun cdv A outer s H vs Q E hr h => ?_)
  · obtain ⟨v, lo, hi, rfl, _⟩ := h
    rfl
  · obtain ⟨v, lo, hi, rfl, th, k⟩ := h
    refine ⟨_, pss_one (ps_ret (pe_and (pe_callB call_isi (by rfl) T.isinstance_ (by decide +kernel) (pa_cons (pv 0) (pa_cons (pe_bltn (v := .ty "int") (by rfl) T.int_ (by decide +kernel) rfl) pa_nil))) (pe_and (pe_not (pe_callB call_isi (by rfl) T.isinstance_ (by decide +kernel) (pa_cons (pv 0) (pa_cons (pe_bltn (v := .ty "bool") (by rfl) T.bool_ (by decide +kernel) rfl) pa_nil)))) (pe_one (pe_chain op_le op_le (pv 1) (pv 0) (pv 2)))))), ?_⟩
    obtain ⟨t, ty, cs⟩ := th.ty (K := K)
    rcases cs with ⟨i, rfl, rfl⟩ | ⟨b, rfl, rfl⟩ | ⟨z, rfl, _, rfl⟩ | ⟨n1, n2, n3, ht⟩
    · refine ⟨_, rfl, _, _, _, _, true, rfl, .ty "int", ty, (by rfl), _, rfl, iteT ?_⟩
      refine ⟨_, rfl, _, _, _, _, false, rfl, .ty "bool", ty, (by rfl), _, rfl, _, rfl, iteT ?_⟩
      refine ⟨_, rfl, _, rfl, _, _, rfl, rfl, _, rfl, ?_⟩
      refine ite2 (fun c => ?_) (fun c => ?_)
      · refine ⟨_, rfl, _, _, rfl, rfl, ?_⟩
        have e : (decide (i ≤ hi)) = wh lo hi (.int i) := by simp [wh, of_decide_eq_true c]
        show Q (.bl (decide (i ≤ hi))) H
        rw [e]; exact k
      · have e : false = wh lo hi (.int i) := by simp at c; simp [wh]; omega
        rw [e]; exact k
    · refine ⟨_, rfl, _, _, _, _, true, rfl, .ty "int", ty, (by rfl), _, rfl, iteT ?_⟩
      refine ⟨_, rfl, _, _, _, _, true, rfl, .ty "bool", ty, (by rfl), _, rfl, _, rfl, iteF ?_⟩
      exact k
    · exact ⟨_, rfl, _, _, _, _, false, rfl, .ty "int", ty, (by rfl), _, rfl, iteF k⟩
    · have e : wh lo hi v = false := by
        cases v with
        | int i => exact absurd rfl (n1 i)
        | _ => rfl
      rw [e] at k
      rcases ht with rfl | rfl | rfl | rfl
      · exact ⟨_, rfl, _, _, _, _, false, rfl, .ty "int", ty, (by rfl), _, rfl, iteF k⟩
      · exact ⟨_, rfl, _, _, _, _, false, rfl, .ty "int", ty, (by rfl), _, rfl, iteF k⟩
      · exact ⟨_, rfl, _, _, _, _, false, rfl, .ty "int", ty, (by rfl), _, rfl, iteF k⟩
      · exact ⟨_, rfl, _, _, _, _, false, rfl, .ty "int", ty, (by rfl), _, rfl, iteF k⟩
def spLawRow : Sp := fun vs H Q _ => ∃ (v : V) (n : Int), vs = [v, .int n] ∧ Th H v ∧ Q (.bl (ist H n v)) H
theorem ok_law_is_row {f : Addr} {fd : FuncData} (F : Fun K "_law_is_row" "_law_is_row" s_law_is_row f fd) (T : Txt mg) :
    FnOk P w K mg base CX0 1 f fd ["_law_thing", "_law_size"] spLawRow := by
  refine F.ok sc_law_is_row (fun vs H Q E h => ?_) (fun cdv A outer s H vs Q E hr h => ?_)
  · obtain ⟨v, n, rfl, _⟩ := h
    rfl
  · obtain ⟨v, n, rfl, th, k⟩ := h
    refine ⟨_, pss_one (ps_ret (pe_and (pe_callB call_isi (by rfl) T.isinstance_ (by decide +kernel) (pa_cons (pv 0) (pa_cons (pe_bltn (v := .ty "tuple") (by rfl) T.tuple_ (by decide +kernel) rfl) pa_nil))) (pe_one (pe_cmpR op_eq (pe_callB call_len_seq (by rfl) T.len_ PySem.boot_len (pa_cons (pv 0) pa_nil)) (pv 1) (nomark _))))), ?_⟩
    have no : ist H n v = false → Q (.bl false) H := fun h => by rw [h] at k; exact k
    cases th with
    | non => exact ⟨_, rfl, _, _, _, _, false, rfl, .ty "tuple", .base .non, (by rfl), _, rfl, iteF (no rfl)⟩
    | bl b => exact ⟨_, rfl, _, _, _, _, false, rfl, .ty "tuple", .base (.bl b), (by rfl), _, rfl, iteF (no rfl)⟩
    | int i => exact ⟨_, rfl, _, _, _, _, false, rfl, .ty "tuple", .base (.int i), (by rfl), _, rfl, iteF (no rfl)⟩
    | str z h g => exact ⟨_, rfl, _, _, _, _, false, rfl, .ty "tuple", .base (.str z), (by rfl), _, rfl, iteF (no rfl)⟩
    | dic a h => exact ⟨_, rfl, _, _, _, _, false, rfl, .ty "tuple", .base (.dK h), (by rfl), _, rfl, iteF (no (by unfold ist; rw [tup_dic h]))⟩
    | lst a xs h => exact ⟨_, rfl, _, _, _, _, false, rfl, .ty "tuple", .base (.lst h), (by rfl), _, rfl, iteF (no (by unfold ist; rw [tup_lst h]))⟩
    | tup a xs h =>
      have ei : ist H n (.ref a) = decide ((xs.length : Int) = n) := by unfold ist; rw [tup_tup h]
      rw [ei] at k
      refine ⟨_, rfl, _, _, _, _, true, rfl, .ty "tuple", .base (.tup h), (by rfl), _, rfl, iteT ?_⟩
      refine ⟨_, rfl, a, xs, rfl, .inr (SqT.of h), _, rfl, rfl, ?_⟩
      have e : decide (V.int (xs.length : Int) = V.int n) = decide ((xs.length : Int) = n) := by simp
      show Q (.bl (decide (V.int (xs.length : Int) = V.int n))) H
      rw [e]
      exact k
end
end K4

set_option maxRecDepth 100000
set_option maxHeartbeats 400000
namespace K4
open PySem PySem.Spec PyProof.Rows L2 GxR Gd TL My
def DueV (H : Hp) (u : V) (d : Due) : Prop := match d with
  | none => u = .non
  | some (t, x) => ∃ p, u = .ref p ∧ H p = some (.tup [.str (Str.ofString t.s), x])
theorem isSeq_read {K : PySem.W.Frag} {σ : L2.St} {H : Hp} {i : Nat} {v : V} {Q : VK} (hv : σ[i]? = some (some v)) (th : Th H v) (k : ∀ H', Same H H' → Q (.bl (seqOf H v).isSome) H') :
    tCB (rIsiT K) (tCons (tVar i) (tCons (tTup (tCons (tC (V.ty "list")) (tCons (tC (V.ty "tuple")) tNil))) tNil)) σ H Q := by
  refine ⟨_, hv, (by show 2 ≤ sizeLine; decide), fun t ht => ?_⟩
  have e := same_alloc (o := .tup [.ty "list", .ty "tuple"]) ht
  have q := k _ e
  cases th with
  | non => exact ⟨_, t, _, _, [.type "list", .type "tuple"], false, rfl, upd_same, .cons (.ty _) (.cons (.ty _) .nil), .base .non, (by rfl), q⟩
  | bl b => exact ⟨_, t, _, _, [.type "list", .type "tuple"], false, rfl, upd_same, .cons (.ty _) (.cons (.ty _) .nil), .base (.bl b), (by rfl), q⟩
  | int i => exact ⟨_, t, _, _, [.type "list", .type "tuple"], false, rfl, upd_same, .cons (.ty _) (.cons (.ty _) .nil), .base (.int i), (by rfl), q⟩
  | str z h g => exact ⟨_, t, _, _, [.type "list", .type "tuple"], false, rfl, upd_same, .cons (.ty _) (.cons (.ty _) .nil), .base (.str z), (by rfl), q⟩
  | dic a h =>
    rw [seq_dic h] at q
    exact ⟨_, t, _, _, [.type "list", .type "tuple"], false, rfl, upd_same, .cons (.ty _) (.cons (.ty _) .nil), .base (.dK (e _ _ h)), (by rfl), q⟩
  | lst a xs h =>
    rw [seq_lst h] at q
    exact ⟨_, t, _, _, [.type "list", .type "tuple"], true, rfl, upd_same, .cons (.ty _) (.cons (.ty _) .nil), .base (.lst (e _ _ h)), (by rfl), q⟩
  | tup a xs h =>
    rw [seq_tup h] at q
    exact ⟨_, t, _, _, [.type "list", .type "tuple"], true, rfl, upd_same, .cons (.ty _) (.cons (.ty _) .nil), .base (.tup (e _ _ h)), (by rfl), q⟩
theorem nameOf_at {H : Hp} {v q : V} {z : Str} (h : tupOf H v = some [.str z, q]) : nameOf H v = z := by
  unfold nameOf
  rw [h]
theorem ist_nt {H H' : Hp} (e : Nt H H') {v : V} (th : Th H v) (n : Int) : ist H' n v = ist H n v := by
  unfold ist
  rw [tup_nt e th]
theorem pl1_no {H : Hp} {as : List Str} {v : V} (h : ist H 2 v = false) : pl1 H as v = some (.places, v) := by
  unfold pl1
  unfold ist at h
  split
  · rename_i n q e
    rw [e] at h
    cases h
  · rfl
theorem due_some {H H' : Hp} {p : Addr} {t : Tag} {x : V} (h : H p = none) (e : H' = upd H p (.tup [.str (Str.ofString t.s), x])) : DueV H' (.ref p) (some (t, x)) := ⟨p, rfl, by rw [e, upd_same]⟩
section
variable {P : Program} {w : World} {K : PySem.W.Frag} {mg : Str → Option Value} {base : Heap} {f1 f2 f3 : Addr} {fd1 fd2 fd3 : FuncData}
def spPlacesDue : Sp := fun vs H Q _ => ∃ v, vs = [v] ∧ Deep H v ∧ ∀ H' u, Same H H' → DueV H' u (placesD H v) → Q u H'
theorem ok_law_places_due {f : Addr} {fd : FuncData} (F : Fun K "_law_places_due" "_law_places_due" s_law_places_due f fd) (T : Txt mg)
    (Nlaw_is_row : Fn K mg "_law_is_row" s_law_is_row ["_law_thing", "_law_size"] f1 fd1) (Glaw_is_row : FnOk P w K mg base CX0 1 f1 fd1 ["_law_thing", "_law_size"] spLawRow)
    (Nlaw_is_name : Fn K mg "_law_is_name" s_law_is_name ["_law_thing"] f2 fd2) (Glaw_is_name : FnOk P w K mg base CX0 2 f2 fd2 ["_law_thing"] spLawName)
    (Nlaw_whole : Fn K mg "_law_whole" s_law_whole ["_law_thing", "_law_low", "_law_high"] f3 fd3) (Glaw_whole : FnOk P w K mg base CX0 1 f3 fd3 ["_law_thing", "_law_low", "_law_high"] spLawWhole) :
    FnOk P w K mg base CX0 3 f fd ["_law_places"] spPlacesDue := by
  refine F.ok sc_law_places_due (fun vs H Q E h => ?_) (fun cdv A outer s H vs Q E hr h => ?_)
  · obtain ⟨v, rfl, _⟩ := h
    rfl
  · obtain ⟨v, rfl, dp, k⟩ := h
    cases hi : isl H 2 6 v with
    | false =>
      have e : placesD H v = some (.places, v) := by
        unfold placesD
        rw [hi, if_neg Bool.false_ne_true]
      rw [e] at k
      refine ⟨_, pss_cons (ps_if (PW.pt (pw_or (pt_not (pt_val (pe_callB call_isiT (by rfl) T.isinstance_ (by decide +kernel) (pa_cons (pv 0) (pa_cons (pe_tup (pa_cons (pe_bltn (v := .ty "list") (by rfl) T.list_ (by decide +kernel) rfl) (pa_cons (pe_bltn (v := .ty "tuple") (by rfl) T.tuple_ (by decide +kernel) rfl) pa_nil))) pa_nil))))) (pw_or1 (pt_not (pt_chain op_le op_le pe_int (pe_callB call_len_seq (by rfl) T.len_ PySem.boot_len (pa_cons (pv 0) pa_nil)) pe_int))))) (pss_one (ps_ret (pe_tup (pa_cons pe_str (pa_cons (pv 0) pa_nil))))) pss_nil)
      (pss_cons (ps_set (i := 1) sc_law_places_due.nd rfl (Or.inl rfl) (pe_lst pa_nil))
      (pss_cons (ps_for PassesOwn.never rfl (pi_list (pv 0)) (pg_name (i := 2) sc_law_places_due.nd rfl (Or.inl rfl)) (pss_cons (ps_if (pt_not (pt_val (pe_call Glaw_is_row (hr.mono (by decide)) (by rfl) Nlaw_is_row.g Nlaw_is_row.kp Nlaw_is_row.b .nil pass0 (pa_cons (pv 2) (pa_cons pe_int pa_nil))))) (pss_one (ps_ret (pe_tup (pa_cons pe_str (pa_cons (pv 2) pa_nil))))) pss_nil)
          (pss_cons (ps_if (pt_not (pt_val (pe_call Glaw_is_name (hr.mono (by decide)) (by rfl) Nlaw_is_name.g Nlaw_is_name.kp Nlaw_is_name.b .nil pass0 (pa_cons (pe_ix ix_tup (pv 2) pe_int (fun _ _ => rfl)) pa_nil)))) (pss_one (ps_ret (pe_tup (pa_cons pe_str (pa_cons (pe_ix ix_tup (pv 2) pe_int (fun _ _ => rfl)) pa_nil))))) pss_nil)
          (pss_cons (ps_if (pt_cmpR op_in_seq (pe_ix ix_tup (pv 2) pe_int (fun _ _ => rfl)) (pv 1) rfl) (pss_one (ps_ret (pe_tup (pa_cons pe_str (pa_cons (pe_ix ix_tup (pv 2) pe_int (fun _ _ => rfl)) pa_nil))))) pss_nil)
          (pss_cons (ps_if (pt_not (pt_val (pe_call Glaw_whole (hr.mono (by decide)) (by rfl) Nlaw_whole.g Nlaw_whole.kp Nlaw_whole.b .nil pass0 (pa_cons (pe_ix ix_tup (pv 2) pe_int (fun _ _ => rfl)) (pa_cons pe_int (pa_cons pe_int pa_nil)))))) (pss_one (ps_ret (pe_tup (pa_cons pe_str (pa_cons (pe_ix ix_tup (pv 2) pe_int (fun _ _ => rfl)) pa_nil))))) pss_nil)
          (pss_one (ps_expr (pe_bm PySem.F.plainAttrs_list PySem.F.slot_list_append PySem.F.type_list_append mt_append (pv 1) (pa_cons (pe_ix ix_tup (pv 2) pe_int (fun _ _ => rfl)) pa_nil)))))))))
      (pss_one (ps_ret pe_non)))), ?_⟩
      refine isSeq_read (i := 0) rfl dp.1 (fun H1 s1 => ?_)
      cases hq : seqOf H v with
      | none => exact ⟨_, rfl, iteT ⟨_, rfl, (by show 2 ≤ sizeLine; decide), fun p hp => k _ _ (s1.trans (same_alloc hp)) ⟨p, rfl, upd_same⟩⟩⟩
      | some xs =>
        obtain ⟨a, rfl, ha⟩ := seq_some hq
        have ha1 : SqX K H1 a xs := ha.elim (fun h => .inl (SqL.of (s1 _ _ h))) fun h => .inr (SqT.of (s1 _ _ h))
        unfold isl at hi
        rw [hq] at hi
        refine ⟨_, rfl, iteF ?_⟩
        refine ⟨_, rfl, a, xs, rfl, ha1, _, _, rfl, rfl, _, rfl, ?_⟩
        refine ite2 (fun c => ?_) (fun c => ?_)
        · have c2 : decide ((2 : Int) ≤ (xs.length : Int)) = true := c
          have hi' : (decide ((2 : Int) ≤ (xs.length : Int)) && decide ((xs.length : Int) ≤ 6)) = false := hi
          rw [c2, Bool.true_and] at hi'
          refine ⟨_, _, rfl, rfl, _, rfl, ?_⟩
          rw [hi']
          exact iteT ⟨_, rfl, (by show 2 ≤ sizeLine; decide), fun p hp => k _ _ (s1.trans (same_alloc hp)) ⟨p, rfl, upd_same⟩⟩
        · exact ⟨_, rfl, iteT ⟨_, rfl, (by show 2 ≤ sizeLine; decide), fun p hp => k _ _ (s1.trans (same_alloc hp)) ⟨p, rfl, upd_same⟩⟩⟩
    | true =>
      have e : placesD H v = plD H [] ((seqOf H v).getD []) := by
        unfold placesD
        rw [hi, if_pos rfl]
      obtain ⟨a, xs, rfl, hq, ha, l2, l6⟩ := isl_true hi
      rw [e, hq] at k
      replace k : ∀ H' u, Same H H' → DueV H' u (plD H [] xs) → Q u H' := k
      rcases ha with ha | ha
      · skip
        refine ⟨_, pss_cons (ps_if (PW.pt (pw_or (pt_not (pt_val (pe_callB call_isiT (by rfl) T.isinstance_ (by decide +kernel) (pa_cons (pv 0) (pa_cons (pe_tup (pa_cons (pe_bltn (v := .ty "list") (by rfl) T.list_ (by decide +kernel) rfl) (pa_cons (pe_bltn (v := .ty "tuple") (by rfl) T.tuple_ (by decide +kernel) rfl) pa_nil))) pa_nil))))) (pw_or1 (pt_not (pt_chain op_le op_le pe_int (pe_callB call_len_seq (by rfl) T.len_ PySem.boot_len (pa_cons (pv 0) pa_nil)) pe_int))))) (pss_one (ps_ret (pe_tup (pa_cons pe_str (pa_cons (pv 0) pa_nil))))) pss_nil)
      (pss_cons (ps_set (i := 1) sc_law_places_due.nd rfl (Or.inl rfl) (pe_lst pa_nil))
      (pss_cons (ps_for PassesOwn.never rfl (pi_list (pv 0)) (pg_name (i := 2) sc_law_places_due.nd rfl (Or.inl rfl)) (pss_cons (ps_if (pt_not (pt_val (pe_call Glaw_is_row (hr.mono (by decide)) (by rfl) Nlaw_is_row.g Nlaw_is_row.kp Nlaw_is_row.b .nil pass0 (pa_cons (pv 2) (pa_cons pe_int pa_nil))))) (pss_one (ps_ret (pe_tup (pa_cons pe_str (pa_cons (pv 2) pa_nil))))) pss_nil)
          (pss_cons (ps_if (pt_not (pt_val (pe_call Glaw_is_name (hr.mono (by decide)) (by rfl) Nlaw_is_name.g Nlaw_is_name.kp Nlaw_is_name.b .nil pass0 (pa_cons (pe_ix ix_tup (pv 2) pe_int (fun _ _ => rfl)) pa_nil)))) (pss_one (ps_ret (pe_tup (pa_cons pe_str (pa_cons (pe_ix ix_tup (pv 2) pe_int (fun _ _ => rfl)) pa_nil))))) pss_nil)
          (pss_cons (ps_if (pt_cmpR op_in_seq (pe_ix ix_tup (pv 2) pe_int (fun _ _ => rfl)) (pv 1) rfl) (pss_one (ps_ret (pe_tup (pa_cons pe_str (pa_cons (pe_ix ix_tup (pv 2) pe_int (fun _ _ => rfl)) pa_nil))))) pss_nil)
          (pss_cons (ps_if (pt_not (pt_val (pe_call Glaw_whole (hr.mono (by decide)) (by rfl) Nlaw_whole.g Nlaw_whole.kp Nlaw_whole.b .nil pass0 (pa_cons (pe_ix ix_tup (pv 2) pe_int (fun _ _ => rfl)) (pa_cons pe_int (pa_cons pe_int pa_nil)))))) (pss_one (ps_ret (pe_tup (pa_cons pe_str (pa_cons (pe_ix ix_tup (pv 2) pe_int (fun _ _ => rfl)) pa_nil))))) pss_nil)
          (pss_one (ps_expr (pe_bm PySem.F.plainAttrs_list PySem.F.slot_list_append PySem.F.type_list_append mt_append (pv 1) (pa_cons (pe_ix ix_tup (pv 2) pe_int (fun _ _ => rfl)) pa_nil)))))))))
      (pss_one (ps_ret pe_non)))), ?_⟩
        refine isSeq_read (i := 0) rfl dp.1 (fun H1 s1 => ?_)
        rw [hq]
        refine ⟨_, rfl, iteF ?_⟩
        refine ⟨_, rfl, a, xs, rfl, .inl (SqL.of (s1 _ _ ha)), _, _, rfl, rfl, _, rfl, ?_⟩
        rw [decide_eq_true l2]
        refine iteT ⟨_, _, rfl, rfl, _, rfl, ?_⟩
        rw [decide_eq_true l6]
        refine iteF ⟨Nat.zero_le _, fun L hL => ?_⟩
        have sA := s1.trans (same_alloc (o := .lst []) hL)
        have hLn : H L = none := s1.free hL
        refine ⟨_, rfl, a, rfl, ⟨_, SqL.of (sA _ _ ha)⟩, for_list (K := K) (a := a) (xs := xs) (fun i σ H' => ∃ (v : Option V) (as : List Str), σ = [some (.ref a), some (.ref L), v] ∧ H' L = some (.lst (as.map V.str)) ∧ as.length = i ∧ plD H as (xs.drop i) = plD H [] xs ∧ Same H H')
          ⟨_, [], rfl, upd_same, rfl, rfl, sA⟩ (fun i σ H' _ ⟨_, _, _, _, _, _, q⟩ => SqL.of (q _ _ ha)) ?_ ?_⟩
        · rintro i x σ H2 hx ⟨v, as, rfl, eL, el, ep, S⟩
          obtain ⟨thx, kx⟩ := dp.2 xs hq x (List.mem_of_getElem? hx)
          rw [drop_at hx] at ep
          have hi := (List.getElem?_eq_some_iff.mp hx).1
          have n2 := same_nt S
          refine ⟨_, rfl, x, 2, rfl, th_nt n2 thx, ?_⟩
          rw [ist_nt n2 thx]
          cases h2 : ist H 2 x with
          | false =>
            have e : pl1 H as x = some (.places, x) := pl1_no h2
            rw [pl1_stop e] at ep
            rw [← ep] at k
            exact ⟨_, rfl, iteT ⟨_, rfl, (by show 2 ≤ sizeLine; decide), fun p hp => k _ _ (S.trans (same_alloc hp)) ⟨p, rfl, upd_same⟩⟩⟩
          | true =>
            obtain ⟨ys, hx2, hl2⟩ := ist_true (n := 2) h2
            match ys, hl2 with
            | [n, q], _ =>
              have e : pl1 H as x = if nm n = true then (if n ∈ as.map V.str then some (.twice, n) else if wh 1 3 q = true then none else some (.number, q)) else some (.name, n) := by
                unfold pl1
                rw [hx2]
              have thn := kx _ (seq_of_tup hx2) n (by simp)
              have thq := kx _ (seq_of_tup hx2) q (by simp)
              have en : ∀ z, n = .str z → nameOf H x = z := fun z e => nameOf_at (q := q) (by rw [hx2, e])
              obtain ⟨t, rfl, ht⟩ := tup_some hx2
              have ht2 := S _ _ ht
              refine ⟨_, rfl, iteF ?_⟩
              refine ⟨_, rfl, t, _, 0, n, rfl, rfl, SqT.of ht2, rfl, n, rfl, th_nt n2 thn, fun H3 s3 => ?_⟩
              have S3 := S.trans s3
              have ht3 := s3 _ _ ht2
              have eL3 := s3 _ _ eL
              cases hn : nm n with
              | false =>
                rw [hn, if_neg Bool.false_ne_true] at e
                rw [pl1_stop e] at ep
                rw [← ep] at k
                exact ⟨_, rfl, iteT ⟨_, rfl, t, _, 0, n, rfl, rfl, SqT.of ht3, rfl, (by show 2 ≤ sizeLine; decide), fun p hp => k _ _ (S3.trans (same_alloc hp)) ⟨p, rfl, upd_same⟩⟩⟩
              | true =>
                rw [hn, if_pos rfl] at e
                obtain ⟨z, rfl, hz⟩ := nm_str hn
                refine ⟨_, rfl, iteF ?_⟩
                refine ⟨_, rfl, t, _, 0, .str z, rfl, rfl, SqT.of ht3, rfl, _, rfl, L, _, rfl, .inl (SqL.of eL3), rfl, flat_strs as, _, rfl, ?_⟩
                show if (if false = true then !inV (.str z) (as.map V.str) else inV (.str z) (as.map V.str)) = true then _ else _
                rw [if_neg Bool.false_ne_true, inV_mem]
                by_cases hm : V.str z ∈ as.map V.str
                · rw [if_pos hm] at e
                  rw [pl1_stop e] at ep
                  rw [← ep] at k
                  rw [decide_eq_true hm]
                  exact iteT ⟨_, rfl, t, _, 0, .str z, rfl, rfl, SqT.of ht3, rfl, (by show 2 ≤ sizeLine; decide), fun p hp => k _ _ (S3.trans (same_alloc hp)) ⟨p, rfl, upd_same⟩⟩
                · rw [if_neg hm] at e
                  rw [decide_eq_false hm]
                  refine iteF ?_
                  refine ⟨_, rfl, t, _, 1, q, rfl, rfl, SqT.of ht3, rfl, q, 1, 3, rfl, th_nt (n2.trans (same_nt s3)) thq, ?_⟩
                  cases hw : wh 1 3 q with
                  | false =>
                    rw [hw, if_neg Bool.false_ne_true] at e
                    rw [pl1_stop e] at ep
                    rw [← ep] at k
                    exact ⟨_, rfl, iteT ⟨_, rfl, t, _, 1, q, rfl, rfl, SqT.of ht3, rfl, (by show 2 ≤ sizeLine; decide), fun p hp => k _ _ (S3.trans (same_alloc hp)) ⟨p, rfl, upd_same⟩⟩⟩
                  | true =>
                    rw [hw, if_pos rfl] at e
                    rw [pl1_snoc e, en z rfl] at ep
                    refine ⟨_, rfl, iteF ?_⟩
                    refine ⟨_, rfl, .inl ⟨rfl, _, SqL.of eL3⟩, _, rfl, t, _, 0, .str z, rfl, rfl, SqT.of ht3, rfl, L, _, _, rfl, rfl, eL3, ?_, ?_⟩
                    · rw [List.length_map, el]
                      exact small1000 (by omega)
                    · refine ⟨_, as ++ [z], rfl, ?_, by rw [List.length_append, el]; rfl, ep, ?_⟩
                      · rw [upd_same, List.map_append]
                        rfl
                      · exact fun c o h => by
                          rw [upd_ne (ne_of_none h hLn)]
                          exact S3 _ _ h
        · rintro σ H2 ⟨v, as, rfl, eL, el, ep, S⟩
          rw [List.drop_length] at ep
          rw [← ep] at k
          exact k H2 _ S rfl
      · skip
        refine ⟨_, pss_cons (ps_if (PW.pt (pw_or (pt_not (pt_val (pe_callB call_isiT (by rfl) T.isinstance_ (by decide +kernel) (pa_cons (pv 0) (pa_cons (pe_tup (pa_cons (pe_bltn (v := .ty "list") (by rfl) T.list_ (by decide +kernel) rfl) (pa_cons (pe_bltn (v := .ty "tuple") (by rfl) T.tuple_ (by decide +kernel) rfl) pa_nil))) pa_nil))))) (pw_or1 (pt_not (pt_chain op_le op_le pe_int (pe_callB call_len_seq (by rfl) T.len_ PySem.boot_len (pa_cons (pv 0) pa_nil)) pe_int))))) (pss_one (ps_ret (pe_tup (pa_cons pe_str (pa_cons (pv 0) pa_nil))))) pss_nil)
      (pss_cons (ps_set (i := 1) sc_law_places_due.nd rfl (Or.inl rfl) (pe_lst pa_nil))
      (pss_cons (ps_for PassesOwn.never rfl (pi_tup (pv 0)) (pg_name (i := 2) sc_law_places_due.nd rfl (Or.inl rfl)) (pss_cons (ps_if (pt_not (pt_val (pe_call Glaw_is_row (hr.mono (by decide)) (by rfl) Nlaw_is_row.g Nlaw_is_row.kp Nlaw_is_row.b .nil pass0 (pa_cons (pv 2) (pa_cons pe_int pa_nil))))) (pss_one (ps_ret (pe_tup (pa_cons pe_str (pa_cons (pv 2) pa_nil))))) pss_nil)
          (pss_cons (ps_if (pt_not (pt_val (pe_call Glaw_is_name (hr.mono (by decide)) (by rfl) Nlaw_is_name.g Nlaw_is_name.kp Nlaw_is_name.b .nil pass0 (pa_cons (pe_ix ix_tup (pv 2) pe_int (fun _ _ => rfl)) pa_nil)))) (pss_one (ps_ret (pe_tup (pa_cons pe_str (pa_cons (pe_ix ix_tup (pv 2) pe_int (fun _ _ => rfl)) pa_nil))))) pss_nil)
          (pss_cons (ps_if (pt_cmpR op_in_seq (pe_ix ix_tup (pv 2) pe_int (fun _ _ => rfl)) (pv 1) rfl) (pss_one (ps_ret (pe_tup (pa_cons pe_str (pa_cons (pe_ix ix_tup (pv 2) pe_int (fun _ _ => rfl)) pa_nil))))) pss_nil)
          (pss_cons (ps_if (pt_not (pt_val (pe_call Glaw_whole (hr.mono (by decide)) (by rfl) Nlaw_whole.g Nlaw_whole.kp Nlaw_whole.b .nil pass0 (pa_cons (pe_ix ix_tup (pv 2) pe_int (fun _ _ => rfl)) (pa_cons pe_int (pa_cons pe_int pa_nil)))))) (pss_one (ps_ret (pe_tup (pa_cons pe_str (pa_cons (pe_ix ix_tup (pv 2) pe_int (fun _ _ => rfl)) pa_nil))))) pss_nil)
          (pss_one (ps_expr (pe_bm PySem.F.plainAttrs_list PySem.F.slot_list_append PySem.F.type_list_append mt_append (pv 1) (pa_cons (pe_ix ix_tup (pv 2) pe_int (fun _ _ => rfl)) pa_nil)))))))))
      (pss_one (ps_ret pe_non)))), ?_⟩
        refine isSeq_read (i := 0) rfl dp.1 (fun H1 s1 => ?_)
        rw [hq]
        refine ⟨_, rfl, iteF ?_⟩
        refine ⟨_, rfl, a, xs, rfl, .inr (SqT.of (s1 _ _ ha)), _, _, rfl, rfl, _, rfl, ?_⟩
        rw [decide_eq_true l2]
        refine iteT ⟨_, _, rfl, rfl, _, rfl, ?_⟩
        rw [decide_eq_true l6]
        refine iteF ⟨Nat.zero_le _, fun L hL => ?_⟩
        have sA := s1.trans (same_alloc (o := .lst []) hL)
        have hLn : H L = none := s1.free hL
        refine ⟨_, rfl, a, rfl, ⟨_, SqT.of (sA _ _ ha)⟩, for_tup (K := K) (a := a) (xs := xs) (fun i σ H' => ∃ (v : Option V) (as : List Str), σ = [some (.ref a), some (.ref L), v] ∧ H' L = some (.lst (as.map V.str)) ∧ as.length = i ∧ plD H as (xs.drop i) = plD H [] xs ∧ Same H H')
          ⟨_, [], rfl, upd_same, rfl, rfl, sA⟩ (fun i σ H' _ ⟨_, _, _, _, _, _, q⟩ => SqT.of (q _ _ ha)) ?_ ?_⟩
        · rintro i x σ H2 hx ⟨v, as, rfl, eL, el, ep, S⟩
          obtain ⟨thx, kx⟩ := dp.2 xs hq x (List.mem_of_getElem? hx)
          rw [drop_at hx] at ep
          have hi := (List.getElem?_eq_some_iff.mp hx).1
          have n2 := same_nt S
          refine ⟨_, rfl, x, 2, rfl, th_nt n2 thx, ?_⟩
          rw [ist_nt n2 thx]
          cases h2 : ist H 2 x with
          | false =>
            have e : pl1 H as x = some (.places, x) := pl1_no h2
            rw [pl1_stop e] at ep
            rw [← ep] at k
            exact ⟨_, rfl, iteT ⟨_, rfl, (by show 2 ≤ sizeLine; decide), fun p hp => k _ _ (S.trans (same_alloc hp)) ⟨p, rfl, upd_same⟩⟩⟩
          | true =>
            obtain ⟨ys, hx2, hl2⟩ := ist_true (n := 2) h2
            match ys, hl2 with
            | [n, q], _ =>
              have e : pl1 H as x = if nm n = true then (if n ∈ as.map V.str then some (.twice, n) else if wh 1 3 q = true then none else some (.number, q)) else some (.name, n) := by
                unfold pl1
                rw [hx2]
              have thn := kx _ (seq_of_tup hx2) n (by simp)
              have thq := kx _ (seq_of_tup hx2) q (by simp)
              have en : ∀ z, n = .str z → nameOf H x = z := fun z e => nameOf_at (q := q) (by rw [hx2, e])
              obtain ⟨t, rfl, ht⟩ := tup_some hx2
              have ht2 := S _ _ ht
              refine ⟨_, rfl, iteF ?_⟩
              refine ⟨_, rfl, t, _, 0, n, rfl, rfl, SqT.of ht2, rfl, n, rfl, th_nt n2 thn, fun H3 s3 => ?_⟩
              have S3 := S.trans s3
              have ht3 := s3 _ _ ht2
              have eL3 := s3 _ _ eL
              cases hn : nm n with
              | false =>
                rw [hn, if_neg Bool.false_ne_true] at e
                rw [pl1_stop e] at ep
                rw [← ep] at k
                exact ⟨_, rfl, iteT ⟨_, rfl, t, _, 0, n, rfl, rfl, SqT.of ht3, rfl, (by show 2 ≤ sizeLine; decide), fun p hp => k _ _ (S3.trans (same_alloc hp)) ⟨p, rfl, upd_same⟩⟩⟩
              | true =>
                rw [hn, if_pos rfl] at e
                obtain ⟨z, rfl, hz⟩ := nm_str hn
                refine ⟨_, rfl, iteF ?_⟩
                refine ⟨_, rfl, t, _, 0, .str z, rfl, rfl, SqT.of ht3, rfl, _, rfl, L, _, rfl, .inl (SqL.of eL3), rfl, flat_strs as, _, rfl, ?_⟩
                show if (if false = true then !inV (.str z) (as.map V.str) else inV (.str z) (as.map V.str)) = true then _ else _
                rw [if_neg Bool.false_ne_true, inV_mem]
                by_cases hm : V.str z ∈ as.map V.str
                · rw [if_pos hm] at e
                  rw [pl1_stop e] at ep
                  rw [← ep] at k
                  rw [decide_eq_true hm]
                  exact iteT ⟨_, rfl, t, _, 0, .str z, rfl, rfl, SqT.of ht3, rfl, (by show 2 ≤ sizeLine; decide), fun p hp => k _ _ (S3.trans (same_alloc hp)) ⟨p, rfl, upd_same⟩⟩
                · rw [if_neg hm] at e
                  rw [decide_eq_false hm]
                  refine iteF ?_
                  refine ⟨_, rfl, t, _, 1, q, rfl, rfl, SqT.of ht3, rfl, q, 1, 3, rfl, th_nt (n2.trans (same_nt s3)) thq, ?_⟩
                  cases hw : wh 1 3 q with
                  | false =>
                    rw [hw, if_neg Bool.false_ne_true] at e
                    rw [pl1_stop e] at ep
                    rw [← ep] at k
                    exact ⟨_, rfl, iteT ⟨_, rfl, t, _, 1, q, rfl, rfl, SqT.of ht3, rfl, (by show 2 ≤ sizeLine; decide), fun p hp => k _ _ (S3.trans (same_alloc hp)) ⟨p, rfl, upd_same⟩⟩⟩
                  | true =>
                    rw [hw, if_pos rfl] at e
                    rw [pl1_snoc e, en z rfl] at ep
                    refine ⟨_, rfl, iteF ?_⟩
                    refine ⟨_, rfl, .inl ⟨rfl, _, SqL.of eL3⟩, _, rfl, t, _, 0, .str z, rfl, rfl, SqT.of ht3, rfl, L, _, _, rfl, rfl, eL3, ?_, ?_⟩
                    · rw [List.length_map, el]
                      exact small1000 (by omega)
                    · refine ⟨_, as ++ [z], rfl, ?_, by rw [List.length_append, el]; rfl, ep, ?_⟩
                      · rw [upd_same, List.map_append]
                        rfl
                      · exact fun c o h => by
                          rw [upd_ne (ne_of_none h hLn)]
                          exact S3 _ _ h
        · rintro σ H2 ⟨v, as, rfl, eL, el, ep, S⟩
          rw [List.drop_length] at ep
          rw [← ep] at k
          exact k H2 _ S rfl
end
end K4

set_option maxRecDepth 100000
set_option maxHeartbeats 1000000
/-! A for over a list or a tuple, one proof for both. -/
namespace My
open PySem PySem.Spec PyProof.Rows L2 GxR Gd TL
def OneOf (K : PySem.W.Frag) (a : Addr) (H : Hp) (J : It) : Prop := (J = Itl K a ∧ ∃ xs, SqL K H a xs) ∨ (J = Itt K a ∧ ∃ xs, SqT K H a xs)
def iSeq (K : PySem.W.Frag) (t : TE) : TI := fun σ H R => t σ H fun v G => ∃ a J, v = .ref a ∧ OneOf K a G J ∧ R J G
theorem pi_seq {X : Cx} {tg l : Expr} {t : TE} (h : PE X l t) : PI X tg l (iSeq X.K t) := by
  constructor
  intro pins s σ H R I q
  apply thn (h.run pins s σ H _ I q)
  rintro v s1 ⟨x, G, IG, r, a, J, rfl, one, q⟩
  have fresh := Nat.le_refl s1.heap.objs.size
  have f0 : ∀ b ∈ [s1.heap.objs.size], s1.heap.objs.size ≤ b ∧ G b = none := fun b m => by
    rw [List.mem_singleton.mp m]
    exact ⟨fresh, IG.hok.fresh fresh⟩
  cases r
  rcases one with ⟨rfl, xs, hx⟩ | ⟨rfl, xs, hx⟩
  · obtain ⟨_, _, p, _⟩ := IG.list hx
    apply wpAny_pyIter_list p.isList
    exact ⟨_, [_], _, _, G, rfl, IG.kept (t' := s1.toks) (fun b o e => Heap.get?_push_of_some _ e), turn_list a _, ⟨_, Heap.get?_push_size _ rfl, rfl, rfl⟩, fun b m => IG.fpOk (f0 b m).1 (f0 b m).2, q⟩
  · obtain ⟨_, _, p, _⟩ := IG.tuple hx
    apply wpAny_pyIter_tuple (show s1.heap.IsTuple a _ from p)
    exact ⟨_, [_], _, _, G, rfl, IG.kept (t' := s1.toks) (fun b o e => Heap.get?_push_of_some _ e), turn_tuple a _, ⟨_, Heap.get?_push_size _ rfl, rfl, rfl⟩, fun b m => IG.fpOk (f0 b m).1 (f0 b m).2, q⟩
theorem walk_seq {K : PySem.W.Frag} {H : Hp} {a : Addr} {xs : List V} (h : H a = some (.lst xs) ∨ H a = some (.tup xs)) : ∃ J, (∀ G : Hp, G a = H a → OneOf K a G J) ∧ Walk J xs.length (fun G => G a = H a) (YAt xs) := by
  rcases h with h | h
  · exact ⟨_, fun G e => .inl ⟨rfl, xs, SqL.of (e.trans h)⟩, (walk_list (K := K) (a := a) (xs := xs)).mono (fun G e => SqL.of (e.trans h)) fun _ _ _ _ _ _ y => y⟩
  · exact ⟨_, fun G e => .inr ⟨rfl, xs, SqT.of (e.trans h)⟩, (walk_tup (K := K) (a := a) (xs := xs)).mono (fun G e => SqT.of (e.trans h)) fun _ _ _ _ _ _ y => y⟩
theorem same_at {H H' : Hp} {a : Addr} {xs : List V} (s : Same H H') (h : H a = some (.lst xs) ∨ H a = some (.tup xs)) : H' a = H a := by
  rcases h with h | h <;> rw [h, s _ _ h]
end My

set_option maxRecDepth 100000
set_option maxHeartbeats 400000
namespace K4
open PySem PySem.Spec PyProof.Rows L2 GxR Gd TL My
theorem ifT {A B : Prop} {b : Bool} (h : b = true) (k : A) : if b = true then A else B := by rw [if_pos h]; exact k
theorem ifF {A B : Prop} {b : Bool} (h : b = false) (k : B) : if b = true then A else B := by rw [if_neg (by rw [h]; exact Bool.false_ne_true)]; exact k
def isS : V → Bool
  | .str _ => true
  | _ => false
theorem rIsi_str {σ : L2.St} {K : PySem.W.Frag} {H : Hp} {n : V} {Q : VK} (th : Th H n) (k : Q (.bl (isS n)) H) : tCons (tC (V.ty "str")) tNil σ H (fun xs H2 => rIsi K (n :: xs) H2 Q) := by
  show rIsi K [n, .ty "str"] H Q
  cases th with
  | non => exact ⟨_, _, _, _, false, rfl, .ty "str", .base .non, (by rfl), k⟩
  | bl b => exact ⟨_, _, _, _, false, rfl, .ty "str", .base (.bl b), (by rfl), k⟩
  | int i => exact ⟨_, _, _, _, false, rfl, .ty "str", .base (.int i), (by rfl), k⟩
  | str z h g => exact ⟨_, _, _, _, true, rfl, .ty "str", .base (.str z), (by rfl), k⟩
  | dic a h => exact ⟨_, _, _, _, false, rfl, .ty "str", .base (.dK h), (by rfl), k⟩
  | lst a xs h => exact ⟨_, _, _, _, false, rfl, .ty "str", .base (.lst h), (by rfl), k⟩
  | tup a xs h => exact ⟨_, _, _, _, false, rfl, .ty "str", .base (.tup h), (by rfl), k⟩
theorem isS_no {n : V} (h : isS n = false) (z : Str) : n ≠ .str z := fun e => by rw [e] at h; cases h
theorem isS_yes {n : V} (h : isS n = true) : ∃ z, n = .str z := by
  cases n with
  | str z => exact ⟨z, rfl⟩
  | _ => cases h
theorem st1_no {H : Hp} {v : V} (h : ist H 2 v = false) : st1 H v = false := by
  unfold st1
  unfold ist at h
  split
  · rename_i n q e
    rw [e] at h
    cases h
  · rfl
theorem st1_at {H : Hp} {v n q : V} (h : tupOf H v = some [n, q]) : st1 H v = ((decide (n = .str "staff") || decide (n = .str "ticket")) && wh 0 1 q) := by
  unfold st1
  rw [h]
theorem lo1_no {H : Hp} {v : V} {low tp : Int} (h : ist H 3 v = false) : lo1 H low tp v = false := by
  unfold lo1
  unfold ist at h
  split
  · rename_i n q l e
    rw [e] at h
    cases h
  · rfl
theorem lo1_at {H : Hp} {v f l h : V} {low tp : Int} (e : tupOf H v = some [f, l, h]) : lo1 H low tp v = (wh low tp f && wh (intOf f + 2) tp l && wh 0 1 h) := by
  unfold lo1
  rw [e]
theorem lastLo_at {H : Hp} {v f l h : V} (e : tupOf H v = some [f, l, h]) : lastLo H v = intOf l := by
  unfold lastLo
  rw [e]
theorem at_X {K : PySem.W.Frag} {H : Hp} {a : Addr} {xs : List V} (h : H a = some (.lst xs) ∨ H a = some (.tup xs)) : SqL K H a xs ∨ SqT K H a xs := h.elim (fun h => .inl (SqL.of h)) fun h => .inr (SqT.of h)
theorem at_same {H H' : Hp} {a : Addr} {xs : List V} (s : Same H H') (h : H a = some (.lst xs) ∨ H a = some (.tup xs)) : H' a = some (.lst xs) ∨ H' a = some (.tup xs) := h.elim (fun h => .inl (s _ _ h)) fun h => .inr (s _ _ h)
section
variable {P : Program} {w : World} {K : PySem.W.Frag} {mg : Str → Option Value} {base : Heap} {f1 f2 f3 : Addr} {fd1 fd2 fd3 : FuncData}
def spLawDue : Sp := fun vs H Q _ => ∃ v1 v2 v3, vs = [v1, v2, v3] ∧ Deep H v1 ∧ Deep H v2 ∧ Deep H v3 ∧ ∀ H' u, Same H H' → DueV H' u (dueD H v1 v2 v3) → Q u H'
theorem ok_law_due {f : Addr} {fd : FuncData} (F : Fun K "_law_due" "_law_due" s_law_due f fd) (T : Txt mg)
    (Nlaw_is_row : Fn K mg "_law_is_row" s_law_is_row ["_law_thing", "_law_size"] f1 fd1) (Glaw_is_row : FnOk P w K mg base CX0 1 f1 fd1 ["_law_thing", "_law_size"] spLawRow)
    (Nlaw_places_due : Fn K mg "_law_places_due" s_law_places_due ["_law_places"] f2 fd2) (Glaw_places_due : FnOk P w K mg base CX0 3 f2 fd2 ["_law_places"] spPlacesDue)
    (Nlaw_whole : Fn K mg "_law_whole" s_law_whole ["_law_thing", "_law_low", "_law_high"] f3 fd3) (Glaw_whole : FnOk P w K mg base CX0 1 f3 fd3 ["_law_thing", "_law_low", "_law_high"] spLawWhole) :
    FnOk P w K mg base CX0 4 f fd ["_law_places", "_law_stretches", "_law_longs"] spLawDue := by
  refine F.ok sc_law_due (fun vs H Q E h => ?_) (fun cdv A outer s H vs Q E hr h => ?_)
  · obtain ⟨v1, v2, v3, rfl, _⟩ := h
    rfl
  · obtain ⟨v1, v2, v3, rfl, d1, d2, d3, k⟩ := h
    refine ⟨_, pss_cons (ps_set (i := 3) sc_law_due.nd rfl (Or.inl rfl) (pe_call Glaw_places_due (hr.mono (by decide)) (by rfl) Nlaw_places_due.g Nlaw_places_due.kp Nlaw_places_due.b .nil pass0 (pa_cons (pv 0) pa_nil)))
      (pss_cons (ps_if (pt_cmpR op_notN (pv 3) pe_non (nomark _)) (pss_one (ps_ret (pv 3))) pss_nil)
      (pss_cons (ps_if (PW.pt (pw_or (pt_not (pt_val (pe_callB call_isiT (by rfl) T.isinstance_ (by decide +kernel) (pa_cons (pv 1) (pa_cons (pe_tup (pa_cons (pe_bltn (v := .ty "list") (by rfl) T.list_ (by decide +kernel) rfl) (pa_cons (pe_bltn (v := .ty "tuple") (by rfl) T.tuple_ (by decide +kernel) rfl) pa_nil))) pa_nil))))) (pw_or1 (pt_cmpR op_ne (pe_callB call_len_seq (by rfl) T.len_ PySem.boot_len (pa_cons (pv 1) pa_nil)) (pe_op op_sub (pe_callB call_len_seq (by rfl) T.len_ PySem.boot_len (pa_cons (pv 0) pa_nil)) pe_int) (nomark _))))) (pss_one (ps_ret (pe_tup (pa_cons pe_str (pa_cons (pv 1) pa_nil))))) pss_nil)
      (pss_cons (ps_for PassesOwn.never rfl (pi_seq (pv 1)) (pg_name (i := 4) sc_law_due.nd rfl (Or.inl rfl)) (pss_cons (ps_if (PW.pt (pw_or (pt_not (pt_val (pe_call Glaw_is_row (hr.mono (by decide)) (by rfl) Nlaw_is_row.g Nlaw_is_row.kp Nlaw_is_row.b .nil pass0 (pa_cons (pv 4) (pa_cons pe_int pa_nil))))) (pw_or (pt_not (pt_val (pe_callB call_isi (by rfl) T.isinstance_ (by decide +kernel) (pa_cons (pe_ix ix_tup (pv 4) pe_int (fun _ _ => rfl)) (pa_cons (pe_bltn (v := .ty "str") (by rfl) T.str_ (by decide +kernel) rfl) pa_nil))))) (pw_or1 (pt_cmpR op_notIn_seq (pe_ix ix_tup (pv 4) pe_int (fun _ _ => rfl)) (pe_lst (pa_cons pe_str (pa_cons pe_str pa_nil))) rfl))))) (pss_one (ps_ret (pe_tup (pa_cons pe_str (pa_cons (pv 4) pa_nil))))) pss_nil)
          (pss_one (ps_if (pt_not (pt_val (pe_call Glaw_whole (hr.mono (by decide)) (by rfl) Nlaw_whole.g Nlaw_whole.kp Nlaw_whole.b .nil pass0 (pa_cons (pe_ix ix_tup (pv 4) pe_int (fun _ _ => rfl)) (pa_cons pe_int (pa_cons pe_int pa_nil)))))) (pss_one (ps_ret (pe_tup (pa_cons pe_str (pa_cons (pv 4) pa_nil))))) pss_nil))))
      (pss_cons (ps_if (PW.pt (pw_and (pt_cmpR op_notN (pv 2) pe_non (nomark _)) (pw_and1 (PW.pt (pw_or (pt_not (pt_val (pe_callB call_isiT (by rfl) T.isinstance_ (by decide +kernel) (pa_cons (pv 2) (pa_cons (pe_tup (pa_cons (pe_bltn (v := .ty "list") (by rfl) T.list_ (by decide +kernel) rfl) (pa_cons (pe_bltn (v := .ty "tuple") (by rfl) T.tuple_ (by decide +kernel) rfl) pa_nil))) pa_nil))))) (pw_or1 (pt_cmpR op_gt (pe_callB call_len_seq (by rfl) T.len_ PySem.boot_len (pa_cons (pv 2) pa_nil)) pe_int (nomark _)))))))) (pss_one (ps_ret (pe_tup (pa_cons pe_str (pa_cons (pv 2) pa_nil))))) pss_nil)
      (pss_cons (ps_set (i := 5) sc_law_due.nd rfl (Or.inl rfl) pe_int)
      (pss_cons (ps_for PassesOwn.never rfl (pi_seq (pe_ifExp (pt_cmpR op_notN (pv 2) pe_non (nomark _)) (pv 2) (pe_lst pa_nil))) (pg_name (i := 4) sc_law_due.nd rfl (Or.inl rfl)) (pss_cons (ps_if (PW.pt (pw_or (pt_not (pt_val (pe_call Glaw_is_row (hr.mono (by decide)) (by rfl) Nlaw_is_row.g Nlaw_is_row.kp Nlaw_is_row.b .nil pass0 (pa_cons (pv 4) (pa_cons pe_int pa_nil))))) (pw_or1 (pt_not (pt_val (pe_call Glaw_whole (hr.mono (by decide)) (by rfl) Nlaw_whole.g Nlaw_whole.kp Nlaw_whole.b .nil pass0 (pa_cons (pe_ix ix_tup (pv 4) pe_int (fun _ _ => rfl)) (pa_cons (pv 5) (pa_cons (pe_op op_sub (pe_callB call_len_seq (by rfl) T.len_ PySem.boot_len (pa_cons (pv 0) pa_nil)) pe_int) pa_nil))))))))) (pss_one (ps_ret (pe_tup (pa_cons pe_str (pa_cons (pv 4) pa_nil))))) pss_nil)
          (pss_cons (ps_if (PW.pt (pw_or (pt_not (pt_val (pe_call Glaw_whole (hr.mono (by decide)) (by rfl) Nlaw_whole.g Nlaw_whole.kp Nlaw_whole.b .nil pass0 (pa_cons (pe_ix ix_tup (pv 4) pe_int (fun _ _ => rfl)) (pa_cons (pe_op op_add (pe_ix ix_tup (pv 4) pe_int (fun _ _ => rfl)) pe_int) (pa_cons (pe_op op_sub (pe_callB call_len_seq (by rfl) T.len_ PySem.boot_len (pa_cons (pv 0) pa_nil)) pe_int) pa_nil)))))) (pw_or1 (pt_not (pt_val (pe_call Glaw_whole (hr.mono (by decide)) (by rfl) Nlaw_whole.g Nlaw_whole.kp Nlaw_whole.b .nil pass0 (pa_cons (pe_ix ix_tup (pv 4) pe_int (fun _ _ => rfl)) (pa_cons pe_int (pa_cons pe_int pa_nil))))))))) (pss_one (ps_ret (pe_tup (pa_cons pe_str (pa_cons (pv 4) pa_nil))))) pss_nil)
          (pss_one (ps_set (i := 5) sc_law_due.nd rfl (Or.inl rfl) (pe_ix ix_tup (pv 4) pe_int (fun _ _ => rfl)))))))
      (pss_one (ps_ret pe_non)))))))), ?_⟩
    refine ⟨_, rfl, v1, rfl, d1, fun H1 u s1 du => ?_⟩
    cases hp : placesD H v1 with
    | some d =>
      rw [hp] at du
      obtain ⟨t, x⟩ := d
      obtain ⟨p, rfl, hp'⟩ := du
      refine ⟨_, rfl, rfl, _, rfl, ifT (by rw [decide_eq_false (by simp)]; rfl) ⟨_, rfl, k _ _ s1 ?_⟩⟩
      unfold dueD
      rw [hp]
      exact ⟨p, rfl, hp'⟩
    | none =>
      rw [hp] at du
      obtain rfl : u = .non := du
      refine ⟨_, rfl, rfl, _, rfl, iteF ?_⟩
      have hi : isl H 2 6 v1 = true := by
        cases q : isl H 2 6 v1 with
        | true => rfl
        | false =>
          unfold placesD at hp
          rw [q, if_neg Bool.false_ne_true] at hp
          cases hp
      obtain ⟨a1, xs1, rfl, hq1, ha1, l2, l6⟩ := isl_true hi
      have em : manyOf H (.ref a1) = (xs1.length : Int) := by
        unfold manyOf
        rw [hq1]
        rfl
      have due2 : dueD H (.ref a1) v2 v3 = match stretchesD H ((xs1.length : Int) - 1) v2 with
          | some d => some d
          | none => if v3 = .non then none else longsD H ((xs1.length : Int) - 1) v3 := by
        unfold dueD
        rw [hp, em]
        try exact rfl
      rw [due2] at k
      clear due2 hp em hi
      refine isSeq_read (i := 1) rfl (d2.nt (same_nt s1)).1 (fun H2 s2 => ?_)
      rw [seq_nt (same_nt s1) d2.1]
      have S2 := s1.trans s2
      cases hq2 : seqOf H v2 with
      | none =>
        have e : stretchesD H ((xs1.length : Int) - 1) v2 = some (.stretches, v2) := by
          unfold stretchesD isl
          rw [hq2, if_neg Bool.false_ne_true]
        rw [e] at k
        exact ⟨_, rfl, iteT ⟨_, rfl, (by show 2 ≤ sizeLine; decide), fun p hp => k _ _ (S2.trans (same_alloc hp)) ⟨p, rfl, upd_same⟩⟩⟩
      | some xs2 =>
        obtain ⟨a2, rfl, ha2⟩ := seq_some hq2
        refine ⟨_, rfl, iteF ⟨_, rfl, a2, xs2, rfl, at_X (at_same S2 ha2), _, rfl, a1, xs1, rfl, at_X (at_same S2 ha1), _, _, rfl, rfl, rfl, _, rfl, ?_⟩⟩
        by_cases hl : (xs2.length : Int) = (xs1.length : Int) - 1
        · have e : stretchesD H ((xs1.length : Int) - 1) (.ref a2) = stD H xs2 := by
            unfold stretchesD isl
            rw [hq2]
            show (if (decide ((xs1.length : Int) - 1 ≤ (xs2.length : Int)) && decide ((xs2.length : Int) ≤ (xs1.length : Int) - 1)) = true then _ else _) = _
            rw [decide_eq_true (by omega), decide_eq_true (by omega), Bool.and_self, if_pos rfl]
            rfl
          rw [e] at k
          refine ifF (by rw [hl, decide_eq_true rfl]; rfl) ?_
          obtain ⟨J, hJ, wk⟩ := walk_seq (K := K) (at_same S2 ha2)
          refine ⟨_, rfl, a2, J, rfl, hJ _ rfl, for_it wk (fun i σ H' => ∃ v : Option V, σ = [some (.ref a1), some (.ref a2), some v3, some .non, v, none] ∧ stD H (xs2.drop i) = stD H xs2 ∧ Same H H' ∧ Same H2 H')
            ⟨_, rfl, rfl, S2, Same.refl _⟩ (fun i σ H' _ ⟨_, _, _, _, q⟩ => same_at q (at_same S2 ha2)) ?_ ?_⟩
          · rintro i x σ H3 H3' hi ⟨v, rfl, ep, S3, T3⟩ ⟨rfl, hx⟩
            obtain ⟨thx, kx⟩ := d2.2 xs2 hq2 x (List.mem_of_getElem? hx)
            rw [drop_at hx] at ep
            have n3 := same_nt S3
            refine ⟨_, rfl, x, 2, rfl, th_nt n3 thx, ?_⟩
            rw [ist_nt n3 thx]
            cases h2 : ist H 2 x with
            | false =>
              rw [st_stop (st1_no h2)] at ep
              rw [← ep] at k
              exact ⟨_, rfl, iteT ⟨_, rfl, (by show 2 ≤ sizeLine; decide), fun p hp => k _ _ (S3.trans (same_alloc hp)) ⟨p, rfl, upd_same⟩⟩⟩
            | true =>
              obtain ⟨ys, hx2, hl2⟩ := ist_true (n := 2) h2
              match ys, hl2 with
              | [n, q], _ =>
                have thn := th_nt n3 (kx _ (seq_of_tup hx2) n (by simp))
                have thq := kx _ (seq_of_tup hx2) q (by simp)
                have e := st1_at hx2
                obtain ⟨t, rfl, ht⟩ := tup_some hx2
                have ht3 := S3 _ _ ht
                refine ⟨_, rfl, iteF ⟨_, rfl, t, _, 0, n, rfl, rfl, SqT.of ht3, rfl, rIsi_str thn ?_⟩⟩
                cases hs : isS n with
                | false =>
                  rw [decide_eq_false (isS_no hs _), decide_eq_false (isS_no hs _), Bool.or_false, Bool.false_and] at e
                  rw [st_stop e] at ep
                  rw [← ep] at k
                  exact ⟨_, rfl, iteT ⟨_, rfl, (by show 2 ≤ sizeLine; decide), fun p hp => k _ _ (S3.trans (same_alloc hp)) ⟨p, rfl, upd_same⟩⟩⟩
                | true =>
                  obtain ⟨z, rfl⟩ := isS_yes hs
                  refine ⟨_, rfl, iteF ⟨_, rfl, t, _, 0, .str z, rfl, rfl, SqT.of ht3, rfl, (by show 2 ≤ sizeLine; decide), fun L hL => ⟨L, _, rfl, .inl (SqL.of upd_same), rfl, rfl, _, rfl, ?_⟩⟩⟩
                  have s4 : Same H3' (upd H3' L (.lst [.str "staff", .str "ticket"])) := same_alloc hL
                  have S4 := S3.trans s4
                  have T4 := T3.trans s4
                  have ht4 := s4 _ _ ht3
                  generalize upd H3' L (.lst [.str "staff", .str "ticket"]) = H4 at s4 S4 T4 ht4 ⊢
                  show if (if true = true then !inV (.str z) [.str "staff", .str "ticket"] else inV (.str z) [.str "staff", .str "ticket"]) = true then _ else _
                  rw [if_pos rfl, flat_in2 rfl]
                  cases hb : (decide (V.str z = .str "staff") || decide (V.str z = .str "ticket")) with
                  | false =>
                    rw [hb, Bool.false_and] at e
                    rw [st_stop e] at ep
                    rw [← ep] at k
                    exact iteT ⟨_, rfl, (by show 2 ≤ sizeLine; decide), fun p hp => k _ _ (S4.trans (same_alloc hp)) ⟨p, rfl, upd_same⟩⟩
                  | true =>
                    rw [hb, Bool.true_and] at e
                    refine iteF ⟨_, rfl, t, _, 1, q, rfl, rfl, SqT.of ht4, rfl, q, 0, 1, rfl, th_nt (same_nt S4) thq, ?_⟩
                    cases hw : wh 0 1 q with
                    | false =>
                      rw [hw] at e
                      rw [st_stop e] at ep
                      rw [← ep] at k
                      exact ⟨_, rfl, iteT ⟨_, rfl, (by show 2 ≤ sizeLine; decide), fun p hp => k _ _ (S4.trans (same_alloc hp)) ⟨p, rfl, upd_same⟩⟩⟩
                    | true =>
                      rw [hw] at e
                      rw [st_go e] at ep
                      exact ⟨_, rfl, iteF ⟨_, rfl, ep, S4, T4⟩⟩
          · rintro σ H3 ⟨v, rfl, ep, S3, _⟩
            rw [List.drop_length] at ep
            rw [← ep] at k
            replace k : ∀ H' u, Same H H' → DueV H' u (if v3 = .non then none else longsD H ((xs1.length : Int) - 1) v3) → Q u H' := k
            clear e ep s1 s2 S2 wk hJ J
            by_cases hn : v3 = .non
            · rw [if_pos hn] at k
              refine ⟨_, rfl, rfl, _, rfl, ifF (by rw [decide_eq_true hn]; rfl) ?_⟩
              refine ⟨_, rfl, rfl, _, rfl, ifF (by rw [decide_eq_true hn]; rfl) ⟨Nat.zero_le _, fun a3 hL => ?_⟩⟩
              have S6 := S3.trans (same_alloc (o := .lst []) hL)
              obtain ⟨xs3, hxs⟩ : ∃ xs3 : List V, xs3 = [] := ⟨_, rfl⟩
              have ha3 : upd H3 a3 (.lst []) a3 = some (.lst xs3) ∨ upd H3 a3 (.lst []) a3 = some (.tup xs3) := .inl (by rw [hxs, upd_same])
              have all3 : ∀ x ∈ xs3, Th H x ∧ Kids H x := fun x hx => by rw [hxs] at hx; cases hx
              have k0 := k
              replace k : ∀ H' u, Same H H' → DueV H' u (loD H ((xs1.length : Int) - 1) 0 xs3) → Q u H' := by rw [hxs]; exact k0
              generalize upd H3 a3 (.lst []) = H6 at S6 ha3 ⊢
              obtain ⟨J, hJ, wk⟩ := walk_seq (K := K) ha3
              refine ⟨a3, J, rfl, hJ _ rfl, for_it wk (fun i σ H' => ∃ (v : Option V) (low : Int), σ = [some (.ref a1), some (.ref a2), some v3, some .non, v, some (.int low)] ∧ loD H ((xs1.length : Int) - 1) low (xs3.drop i) = loD H ((xs1.length : Int) - 1) 0 xs3 ∧ Same H H' ∧ Same H6 H')
                ⟨_, _, rfl, rfl, S6, Same.refl _⟩ (fun i σ H' _ ⟨_, _, _, _, _, q⟩ => same_at q ha3) ?_ ?_⟩
              · rintro i x σ H7 H7' hi ⟨v, low, rfl, ep, S7, T7⟩ ⟨rfl, hx⟩
                obtain ⟨thx, kx⟩ := all3 x (List.mem_of_getElem? hx)
                rw [drop_at hx] at ep
                have n7 := same_nt S7
                refine ⟨_, rfl, x, 3, rfl, th_nt n7 thx, ?_⟩
                rw [ist_nt n7 thx]
                cases h3 : ist H 3 x with
                | false =>
                  rw [lo_stop (lo1_no h3)] at ep
                  rw [← ep] at k
                  exact ⟨_, rfl, iteT ⟨_, rfl, (by show 2 ≤ sizeLine; decide), fun p hp => k _ _ (S7.trans (same_alloc hp)) ⟨p, rfl, upd_same⟩⟩⟩
                | true =>
                  obtain ⟨ys, hx3, hl3⟩ := ist_true (n := 3) h3
                  match ys, hl3 with
                  | [fi, la, h], _ =>
                    have th1 := th_nt n7 (kx _ (seq_of_tup hx3) fi (by simp))
                    have th2 := th_nt n7 (kx _ (seq_of_tup hx3) la (by simp))
                    have th3 := th_nt n7 (kx _ (seq_of_tup hx3) h (by simp))
                    have e1 := lo1_at (low := low) (tp := (xs1.length : Int) - 1) hx3
                    have e2 := lastLo_at hx3
                    obtain ⟨t, rfl, ht⟩ := tup_some hx3
                    have ht7 := S7 _ _ ht
                    have ha17 := at_X (K := K) (at_same S7 ha1)
                    refine ⟨_, rfl, iteF ⟨_, rfl, t, _, 0, fi, rfl, rfl, SqT.of ht7, rfl, _, rfl, _, rfl, a1, xs1, rfl, ha17, _, _, rfl, rfl, fi, low, (xs1.length : Int) - 1, rfl, th1, ?_⟩⟩
                    cases w1 : wh low ((xs1.length : Int) - 1) fi with
                    | false =>
                      rw [w1, Bool.false_and, Bool.false_and] at e1
                      rw [lo_stop e1] at ep
                      rw [← ep] at k
                      exact ⟨_, rfl, iteT ⟨_, rfl, (by show 2 ≤ sizeLine; decide), fun p hp => k _ _ (S7.trans (same_alloc hp)) ⟨p, rfl, upd_same⟩⟩⟩
                    | true =>
                      rw [w1, Bool.true_and] at e1
                      obtain ⟨i1, rfl⟩ := wh_int w1
                      refine ⟨_, rfl, iteF ?_⟩
                      refine ⟨_, rfl, t, _, 1, la, rfl, rfl, SqT.of ht7, rfl, _, rfl, t, _, 0, .int i1, rfl, rfl, SqT.of ht7, rfl, _, _, rfl, rfl, _, rfl, a1, xs1, rfl, ha17, _, _, rfl, rfl, la, i1 + 2, (xs1.length : Int) - 1, rfl, th2, ?_⟩
                      have e1' : lo1 H low ((xs1.length : Int) - 1) (.ref t) = (wh (i1 + 2) ((xs1.length : Int) - 1) la && wh 0 1 h) := e1
                      cases w2 : wh (i1 + 2) ((xs1.length : Int) - 1) la with
                      | false =>
                        rw [w2, Bool.false_and] at e1'
                        rw [lo_stop e1'] at ep
                        rw [← ep] at k
                        exact ⟨_, rfl, iteT ⟨_, rfl, (by show 2 ≤ sizeLine; decide), fun p hp => k _ _ (S7.trans (same_alloc hp)) ⟨p, rfl, upd_same⟩⟩⟩
                      | true =>
                        rw [w2, Bool.true_and] at e1'
                        obtain ⟨i2, rfl⟩ := wh_int w2
                        refine ⟨_, rfl, iteF ⟨_, rfl, t, _, 2, h, rfl, rfl, SqT.of ht7, rfl, h, 0, 1, rfl, th3, ?_⟩⟩
                        cases w3 : wh 0 1 h with
                        | false =>
                          rw [w3] at e1'
                          rw [lo_stop e1'] at ep
                          rw [← ep] at k
                          exact ⟨_, rfl, iteT ⟨_, rfl, (by show 2 ≤ sizeLine; decide), fun p hp => k _ _ (S7.trans (same_alloc hp)) ⟨p, rfl, upd_same⟩⟩⟩
                        | true =>
                          rw [w3] at e1'
                          rw [lo_go e1', e2] at ep
                          exact ⟨_, rfl, iteF ⟨_, rfl, t, _, 1, .int i2, rfl, rfl, SqT.of ht7, rfl, _, i2, rfl, ep, S7, T7⟩⟩
              · rintro σ H7 ⟨v, low, rfl, ep, S7, _⟩
                rw [List.drop_length] at ep
                rw [← ep] at k
                exact k H7 _ S7 rfl
            · rw [if_neg hn] at k
              refine ⟨_, rfl, rfl, _, rfl, ifT (by rw [decide_eq_false hn]; rfl) ?_⟩
              refine isSeq_read (i := 2) rfl (d3.nt (same_nt S3)).1 (fun H6 s6 => ?_)
              rw [seq_nt (same_nt S3) d3.1]
              have S6 := S3.trans s6
              cases hq3 : seqOf H v3 with
              | none =>
                have e : longsD H ((xs1.length : Int) - 1) v3 = some (.longs, v3) := by
                  unfold longsD isl
                  rw [hq3, if_neg Bool.false_ne_true]
                rw [e] at k
                exact ⟨_, rfl, iteT ⟨_, rfl, (by show 2 ≤ sizeLine; decide), fun p hp => k _ _ (S6.trans (same_alloc hp)) ⟨p, rfl, upd_same⟩⟩⟩
              | some xs3 =>
                obtain ⟨a3, rfl, hb3⟩ := seq_some hq3
                refine ⟨_, rfl, iteF ⟨_, rfl, a3, xs3, rfl, at_X (at_same S6 hb3), _, _, rfl, rfl, _, rfl, ?_⟩⟩
                refine ite2 (fun c => ?_) (fun c => ?_)
                · have c' : (2 : Int) < (xs3.length : Int) := of_decide_eq_true c
                  have e : longsD H ((xs1.length : Int) - 1) (.ref a3) = some (.longs, .ref a3) := by
                    unfold longsD isl
                    rw [hq3]
                    show (if (decide ((0 : Int) ≤ (xs3.length : Int)) && decide ((xs3.length : Int) ≤ 2)) = true then _ else _) = _
                    rw [decide_eq_false (p := (xs3.length : Int) ≤ 2) (by omega), Bool.and_false, if_neg Bool.false_ne_true]
                  rw [e] at k
                  exact ⟨_, rfl, (by show 2 ≤ sizeLine; decide), fun p hp => k _ _ (S6.trans (same_alloc hp)) ⟨p, rfl, upd_same⟩⟩
                · have c' : ¬ (2 : Int) < (xs3.length : Int) := fun h => c (decide_eq_true h)
                  have e : longsD H ((xs1.length : Int) - 1) (.ref a3) = loD H ((xs1.length : Int) - 1) 0 xs3 := by
                    unfold longsD isl
                    rw [hq3]
                    show (if (decide ((0 : Int) ≤ (xs3.length : Int)) && decide ((xs3.length : Int) ≤ 2)) = true then _ else _) = _
                    rw [decide_eq_true (by omega), decide_eq_true (by omega), Bool.and_self, if_pos rfl]
                    rfl
                  rw [e] at k
                  refine ⟨_, rfl, rfl, _, rfl, ifT (by rw [decide_eq_false hn]; rfl) ⟨_, rfl, ?_⟩⟩
                  have ha3 := at_same S6 hb3
                  have all3 := d3.2 xs3 hq3
                  obtain ⟨J, hJ, wk⟩ := walk_seq (K := K) ha3
                  refine ⟨a3, J, rfl, hJ _ rfl, for_it wk (fun i σ H' => ∃ (v : Option V) (low : Int), σ = [some (.ref a1), some (.ref a2), some (.ref a3), some .non, v, some (.int low)] ∧ loD H ((xs1.length : Int) - 1) low (xs3.drop i) = loD H ((xs1.length : Int) - 1) 0 xs3 ∧ Same H H' ∧ Same H6 H')
                    ⟨_, _, rfl, rfl, S6, Same.refl _⟩ (fun i σ H' _ ⟨_, _, _, _, _, q⟩ => same_at q ha3) ?_ ?_⟩
                  · rintro i x σ H7 H7' hi ⟨v, low, rfl, ep, S7, T7⟩ ⟨rfl, hx⟩
                    obtain ⟨thx, kx⟩ := all3 x (List.mem_of_getElem? hx)
                    rw [drop_at hx] at ep
                    have n7 := same_nt S7
                    refine ⟨_, rfl, x, 3, rfl, th_nt n7 thx, ?_⟩
                    rw [ist_nt n7 thx]
                    cases h3 : ist H 3 x with
                    | false =>
                      rw [lo_stop (lo1_no h3)] at ep
                      rw [← ep] at k
                      exact ⟨_, rfl, iteT ⟨_, rfl, (by show 2 ≤ sizeLine; decide), fun p hp => k _ _ (S7.trans (same_alloc hp)) ⟨p, rfl, upd_same⟩⟩⟩
                    | true =>
                      obtain ⟨ys, hx3, hl3⟩ := ist_true (n := 3) h3
                      match ys, hl3 with
                      | [fi, la, h], _ =>
                        have th1 := th_nt n7 (kx _ (seq_of_tup hx3) fi (by simp))
                        have th2 := th_nt n7 (kx _ (seq_of_tup hx3) la (by simp))
                        have th3 := th_nt n7 (kx _ (seq_of_tup hx3) h (by simp))
                        have e1 := lo1_at (low := low) (tp := (xs1.length : Int) - 1) hx3
                        have e2 := lastLo_at hx3
                        obtain ⟨t, rfl, ht⟩ := tup_some hx3
                        have ht7 := S7 _ _ ht
                        have ha17 := at_X (K := K) (at_same S7 ha1)
                        refine ⟨_, rfl, iteF ⟨_, rfl, t, _, 0, fi, rfl, rfl, SqT.of ht7, rfl, _, rfl, _, rfl, a1, xs1, rfl, ha17, _, _, rfl, rfl, fi, low, (xs1.length : Int) - 1, rfl, th1, ?_⟩⟩
                        cases w1 : wh low ((xs1.length : Int) - 1) fi with
                        | false =>
                          rw [w1, Bool.false_and, Bool.false_and] at e1
                          rw [lo_stop e1] at ep
                          rw [← ep] at k
                          exact ⟨_, rfl, iteT ⟨_, rfl, (by show 2 ≤ sizeLine; decide), fun p hp => k _ _ (S7.trans (same_alloc hp)) ⟨p, rfl, upd_same⟩⟩⟩
                        | true =>
                          rw [w1, Bool.true_and] at e1
                          obtain ⟨i1, rfl⟩ := wh_int w1
                          refine ⟨_, rfl, iteF ?_⟩
                          refine ⟨_, rfl, t, _, 1, la, rfl, rfl, SqT.of ht7, rfl, _, rfl, t, _, 0, .int i1, rfl, rfl, SqT.of ht7, rfl, _, _, rfl, rfl, _, rfl, a1, xs1, rfl, ha17, _, _, rfl, rfl, la, i1 + 2, (xs1.length : Int) - 1, rfl, th2, ?_⟩
                          have e1' : lo1 H low ((xs1.length : Int) - 1) (.ref t) = (wh (i1 + 2) ((xs1.length : Int) - 1) la && wh 0 1 h) := e1
                          cases w2 : wh (i1 + 2) ((xs1.length : Int) - 1) la with
                          | false =>
                            rw [w2, Bool.false_and] at e1'
                            rw [lo_stop e1'] at ep
                            rw [← ep] at k
                            exact ⟨_, rfl, iteT ⟨_, rfl, (by show 2 ≤ sizeLine; decide), fun p hp => k _ _ (S7.trans (same_alloc hp)) ⟨p, rfl, upd_same⟩⟩⟩
                          | true =>
                            rw [w2, Bool.true_and] at e1'
                            obtain ⟨i2, rfl⟩ := wh_int w2
                            refine ⟨_, rfl, iteF ⟨_, rfl, t, _, 2, h, rfl, rfl, SqT.of ht7, rfl, h, 0, 1, rfl, th3, ?_⟩⟩
                            cases w3 : wh 0 1 h with
                            | false =>
                              rw [w3] at e1'
                              rw [lo_stop e1'] at ep
                              rw [← ep] at k
                              exact ⟨_, rfl, iteT ⟨_, rfl, (by show 2 ≤ sizeLine; decide), fun p hp => k _ _ (S7.trans (same_alloc hp)) ⟨p, rfl, upd_same⟩⟩⟩
                            | true =>
                              rw [w3] at e1'
                              rw [lo_go e1', e2] at ep
                              exact ⟨_, rfl, iteF ⟨_, rfl, t, _, 1, .int i2, rfl, rfl, SqT.of ht7, rfl, _, i2, rfl, ep, S7, T7⟩⟩
                  · rintro σ H7 ⟨v, low, rfl, ep, S7, _⟩
                    rw [List.drop_length] at ep
                    rw [← ep] at k
                    exact k H7 _ S7 rfl
        · have e : stretchesD H ((xs1.length : Int) - 1) (.ref a2) = some (.stretches, .ref a2) := by
            unfold stretchesD isl
            rw [hq2]
            show (if (decide ((xs1.length : Int) - 1 ≤ (xs2.length : Int)) && decide ((xs2.length : Int) ≤ (xs1.length : Int) - 1)) = true then _ else _) = _
            rw [if_neg]
            intro h
            rw [Bool.and_eq_true, decide_eq_true_eq, decide_eq_true_eq] at h
            omega
          rw [e] at k
          exact ifT (by rw [decide_eq_false (by simpa using hl)]; rfl) ⟨_, rfl, (by show 2 ≤ sizeLine; decide), fun p hp => k _ _ (S2.trans (same_alloc hp)) ⟨p, rfl, upd_same⟩⟩
end
end K4

set_option maxRecDepth 100000
set_option maxHeartbeats 400000
namespace K4
open PySem PySem.Spec PyProof.Rows L2 GxR Gd TL My
/-! ### things of any kind -/
inductive Wf (N : Addr → Prop) (H : Hp) (m : Nat) : Nat → V → Prop
  | non (k : Nat) : Wf N H m k .non
  | bl (b : Bool) (k : Nat) : Wf N H m k (.bl b)
  | int (i : Int) (h : i.natAbs < 10 ^ 31) (k : Nat) : Wf N H m k (.int i)
  | str (z : Str) (g : Good z) (l : z.length ≤ 50) (k : Nat) : Wf N H m k (.str z)
  | dic (a : Addr) (e : H a = some (.dK [])) (k : Nat) : Wf N H m (k + 1) (.ref a)
  | lst (a : Addr) (xs : List V) (k : Nat) (e : H a = some (.lst xs)) (n : N a) (l : xs.length ≤ m) (h : ∀ x ∈ xs, Wf N H m k x) : Wf N H m (k + 1) (.ref a)
  | tup (a : Addr) (xs : List V) (k : Nat) (e : H a = some (.tup xs)) (l : xs.length ≤ m) (h : ∀ x ∈ xs, Wf N H m k x) : Wf N H m (k + 1) (.ref a)
/-- what such a thing rests on stays -/
def Kw (N : Addr → Prop) (H H' : Hp) : Prop := (∀ c xs, N c → H c = some (.lst xs) → H' c = some (.lst xs)) ∧ (∀ c xs, H c = some (.tup xs) → H' c = some (.tup xs)) ∧ ∀ c kvs, H c = some (.dK kvs) → H' c = some (.dK kvs)
theorem Kw.same {N : Addr → Prop} {H H' : Hp} (s : Same H H') : Kw N H H' := ⟨fun _ _ _ e => s _ _ e, fun _ _ e => s _ _ e, fun _ _ e => s _ _ e⟩
theorem Kw.trans {N : Addr → Prop} {A B C : Hp} (h : Kw N A B) (k : Kw N B C) : Kw N A C := ⟨fun c xs n e => k.1 c xs n (h.1 c xs n e), fun c xs e => k.2.1 c xs (h.2.1 c xs e), fun c xs e => k.2.2 c xs (h.2.2 c xs e)⟩
theorem Kw.nt {N : Addr → Prop} {H H' : Hp} (s : Nt H H') : Kw N H H' := ⟨fun _ _ _ e => s _ _ (by simp) e, fun _ _ e => s _ _ (by simp) e, fun _ _ e => s _ _ (by simp) e⟩
theorem Kw.kb {N : Addr → Prop} {H H' : Hp} {b : Addr} {n : Int} (nb : ¬ N b) (hb : Bx b n H) (k : KB b H H') : Kw N H H' := by
  obtain ⟨_, _, _, e, _⟩ := hb
  exact ⟨fun c xs m q => k _ _ (fun z => nb (z ▸ m)) q, fun c xs q => k _ _ (ne_of q e (by simp)) q, fun c xs q => k _ _ (ne_of q e (by simp)) q⟩
theorem Wf.keep {N : Addr → Prop} {H H' : Hp} {m : Nat} (s : Kw N H H') : ∀ {k : Nat} {v : V}, Wf N H m k v → Wf N H' m k v
  | _, _, .non k => .non k
  | _, _, .bl b k => .bl b k
  | _, _, .int i h k => .int i h k
  | _, _, .str z g l k => .str z g l k
  | _, _, .dic a e k => .dic a (s.2.2 _ _ e) k
  | _, _, .lst a xs k e n l h => .lst a xs k (s.1 _ _ n e) n l fun x hx => (h x hx).keep s
  | _, _, .tup a xs k e l h => .tup a xs k (s.2.1 _ _ e) l fun x hx => (h x hx).keep s
theorem Wf.mono {N : Addr → Prop} {H : Hp} {m m' : Nat} (hm : m ≤ m') {k k' : Nat} {v : V} (hk : k ≤ k') (h : Wf N H m k v) : Wf N H m' k' v := by
  induction h generalizing k' with
  | non k => exact .non _
  | bl b k => exact .bl b _
  | int i h k => exact .int i h _
  | str z g l k => exact .str z g l _
  | dic a e k =>
    match k', hk with
    | k' + 1, _ => exact .dic a e _
  | lst a xs k e n l q ih =>
    match k', hk with
    | k' + 1, hk => exact .lst a xs k' e n (Nat.le_trans l hm) fun x hx => ih x hx (Nat.le_of_succ_le_succ hk)
  | tup a xs k e l q ih =>
    match k', hk with
    | k' + 1, hk => exact .tup a xs k' e (Nat.le_trans l hm) fun x hx => ih x hx (Nat.le_of_succ_le_succ hk)
theorem Wf.th {N : Addr → Prop} {H : Hp} {m k : Nat} {v : V} (h : Wf N H m k v) : Th H v := by
  cases h with
  | non k => exact .non
  | bl b k => exact .bl b
  | int i h k => exact .int i
  | str z g l k => exact .str z (by omega) g
  | dic a e k => exact .dic a e
  | lst a xs k e n l q => exact .lst a xs e
  | tup a xs k e l q => exact .tup a xs e
theorem Wf.kid {N : Addr → Prop} {H : Hp} {m k : Nat} {v : V} (h : Wf N H m (k + 1) v) {xs : List V} (e : seqOf H v = some xs) : ∀ x ∈ xs, Wf N H m k x := by
  cases h with
  | non k => cases e
  | bl b k => cases e
  | int i h k => cases e
  | str z g l k => cases e
  | dic a q k => rw [seq_dic q] at e; cases e
  | lst a ys k q n l h => rw [seq_lst q] at e; rw [← Option.some.inj e]; exact h
  | tup a ys k q l h => rw [seq_tup q] at e; rw [← Option.some.inj e]; exact h
theorem Wf.deep {N : Addr → Prop} {H : Hp} {m k : Nat} {v : V} (h : Wf N H m (k + 2) v) : Deep H v := ⟨h.th, fun xs e x hx => ⟨(h.kid e x hx).th, fun ys e2 y hy => ((h.kid e x hx).kid e2 y hy).th⟩⟩
def wt (m : Nat) : Nat → Nat
  | 0 => 110
  | k + 1 => m * (wt m k + 1)
theorem wt_le {m : Nat} (hm : 1 ≤ m) : ∀ k, 110 ≤ wt m k
  | 0 => Nat.le_refl _
  | k + 1 => by
    have := wt_le hm k
    show 110 ≤ m * (wt m k + 1)
    have h : 1 * (wt m k + 1) ≤ m * (wt m k + 1) := Nat.mul_le_mul_right _ hm
    omega
theorem dqs_of {K : PySem.W.Frag} {H : Hp} {k n : Nat} : ∀ {xs : List V}, (∀ x ∈ xs, ∃ d, Dq K H x d ∧ Sb d k n) → ∃ ds, DqAll K H xs ds ∧ ds.length = xs.length ∧ ∀ d ∈ ds, Sb d k n
  | [], _ => ⟨[], .nil, rfl, fun d h => by cases h⟩
  | x :: r, h => by
    obtain ⟨d, h1, h2⟩ := h x (by simp)
    obtain ⟨ds, h3, h4, h5⟩ := dqs_of (xs := r) fun y hy => h y (by simp [hy])
    exact ⟨d :: ds, .cons h1 h3, by rw [List.length_cons, List.length_cons, h4], fun e he => (List.mem_cons.mp he).elim (fun q => q ▸ h2) fun q => h5 e q⟩
theorem Wf.dq {K : PySem.W.Frag} {N : Addr → Prop} {H : Hp} {m : Nat} (hm : 1 ≤ m) : ∀ {k : Nat} {v : V}, Wf N H m k v → ∃ d, Dq K H v d ∧ Sb d k (wt m k)
  | k, _, .non _ => ⟨_, .non, sb_none.mono (by omega) (by omega)⟩
  | k, _, .bl b _ => ⟨_, .bl b, (sb_bool b).mono (by omega) (by omega)⟩
  | k, _, .int i h _ => ⟨_, .int i, (sb_int h).mono (by omega) (wt_le hm k)⟩
  | k, _, .str z g l _ => ⟨_, .str z, (sb_str g l).mono (by omega) (Nat.le_trans (by decide) (wt_le hm k))⟩
  | _, _, .dic a e k => ⟨.dict [], .dic e .nil, ⟨by decide +kernel, Nat.succ_le_succ (Nat.zero_le k), Nat.le_trans (by decide) (wt_le hm (k + 1)), by decide +kernel⟩⟩
  | _, _, .lst a xs k e n l h => by
    obtain ⟨ds, h1, h2, h3⟩ := dqs_of (K := K) fun x hx => (h x hx).dq hm
    exact ⟨.list ds, .lst (SqL.of e) h1, (sb_list h3).mono (Nat.le_refl _) (by rw [h2]; exact Nat.mul_le_mul_right _ l)⟩
  | _, _, .tup a xs k e l h => by
    obtain ⟨ds, h1, h2, h3⟩ := dqs_of (K := K) fun x hx => (h x hx).dq hm
    exact ⟨.tuple ds, .tup (SqT.of e) h1, (sb_tuple h3).mono (Nat.le_refl _) (by rw [h2]; exact Nat.mul_le_mul_right _ l)⟩
end K4

set_option maxRecDepth 100000
set_option maxHeartbeats 1000000
/-! A short text many times. -/
namespace My
open PySem PySem.Spec PyProof.Rows L2 GxR Gd TL
def rMulS : R2 := fun x y H Q => ∃ z n, x = .str z ∧ y = .int n ∧ z.length ≤ 16 ∧ 0 ≤ n ∧ n ≤ 1000 ∧ Q (.str (Txt.mul z n)) H
theorem op_mul_str {X : Cx} : OpR X (binaryOp .Mult) rMulS := by
  rintro pins s σ H x y v u Q I rx ry ⟨z, n, rfl, rfl, hz, h0, h1, q⟩
  obtain ⟨t, rfl⟩ := rx
  obtain ⟨t', rfl⟩ := ry
  exact PySem.W.KXi.mul (n := z.length) rfl hz (by omega) (by omega) fun _ _ _ _ => ⟨.str _, H, I.tok _, ⟨_, rfl⟩, q⟩
theorem fold_mem (a : Array Nat) (c : Nat) : ∀ (n : Nat) (b : Array Nat), c ∈ ((List.replicate n a).foldl (· ++ ·) b).toList → c ∈ b.toList ∨ c ∈ a.toList
  | 0, b, h => .inl h
  | n + 1, b, h => by
    rw [List.replicate_succ, List.foldl_cons] at h
    rcases fold_mem a c n _ h with q | q
    · rw [Array.toList_append, List.mem_append] at q
      exact q
    · exact .inr q
theorem fold_len (a : Array Nat) : ∀ (n : Nat) (b : Array Nat), ((List.replicate n a).foldl (· ++ ·) b).size = b.size + n * a.size
  | 0, b => by simp
  | n + 1, b => by
    rw [List.replicate_succ, List.foldl_cons, fold_len a n, Array.size_append, Nat.succ_mul]
    omega
theorem good_mul {z : Str} (g : Good z) {n : Int} : Good (Txt.mul z n) := fun c hc => by
  unfold Txt.mul at hc
  split at hc
  · exact absurd hc (by show c ∉ ([] : List Nat); simp)
  · split at hc
    · exact g c hc
    · rcases fold_mem _ _ _ _ hc with q | q
      · exact absurd q (by simp)
      · exact g c q
theorem mul_le {z : Str} {n : Nat} (h : 1 ≤ n) : (Txt.mul z (n : Nat)).length ≤ n * z.length := by
  unfold Txt.mul
  split
  · exact Nat.zero_le _
  · split
    · calc z.length = 1 * z.length := (Nat.one_mul _).symm
        _ ≤ n * z.length := Nat.mul_le_mul_right _ h
    · show ((List.replicate ((n : Nat) : Int).toNat z.cps).foldl (· ++ ·) #[]).size ≤ _
      rw [fold_len, Int.toNat_natCast]
      show 0 + n * z.cps.size ≤ n * z.cps.size
      omega
end My

set_option maxRecDepth 100000
set_option maxHeartbeats 400000
namespace K4
open PySem PySem.Spec PyProof.Rows L2 GxR Gd TL My
theorem length_app (a b : Str) : (a ++ b).length = a.length + b.length := by rw [← tl_len, tl_append, List.length_append, tl_len, tl_len]
theorem cutS_length (z : Str) (lo hi : Option Int) : (cutS z lo hi).length ≤ z.length := by
  show ((z.cps.toList.drop _).take _).toArray.size ≤ z.cps.size
  rw [List.size_toArray]
  exact Nat.le_trans (List.take_sublist _ _).length_le (List.drop_sublist _ _).length_le
theorem pick0 {K : PySem.W.Frag} {H : Hp} {b L : Addr} {m : Nat} {n : Int} {ts : List V} {Q : VK} (hb : Bx b n H) (n9 : n ≤ 90000) (m0 : 0 < m) (m9 : m ≤ 1000) (hm : ts.length = m) (hL : H L = some (.lst ts)) (nL : L ≠ b)
    (k : ∀ v H', v ∈ ts → KB b H H' → Bx b (n + 1) H' → Q v H') : spTake [.ref b, .int (m : Nat)] H (fun y H2 => rIxL K (.ref L) y H2 Q) E0 := by
  refine ⟨b, m, n, rfl, hb, by omega, by omega, dec9000 (by omega) (by omega), fun d H' d0 d1 off bx => ?_⟩
  obtain ⟨j, rfl⟩ := Int.eq_ofNat_of_zero_le d0
  have hj : j < ts.length := by omega
  exact ⟨L, ts, _, ts[j], rfl, rfl, SqL.of (KB.off off _ _ nL hL), atI_nat (List.getElem?_eq_getElem hj), k _ _ (List.getElem_mem hj) (KB.off off) bx⟩
theorem pick {K : PySem.W.Frag} {σ : L2.St} {H : Hp} {b L : Addr} {i m : Nat} {n : Int} {ts : List V} {Q : VK} (h0 : σ[i]? = some (some (.ref b))) (hb : Bx b n H) (n9 : n ≤ 90000) (m0 : 0 < m) (m9 : m ≤ 1000) (hm : ts.length = m) (hL : H L = some (.lst ts)) (nL : L ≠ b)
    (k : ∀ v H', v ∈ ts → KB b H H' → Bx b (n + 1) H' → Q v H') : tCall spTake [] E0 (tCons (tVar i) (tCons (tC (V.int (m : Nat))) tNil)) σ H (fun y H2 => rIxL K (.ref L) y H2 Q) := ⟨_, h0, pick0 hb n9 m0 m9 hm hL nL k⟩
section
variable {P : Program} {w : World} {K : PySem.W.Frag} {mg : Str → Option Value} {base : Heap} {f1 f2 f3 : Addr} {fd1 fd2 fd3 : FuncData}
abbrev s_law_odd : Stmt := top 35
theorem sc_law_odd : FnScope ["_law_box_here", "_law_world_here", "_law_names_here", "_law_some", "_law_name", "_law_roads"] ["_law_box_here", "_law_world_here"] (defScope s_law_odd) := ⟨rfl, rfl, rfl, by decide +kernel, rfl, by decide +kernel, by decide +kernel⟩
abbrev s_law_number : Stmt := top 36
theorem sc_law_number : FnScope ["_law_box_here"] ["_law_box_here"] (defScope s_law_number) := ⟨rfl, rfl, rfl, by decide +kernel, rfl, by decide +kernel, by decide +kernel⟩
abbrev s_law_bent_name : Stmt := top 37
theorem sc_law_bent_name : FnScope ["_law_box_here", "_law_name", "_law_page", "_law_at", "_law_bent"] ["_law_box_here", "_law_name"] (defScope s_law_bent_name) := ⟨rfl, rfl, rfl, by decide +kernel, rfl, by decide +kernel, by decide +kernel⟩
def spNumber : Sp := fun vs H Q _ => ∃ (b : Addr) (n : Int), vs = [.ref b] ∧ Bx b n H ∧ n ≤ 90000 ∧ ∀ v H', KB b H H' → Bx b (n + 1) H' → flatV v = true → (∀ N, Wf N H' 1 0 v) → Q v H'
theorem ok_number {f : Addr} {fd : FuncData} (F : Fun K "_law_number" "_law_number" s_law_number f fd) (T : Txt mg)
    (Nlaw_take : Fn K mg "_law_take" sTake ["_law_box_here", "_law_many"] f1 fd1) (Glaw_take : FnOk P w K mg base CX0 1 f1 fd1 ["_law_box_here", "_law_many"] spTake) :
    FnOk P w K mg base CX0 2 f fd ["_law_box_here"] spNumber := by
  refine F.ok sc_law_number (fun vs H Q E h => ?_) (fun cdv A outer s H vs Q E hr h => ?_)
  · obtain ⟨b, n, rfl, _⟩ := h
    rfl
  · obtain ⟨b, n, rfl, hb, n9, k⟩ := h
    refine ⟨_, pss_one (ps_ret (pe_ix (ixL (K := K) rfl) (pe_lst (pa_cons pe_int (pa_cons pe_int (pa_cons pe_int (pa_cons pe_int (pa_cons pe_int (pa_cons pe_int (pa_cons pe_int (pa_cons (pe_un un_neg pe_int) (pa_cons pe_bl (pa_cons pe_bl (pa_cons pe_non (pa_cons pe_str (pa_cons (pe_op op_pow pe_int pe_int) pa_nil)))))))))))))) (pe_call Glaw_take (hr.mono (by decide)) (by rfl) Nlaw_take.g Nlaw_take.kp Nlaw_take.b .nil pass0 (pa_cons (pv 0) (pa_cons pe_int pa_nil))) (fun _ _ => rfl))), ?_⟩
    refine ⟨_, rfl, _, _, rfl, rfl, ⟨by decide, by decide, by decide⟩, ?_⟩
    refine ⟨(by show 13 ≤ sizeLine; decide), fun L hL => pick (m := 13) rfl (hb.alloc hL) n9 (by decide) (by decide) rfl upd_same (hb.fresh hL) fun v H' hv kb bx => ?_⟩
    have it : ∀ {z : Int}, z.natAbs < 10 ^ 31 → flatV (.int z) = true ∧ ∀ N, Wf N H' 1 0 (.int z) := fun h => ⟨rfl, fun N => .int _ h 0⟩
    have fin : flatV v = true ∧ ∀ N, Wf N H' 1 0 v := by
      simp only [List.mem_cons, List.not_mem_nil, or_false] at hv
      rcases hv with rfl | rfl | rfl | rfl | rfl | rfl | rfl | rfl | rfl | rfl | rfl | rfl | rfl
      · exact it (by decide)
      · exact it (by decide)
      · exact it (by decide)
      · exact it (by decide)
      · exact it (by decide)
      · exact it (by decide)
      · exact it (by decide)
      · exact it (by decide)
      · exact ⟨rfl, fun N => .bl _ 0⟩
      · exact ⟨rfl, fun N => .bl _ 0⟩
      · exact ⟨rfl, fun N => .non 0⟩
      · exact ⟨rfl, fun N => .str _ (good_of _) (by decide +kernel) 0⟩
      · exact it (by decide)
    exact k v H' ((KB.alloc hL).trans kb) bx fin.1 fin.2
def spOdd (K : PySem.W.Frag) : Sp := fun vs H Q _ => ∃ (b W : Addr) (n : Int) (wd : Wd) (N : Addr → Prop), vs = [.ref b, .ref W] ∧ Bx b n H ∧ n ≤ 90000 ∧ wd.Ok ∧ ¬ N b ∧ (∀ a, H a = none → N a) ∧ Dp K (hide b H) (.ref W) wd.data ∧ ∀ v H', KB b H H' → Bx b (n + 1) H' → Wf N H' 1 1 v → Q v H'
theorem ok_odd {f : Addr} {fd : FuncData} (F : Fun K "_law_odd" "_law_odd" s_law_odd f fd) (T : Txt mg)
    (Nlaw_take : Fn K mg "_law_take" sTake ["_law_box_here", "_law_many"] f1 fd1) (Glaw_take : FnOk P w K mg base CX0 1 f1 fd1 ["_law_box_here", "_law_many"] spTake) :
    FnOk P w K mg base CX0 2 f fd ["_law_box_here", "_law_world_here"] (spOdd K) := by
  refine F.ok sc_law_odd (fun vs H Q E h => ?_) (fun cdv A outer s H vs Q E hr h => ?_)
  · obtain ⟨b, W, n, wd, N, rfl, _⟩ := h
    rfl
  · obtain ⟨b, W, n, wd, N, rfl, hb, n9, ok, nb, hN, dW, k⟩ := h
    refine ⟨_, pss_cons (ps_setLc (i := 2) (own := [("_law_name", 4), ("_law_roads", 5)]) (g := gTup K 2 (gCons (gName 4) (gCons (gName 5) gNil))) (tt := tYes) rfl sc_law_odd.nd rfl rfl (sw_true rfl rfl rfl (by decide +kernel)) (pi_list (pe_ix (ixL (K := K) rfl) (pv 1) pe_int (fun _ _ => rfl))) (blkOk_by (own := [("_law_name", 4), ("_law_roads", 5)]) (N := ["_law_box_here", "_law_world_here", "_law_names_here", "_law_some", "_law_name", "_law_roads"]) (sc := defScope s_law_odd) (by decide +kernel)) (fun _ _ _ _ _ => (pg_tup (by rfl) (pgs_cons (pg_name (i := 4) sc_law_odd.nd rfl (Or.inl rfl)) (pgs_cons (pg_name (i := 5) sc_law_odd.nd rfl (Or.inl rfl)) pgs_nil)))) (fun _ _ _ _ _ => pts_nil) (fun _ _ _ _ _ => (pv 4)))
      (pss_cons (ps_set (i := 3) sc_law_odd.nd rfl (Or.inl rfl) (pe_lst (pa_cons pe_non (pa_cons pe_bl (pa_cons pe_bl (pa_cons pe_int (pa_cons pe_str (pa_cons pe_str (pa_cons pe_str (pa_cons (pe_lst (pa_cons (pe_ix (ixL (K := K) rfl) (pv 2) pe_int (fun _ _ => rfl)) pa_nil)) (pa_cons pe_dnewK (pa_cons (pe_un un_neg pe_int) (pa_cons pe_int (pa_cons pe_int (pa_cons (pe_op op_pow pe_int pe_int) (pa_cons (pe_tup (pa_cons pe_str pa_nil)) (pa_cons (pe_tup pa_nil) (pa_cons (pe_lst pa_nil) (pa_cons (pe_ix (ixL (K := K) rfl) (pv 1) pe_int (fun _ _ => rfl)) pa_nil)))))))))))))))))))
      (pss_one (ps_ret (pe_ix (ixL (K := K) rfl) (pv 3) (pe_call Glaw_take (hr.mono (by decide)) (by rfl) Nlaw_take.g Nlaw_take.kp Nlaw_take.b .nil pass0 (pa_cons (pv 0) (pa_cons pe_int pa_nil))) (fun _ _ => rfl))))), ?_⟩
    obtain ⟨zs, dz⟩ : ∃ zs, zs = wd.data := ⟨_, rfl⟩
    rw [← dz] at dW
    unfold Wd.data at dz
    subst dz
    obtain ⟨W', x0, x1, x2, x3, eW, hW, q0, q1, q2, q3⟩ := dp_four dW
    obtain rfl := V.ref.inj eW
    obtain ⟨a0, xs0, rfl, hx0, hd0⟩ := dp_list q0
    obtain rfl := dp_str q3
    have nt := hide_nt b H
    have hW' := nt.seq hW
    have hx0' := nt.seq hx0
    have hd0' := dpAll_nt nt hd0
    refine ⟨_, rfl, W, _, 0, _, rfl, rfl, hW', rfl, a0, rfl, ⟨_, hx0'⟩, fun D hD => ?_⟩
    refine lc_it (walk_list (K := K) (xs := xs0)) (fun i H' => Same H H' ∧ H' D = some (.lst (((wd.ps.take i).map (·.1)).map V.str))) ?_ ?_ ?_ ?_
    · exact ⟨same_alloc hD, upd_same⟩
    · rintro i H' hi ⟨s, _⟩
      exact (same_nt s).seq hx0'
    · rintro i x H1 H2 hi ⟨s, e⟩ ⟨rfl, hx⟩
      obtain ⟨d, hg1, hg2⟩ := dpAll_get hd0' hx
      obtain ⟨p, hp, rfl⟩ := get_map hg1
      obtain ⟨t, y1, y2, rfl, ht, r1, r2⟩ := dp_two hg2
      obtain rfl := dp_str r1
      obtain rfl := dp_int r2
      have ht1 := (same_nt s).seqT ht
      refine ⟨t, _, rfl, ht1, rfl, _, _, rfl, _, _, rfl, rfl, rfl, lcY ⟨_, rfl, _, e, ?_, ?_⟩⟩
      · rw [List.length_map, List.length_map, List.length_take]
        have := ok.p6
        exact lt_line _ (by omega)
      · refine ⟨fun c o h => by rw [upd_ne (ne_of_none h hD)]; exact s _ _ h, ?_⟩
        rw [upd_same, take_at hp, List.map_append, List.map_append]
        rfl
    · rintro H1 ⟨s1, e1⟩
      have l0 : xs0.length = wd.ps.length := by rw [dpAll_len hd0, List.length_map]
      rw [l0, List.take_of_length_le (Nat.le_refl _)] at e1
      have p2 := ok.p2
      obtain ⟨p, r, ep⟩ : ∃ p r, wd.ps = p :: r := by
        cases h : wd.ps with
        | nil => rw [h] at p2; exact absurd p2 (by decide)
        | cons p r => exact ⟨p, r, rfl⟩
      have nk := (ok.nm p (by rw [ep]; simp)).1
      rw [ep] at e1
      have e0 : atI (List.map V.str (List.map (fun x => x.fst) (p :: r))) ((0 : Nat) : Int) = some (.str p.1) := atI_nat rfl
      refine ⟨_, rfl, D, _, 0, .str p.1, rfl, rfl, SqL.of e1, e0, (by show 1 ≤ sizeLine; decide), fun a8 h8 => ?_⟩
      have S2 := s1.trans (same_alloc (o := .lst [.str p.1]) h8)
      have n8 : H a8 = none := s1.free h8
      have e8 : upd H1 a8 (.lst [.str p.1]) a8 = some (.lst [.str p.1]) := upd_same
      generalize upd H1 a8 (.lst [.str p.1]) = H2 at S2 e8 ⊢
      intro a9 h9
      have q := same_alloc (o := .dK []) h9
      have S3 := S2.trans q
      replace e8 := q _ _ e8
      have e9 : upd H2 a9 (.dK []) a9 = some (.dK []) := upd_same
      generalize upd H2 a9 (.dK []) = H3 at q S3 e8 e9 ⊢
      clear q
      refine ⟨_, rfl, _, _, rfl, rfl, ⟨by decide, by decide, by decide⟩, (by show 1 ≤ sizeLine; decide), fun a10 h10 => ?_⟩
      have q := same_alloc (o := .tup [.str "a"]) h10
      have S4 := S3.trans q
      replace e8 := q _ _ e8
      replace e9 := q _ _ e9
      have e10 : upd H3 a10 (.tup [.str "a"]) a10 = some (.tup [.str "a"]) := upd_same
      generalize upd H3 a10 (.tup [.str "a"]) = H4 at q S4 e8 e9 e10 ⊢
      clear q
      refine ⟨Nat.zero_le _, fun a11 h11 => ?_⟩
      have q := same_alloc (o := .tup []) h11
      have S5 := S4.trans q
      replace e8 := q _ _ e8
      replace e9 := q _ _ e9
      replace e10 := q _ _ e10
      have e11 : upd H4 a11 (.tup []) a11 = some (.tup []) := upd_same
      generalize upd H4 a11 (.tup []) = H5 at q S5 e8 e9 e10 e11 ⊢
      clear q
      refine ⟨Nat.zero_le _, fun a12 h12 => ?_⟩
      have n12 : H a12 = none := S5.free h12
      have q := same_alloc (o := .lst []) h12
      have S6 := S5.trans q
      replace e8 := q _ _ e8
      replace e9 := q _ _ e9
      replace e10 := q _ _ e10
      replace e11 := q _ _ e11
      have e12 : upd H5 a12 (.lst []) a12 = some (.lst []) := upd_same
      generalize upd H5 a12 (.lst []) = H6 at q S6 e8 e9 e10 e11 e12 ⊢
      clear q
      refine ⟨_, rfl, W, _, 3, .str wd.sp, rfl, rfl, (same_nt S6).seq hW', rfl, (by show 17 ≤ sizeLine; decide), fun L hL => ?_⟩
      have S7 := S6.trans (same_alloc (o := .lst [V.non, .bl true, .bl false, .int 5, .str "", .str "ab", .str "A", .ref a8, .ref a9, .int (-1), .int 0, .int 4, .int (10 ^ 29), .ref a10, .ref a11, .ref a12, .str wd.sp]) hL)
      refine ⟨_, rfl, pick (m := 17) rfl (hb.same (by obtain ⟨_, _, _, q, _⟩ := id hb; rw [q]; exact S7 _ _ q)) n9 (by decide) (by decide) rfl upd_same (fun e => by
        obtain ⟨_, _, _, q, _⟩ := id hb
        rw [e] at hL
        rw [S6 _ _ q] at hL
        cases hL) fun v H' hv kb bx => ?_⟩
      have kk : KB b H H' := KB.trans (fun c o _ h => S7 c o h) kb
      have s8 : ∀ {c o}, c ≠ b → H6 c = some o → H' c = some o := fun nc h => kb _ _ nc (same_alloc hL _ _ h)
      have nb8 : ∀ {c}, H c = none → c ≠ b := fun h e => by
        obtain ⟨_, _, _, q, _⟩ := id hb
        rw [e, q] at h
        cases h
      have nbx : ∀ {c o}, H6 c = some o → (∀ xs, o ≠ .lst xs) → c ≠ b := fun h m e => by
        obtain ⟨_, _, _, q, _⟩ := id hb
        rw [e, S6 _ _ q] at h
        exact m _ (Option.some.inj h).symm
      refine k v H' kk bx ?_
      have sm : ∀ {z : Str}, NameOk z → ∀ k, Wf N H' 1 k (.str z) := fun h k => .str _ h.good (by have := h.2.1; omega) k
      simp only [List.mem_cons, List.not_mem_nil, or_false] at hv
      rcases hv with rfl | rfl | rfl | rfl | rfl | rfl | rfl | rfl | rfl | rfl | rfl | rfl | rfl | rfl | rfl | rfl | rfl
      · exact .non _
      · exact .bl _ _
      · exact .bl _ _
      · exact .int _ (by decide) _
      · exact .str _ (good_of _) (by decide +kernel) _
      · exact .str _ (good_of _) (by decide +kernel) _
      · exact .str _ (good_of _) (by decide +kernel) _
      · exact .lst a8 _ 0 (s8 (nb8 n8) e8) (hN _ n8) (Nat.le_refl _) fun x hx => by rw [List.mem_singleton.mp hx]; exact sm nk 0
      · exact .dic a9 (s8 (nbx e9 (by simp)) e9) 0
      · exact .int _ (by decide) _
      · exact .int _ (by decide) _
      · exact .int _ (by decide) _
      · exact .int _ (by decide) _
      · exact .tup a10 _ 0 (s8 (nbx e10 (by simp)) e10) (Nat.le_refl _) fun x hx => by rw [List.mem_singleton.mp hx]; exact .str _ (good_of _) (by decide +kernel) _
      · exact .tup a11 _ 0 (s8 (nbx e11 (by simp)) e11) (Nat.zero_le _) fun x hx => by cases hx
      · exact .lst a12 _ 0 (s8 (nb8 n12) e12) (hN _ n12) (Nat.zero_le _) fun x hx => by cases hx
      · exact sm ok.sn 1
def spBent : Sp := fun vs H Q _ => ∃ (b : Addr) (n : Int) (z : Str), vs = [.ref b, .str z] ∧ Bx b n H ∧ n ≤ 80000 ∧ NameOk z ∧ ∀ y H', KB b H H' → Bx b (n + 3) H' → Good y → y.length ≤ 50 → Q (.str y) H'
theorem ok_bent {f : Addr} {fd : FuncData} (F : Fun K "_law_bent_name" "_law_bent_name" s_law_bent_name f fd) (T : Txt mg)
    (Nlaw_take : Fn K mg "_law_take" sTake ["_law_box_here", "_law_many"] f1 fd1) (Glaw_take : FnOk P w K mg base CX0 1 f1 fd1 ["_law_box_here", "_law_many"] spTake) :
    FnOk P w K mg base CX0 2 f fd ["_law_box_here", "_law_name"] spBent := by
  refine F.ok sc_law_bent_name (fun vs H Q E h => ?_) (fun cdv A outer s H vs Q E hr h => ?_)
  · obtain ⟨b, n, z, rfl, _⟩ := h
    rfl
  · obtain ⟨b, n, z, rfl, hb, n9, hz, k⟩ := h
    refine ⟨_, pss_cons (ps_set (i := 2) sc_law_bent_name.nd rfl (Or.inl rfl) pe_str)
      (pss_cons (ps_set (i := 3) sc_law_bent_name.nd rfl (Or.inl rfl) (pe_call Glaw_take (hr.mono (by decide)) (by rfl) Nlaw_take.g Nlaw_take.kp Nlaw_take.b .nil pass0 (pa_cons (pv 0) (pa_cons (pe_op op_add (pe_callB call_len_str (by rfl) T.len_ PySem.boot_len (pa_cons (pv 1) pa_nil)) pe_int) pa_nil))))
      (pss_cons (ps_set (i := 4) sc_law_bent_name.nd rfl (Or.inl rfl) (pe_op op_add_str (pe_op op_add_str (pe_slice sl_str (pv 1) po_none (po_some (pv 3))) (pe_ix ix_str (pv 2) (pe_call Glaw_take (hr.mono (by decide)) (by rfl) Nlaw_take.g Nlaw_take.kp Nlaw_take.b .nil pass0 (pa_cons (pv 0) (pa_cons pe_int pa_nil))) (fun _ _ => rfl))) (pe_slice sl_str (pv 1) (po_some (pv 3)) po_none)))
      (pss_one (ps_ret (pe_ix (ixL (K := K) rfl) (pe_lst (pa_cons (pv 4) (pa_cons (pv 4) (pa_cons (pe_op op_add_str (pv 1) pe_str) (pa_cons (pe_op op_add_str pe_str (pv 1)) (pa_cons (pe_op op_mul_str (pv 1) pe_int) (pa_cons (pe_slice sl_str (pe_op op_add_str (pv 1) pe_str) po_none (po_some pe_int)) pa_nil))))))) (pe_call Glaw_take (hr.mono (by decide)) (by rfl) Nlaw_take.g Nlaw_take.kp Nlaw_take.b .nil pass0 (pa_cons (pv 0) (pa_cons pe_int pa_nil))) (fun _ _ => rfl)))))), ?_⟩
    have l1 := hz.1
    have l6 := hz.2.1
    have g := hz.good
    have big : 200 ≤ sizeLine := by decide
    obtain ⟨pg, epg⟩ : ∃ pg : Str, pg = Str.ofString " !\"#$&'()*+,-./0123456789:;<=>?@ABCDEFGHIJKLMNOPQRSTUVWXYZ[\\]^_`abcdefghijklmnopqrstuvwxyz{|}~\n" := ⟨_, rfl⟩
    have gpg : Good pg := by rw [epg]; exact good_of _
    have lpg : pg.length = 95 := by rw [epg]; decide +kernel
    rw [← epg]
    refine ⟨_, rfl, _, rfl, z, rfl, by omega, _, _, rfl, rfl, b, (z.length : Int) + 1, n, rfl, hb, by omega, by omega, dec9000 (by omega) (by omega), fun at_ H1 a0 a1 off1 bx1 => ?_⟩
    obtain ⟨j, rfl⟩ := Int.eq_ofNat_of_zero_le a0
    refine ⟨_, rfl, _, rfl, _, rfl, z, rfl, by omega, ?_⟩
    refine ⟨_, rfl, _, rfl, b, 95, n + 1, rfl, bx1, by omega, by decide, by decide, fun c H2 c0 c1 off2 bx2 => ?_⟩
    obtain ⟨m, rfl⟩ := Int.eq_ofNat_of_zero_le c0
    have hm : m < pg.cps.toList.length := by
      have : pg.cps.toList.length = pg.length := rfl
      omega
    refine ⟨pg, _, pg.cps.toList[m], rfl, rfl, by omega, atI_nat (List.getElem?_eq_getElem hm), ?_⟩
    have gc := gpg _ (List.getElem_mem hm)
    generalize pg.cps.toList[m] = c at gc
    have gs : Good (⟨#[c]⟩ : Str) := fun d hd => by
      obtain rfl : d = c := List.mem_singleton.mp hd
      exact gc
    have ls : (⟨#[c]⟩ : Str).length = 1 := rfl
    have q1 := cutS_length z none (some (j : Int))
    have q2 := cutS_length z (some (j : Int)) none
    refine ⟨_, _, rfl, rfl, by omega, ?_⟩
    refine ⟨_, rfl, _, rfl, _, rfl, z, rfl, by omega, _, _, rfl, rfl, by rw [length_app]; omega, ?_⟩
    generalize ey : cutS z none (some (j : Int)) ++ (⟨#[c]⟩ : Str) ++ cutS z (some (j : Int)) none = y
    have gy : Good y := by rw [← ey]; exact good_app (good_app (good_cut g _ _) gs) (good_cut g _ _)
    have ly : y.length ≤ 13 := by rw [← ey, length_app, length_app]; omega
    clear ey
    have nl : (Str.ofString "\n").length = 1 := by decide +kernel
    have sl : (Str.ofString " ").length = 1 := by decide +kernel
    have ne : (Str.ofString "northend").length = 8 := by decide +kernel
    refine ⟨_, rfl, _, rfl, _, rfl, _, _, rfl, rfl, by omega, _, rfl, _, _, rfl, rfl, by omega, _, rfl, _, _, rfl, rfl, by omega, by decide, by decide, ?_⟩
    refine ⟨_, rfl, _, _, rfl, rfl, by omega, _, rfl, _, rfl, by rw [length_app]; omega, (by show 6 ≤ sizeLine; omega), fun L hL => ?_⟩
    have m7 : (Txt.mul z 7).length ≤ 7 * z.length := mul_le (n := 7) (by decide)
    refine pick (m := 6) rfl (bx2.alloc hL) (by omega) (by decide) (by decide) rfl upd_same (bx2.fresh hL) fun v H' hv kb bx => ?_
    have kk : KB b H H' := (((KB.off off1).trans (KB.off off2)).trans (KB.alloc hL)).trans kb
    have fin : ∀ {x : Str}, Good x → x.length ≤ 50 → Q (.str x) H' := fun h1 h2 => k _ H' kk (bx.mono (by omega)) h1 h2
    simp only [List.mem_cons, List.not_mem_nil, or_false] at hv
    rcases hv with rfl | rfl | rfl | rfl | rfl | rfl
    · exact fin gy (by omega)
    · exact fin gy (by omega)
    · exact fin (good_app g (good_of _)) (by rw [length_app]; omega)
    · exact fin (good_app (good_of _) g) (by rw [length_app]; omega)
    · exact fin (good_mul g) (by omega)
    · refine fin (good_cut (good_app g (good_of _)) _ _) ?_
      have := cutS_length (z ++ Str.ofString "northend") none (some 7)
      rw [length_app] at this
      omega
end
end K4

set_option maxRecDepth 100000
set_option maxHeartbeats 400000
namespace K4
open PySem PySem.Spec PyProof.Rows L2 GxR Gd TL My
theorem catA {K : PySem.W.Frag} {H : Hp} {a b : Addr} {xs ys : List V} {Q : VK} (ha : H a = some (.tup xs)) (hb : H b = some (.tup ys)) (l : xs.length + ys.length ≤ 1000) (k : ∀ p H', Same H H' → H' p = some (.tup (xs ++ ys)) → Q (.ref p) H') : rCatA K (.ref a) (.ref b) H Q := by
  refine ⟨a, b, xs, ys, rfl, rfl, SqT.of ha, SqT.of hb, Nat.le_trans l (by decide), fun e => ?_, fun _ e => ?_, fun _ _ p hp => k p _ (same_alloc hp) upd_same⟩
  · exact k b H (Same.refl H) (by rw [e]; exact hb)
  · exact k a H (Same.refl H) (by rw [e, List.append_nil]; exact ha)
theorem hN_kb {N : Addr → Prop} {b : Addr} {n : Int} {H H' : Hp} (hN : ∀ a, H a = none → N a) (kb : KB b H H') (bx : Bx b n H') : ∀ a, H' a = none → N a := fun a ha => hN a (by
  cases e : H a with
  | none => rfl
  | some o =>
    by_cases q : a = b
    · subst q
      obtain ⟨_, _, _, h, _⟩ := bx
      rw [h] at ha
      cases ha
    · rw [kb _ _ q e] at ha
      cases ha)
theorem bx_ne {b c : Addr} {n : Int} {H : Hp} {o : HO} (bx : Bx b n H) (h : H c = some o) (m : ∀ xs, o ≠ .lst xs) : c ≠ b := fun e => by
  obtain ⟨_, _, _, q, _⟩ := bx
  rw [e, q] at h
  exact m _ (Option.some.inj h).symm
theorem set_self {σ : L2.St} {i : Nat} {x : Option V} (h : σ[i]? = some x) : σ.set i x = σ := by
  obtain ⟨hl, e⟩ := List.getElem?_eq_some_iff.mp h
  rw [← e]
  exact List.set_getElem_self hl
def nears : List V := [.str "staffs", .str "tickets", .str "Staff", .str "", .str "ticke", .str "staff ", .str "staff", .str "stafft"]
theorem near_step {K : PySem.W.Frag} {X : TS} {R : Ends} {σ : L2.St} {H : Hp} {b : Addr} {n part : Int} {y : Str} (h0 : σ[0]? = some (some (.ref b))) (h2 : σ[2]? = some (some (.int part))) (h6 : σ[6]? = some (some (.str y))) (hb : Bx b n H) (n9 : n ≤ 90000) (gy : Good y) (ly : y.length ≤ 50)
    (k : ∀ y' H', Good y' → y'.length ≤ 50 → KB b H H' → Bx b (n + 1) H' → X R (σ.set 6 (some (.str y'))) H') :
    tSeq (tIfS (tTest (tOp rEq (tVar 2) (tC (V.int 1)))) (tAsg (tOp (rIxL K) (tLst (tCons (tC (V.str "staffs")) (tCons (tC (V.str "tickets")) (tCons (tC (V.str "Staff")) (tCons (tC (V.str "")) (tCons (tC (V.str "ticke")) (tCons (tC (V.str "staff ")) (tCons (tC (V.str "staff")) (tCons (tC (V.str "stafft")) tNil)))))))))
      (tCall spTake [] E0 (tCons (tVar 0) (tCons (tC (V.int 8)) tNil)))) (gName 6)) tNext) X R σ H := by
  refine ⟨_, h2, rfl, _, rfl, ite2 (fun _ => ?_) (fun _ => ?_)⟩
  · refine ⟨(by show 8 ≤ sizeLine; decide), fun L hL => pick (m := 8) h0 (hb.alloc hL) n9 (by decide) (by decide) rfl upd_same (hb.fresh hL) fun v H' hv kb bx => ?_⟩
    have kk := (KB.alloc hL).trans kb
    have go : ∀ {x : String}, v = .str x → (Str.ofString x).length ≤ 50 → gName 6 v σ H' (X R) := fun e l => by
      rw [e]
      exact k _ H' (good_of _) l kk bx
    simp only [List.mem_cons, List.not_mem_nil, or_false] at hv
    rcases hv with e | e | e | e | e | e | e | e
    · exact go e (by decide +kernel)
    · exact go e (by decide +kernel)
    · exact go e (by decide +kernel)
    · exact go e (by decide +kernel)
    · exact go e (by decide +kernel)
    · exact go e (by decide +kernel)
    · exact go e (by decide +kernel)
    · exact go e (by decide +kernel)
  · have := k y H gy ly (KB.refl b H) (hb.mono (by omega))
    rw [set_self h6] at this
    exact this
/-- one of the names -/
theorem pick_name {K : PySem.W.Frag} {σ : L2.St} {H : Hp} {b L : Addr} {i j : Nat} {n : Int} {as : List Str} {Q : VK} (h0 : σ[i]? = some (some (.ref b))) (hj : σ[j]? = some (some (.ref L))) (hb : Bx b n H) (n9 : n ≤ 90000) (l0 : 1 ≤ as.length) (l9 : as.length ≤ 1000) (hL : H L = some (.lst (as.map V.str))) (nL : L ≠ b)
    (k : ∀ z H', z ∈ as → KB b H H' → Bx b (n + 1) H' → Q (.str z) H') : tCall spTake [] E0 (tCons (tVar i) (tCons (tCB (fun xs H Q => ∃ p ys, xs = [V.ref p] ∧ (SqL K H p ys ∨ SqT K H p ys) ∧ Q (V.int ys.length) H) (tCons (tVar j) tNil)) tNil)) σ H (fun y H2 => rIxL K (.ref L) y H2 Q) := by
  refine ⟨_, h0, _, hj, L, _, rfl, .inl (SqL.of hL), ?_⟩
  rw [List.length_map]
  refine pick0 (m := as.length) hb n9 l0 l9 (by rw [List.length_map]) hL nL (fun v H' hv kb bx => ?_)
  obtain ⟨z, hz, rfl⟩ := List.mem_map.mp hv
  exact k z H' hz kb bx
section
variable {P : Program} {w : World} {K : PySem.W.Frag} {mg : Str → Option Value} {base : Heap} {f1 f2 f3 f4 : Addr} {fd1 fd2 fd3 fd4 : FuncData}
abbrev s_law_part_otherwise : Stmt := top 38
theorem sc_law_part_otherwise : FnScope ["_law_box_here", "_law_world_here", "_law_part", "_law_thing", "_law_at", "_law_names_here", "_law_near", "_law_some", "_law_name", "_law_roads"] ["_law_box_here", "_law_world_here", "_law_part", "_law_thing"] (defScope s_law_part_otherwise) := ⟨rfl, rfl, rfl, by decide +kernel, rfl, by decide +kernel, by decide +kernel⟩
abbrev s_law_thing_otherwise : Stmt := top 39
theorem sc_law_thing_otherwise : FnScope ["_law_box_here", "_law_world_here", "_law_part", "_law_some", "_law_at", "_law_way", "_law_thing", "_law_others"] ["_law_box_here", "_law_world_here", "_law_part", "_law_some"] (defScope s_law_thing_otherwise) := ⟨rfl, rfl, rfl, by decide +kernel, rfl, by decide +kernel, by decide +kernel⟩
def spPart (K : PySem.W.Frag) : Sp := fun vs H Q _ => ∃ (b W t : Addr) (part n : Int) (wd : Wd) (N : Addr → Prop) (m : Nat) (xs : List V), vs = [.ref b, .ref W, .int part, .ref t] ∧ Bx b n H ∧ n ≤ 70000 ∧ wd.Ok ∧ ¬ N b ∧ (∀ a, H a = none → N a) ∧ Dp K (hide b H) (.ref W) wd.data ∧
  H t = some (.tup xs) ∧ 1 ≤ xs.length ∧ xs.length ≤ m ∧ m ≤ 20 ∧ (∀ x ∈ xs, Wf N H m 1 x) ∧ ∀ v H', KB b H H' → Bx b (n + 20) H' → Wf N H' m 2 v → Q v H'
theorem ok_part {f : Addr} {fd : FuncData} (F : Fun K "_law_part_otherwise" "_law_part_otherwise" s_law_part_otherwise f fd) (T : Txt mg)
    (Nlaw_take : Fn K mg "_law_take" sTake ["_law_box_here", "_law_many"] f1 fd1) (Glaw_take : FnOk P w K mg base CX0 1 f1 fd1 ["_law_box_here", "_law_many"] spTake)
    (Nlaw_odd : Fn K mg "_law_odd" s_law_odd ["_law_box_here", "_law_world_here"] f2 fd2) (Glaw_odd : FnOk P w K mg base CX0 2 f2 fd2 ["_law_box_here", "_law_world_here"] (spOdd K))
    (Nlaw_number : Fn K mg "_law_number" s_law_number ["_law_box_here"] f3 fd3) (Glaw_number : FnOk P w K mg base CX0 2 f3 fd3 ["_law_box_here"] spNumber)
    (Nlaw_bent_name : Fn K mg "_law_bent_name" s_law_bent_name ["_law_box_here", "_law_name"] f4 fd4) (Glaw_bent_name : FnOk P w K mg base CX0 2 f4 fd4 ["_law_box_here", "_law_name"] spBent) :
    FnOk P w K mg base CX0 3 f fd ["_law_box_here", "_law_world_here", "_law_part", "_law_thing"] (spPart K) := by
  refine F.ok sc_law_part_otherwise (fun vs H Q E h => ?_) (fun cdv A outer s H vs Q E hr h => ?_)
  · obtain ⟨b, W, t, part, n, wd, N, m, xs, rfl, _⟩ := h
    rfl
  · obtain ⟨b, W, t, part, n, wd, N, m, xs, rfl, hb, n9, ok, nb, hN, dW, ht, l1, lm, m20, wx, k⟩ := h
    refine ⟨_, pss_cons (ps_set (i := 4) sc_law_part_otherwise.nd rfl (Or.inl rfl) (pe_call Glaw_take (hr.mono (by decide)) (by rfl) Nlaw_take.g Nlaw_take.kp Nlaw_take.b .nil pass0 (pa_cons (pv 0) (pa_cons (pe_callB call_len_seq (by rfl) T.len_ PySem.boot_len (pa_cons (pv 3) pa_nil)) pa_nil))))
      (pss_cons (ps_setLc (i := 5) (own := [("_law_name", 8), ("_law_roads", 9)]) (g := gTup K 2 (gCons (gName 8) (gCons (gName 9) gNil))) (tt := tYes) rfl sc_law_part_otherwise.nd rfl rfl (sw_true rfl rfl rfl (by decide +kernel)) (pi_list (pe_ix (ixL (K := K) rfl) (pv 1) pe_int (fun _ _ => rfl))) (blkOk_by (own := [("_law_name", 8), ("_law_roads", 9)]) (N := ["_law_box_here", "_law_world_here", "_law_part", "_law_thing", "_law_at", "_law_names_here", "_law_near", "_law_some", "_law_name", "_law_roads"]) (sc := defScope s_law_part_otherwise) (by decide +kernel)) (fun _ _ _ _ _ => (pg_tup (by rfl) (pgs_cons (pg_name (i := 8) sc_law_part_otherwise.nd rfl (Or.inl rfl)) (pgs_cons (pg_name (i := 9) sc_law_part_otherwise.nd rfl (Or.inl rfl)) pgs_nil)))) (fun _ _ _ _ _ => pts_nil) (fun _ _ _ _ _ => (pv 8)))
      (pss_cons (ps_set (i := 6) sc_law_part_otherwise.nd rfl (Or.inl rfl) (pe_call Glaw_bent_name (hr.mono (by decide)) (by rfl) Nlaw_bent_name.g Nlaw_bent_name.kp Nlaw_bent_name.b .nil pass0 (pa_cons (pv 0) (pa_cons (pe_ix (ixL (K := K) rfl) (pv 5) (pe_call Glaw_take (hr.mono (by decide)) (by rfl) Nlaw_take.g Nlaw_take.kp Nlaw_take.b .nil pass0 (pa_cons (pv 0) (pa_cons (pe_callB call_len_seq (by rfl) T.len_ PySem.boot_len (pa_cons (pv 5) pa_nil)) pa_nil))) (fun _ _ => rfl)) pa_nil))))
      (pss_cons (ps_if (pt_cmpR op_eq (pv 2) pe_int (nomark _)) (pss_one (ps_set (i := 6) sc_law_part_otherwise.nd rfl (Or.inl rfl) (pe_ix (ixL (K := K) rfl) (pe_lst (pa_cons pe_str (pa_cons pe_str (pa_cons pe_str (pa_cons pe_str (pa_cons pe_str (pa_cons pe_str (pa_cons pe_str (pa_cons pe_str pa_nil))))))))) (pe_call Glaw_take (hr.mono (by decide)) (by rfl) Nlaw_take.g Nlaw_take.kp Nlaw_take.b .nil pass0 (pa_cons (pv 0) (pa_cons pe_int pa_nil))) (fun _ _ => rfl)))) pss_nil)
      (pss_cons (ps_set (i := 7) sc_law_part_otherwise.nd rfl (Or.inl rfl) (pe_lst (pa_cons (pe_call Glaw_odd (hr.mono (by decide)) (by rfl) Nlaw_odd.g Nlaw_odd.kp Nlaw_odd.b .nil pass0 (pa_cons (pv 0) (pa_cons (pv 1) pa_nil))) (pa_cons (pe_call Glaw_number (hr.mono (by decide)) (by rfl) Nlaw_number.g Nlaw_number.kp Nlaw_number.b .nil pass0 (pa_cons (pv 0) pa_nil)) (pa_cons (pe_ix (ixL (K := K) rfl) (pv 5) (pe_call Glaw_take (hr.mono (by decide)) (by rfl) Nlaw_take.g Nlaw_take.kp Nlaw_take.b .nil pass0 (pa_cons (pv 0) (pa_cons (pe_callB call_len_seq (by rfl) T.len_ PySem.boot_len (pa_cons (pv 5) pa_nil)) pa_nil))) (fun _ _ => rfl)) (pa_cons (pv 6) (pa_cons (pv 6) pa_nil)))))))
      (pss_one (ps_ret (pe_op op_catA (pe_op op_catA (pe_slice sl_tup (pv 3) po_none (po_some (pv 4))) (pe_tup (pa_cons (pe_ix (ixL (K := K) rfl) (pv 7) (pe_call Glaw_take (hr.mono (by decide)) (by rfl) Nlaw_take.g Nlaw_take.kp Nlaw_take.b .nil pass0 (pa_cons (pv 0) (pa_cons pe_int pa_nil))) (fun _ _ => rfl)) pa_nil))) (pe_slice sl_tup (pv 3) (po_some (pe_op op_add (pv 4) pe_int)) po_none)))))))), ?_⟩
    have tb := bx_ne hb ht (by simp)
    refine ⟨_, rfl, _, rfl, t, xs, rfl, .inr (SqT.of ht), b, xs.length, n, rfl, hb, by omega, by omega, dec9000 (by omega) (by omega), fun at_ Ha a0 a1 off0 bx0 => ?_⟩
    obtain ⟨j, rfl⟩ := Int.eq_ofNat_of_zero_le a0
    have k0 : KB b H Ha := KB.off off0
    obtain ⟨W', x0, x1, x2, x3, eW, hW, q0, q1, q2, q3⟩ := dp_four (dp_nt k0.nt dW)
    obtain rfl := V.ref.inj eW
    obtain ⟨a0', xs0, rfl, hx0, hd0⟩ := dp_list q0
    have nt := hide_nt b Ha
    have hW' := nt.seq hW
    have hx0' := nt.seq hx0
    have hd0' := dpAll_nt nt hd0
    refine ⟨_, rfl, W, _, 0, _, rfl, rfl, hW', rfl, a0', rfl, ⟨_, hx0'⟩, fun D hD => ?_⟩
    have nDb : D ≠ b := bx0.fresh hD
    refine lc_it (walk_list (K := K) (xs := xs0)) (fun i H' => Same Ha H' ∧ H' D = some (.lst (((wd.ps.take i).map (·.1)).map V.str))) ?_ ?_ ?_ ?_
    · exact ⟨same_alloc hD, upd_same⟩
    · rintro i H' hi ⟨s, _⟩
      exact (same_nt s).seq hx0'
    · rintro i x H1 H2 hi ⟨s, e⟩ ⟨rfl, hx⟩
      obtain ⟨d, hg1, hg2⟩ := dpAll_get hd0' hx
      obtain ⟨p, hp, rfl⟩ := get_map hg1
      obtain ⟨t, y1, y2, rfl, ht, r1, r2⟩ := dp_two hg2
      obtain rfl := dp_str r1
      obtain rfl := dp_int r2
      have ht1 := (same_nt s).seqT ht
      refine ⟨t, _, rfl, ht1, rfl, _, _, rfl, _, _, rfl, rfl, rfl, lcY ⟨_, rfl, _, e, ?_, ?_⟩⟩
      · rw [List.length_map, List.length_map, List.length_take]
        have := ok.p6
        exact lt_line _ (by omega)
      · refine ⟨fun c o h => by rw [upd_ne (ne_of_none h hD)]; exact s _ _ h, ?_⟩
        rw [upd_same, take_at hp, List.map_append, List.map_append]
        rfl
    · rintro H1 ⟨s1, e1⟩
      have l0 : xs0.length = wd.ps.length := by rw [dpAll_len hd0, List.length_map]
      rw [l0, List.take_of_length_le (Nat.le_refl _)] at e1
      have p2 := ok.p2
      have p6 := ok.p6
      have k1 := k0.trans (fun c o _ h => s1 c o h)
      have bx1 : Bx b (n + 1) H1 := bx0.same (by obtain ⟨_, _, _, q, _⟩ := id bx0; rw [q]; exact s1 _ _ q)
      have al : ∀ z ∈ wd.ps.map (·.1), NameOk z := fun z hz => by
        obtain ⟨p, hp, rfl⟩ := List.mem_map.mp hz
        exact (ok.nm p hp).1
      have ln : (wd.ps.map (·.1)).length = wd.ps.length := List.length_map ..
      generalize wd.ps.map (·.1) = as at e1 al ln
      clear hx0 hx0' hd0 hd0' hW hW' q1 q2 q3 q0 l0 nt s1 hD
      refine ⟨_, rfl, _, rfl, pick_name (i := 0) (j := 5) rfl rfl bx1 (by omega) (by omega) (by omega) e1 nDb fun z H2 hz kb2 bx2 => ?_⟩
      have k2 := k1.trans kb2
      refine ⟨b, _, z, rfl, bx2, by omega, al z hz, fun y H3 kb3 bx3 gy ly => ?_⟩
      have k3 := k2.trans kb3
      have e3 := (kb2.trans kb3) _ _ nDb e1
      refine near_step (n := n + 5) rfl rfl rfl (bx3.mono (by omega)) (by omega) gy ly fun y H4 gy ly kb4 bx4 => ?_
      have k4 := k3.trans kb4
      have e4 := kb4 _ _ nDb e3
      refine ⟨_, rfl, _, rfl, b, W, _, wd, N, rfl, bx4, by omega, ok, nb, hN_kb hN k4 bx4, dp_nt k4.nt dW, fun v1 H5 kb5 bx5 w1 => ?_⟩
      have k5 := k4.trans kb5
      have e5 := kb5 _ _ nDb e4
      refine ⟨_, rfl, b, _, rfl, bx5, by omega, fun v2 H6 kb6 bx6 f2 w2 => ?_⟩
      have k6 := k5.trans kb6
      have e6 := kb6 _ _ nDb e5
      refine ⟨_, rfl, pick_name (i := 0) (j := 5) rfl rfl bx6 (by omega) (by omega) (by omega) e6 nDb fun z2 H7 hz2 kb7 bx7 => ?_⟩
      have k7 := k6.trans kb7
      refine ⟨_, rfl, _, rfl, (by show 5 ≤ sizeLine; decide), fun L hL => ?_⟩
      have w17 := (w1.keep (Kw.kb nb bx5 kb6)).keep (Kw.kb nb bx6 kb7)
      have w18 := w17.keep (Kw.same (same_alloc (o := .lst [v1, v2, .str z2, .str y, .str y]) hL))
      have bx8 := bx7.alloc (o := .lst [v1, v2, .str z2, .str y, .str y]) hL
      have k8 := k7.trans (KB.alloc (o := .lst [v1, v2, .str z2, .str y, .str y]) hL)
      have nLb := bx7.fresh hL
      have eL : upd H7 L (.lst [v1, v2, .str z2, .str y, .str y]) L = some (.lst [v1, v2, .str z2, .str y, .str y]) := upd_same
      have w28 : Wf N (upd H7 L (.lst [v1, v2, .str z2, .str y, .str y])) 1 0 v2 := ((w2 N).keep (Kw.kb nb bx6 kb7)).keep (Kw.same (same_alloc hL))
      generalize upd H7 L (.lst [v1, v2, .str z2, .str y, .str y]) = H8 at w18 bx8 k8 eL w28 ⊢
      have ht8 := k8 _ _ tb ht
      refine ⟨_, rfl, _, rfl, _, rfl, t, xs, rfl, SqT.of ht8, ?_, fun p1 hp1 => ?_⟩
      · rw [HT.sIx_none, HT.sIx_nat]
        omega
      have bx9 := bx8.alloc (o := .tup (cutV xs none (some (j : Int)))) hp1
      have k9 := k8.trans (KB.alloc (o := .tup (cutV xs none (some (j : Int)))) hp1)
      have eL9 := same_alloc (o := .tup (cutV xs none (some (j : Int)))) hp1 _ _ eL
      have e9 : upd H8 p1 (.tup (cutV xs none (some (j : Int)))) p1 = some (.tup (cutV xs none (some (j : Int)))) := upd_same
      have w19 := w18.keep (Kw.same (same_alloc (o := .tup (cutV xs none (some (j : Int)))) hp1))
      have w29 := w28.keep (Kw.same (same_alloc (o := .tup (cutV xs none (some (j : Int)))) hp1))
      generalize upd H8 p1 (.tup (cutV xs none (some (j : Int)))) = H9 at bx9 k9 eL9 e9 w19 w29 ⊢
      refine ⟨_, rfl, pick (m := 5) rfl bx9 (by omega) (by decide) (by decide) rfl eL9 nLb fun v Hv hv kbv bxv => ?_⟩
      have kv := k9.trans kbv
      have wv : Wf N Hv 1 1 v := by
        have h1 := w19.keep (Kw.kb nb bx9 kbv)
        have h2 := w29.keep (Kw.kb nb bx9 kbv)
        have hz' := al z2 hz2
        simp only [List.mem_cons, List.not_mem_nil, or_false] at hv
        rcases hv with rfl | rfl | rfl | rfl | rfl
        · exact h1
        · exact h2.mono (Nat.le_refl _) (by decide)
        · exact .str _ hz'.good (by have := hz'.2.1; omega) _
        · exact .str _ gy ly _
        · exact .str _ gy ly _
      refine ⟨(by show 1 ≤ sizeLine; decide), fun p2 hp2 => ?_⟩
      have cl := cutV_length xs none (some (j : Int))
      have c1 : (cutV xs none (some (j : Int))).length ≤ j := by
        unfold cutV
        rw [HT.sIx_none, HT.sIx_nat]
        refine Nat.le_trans (List.length_take_le _ _) ?_
        omega
      have c2 : (cutV xs (some ((j : Int) + 1)) none).length ≤ xs.length - (j + 1) := by
        unfold cutV
        rw [HT.sIx_none, show ((j : Int) + 1) = ((j + 1 : Nat) : Int) by omega, HT.sIx_nat]
        refine Nat.le_trans (List.length_take_le _ _) ?_
        omega
      have m1 : ∀ x ∈ cutV xs none (some (j : Int)), x ∈ xs := fun x hx => List.mem_of_mem_drop (List.mem_of_mem_take hx)
      have m2 : ∀ x ∈ cutV xs (some ((j : Int) + 1)) none, x ∈ xs := fun x hx => List.mem_of_mem_drop (List.mem_of_mem_take hx)
      have ev : Hv p1 = some (.tup (cutV xs none (some (j : Int)))) := kbv _ _ (bx_ne bx9 e9 (by simp)) e9
      have sA := same_alloc (o := .tup [v]) hp2
      refine catA (sA _ _ ev) upd_same (by rw [List.length_singleton]; omega) fun p3 HA s3 e3 => ?_
      have sB := sA.trans s3
      have htA := sB _ _ (kv _ _ tb ht)
      refine ⟨_, rfl, _, rfl, _, _, rfl, rfl, _, rfl, t, xs, rfl, SqT.of htA, ?_, fun p4 hp4 => ?_⟩
      · rw [show ((j : Int) + 1) = ((j + 1 : Nat) : Int) by omega, HT.sIx_nat]
        omega
      have sC := sB.trans (same_alloc (o := .tup (cutV xs (some ((j : Int) + 1)) none)) hp4)
      refine catA (same_alloc hp4 _ _ e3) upd_same (by rw [List.length_append, List.length_singleton]; omega) fun p5 HB s5 e5 => ?_
      have sD := sC.trans s5
      have kD : KB b H HB := kv.trans (fun c o _ h => sD c o h)
      refine k _ _ kD ((bxv.same (by obtain ⟨_, _, _, q, _⟩ := id bxv; rw [q]; exact sD _ _ q)).mono (by omega)) (.tup p5 _ 1 e5 (by rw [List.length_append, List.length_append, List.length_singleton]; omega) fun x hx => ?_)
      have hw : ∀ x ∈ xs, Wf N HB m 1 x := fun x hx => (wx x hx).keep (Kw.kb nb hb kD)
      rcases List.mem_append.mp hx with hx | hx
      · rcases List.mem_append.mp hx with hx | hx
        · exact hw x (m1 x hx)
        · rw [List.mem_singleton.mp hx]
          exact (wv.keep (Kw.same sD)).mono (by omega) (by decide)
      · exact hw x (m2 x hx)
end
end K4

set_option maxRecDepth 100000
set_option maxHeartbeats 1000000
/-! A tuple or a list of any things beside an empty one. -/
namespace My
open PySem PySem.Spec PyProof.Rows L2 GxR Gd TL
def rEqT0 (K : PySem.W.Frag) : R2 := fun x y H Q => ∃ a b xs, x = .ref a ∧ y = .ref b ∧ SqT K H a xs ∧ SqT K H b [] ∧ Q (.bl xs.isEmpty) H
theorem op_eqT0 {X : Cx} (hu : X.A.units < cLine) : OpR X (compareOp .Eq) (rEqT0 X.K) := by
  rintro pins s σ H x y v u Q I rx ry ⟨a, b, xs, rfl, rfl, ha, hb, q⟩
  cases rx
  cases ry
  obtain ⟨us, r1, p1, _⟩ := I.tuple ha
  obtain ⟨ws, r2, p2, _⟩ := I.tuple hb
  cases r2
  refine SeqAt.eq_tupleAt (e := fun _ => true) p1 p2 hu (fun j _ h2 => absurd h2 (Nat.not_lt_zero j)) ⟨.bl _, H, I, ?_, q⟩
  cases r1 with
  | nil => rfl
  | cons _ _ => rfl
def rNeL0 (K : PySem.W.Frag) : R2 := fun x y H Q => ∃ a b xs, x = .ref a ∧ y = .ref b ∧ SqL K H a xs ∧ SqL K H b [] ∧ Q (.bl (!xs.isEmpty)) H
theorem op_neL0 {X : Cx} (hu : X.A.units < cLine) : OpR X (compareOp .NotEq) (rNeL0 X.K) := by
  rintro pins s σ H x y v u Q I rx ry ⟨a, b, xs, rfl, rfl, ha, hb, q⟩
  cases rx
  cases ry
  obtain ⟨us, r1, p1, _⟩ := I.list ha
  obtain ⟨ws, r2, p2, _⟩ := I.list hb
  cases r2
  cases r1 with
  | nil => exact (SeqAt.RcNeAt.lists (e := fun _ => true) p1.isList p2.isList rfl hu (fun j h1 _ => absurd h1 (Nat.not_lt_zero j))) _ _ _ _ ⟨.bl _, H, I, rfl, q⟩
  | cons h t => exact (SeqAt.RcNeAt.lists_lengths p1.isList p2.isList rfl hu) _ _ _ _ ⟨.bl _, H, I, rfl, q⟩
end My

set_option maxRecDepth 100000
set_option maxHeartbeats 400000
namespace K4
open PySem PySem.Spec PyProof.Rows L2 GxR Gd TL My
theorem rIsi_tup {σ : L2.St} {K : PySem.W.Frag} {H : Hp} {n : V} {Q : VK} (th : Th H n) (k : Q (.bl (tupOf H n).isSome) H) : tCons (tC (V.ty "tuple")) tNil σ H (fun xs H2 => rIsi K (n :: xs) H2 Q) := by
  show rIsi K [n, .ty "tuple"] H Q
  cases th with
  | non => exact ⟨_, _, _, _, false, rfl, .ty "tuple", .base .non, (by rfl), k⟩
  | bl b => exact ⟨_, _, _, _, false, rfl, .ty "tuple", .base (.bl b), (by rfl), k⟩
  | int i => exact ⟨_, _, _, _, false, rfl, .ty "tuple", .base (.int i), (by rfl), k⟩
  | str z h g => exact ⟨_, _, _, _, false, rfl, .ty "tuple", .base (.str z), (by rfl), k⟩
  | dic a h =>
    rw [tup_dic h] at k
    exact ⟨_, _, _, _, false, rfl, .ty "tuple", .base (.dK h), (by rfl), k⟩
  | lst a xs h =>
    rw [tup_lst h] at k
    exact ⟨_, _, _, _, false, rfl, .ty "tuple", .base (.lst h), (by rfl), k⟩
  | tup a xs h =>
    rw [tup_tup h] at k
    exact ⟨_, _, _, _, true, rfl, .ty "tuple", .base (.tup h), (by rfl), k⟩
theorem cut_le {xs : List V} (j : Nat) : (cutV xs none (some (j : Int))).length ≤ j ∧ ∀ x ∈ cutV xs none (some (j : Int)), x ∈ xs := by
  refine ⟨?_, fun x hx => List.mem_of_mem_drop (List.mem_of_mem_take hx)⟩
  unfold cutV
  rw [HT.sIx_none, HT.sIx_nat]
  refine Nat.le_trans (List.length_take_le _ _) ?_
  omega
theorem cut_ge {xs : List V} (j : Nat) : (cutV xs (some (j : Int)) none).length ≤ xs.length - j ∧ ∀ x ∈ cutV xs (some (j : Int)) none, x ∈ xs := by
  refine ⟨?_, fun x hx => List.mem_of_mem_drop (List.mem_of_mem_take hx)⟩
  unfold cutV
  rw [HT.sIx_none, HT.sIx_nat]
  refine Nat.le_trans (List.length_take_le _ _) ?_
  omega
theorem catL {H : Hp} {a b : Addr} {xs ys : List V} {Q : VK} (ha : H a = some (.lst xs)) (hb : H b = some (.lst ys)) (l : xs.length + ys.length ≤ 1000) (k : ∀ p, H p = none → Q (.ref p) (upd H p (.lst (xs ++ ys)))) : rCat (.ref a) (.ref b) H Q :=
  ⟨a, b, xs, ys, rfl, rfl, ha, hb, Nat.le_trans l (by decide), k⟩
/-- what stands in a list put together of parts of xs and of new things -/
theorem drop_ret {K : PySem.W.Frag} {σ : L2.St} {H : Hp} {S : Addr} {j : Nat} {xs : List V} {Q : VK} (h3 : σ[3]? = some (some (.ref S))) (h4 : σ[4]? = some (some (.int (j : Nat)))) (hS : H S = some (.lst xs)) (hj : j < xs.length) (lx : xs.length ≤ 100)
    (k : ∀ p H' ys, H p = none → Same H H' → H' p = some (.lst ys) → ys.length ≤ xs.length → (∀ y ∈ ys, y ∈ xs) → Q (.ref p) H') :
    tOp rCat (tSl (rSlL K) (tVar 3) tNoPart (tPart (tVar 4))) (tSl (rSlL K) (tVar 3) (tPart (tOp (rI0 fun i j => V.int (i + j)) (tVar 4) (tC (V.int 1)))) tNoPart) σ H Q := by
  obtain ⟨c1, m1⟩ := cut_le (xs := xs) j
  obtain ⟨c2, m2⟩ := cut_ge (xs := xs) (j + 1)
  refine ⟨_, h3, _, h4, _, rfl, S, xs, rfl, SqL.of hS, fun p1 hp1 => ?_⟩
  have s1 := same_alloc (o := .lst (cutV xs none (some (j : Int)))) hp1
  refine ⟨_, h3, _, h4, _, _, rfl, rfl, _, rfl, S, xs, rfl, SqL.of (s1 _ _ hS), fun p2 hp2 => ?_⟩
  rw [show ((j : Int) + 1) = ((j + 1 : Nat) : Int) by omega]
  have s2 := same_alloc (o := .lst (cutV xs (some ((j + 1 : Nat) : Int)) none)) hp2
  refine catL (s2 _ _ upd_same) upd_same (by omega) fun p hp => ?_
  have s := (s1.trans s2).trans (same_alloc (o := .lst (cutV xs none (some (j : Int)) ++ cutV xs (some ((j + 1 : Nat) : Int)) none)) hp)
  refine k p _ _ ((s1.trans s2).free hp) s upd_same (by rw [List.length_append]; omega) fun y hy => ?_
  exact (List.mem_append.mp hy).elim (m1 y) (m2 y)
/-- xs[:at] + [v], and the rest behind -/
theorem mid_ret {K : PySem.W.Frag} {σ : L2.St} {H : Hp} {S p1 p2 : Addr} {j : Nat} {v : V} {xs : List V} {Q : VK} (h3 : σ[3]? = some (some (.ref S))) (h4 : σ[4]? = some (some (.int (j : Nat)))) (hS : H S = some (.lst xs)) (hj : j < xs.length) (lx : xs.length ≤ 100)
    (h1 : H p1 = some (.lst (cutV xs none (some (j : Int))))) (h2 : H p2 = some (.lst [v]))
    (k : ∀ p H' ys, H p = none → Same H H' → H' p = some (.lst ys) → ys.length ≤ xs.length → (∀ y ∈ ys, y ∈ xs ∨ y = v) → Q (.ref p) H') :
    rCat (.ref p1) (.ref p2) H fun z H3 => tSl (rSlL K) (tVar 3) (tPart (tOp (rI0 fun i j => V.int (i + j)) (tVar 4) (tC (V.int 1)))) tNoPart σ H3 fun y H4 => rCat z y H4 Q := by
  obtain ⟨c1, m1⟩ := cut_le (xs := xs) j
  obtain ⟨c2, m2⟩ := cut_ge (xs := xs) (j + 1)
  refine catL h1 h2 (by rw [List.length_singleton]; omega) fun p3 hp3 => ?_
  have s3 := same_alloc (o := .lst (cutV xs none (some (j : Int)) ++ [v])) hp3
  refine ⟨_, h3, _, h4, _, _, rfl, rfl, _, rfl, S, xs, rfl, SqL.of (s3 _ _ hS), fun p4 hp4 => ?_⟩
  rw [show ((j : Int) + 1) = ((j + 1 : Nat) : Int) by omega]
  have s4 := same_alloc (o := .lst (cutV xs (some ((j + 1 : Nat) : Int)) none)) hp4
  refine catL (s4 _ _ upd_same) upd_same (by rw [List.length_append, List.length_singleton]; omega) fun p hp => ?_
  have s := (s3.trans s4).trans (same_alloc (o := .lst (cutV xs none (some (j : Int)) ++ [v] ++ cutV xs (some ((j + 1 : Nat) : Int)) none)) hp)
  refine k p _ _ ((s3.trans s4).free hp) s upd_same (by rw [List.length_append, List.length_append, List.length_singleton]; omega) fun y hy => ?_
  rcases List.mem_append.mp hy with hy | hy
  · rcases List.mem_append.mp hy with hy | hy
    · exact .inl (m1 y hy)
    · exact .inr (List.mem_singleton.mp hy)
  · exact .inl (m2 y hy)
theorem ins_ret {K : PySem.W.Frag} {σ : L2.St} {H : Hp} {S p1 p2 : Addr} {j : Nat} {v : V} {xs : List V} {Q : VK} (h3 : σ[3]? = some (some (.ref S))) (h4 : σ[4]? = some (some (.int (j : Nat)))) (hS : H S = some (.lst xs)) (hj : j < xs.length) (lx : xs.length ≤ 100)
    (h1 : H p1 = some (.lst (cutV xs none (some (j : Int))))) (h2 : H p2 = some (.lst [v]))
    (k : ∀ p H' ys, H p = none → Same H H' → H' p = some (.lst ys) → ys.length ≤ xs.length + 1 → (∀ y ∈ ys, y ∈ xs ∨ y = v) → Q (.ref p) H') :
    rCat (.ref p1) (.ref p2) H fun z H3 => tSl (rSlL K) (tVar 3) (tPart (tVar 4)) tNoPart σ H3 fun y H4 => rCat z y H4 Q := by
  obtain ⟨c1, m1⟩ := cut_le (xs := xs) j
  obtain ⟨c2, m2⟩ := cut_ge (xs := xs) j
  refine catL h1 h2 (by rw [List.length_singleton]; omega) fun p3 hp3 => ?_
  have s3 := same_alloc (o := .lst (cutV xs none (some (j : Int)) ++ [v])) hp3
  refine ⟨_, h3, _, h4, _, rfl, S, xs, rfl, SqL.of (s3 _ _ hS), fun p4 hp4 => ?_⟩
  have s4 := same_alloc (o := .lst (cutV xs (some (j : Int)) none)) hp4
  refine catL (s4 _ _ upd_same) upd_same (by rw [List.length_append, List.length_singleton]; omega) fun p hp => ?_
  have s := (s3.trans s4).trans (same_alloc (o := .lst (cutV xs none (some (j : Int)) ++ [v] ++ cutV xs (some (j : Int)) none)) hp)
  refine k p _ _ ((s3.trans s4).free hp) s upd_same (by rw [List.length_append, List.length_append, List.length_singleton]; omega) fun y hy => ?_
  rcases List.mem_append.mp hy with hy | hy
  · rcases List.mem_append.mp hy with hy | hy
    · exact .inl (m1 y hy)
    · exact .inr (List.mem_singleton.mp hy)
  · exact .inl (m2 y hy)
theorem bx_same {b : Addr} {n : Int} {H H' : Hp} (h : Bx b n H) (s : Same H H') : Bx b n H' := h.same (by obtain ⟨_, _, _, q, _⟩ := id h; rw [q]; exact s _ _ q)
theorem kb_same {b : Addr} {H H' : Hp} (s : Same H H') : KB b H H' := fun c o _ h => s c o h
section
variable {P : Program} {w : World} {K : PySem.W.Frag} {mg : Str → Option Value} {base : Heap} {f1 f2 f3 : Addr} {fd1 fd2 fd3 : FuncData}
def spThing (K : PySem.W.Frag) : Sp := fun vs H Q _ => ∃ (b W S : Addr) (part n : Int) (wd : Wd) (N : Addr → Prop) (m : Nat) (xs : List V), vs = [.ref b, .ref W, .int part, .ref S] ∧ Bx b n H ∧ n ≤ 60000 ∧ wd.Ok ∧ ¬ N b ∧ (∀ a, H a = none → N a) ∧ Dp K (hide b H) (.ref W) wd.data ∧
  N S ∧ H S = some (.lst xs) ∧ 1 ≤ xs.length ∧ xs.length ≤ m ∧ 1 ≤ m ∧ m ≤ 15 ∧ (∀ x ∈ xs, Wf N H m 2 x) ∧ ∀ v H', KB b H H' → Bx b (n + 40) H' → Wf N H' (m + 1) 3 v → Q v H'
theorem ok_thing {f : Addr} {fd : FuncData} (F : Fun K "_law_thing_otherwise" "_law_thing_otherwise" s_law_thing_otherwise f fd) (T : Txt mg)
    (Nlaw_take : Fn K mg "_law_take" sTake ["_law_box_here", "_law_many"] f1 fd1) (Glaw_take : FnOk P w K mg base CX0 1 f1 fd1 ["_law_box_here", "_law_many"] spTake)
    (Nlaw_odd : Fn K mg "_law_odd" s_law_odd ["_law_box_here", "_law_world_here"] f2 fd2) (Glaw_odd : FnOk P w K mg base CX0 2 f2 fd2 ["_law_box_here", "_law_world_here"] (spOdd K))
    (Nlaw_part_otherwise : Fn K mg "_law_part_otherwise" s_law_part_otherwise ["_law_box_here", "_law_world_here", "_law_part", "_law_thing"] f3 fd3) (Glaw_part_otherwise : FnOk P w K mg base CX0 3 f3 fd3 ["_law_box_here", "_law_world_here", "_law_part", "_law_thing"] (spPart K)) :
    FnOk P w K mg base CX0 4 f fd ["_law_box_here", "_law_world_here", "_law_part", "_law_some"] (spThing K) := by
  refine F.ok sc_law_thing_otherwise (fun vs H Q E h => ?_) (fun cdv A outer s H vs Q E hr h => ?_)
  · obtain ⟨b, W, S, part, n, wd, N, m, xs, rfl, _⟩ := h
    rfl
  · obtain ⟨b, W, S, part, n, wd, N, m, xs, rfl, hb, n9, ok, nb, hN, dW, nS, hS, l1, lm, m1, m15, wx, k⟩ := h
    have hu := hr.units
    have hu0 : (A.deeper (envOfC "_law_thing_otherwise" (defScope s_law_thing_otherwise) s.heap.objs.size f cdv)).units < cLine := by omega
    refine ⟨_, pss_cons (ps_set (i := 4) sc_law_thing_otherwise.nd rfl (Or.inl rfl) (pe_call Glaw_take (hr.mono (by decide)) (by rfl) Nlaw_take.g Nlaw_take.kp Nlaw_take.b .nil pass0 (pa_cons (pv 0) (pa_cons (pe_callB call_len_seq (by rfl) T.len_ PySem.boot_len (pa_cons (pv 3) pa_nil)) pa_nil))))
      (pss_cons (ps_set (i := 5) sc_law_thing_otherwise.nd rfl (Or.inl rfl) (pe_call Glaw_take (hr.mono (by decide)) (by rfl) Nlaw_take.g Nlaw_take.kp Nlaw_take.b .nil pass0 (pa_cons (pv 0) (pa_cons pe_int pa_nil))))
      (pss_cons (ps_set (i := 6) sc_law_thing_otherwise.nd rfl (Or.inl rfl) (pe_ix ix_list (pv 3) (pv 4) (fun _ _ => rfl)))
      (pss_cons (ps_if (PW.pt (pw_or (pt_not (pt_val (pe_callB call_isi (by rfl) T.isinstance_ (by decide +kernel) (pa_cons (pv 6) (pa_cons (pe_bltn (v := .ty "tuple") (by rfl) T.tuple_ (by decide +kernel) rfl) pa_nil))))) (pw_or1 (pt_cmpR (op_eqT0 hu0) (pv 6) (pe_tup pa_nil) (nomark _))))) (pss_one (ps_ret (pe_op op_cat (pe_slice sl_list (pv 3) po_none (po_some (pv 4))) (pe_slice sl_list (pv 3) (po_some (pe_op op_add (pv 4) pe_int)) po_none)))) pss_nil)
      (pss_cons (ps_if (pt_cmpR op_eq (pv 5) pe_int (nomark _)) (pss_cons (ps_set (i := 7) sc_law_thing_otherwise.nd rfl (Or.inl rfl) (pe_lst (pa_cons (pe_callTy call_list_of (by rfl) T.list_ (by decide +kernel) (pa_cons (pv 6) pa_nil)) (pa_cons (pe_op op_catA (pv 6) (pe_tup (pa_cons pe_int pa_nil))) (pa_cons (pe_slice sl_tup (pv 6) po_none (po_some (pe_un un_neg pe_int))) (pa_cons (pe_call Glaw_odd (hr.mono (by decide)) (by rfl) Nlaw_odd.g Nlaw_odd.kp Nlaw_odd.b .nil pass0 (pa_cons (pv 0) (pa_cons (pv 1) pa_nil))) pa_nil))))))
          (pss_one (ps_ret (pe_op op_cat (pe_op op_cat (pe_slice sl_list (pv 3) po_none (po_some (pv 4))) (pe_lst (pa_cons (pe_ix (ixL (K := K) rfl) (pv 7) (pe_call Glaw_take (hr.mono (by decide)) (by rfl) Nlaw_take.g Nlaw_take.kp Nlaw_take.b .nil pass0 (pa_cons (pv 0) (pa_cons pe_int pa_nil))) (fun _ _ => rfl)) pa_nil))) (pe_slice sl_list (pv 3) (po_some (pe_op op_add (pv 4) pe_int)) po_none))))) pss_nil)
      (pss_cons (ps_if (pt_cmpR op_eq (pv 5) pe_int (nomark _)) (pss_one (ps_ret (pe_op op_cat (pe_op op_cat (pe_slice sl_list (pv 3) po_none (po_some (pv 4))) (pe_lst (pa_cons (pv 6) pa_nil))) (pe_slice sl_list (pv 3) (po_some (pv 4)) po_none)))) pss_nil)
      (pss_cons (ps_if (pt_cmpR op_eq (pv 5) pe_int (nomark _)) (pss_one (ps_ret (pe_op op_cat (pe_slice sl_list (pv 3) po_none (po_some (pv 4))) (pe_slice sl_list (pv 3) (po_some (pe_op op_add (pv 4) pe_int)) po_none)))) pss_nil)
      (pss_one (ps_ret (pe_op op_cat (pe_op op_cat (pe_slice sl_list (pv 3) po_none (po_some (pv 4))) (pe_lst (pa_cons (pe_call Glaw_part_otherwise (hr.mono (by decide)) (by rfl) Nlaw_part_otherwise.g Nlaw_part_otherwise.kp Nlaw_part_otherwise.b .nil pass0 (pa_cons (pv 0) (pa_cons (pv 1) (pa_cons (pv 2) (pa_cons (pv 6) pa_nil))))) pa_nil))) (pe_slice sl_list (pv 3) (po_some (pe_op op_add (pv 4) pe_int)) po_none)))))))))), ?_⟩
    have nSb : S ≠ b := fun e => nb (e ▸ nS)
    refine ⟨_, rfl, _, rfl, S, xs, rfl, .inl (SqL.of hS), b, xs.length, n, rfl, hb, by omega, by omega, dec9000 (by omega) (by omega), fun at_ Ha a0 a1 off0 bx0 => ?_⟩
    obtain ⟨j, rfl⟩ := Int.eq_ofNat_of_zero_le a0
    have hj : j < xs.length := by omega
    refine ⟨_, rfl, b, 5, n + 1, rfl, bx0, by omega, by decide, by decide, fun wy Hb w0 w1 off1 bx1 => ?_⟩
    have k1 : KB b H Hb := (KB.off off0).trans (KB.off off1)
    have hS1 := k1 _ _ nSb hS
    refine ⟨_, rfl, _, rfl, S, xs, (j : Int), xs[j], rfl, rfl, SqL.of hS1, atI_nat (List.getElem?_eq_getElem hj), ?_⟩
    have wt1 := (wx _ (List.getElem_mem hj)).keep (Kw.kb nb hb k1)
    have fin : ∀ p H' ys, KB b Hb H' → Bx b (n + 40) H' → H p = none → H' p = some (.lst ys) → ys.length ≤ m + 1 → (∀ y ∈ ys, y ∈ xs ∨ Wf N H' (m + 1) 2 y) → Q (.ref p) H' := fun p H' ys kb bx hp e l h => by
      refine k _ _ (k1.trans kb) bx (.lst p ys 2 e (hN p hp) l fun y hy => ?_)
      rcases h y hy with q | q
      · exact ((wx y q).keep (Kw.kb nb hb (k1.trans kb))).mono (by omega) (Nat.le_refl _)
      · exact q
    have new : ∀ {p Hc}, KB b H Hc → Bx b (n + 40) Hc → Hc p = none → H p = none := fun {p Hc} kb bx hp => by
      cases q : H p with
      | none => rfl
      | some o =>
        by_cases e : p = b
        · subst e
          obtain ⟨_, _, _, z, _⟩ := bx
          rw [z] at hp
          cases hp
        · rw [kb _ _ e q] at hp
          cases hp
    have drp : ∀ {σ : L2.St} {Hc : Hp}, σ[3]? = some (some (.ref S)) → σ[4]? = some (some (.int (j : Nat))) → Same Hb Hc →
        tOp rCat (tSl (rSlL K) (tVar 3) tNoPart (tPart (tVar 4))) (tSl (rSlL K) (tVar 3) (tPart (tOp (rI0 fun i j => V.int (i + j)) (tVar 4) (tC (V.int 1)))) tNoPart) σ Hc Q := fun h3 h4 sc =>
      drop_ret h3 h4 (sc _ _ hS1) hj (by omega) fun p H' ys hp s e l h => fin p H' ys (kb_same (sc.trans s)) ((bx_same bx1 (sc.trans s)).mono (by omega)) (new (k1.trans (kb_same sc)) ((bx_same bx1 sc).mono (by omega)) hp) e (by omega) fun y hy => .inl (h y hy)
    generalize xs[j] = x at wt1
    refine ⟨_, rfl, rIsi_tup wt1.th ?_⟩
    cases ht : tupOf Hb x with
    | none => exact ⟨_, rfl, iteT (drp rfl rfl (Same.refl _))⟩
    | some ys =>
      obtain ⟨t, rfl, ht'⟩ := tup_some ht
      refine ⟨_, rfl, iteF ?_⟩
      refine ⟨_, rfl, Nat.zero_le _, fun p0 hp0 => ⟨t, p0, ys, rfl, rfl, SqT.of (same_alloc hp0 _ _ ht'), SqT.of upd_same, _, rfl, ?_⟩⟩
      have s2 := same_alloc (o := .tup []) hp0
      generalize upd Hb p0 (.tup []) = Hc at s2 ⊢
      cases ys with
      | nil => exact iteT (drp rfl rfl s2)
      | cons y0 yr =>
        refine iteF ?_
        have kc := k1.trans (kb_same (b := b) s2)
        have bxc := bx_same bx1 s2
        have hSc := s2 _ _ hS1
        have htc := s2 _ _ ht'
        have wtc := wt1.keep (Kw.same s2)
        have lys : (y0 :: yr).length ≤ m := by
          cases wtc with
          | lst a zs k e n l h => rw [htc] at e; cases e
          | tup a zs k e l h => rw [htc] at e; cases e; exact l
          | dic a e k => rw [htc] at e; cases e
        have wk : ∀ y ∈ y0 :: yr, Wf N Hc m 1 y := wtc.kid (seq_tup htc)
        generalize hys : (y0 :: yr) = ys at lys wk htc
        have ly1 : 1 ≤ ys.length := by rw [← hys]; simp
        clear ht hys wt1 drp
        refine ⟨_, rfl, rfl, _, rfl, ite2 (fun _ => ?_) (fun _ => ?_)⟩
        · refine ⟨_, rfl, t, ys, rfl, .inr (SqT.of htc), fun l1 hl1 => ?_⟩
          have n1 : H l1 = none := new kc (bxc.mono (by omega)) hl1
          have s3 := same_alloc (o := .lst ys) hl1
          have e1 : upd Hc l1 (.lst ys) l1 = some (.lst ys) := upd_same
          generalize upd Hc l1 (.lst ys) = Hd at s3 e1 ⊢
          refine ⟨_, rfl, (by show 1 ≤ sizeLine; decide), fun p1 hp1 => ?_⟩
          have s4 := s3.trans (same_alloc (o := .tup [.int 0]) hp1)
          refine catA (s4 _ _ htc) upd_same (by rw [List.length_singleton]; omega) fun p2 He s5 e2 => ?_
          replace e1 := s5 _ _ (same_alloc hp1 _ _ e1)
          have s6 := s4.trans s5
          have hneg : ¬ (HT.sIx ys.length 0 none = 0 ∧ HT.sIx ys.length ys.length (some (-1)) = ys.length) := by
            have e : HT.sIx ys.length ys.length (some (-1)) = ((-1 : Int) + (ys.length : Int)).toNat := rfl
            rw [e]
            omega
          refine ⟨_, rfl, _, rfl, _, rfl, t, ys, rfl, SqT.of (s6 _ _ htc), hneg, fun p3 hp3 => ?_⟩
          have s7 := same_alloc (o := .tup (cutV ys none (some (-1)))) hp3
          have e3 : upd He p3 (.tup (cutV ys none (some (-1)))) p3 = some (.tup (cutV ys none (some (-1)))) := upd_same
          replace e1 := s7 _ _ e1
          replace e2 := s7 _ _ e2
          have s8 := s6.trans s7
          generalize upd He p3 (.tup (cutV ys none (some (-1)))) = Hf at s7 e1 e2 e3 s8 ⊢
          have kf := kc.trans (kb_same (b := b) s8)
          have bxf := bx_same bxc s8
          have l3 := cutV_length ys none (some (-1))
          have wks : ∀ y ∈ ys, Wf N Hf (m + 1) 1 y := fun y hy => ((wk y hy).keep (Kw.same s8)).mono (by omega) (Nat.le_refl _)
          have w1 : Wf N Hf (m + 1) 2 (.ref l1) := .lst l1 ys 1 e1 (hN _ n1) (by omega) wks
          have w2 : Wf N Hf (m + 1) 2 (.ref p2) := .tup p2 _ 1 e2 (by rw [List.length_append, List.length_singleton]; omega) fun y hy => by
            rcases List.mem_append.mp hy with q | q
            · exact wks y q
            · rw [List.mem_singleton.mp q]
              exact .int _ (by decide) _
          have w3 : Wf N Hf (m + 1) 2 (.ref p3) := .tup p3 _ 1 e3 (by omega) fun y hy => wks y (List.mem_of_mem_drop (List.mem_of_mem_take hy))
          clear s3 s4 s5 s6 s7 e1 e2 e3 hp1 hp3 hl1
          refine ⟨_, rfl, _, rfl, b, W, _, wd, N, rfl, bxf, by omega, ok, nb, hN_kb hN kf bxf, dp_nt kf.nt dW, fun v4 Hg kbg bxg w4 => ?_⟩
          have kg := kf.trans kbg
          refine ⟨(by show 4 ≤ sizeLine; decide), fun L hL => ?_⟩
          have nLb := bxg.fresh hL
          have sL := same_alloc (o := .lst [.ref l1, .ref p2, .ref p3, v4]) hL
          have eL : upd Hg L (.lst [.ref l1, .ref p2, .ref p3, v4]) L = some (.lst [.ref l1, .ref p2, .ref p3, v4]) := upd_same
          have wall : ∀ v ∈ [.ref l1, .ref p2, .ref p3, v4], Wf N (upd Hg L (.lst [.ref l1, .ref p2, .ref p3, v4])) (m + 1) 2 v := fun v hv => by
            simp only [List.mem_cons, List.not_mem_nil, or_false] at hv
            rcases hv with rfl | rfl | rfl | rfl
            · exact (w1.keep (Kw.kb nb bxf kbg)).keep (Kw.same sL)
            · exact (w2.keep (Kw.kb nb bxf kbg)).keep (Kw.same sL)
            · exact (w3.keep (Kw.kb nb bxf kbg)).keep (Kw.same sL)
            · exact (w4.mono (by omega) (by omega)).keep (Kw.same sL)
          have kh := kg.trans (kb_same (b := b) sL)
          have bxh := bx_same bxg sL
          have hSh : upd Hg L (.lst [.ref l1, .ref p2, .ref p3, v4]) S = some (.lst xs) := kh _ _ nSb hS
          have kbh : KB b Hb (upd Hg L (.lst [.ref l1, .ref p2, .ref p3, v4])) := (((kb_same (b := b) s2).trans (kb_same (b := b) s8)).trans kbg).trans (kb_same (b := b) sL)
          generalize upd Hg L (.lst [.ref l1, .ref p2, .ref p3, v4]) = Hh at eL wall kh bxh hSh kbh ⊢
          refine ⟨_, rfl, _, rfl, _, rfl, S, xs, rfl, SqL.of hSh, fun q1 hq1 => ?_⟩
          have sq := same_alloc (o := .lst (cutV xs none (some (j : Int)))) hq1
          have nq : q1 ≠ b := bxh.fresh hq1
          refine ⟨_, rfl, pick (m := 4) rfl (bx_same bxh sq) (by omega) (by decide) (by decide) rfl (sq _ _ eL) nLb fun v Hv hv kbv bxv => ⟨(by show 1 ≤ sizeLine; decide), fun q2 hq2 => ?_⟩⟩
          have s2' := same_alloc (o := .lst [v]) hq2
          have kz := ((kbh.trans (kb_same (b := b) sq)).trans kbv).trans (kb_same (b := b) s2')
          refine mid_ret rfl rfl (s2' _ _ (kbv _ _ nSb (sq _ _ hSh))) hj (by omega) (s2' _ _ (kbv _ _ nq upd_same)) upd_same fun p H' zs hp s e l h => ?_
          refine fin p H' zs (kz.trans (kb_same s)) ((bx_same (bx_same bxv s2') s).mono (by omega)) (new (k1.trans kz) ((bx_same bxv s2').mono (by omega)) hp) e (by omega) fun y hy => (h y hy).imp id fun q => ?_
          rw [q]
          exact ((((wall v hv).keep (Kw.same sq)).keep (Kw.kb nb (bx_same bxh sq) kbv)).keep (Kw.same s2')).keep (Kw.same s)
        · refine ⟨_, rfl, rfl, _, rfl, ite2 (fun _ => ?_) (fun _ => ?_)⟩
          · refine ⟨_, rfl, _, rfl, _, rfl, S, xs, rfl, SqL.of hSc, fun q1 hq1 => ?_⟩
            have sq := same_alloc (o := .lst (cutV xs none (some (j : Int)))) hq1
            refine ⟨_, rfl, (by show 1 ≤ sizeLine; decide), fun q2 hq2 => ?_⟩
            have s2' := same_alloc (o := .lst [.ref t]) hq2
            have sz := (s2.trans sq).trans s2'
            refine ins_ret rfl rfl (s2' _ _ (sq _ _ hSc)) hj (by omega) (s2' _ _ upd_same) upd_same fun p H' zs hp s e l h => ?_
            refine fin p H' zs (kb_same (sz.trans s)) ((bx_same bx1 (sz.trans s)).mono (by omega)) (new (k1.trans (kb_same sz)) ((bx_same bx1 sz).mono (by omega)) hp) e (by omega) fun y hy => (h y hy).imp id fun q => ?_
            rw [q]
            exact (wtc.keep (Kw.same ((sq.trans s2').trans s))).mono (by omega) (Nat.le_refl _)
          · refine ⟨_, rfl, rfl, _, rfl, ite2 (fun _ => ?_) (fun _ => ?_)⟩
            · exact drop_ret rfl rfl hSc hj (by omega) fun p H' zs hp s e l h => fin p H' zs (kb_same (s2.trans s)) ((bx_same bx1 (s2.trans s)).mono (by omega)) (new kc (bxc.mono (by omega)) hp) e (by omega) fun y hy => .inl (h y hy)
            · refine ⟨_, rfl, _, rfl, _, rfl, S, xs, rfl, SqL.of hSc, fun q1 hq1 => ?_⟩
              have sq := same_alloc (o := .lst (cutV xs none (some (j : Int)))) hq1
              have nq : q1 ≠ b := bxc.fresh hq1
              have bxq := bx_same bxc sq
              have kq := kc.trans (kb_same (b := b) sq)
              refine ⟨_, rfl, _, rfl, _, rfl, _, rfl, b, W, t, part, _, wd, N, m, ys, rfl, bxq, by omega, ok, nb, hN_kb hN kq bxq, dp_nt kq.nt dW, sq _ _ htc, ly1, by omega, by omega, fun y hy => (wk y hy).keep (Kw.same sq), fun v Hv kbv bxv wv => ⟨(by show 1 ≤ sizeLine; decide), fun q2 hq2 => ?_⟩⟩
              have s2' := same_alloc (o := .lst [v]) hq2
              have kz := (((kb_same (b := b) s2).trans (kb_same (b := b) sq)).trans kbv).trans (kb_same (b := b) s2')
              refine mid_ret rfl rfl (s2' _ _ (kbv _ _ nSb (sq _ _ hSc))) hj (by omega) (s2' _ _ (kbv _ _ nq upd_same)) upd_same fun p H' zs hp s e l h => ?_
              refine fin p H' zs (kz.trans (kb_same s)) ((bx_same (bx_same bxv s2') s).mono (by omega)) (new (k1.trans kz) ((bx_same bxv s2').mono (by omega)) hp) e (by omega) fun y hy => (h y hy).imp id fun q => ?_
              rw [q]
              exact ((wv.keep (Kw.same s2')).keep (Kw.same s)).mono (by omega) (Nat.le_refl _)
end
end K4

set_option maxRecDepth 100000
set_option maxHeartbeats 400000
namespace K4
open PySem PySem.Spec PyProof.Rows L2 GxR Gd TL My
theorem listOfK {X : Cx} {K : PySem.W.Frag} (h : X.K = K) : CallR X (.type "list") (fun xs H Q => ∃ p ys, xs = [.ref p] ∧ (SqL K H p ys ∨ SqT K H p ys) ∧ ∀ l, H l = none → Q (.ref l) (upd H l (.lst ys))) := h ▸ call_list_of
theorem tupOfK {X : Cx} {K : PySem.W.Frag} (h : X.K = K) : CallR X (.type "tuple") (fun xs H Q => ∃ p ys, xs = [.ref p] ∧ ((SqL K H p ys ∧ ∀ l, H l = none → Q (.ref l) (upd H l (.tup ys))) ∨ (SqT K H p ys ∧ Q (.ref p) H))) := h ▸ call_tuple_of
theorem isiK {X : Cx} {K : PySem.W.Frag} (h : X.K = K) : CallR X (.builtin "isinstance") (rIsi K) := h ▸ call_isi
def lstOf (H : Hp) : V → Option (List V)
  | .ref a => match H a with
    | some (.lst xs) => some xs
    | _ => none
  | _ => none
theorem lst_some {H : Hp} {v : V} {xs : List V} (h : lstOf H v = some xs) : ∃ a, v = .ref a ∧ H a = some (.lst xs) := by
  unfold lstOf at h
  split at h
  · split at h
    · rename_i e
      exact ⟨_, rfl, by rw [e, Option.some.inj h]⟩
    · cases h
  · cases h
theorem lst_lst {H : Hp} {a : Addr} {xs : List V} (h : H a = some (.lst xs)) : lstOf H (.ref a) = some xs := by
  show (match H a with | some (.lst xs) => some xs | _ => none) = _
  rw [h]
theorem lst_not {H : Hp} {a : Addr} {o : HO} (h : H a = some o) (m : ∀ xs, o ≠ .lst xs) : lstOf H (.ref a) = none := by
  show (match H a with | some (.lst xs) => some xs | _ => none) = _
  rw [h]
  split
  · rename_i e
    exact absurd (Option.some.inj e) (m _)
  · rfl
theorem rIsi_lst {σ : L2.St} {K : PySem.W.Frag} {H : Hp} {n : V} {Q : VK} (th : Th H n) (k : Q (.bl (lstOf H n).isSome) H) : tCons (tC (V.ty "list")) tNil σ H (fun xs H2 => rIsi K (n :: xs) H2 Q) := by
  show rIsi K [n, .ty "list"] H Q
  cases th with
  | non => exact ⟨_, _, _, _, false, rfl, .ty "list", .base .non, (by rfl), k⟩
  | bl b => exact ⟨_, _, _, _, false, rfl, .ty "list", .base (.bl b), (by rfl), k⟩
  | int i => exact ⟨_, _, _, _, false, rfl, .ty "list", .base (.int i), (by rfl), k⟩
  | str z h g => exact ⟨_, _, _, _, false, rfl, .ty "list", .base (.str z), (by rfl), k⟩
  | dic a h =>
    rw [lst_not h (by simp)] at k
    exact ⟨_, _, _, _, false, rfl, .ty "list", .base (.dK h), (by rfl), k⟩
  | lst a xs h =>
    rw [lst_lst h] at k
    exact ⟨_, _, _, _, true, rfl, .ty "list", .base (.lst h), (by rfl), k⟩
  | tup a xs h =>
    rw [lst_not h (by simp)] at k
    exact ⟨_, _, _, _, false, rfl, .ty "list", .base (.tup h), (by rfl), k⟩
theorem Wf.imp {N M : Addr → Prop} {H : Hp} {m : Nat} (hi : ∀ a, N a → M a) : ∀ {k : Nat} {v : V}, Wf N H m k v → Wf M H m k v
  | _, _, .non k => .non k
  | _, _, .bl b k => .bl b k
  | _, _, .int i h k => .int i h k
  | _, _, .str z g l k => .str z g l k
  | _, _, .dic a e k => .dic a e k
  | _, _, .lst a xs k e n l h => .lst a xs k e (hi a n) l fun x hx => (h x hx).imp hi
  | _, _, .tup a xs k e l h => .tup a xs k e l fun x hx => (h x hx).imp hi
theorem Wf.off {N : Addr → Prop} {H : Hp} {m : Nat} {D : Addr} (hD : H D = none) : ∀ {k : Nat} {v : V}, Wf N H m k v → Wf (fun a => N a ∧ a ≠ D) H m k v
  | _, _, .non k => .non k
  | _, _, .bl b k => .bl b k
  | _, _, .int i h k => .int i h k
  | _, _, .str z g l k => .str z g l k
  | _, _, .dic a e k => .dic a e k
  | _, _, .lst a xs k e n l h => .lst a xs k e ⟨n, ne_of_none e hD⟩ l fun x hx => (h x hx).off hD
  | _, _, .tup a xs k e l h => .tup a xs k e l fun x hx => (h x hx).off hD
theorem Kw.upd {N : Addr → Prop} {H : Hp} {D : Addr} {zs ws : List V} (h : H D = some (.lst zs)) (n : ¬ N D) : Kw N H (upd H D (.lst ws)) :=
  ⟨fun c xs m e => by rw [upd_ne (fun z => n (by rw [← z]; exact m))]; exact e, fun c xs e => by rw [upd_ne (ne_of e h (by simp))]; exact e, fun c xs e => by rw [upd_ne (ne_of e h (by simp))]; exact e⟩
theorem Wf.isL {N : Addr → Prop} {H : Hp} {m k : Nat} {v : V} (h : Wf N H m (k + 1) v) {xs : List V} (e : lstOf H v = some xs) : ∃ a, v = .ref a ∧ H a = some (.lst xs) ∧ N a ∧ xs.length ≤ m ∧ ∀ x ∈ xs, Wf N H m k x := by
  obtain ⟨a, rfl, ha⟩ := lst_some e
  cases h with
  | dic a q k => rw [ha] at q; cases q
  | lst a ys k q n l h => rw [ha] at q; cases q; exact ⟨a, rfl, ha, n, l, h⟩
  | tup a ys k q l h => rw [ha] at q; cases q
theorem wf_dP {N : Addr → Prop} {H : Hp} {b : Addr} {v : V} {p : Str × Int} (h : Dr (hide b H) v (dP p)) (g : Good p.1) (l : p.1.length ≤ 50) (i : p.2.natAbs < 10 ^ 31) : Wf N H 6 2 v := by
  unfold dP at h
  cases h with
  | tup e t =>
    refine .tup _ _ 1 (hide_some e).2 (by rw [drAll_len t]; exact Nat.le_of_ble_eq_true rfl) fun x hx => ?_
    obtain ⟨d, hd, hx⟩ := drAll_mem t x hx
    simp only [List.mem_cons, List.not_mem_nil, or_false] at hd
    rcases hd with rfl | rfl
    · cases hx
      exact .str _ g l _
    · cases hx
      exact .int _ i _
theorem wf_dL {N : Addr → Prop} {H : Hp} {b : Addr} {v : V} {p : Int × Int × Int} (h : Dr (hide b H) v (dL p)) (i1 : p.1.natAbs < 10 ^ 31) (i2 : p.2.1.natAbs < 10 ^ 31) (i3 : p.2.2.natAbs < 10 ^ 31) : Wf N H 6 2 v := by
  unfold dL at h
  cases h with
  | tup e t =>
    refine .tup _ _ 1 (hide_some e).2 (by rw [drAll_len t]; exact Nat.le_of_ble_eq_true rfl) fun x hx => ?_
    obtain ⟨d, hd, hx⟩ := drAll_mem t x hx
    simp only [List.mem_cons, List.not_mem_nil, or_false] at hd
    rcases hd with rfl | rfl | rfl
    · cases hx
      exact .int _ i1 _
    · cases hx
      exact .int _ i2 _
    · cases hx
      exact .int _ i3 _
theorem longs_small {top : Int} (ht : top ≤ 10) : ∀ {low : Int} {lo : List (Int × Int × Int)}, 0 ≤ low → longsOk top low lo → ∀ p ∈ lo, p.1.natAbs < 10 ^ 31 ∧ p.2.1.natAbs < 10 ^ 31 ∧ p.2.2.natAbs < 10 ^ 31
  | _, [], _, _, p, hp => by cases hp
  | low, (f, l, h) :: r, h0, ⟨a, b, c, d, e, q⟩, p, hp => by
    rcases List.mem_cons.mp hp with rfl | hp
    · exact ⟨by show f.natAbs < _; omega, by show l.natAbs < _; omega, by show h.natAbs < _; omega⟩
    · exact longs_small ht (by omega) q p hp
/-- the parts of what is drawn -/
theorem wd_parts {N : Addr → Prop} {H : Hp} {b W : Addr} {wd : Wd} (ok : wd.Ok) (h : Dr (hide b H) (.ref W) wd.data) : ∃ a0 a1 a2 xs0 xs1 xs2, W ≠ b ∧ H W = some (.lst [.ref a0, .ref a1, .ref a2, .str wd.sp]) ∧ a0 ≠ b ∧ H a0 = some (.lst xs0) ∧ H a1 = some (.lst xs1) ∧ H a2 = some (.lst xs2) ∧
    1 ≤ xs0.length ∧ xs0.length ≤ 6 ∧ xs1.length ≤ 6 ∧ xs2.length ≤ 6 ∧ (∀ x ∈ xs0, Wf N H 6 2 x) ∧ (∀ x ∈ xs1, Wf N H 6 2 x) ∧ ∀ x ∈ xs2, Wf N H 6 2 x := by
  unfold Wd.data at h
  cases h with
  | lst e t =>
    cases t with
    | cons h0 t =>
      cases t with
      | cons h1 t =>
        cases t with
        | cons h2 t =>
          cases t with
          | cons h3 t =>
            cases t
            cases h3
            cases h0 with
            | lst e0 t0 =>
              cases h1 with
              | lst e1 t1 =>
                cases h2 with
                | lst e2 t2 =>
                  have p2 := ok.p2
                  have p6 := ok.p6
                  have sl := ok.sl
                  have ll := ok.ll
                  have l0 := drAll_len t0
                  have l1 := drAll_len t1
                  have l2 := drAll_len t2
                  rw [List.length_map] at l0 l1 l2
                  refine ⟨_, _, _, _, _, _, (hide_some e).1, (hide_some e).2, (hide_some e0).1, (hide_some e0).2, (hide_some e1).2, (hide_some e2).2, by omega, by omega, by omega, by omega, fun x hx => ?_, fun x hx => ?_, fun x hx => ?_⟩
                  · obtain ⟨d, hd, q⟩ := drAll_mem t0 x hx
                    obtain ⟨p, hp, rfl⟩ := List.mem_map.mp hd
                    obtain ⟨n1, n2, n3⟩ := ok.nm p hp
                    exact wf_dP q n1.good (by have := n1.2.1; omega) (by omega)
                  · obtain ⟨d, hd, q⟩ := drAll_mem t1 x hx
                    obtain ⟨p, hp, rfl⟩ := List.mem_map.mp hd
                    obtain ⟨n1, n2, n3⟩ := ok.st p hp
                    refine wf_dP q ?_ ?_ (by omega)
                    · rcases n1 with e | e <;> rw [e] <;> exact good_of _
                    · rcases n1 with e | e <;> rw [e] <;> decide +kernel
                  · obtain ⟨d, hd, q⟩ := drAll_mem t2 x hx
                    obtain ⟨p, hp, rfl⟩ := List.mem_map.mp hd
                    obtain ⟨n1, n2, n3⟩ := longs_small (by omega) (Int.le_refl 0) ok.lo p hp
                    exact wf_dL q n1 n2 n3
section
variable {P : Program} {w : World} {K : PySem.W.Frag} {mg : Str → Option Value} {base : Heap} {f1 f2 f3 f4 : Addr} {fd1 fd2 fd3 fd4 : FuncData}
abbrev s_law_spoilt : Stmt := top 40
theorem sc_law_spoilt : FnScope ["_law_box_here", "_law_world_here", "_law_some", "_law_turn", "_law_last", "_law_part"] ["_law_box_here", "_law_world_here"] (defScope s_law_spoilt) := ⟨rfl, rfl, rfl, by decide +kernel, rfl, by decide +kernel, by decide +kernel⟩
def spSpoilt (K : PySem.W.Frag) : Sp := fun vs H Q _ => ∃ (b W : Addr) (n : Int) (wd : Wd) (N : Addr → Prop), vs = [.ref b, .ref W] ∧ Bx b n H ∧ n ≤ 50000 ∧ wd.Ok ∧ ¬ N b ∧ (∀ a, H a = none → N a) ∧ Dr (hide b H) (.ref W) wd.data ∧
  ∀ L v1 v2 v3 H', KB b H H' → Bx b (n + 300) H' → H L = none → H' L = some (.lst [v1, v2, v3]) → Wf N H' 9 3 v1 → Wf N H' 9 3 v2 → Wf N H' 9 3 v3 → Q (.ref L) H'
theorem ok_spoilt {f : Addr} {fd : FuncData} (F : Fun K "_law_spoilt" "_law_spoilt" s_law_spoilt f fd) (T : Txt mg)
    (Nlaw_take : Fn K mg "_law_take" sTake ["_law_box_here", "_law_many"] f1 fd1) (Glaw_take : FnOk P w K mg base CX0 1 f1 fd1 ["_law_box_here", "_law_many"] spTake)
    (Nlaw_odd : Fn K mg "_law_odd" s_law_odd ["_law_box_here", "_law_world_here"] f2 fd2) (Glaw_odd : FnOk P w K mg base CX0 2 f2 fd2 ["_law_box_here", "_law_world_here"] (spOdd K))
    (Nlaw_thing_otherwise : Fn K mg "_law_thing_otherwise" s_law_thing_otherwise ["_law_box_here", "_law_world_here", "_law_part", "_law_some"] f3 fd3) (Glaw_thing_otherwise : FnOk P w K mg base CX0 4 f3 fd3 ["_law_box_here", "_law_world_here", "_law_part", "_law_some"] (spThing K))
    (Nlaw_number : Fn K mg "_law_number" s_law_number ["_law_box_here"] f4 fd4) (Glaw_number : FnOk P w K mg base CX0 2 f4 fd4 ["_law_box_here"] spNumber) :
    FnOk P w K mg base CX0 5 f fd ["_law_box_here", "_law_world_here"] (spSpoilt K) := by
  refine F.ok sc_law_spoilt (fun vs H Q E h => ?_) (fun cdv A outer s H vs Q E hr h => ?_)
  · obtain ⟨b, W, n, wd, N, rfl, _⟩ := h
    rfl
  · obtain ⟨b, W, n, wd, N, rfl, hb, n9, ok, nb, hN, dW, k⟩ := h
    have hu := hr.units
    have hu0 : (A.deeper (envOfC "_law_spoilt" (defScope s_law_spoilt) s.heap.objs.size f cdv)).units < cLine := by omega
    refine ⟨_, pss_cons (ps_setLc (i := 2) (own := [("_law_part", 5)]) (g := gName 5) (tt := tYes) rfl sc_law_spoilt.nd rfl rfl (sw_true rfl rfl rfl (by decide +kernel)) (pi_list (pe_slice sl_list (pv 1) po_none (po_some pe_int))) (blkOk_by (own := [("_law_part", 5)]) (N := ["_law_box_here", "_law_world_here", "_law_some", "_law_turn", "_law_last", "_law_part"]) (sc := defScope s_law_spoilt) (by decide +kernel)) (fun _ _ _ _ _ => (pg_name (i := 5) sc_law_spoilt.nd rfl (Or.inl rfl))) (fun _ _ _ _ _ => pts_nil) (fun _ _ _ _ _ => (pe_callTy (listOfK (K := K) rfl) (by rfl) T.list_ (by decide +kernel) (pa_cons (pv 5) pa_nil))))
      (pss_cons (ps_for PassesOwn.never rfl (pi_range1 (by rfl) T.range_ (pa_cons (pe_call Glaw_take (hr.mono (by decide)) (by rfl) Nlaw_take.g Nlaw_take.kp Nlaw_take.b .nil pass0 (pa_cons (pv 0) (pa_cons pe_int pa_nil))) pa_nil)) (pg_name (i := 3) sc_law_spoilt.nd rfl (Or.inl rfl)) (pss_cons (ps_set (i := 5) sc_law_spoilt.nd rfl (Or.inl rfl) (pe_call Glaw_take (hr.mono (by decide)) (by rfl) Nlaw_take.g Nlaw_take.kp Nlaw_take.b .nil pass0 (pa_cons (pv 0) (pa_cons pe_int pa_nil))))
          (pss_one (ps_if (pt_cmpR op_eq (pe_call Glaw_take (hr.mono (by decide)) (by rfl) Nlaw_take.g Nlaw_take.kp Nlaw_take.b .nil pass0 (pa_cons (pv 0) (pa_cons pe_int pa_nil))) pe_int (nomark _)) (pss_one (ps_asg (pe_call Glaw_odd (hr.mono (by decide)) (by rfl) Nlaw_odd.g Nlaw_odd.kp Nlaw_odd.b .nil pass0 (pa_cons (pv 0) (pa_cons (pv 1) pa_nil))) (pg_sub (pv 2) (pv 5) set_list))) (pss_one (ps_if (PW.pt (pw_and (pt_val (pe_callB call_isi (by rfl) T.isinstance_ (by decide +kernel) (pa_cons (pe_ix (ixL (K := K) rfl) (pv 2) (pv 5) (fun _ _ => rfl)) (pa_cons (pe_bltn (v := .ty "list") (by rfl) T.list_ (by decide +kernel) rfl) pa_nil)))) (pw_and1 (pt_cmpR (op_neL0 hu0) (pe_ix (ixL (K := K) rfl) (pv 2) (pv 5) (fun _ _ => rfl)) (pe_lst pa_nil) (nomark _))))) (pss_one (ps_asg (pe_call Glaw_thing_otherwise (hr.mono (by decide)) (by rfl) Nlaw_thing_otherwise.g Nlaw_thing_otherwise.kp Nlaw_thing_otherwise.b .nil pass0 (pa_cons (pv 0) (pa_cons (pv 1) (pa_cons (pv 5) (pa_cons (pe_ix (ixL (K := K) rfl) (pv 2) (pv 5) (fun _ _ => rfl)) pa_nil))))) (pg_sub (pv 2) (pv 5) set_list))) (pss_one (ps_if (pt_val (pe_callB call_isi (by rfl) T.isinstance_ (by decide +kernel) (pa_cons (pe_ix (ixL (K := K) rfl) (pv 2) (pv 5) (fun _ _ => rfl)) (pa_cons (pe_bltn (v := .ty "list") (by rfl) T.list_ (by decide +kernel) rfl) pa_nil)))) (pss_cons (ps_set (i := 4) sc_law_spoilt.nd rfl (Or.inl rfl) (pe_op op_sub (pe_callB call_len_seq (by rfl) T.len_ PySem.boot_len (pa_cons (pe_ix (ixL (K := K) rfl) (pv 1) pe_int (fun _ _ => rfl)) pa_nil)) pe_int))
                      (pss_one (ps_asg (pe_lst (pa_cons (pe_tup (pa_cons (pe_call Glaw_number (hr.mono (by decide)) (by rfl) Nlaw_number.g Nlaw_number.kp Nlaw_number.b .nil pass0 (pa_cons (pv 0) pa_nil)) (pa_cons (pv 4) (pa_cons pe_int pa_nil)))) pa_nil)) (pg_sub (pv 2) (pv 5) set_list)))) pss_nil))))))))
      (pss_one (ps_ret (pe_lc (own := [("_law_part", 5)]) (g := gName 5) (tt := tYes) rfl sc_law_spoilt.nd (pi_list (pv 2)) (blkOk_by (own := [("_law_part", 5)]) (N := ["_law_box_here", "_law_world_here", "_law_some", "_law_turn", "_law_last", "_law_part"]) (sc := defScope s_law_spoilt) (by decide +kernel)) (fun _ _ _ _ _ => (pg_name (i := 5) sc_law_spoilt.nd rfl (Or.inl rfl))) (fun _ _ _ _ _ => pts_nil) (fun _ _ _ _ _ => (pe_ifExp (PW.pt (pw_and (pt_val (pe_callB (isiK (K := K) rfl) (by rfl) T.isinstance_ (by decide +kernel) (pa_cons (pv 5) (pa_cons (pe_bltn (v := .ty "list") (by rfl) T.list_ (by decide +kernel) rfl) pa_nil)))) (pw_and1 (pt_cmpR op_eq (pe_call Glaw_take (hr.mono (by decide)) (by rfl) Nlaw_take.g Nlaw_take.kp Nlaw_take.b .nil pass0 (pa_cons (pv 0) (pa_cons pe_int pa_nil))) pe_int (nomark _))))) (pe_callTy (tupOfK (K := K) rfl) (by rfl) T.tuple_ (by decide +kernel) (pa_cons (pv 5) pa_nil)) (pv 5))))))), ?_⟩
    obtain ⟨a0, a1, a2, xs0, xs1, xs2, nWb, hW, na0, h0, h1, h2, l01, l0, l1, l2, w0, w1, w2⟩ := wd_parts (N := fun _ => False) ok dW
    have dWp := dW.dp (K := K)
    refine ⟨_, rfl, _, rfl, W, _, rfl, SqL.of hW, fun p0 hp0 => ?_⟩
    have sp := same_alloc (o := .lst (cutV [.ref a0, .ref a1, .ref a2, .str wd.sp] none (some 3))) hp0
    have e0 : upd H p0 (.lst (cutV [.ref a0, .ref a1, .ref a2, .str wd.sp] none (some 3))) p0 = some (.lst [.ref a0, .ref a1, .ref a2]) := upd_same
    generalize upd H p0 (.lst (cutV [.ref a0, .ref a1, .ref a2, .str wd.sp] none (some 3))) = Ha at sp e0 ⊢
    refine ⟨p0, rfl, ⟨_, SqL.of e0⟩, fun L hL => ?_⟩
    have nL : H L = none := sp.free hL
    have nLb : L ≠ b := (bx_same hb sp).fresh hL
    obtain ⟨M, hM⟩ : ∃ M : Addr → Prop, M = fun a => N a ∧ a ≠ L := ⟨_, rfl⟩
    have nMb : ¬ M b := fun h => nb (by rw [hM] at h; exact h.1)
    have nML : ¬ M L := fun h => by rw [hM] at h; exact h.2 rfl
    have MN : ∀ a, M a → N a := fun a h => by rw [hM] at h; exact h.1
    have newM : ∀ {Hc : Hp} {o : HO}, KB b H Hc → Bx b (n + 300) Hc → Hc L = some o → ∀ a, Hc a = none → M a := fun kb bx e a ha => by
      rw [hM]
      exact ⟨hN_kb hN kb bx a ha, (ne_of_none e ha).symm⟩
    refine lc_it (walk_list (K := K) (xs := [.ref a0, .ref a1, .ref a2])) (fun i H' => Same Ha H' ∧ ∃ vs, H' L = some (.lst vs) ∧ vs.length = i ∧ ∀ v ∈ vs, Wf M H' 6 3 v) ?_ ?_ ?_ ?_
    · exact ⟨same_alloc hL, [], upd_same, rfl, fun v hv => by cases hv⟩
    · rintro i H' hi ⟨s, _⟩
      exact SqL.of (s _ _ e0)
    · rintro i x H1 H1' hi ⟨s, vs, e1, lv, wv⟩ ⟨rfl, hx⟩
      have kx : ∃ a xs, x = .ref a ∧ H a = some (.lst xs) ∧ xs.length ≤ 6 ∧ ∀ y ∈ xs, Wf (fun _ => False) H 6 2 y := by
        match i, hx with
        | 0, hx => cases hx; exact ⟨a0, xs0, rfl, h0, l0, w0⟩
        | 1, hx => cases hx; exact ⟨a1, xs1, rfl, h1, l1, w1⟩
        | 2, hx => cases hx; exact ⟨a2, xs2, rfl, h2, l2, w2⟩
        | i + 3, hx => cases hx
      obtain ⟨a, xs, rfl, ha, lx, wx⟩ := kx
      have s1 := sp.trans s
      refine ⟨rfl, lcY ⟨_, rfl, a, xs, rfl, .inl (SqL.of (s1 _ _ ha)), fun l hl => ?_⟩⟩
      have s2 := same_alloc (o := .lst xs) hl
      have nl : M l := newM (kb_same (b := b) s1) ((bx_same hb s1).mono (by omega)) e1 l hl
      have eu : upd H1' l (.lst xs) l = some (.lst xs) := upd_same
      generalize upd H1' l (.lst xs) = H2 at s2 eu ⊢
      refine ⟨vs, s2 _ _ e1, by rw [lv]; exact lt_line i (by have : i < 3 := hi; omega), fun c o h => ?_, vs ++ [.ref l], upd_same, by rw [List.length_append, lv]; rfl, fun v hv => ?_⟩
      · rw [upd_ne (ne_of_none h hL)]
        exact s2 _ _ (s _ _ h)
      · have ku := Kw.upd (ws := vs ++ [.ref l]) (s2 _ _ e1) nML
        rcases List.mem_append.mp hv with q | q
        · exact ((wv v q).keep (Kw.same s2)).keep ku
        · rw [List.mem_singleton.mp q]
          exact Wf.keep ku (.lst l xs 2 eu nl lx fun y hy => ((wx y hy).imp fun _ z => z.elim).keep (Kw.same (s1.trans s2)))
    · rintro Hb ⟨s, vs, e1, lv, wv⟩
      have sb := sp.trans s
      have kb0 : KB b H Hb := kb_same sb
      have bx0 := bx_same hb sb
      clear e0 hp0 sp s hL
      refine ⟨_, rfl, b, 4, n, rfl, bx0, by omega, by decide, by decide, fun tn Hc t0 t4 off1 bx1 => ⟨tn, rfl, by omega, by omega, ?_⟩⟩
      have kb1 := kb0.trans (KB.off off1)
      have e1c := KB.off off1 _ _ nLb e1
      have wvc : ∀ v ∈ vs, Wf M Hc 6 3 v := fun v hv => (wv v hv).keep (Kw.kb nMb bx0 (KB.off off1))
      refine for_it (walk_range (lo := 0) (n := tn.toNat)) (fun i σ H' => ∃ (v3 v4 v5 : Option V) (vs : List V), σ = [some (.ref b), some (.ref W), some (.ref L), v3, v4, v5] ∧ H' L = some (.lst vs) ∧ vs.length = 3 ∧ (∀ v ∈ vs, Wf M H' (6 + i) 3 v) ∧ KB b H H' ∧ Bx b (n + 1 + 60 * i) H') ?_ ?_ ?_ ?_
      · exact ⟨_, _, _, vs, rfl, e1c, lv, wvc, kb1, bx1.mono (by omega)⟩
      · intros; trivial
      · rintro i x σ H1 H1' hi ⟨v3, v4, v5, vs, rfl, eL, lv, wv, kb, bx⟩ ⟨rfl, rfl⟩
        have hi3 : i ≤ 2 := by omega
        refine ⟨_, rfl, b, 3, _, rfl, bx, by omega, by decide, by decide, fun p H2 p0 p3 off2 bx2 => ?_⟩
        obtain ⟨p, rfl⟩ := Int.eq_ofNat_of_zero_le p0
        have hp : p < vs.length := by omega
        have kb2 := kb.trans (KB.off off2)
        have eL2 := KB.off off2 _ _ nLb eL
        have wv2 : ∀ v ∈ vs, Wf M H2 (6 + i) 3 v := fun v hv => (wv v hv).keep (Kw.kb nMb bx (KB.off off2))
        refine ⟨_, rfl, b, 6, _, rfl, bx2, by omega, by decide, by decide, fun d H3 d0 d6 off3 bx3 => ?_⟩
        have kb3 := kb2.trans (KB.off off3)
        have eL3 := KB.off off3 _ _ nLb eL2
        have wv3 : ∀ v ∈ vs, Wf M H3 (6 + i) 3 v := fun v hv => (wv2 v hv).keep (Kw.kb nMb bx2 (KB.off off3))
        have put : ∀ {v' : V} {H' : Hp}, KB b H3 H' → Bx b (n + 1 + 60 * (i : Int) + 2 + 55) H' → Wf M H' (6 + (i + 1)) 3 v' →
            H' L = some (.lst vs) ∧ upd H' L (.lst (vs.set p v')) L = some (.lst (vs.set p v')) ∧ (vs.set p v').length = 3 ∧ (∀ v ∈ vs.set p v', Wf M (upd H' L (.lst (vs.set p v'))) (6 + (i + 1)) 3 v) ∧ KB b H (upd H' L (.lst (vs.set p v'))) ∧ Bx b (n + 1 + 60 * ((i + 1 : Nat) : Int)) (upd H' L (.lst (vs.set p v'))) := fun {v' H'} kb bx w => by
          have e := kb _ _ nLb eL3
          refine ⟨e, upd_same, by rw [List.length_set]; exact lv, fun v hv => Wf.keep (Kw.upd e nML) ?_, fun c o nc h => ?_, (bx.put nLb).mono (by omega)⟩
          · rcases List.mem_or_eq_of_mem_set hv with q | q
            · exact ((wv3 v q).keep (Kw.kb nMb bx3 kb)).mono (by omega) (Nat.le_refl _)
            · rw [q]
              exact w
          · rw [upd_ne (ne_of_none h nL)]
            exact (kb3.trans kb) c o nc h
        have put0 : ∀ {H' : Hp}, Same H3 H' → H' L = some (.lst vs) ∧ (∀ v ∈ vs, Wf M H' (6 + (i + 1)) 3 v) ∧ KB b H H' ∧ Bx b (n + 1 + 60 * ((i + 1 : Nat) : Int)) H' := fun {H'} s =>
          ⟨s _ _ eL3, fun v hv => ((wv3 v hv).keep (Kw.same s)).mono (by omega) (Nat.le_refl _), kb3.trans (kb_same s), (bx_same bx3 s).mono (by omega)⟩
        have newM3 : ∀ {H' : Hp}, KB b H3 H' → Bx b (n + 300) H' → ∀ a, H' a = none → M a := fun kb bx => newM (kb3.trans kb) bx (kb _ _ nLb eL3)
        have ep := List.getElem?_eq_getElem hp
        have wp := wv3 _ (List.getElem_mem hp)
        generalize vs[p] = v at ep wp
        refine ⟨rfl, _, rfl, ite2 (fun _ => ?_) (fun _ => ?_)⟩
        · refine ⟨_, rfl, _, rfl, b, W, _, wd, M, rfl, bx3, by omega, ok, nMb, newM3 (KB.refl _ _) (bx3.mono (by omega)), dp_nt kb3.nt dWp, fun v' H4 kb4 bx4 w4 => ?_⟩
          obtain ⟨q1, q2, q3, q4, q5, q6⟩ := put kb4 (bx4.mono (by omega)) (w4.mono (by omega) (by omega))
          exact ⟨_, rfl, _, rfl, L, vs, (p : Int), p, rfl, rfl, q1, Evl.ixN_nat hp, _, _, _, _, rfl, q2, q3, q4, q5, q6⟩
        · refine ⟨_, rfl, _, rfl, L, vs, (p : Int), v, rfl, rfl, SqL.of eL3, atI_nat ep, rIsi_lst wp.th ?_⟩
          cases hl : lstOf H3 v with
          | none =>
            refine ⟨_, rfl, iteF ⟨_, rfl, _, rfl, L, vs, (p : Int), v, rfl, rfl, SqL.of eL3, atI_nat ep, rIsi_lst wp.th ?_⟩⟩
            rw [hl]
            obtain ⟨q1, q2, q3, q4⟩ := put0 (Same.refl H3)
            exact ⟨_, rfl, iteF ⟨_, _, _, vs, rfl, q1, lv, q2, q3, q4⟩⟩
          | some xs =>
            obtain ⟨a, rfl, ha, nMa, lx, wx⟩ := wp.isL hl
            refine ⟨_, rfl, iteT ⟨_, rfl, _, rfl, L, vs, (p : Int), .ref a, rfl, rfl, SqL.of eL3, atI_nat ep, Nat.zero_le _, fun z hz => ⟨a, z, xs, rfl, rfl, SqL.of (same_alloc hz _ _ ha), SqL.of upd_same, _, rfl, ?_⟩⟩⟩
            have sz := same_alloc (o := .lst []) hz
            generalize upd H3 z (.lst []) = H4 at sz ⊢
            have bx4 := bx_same bx3 sz
            have eL4 := sz _ _ eL3
            have wp4 := wp.keep (Kw.same sz)
            cases xs with
            | nil =>
              refine iteF ⟨_, rfl, _, rfl, L, vs, (p : Int), .ref a, rfl, rfl, SqL.of eL4, atI_nat ep, rIsi_lst wp4.th ?_⟩
              rw [lst_lst (sz _ _ ha)]
              have kb4 := kb3.trans (kb_same (b := b) sz)
              refine ⟨_, rfl, iteT ⟨_, rfl, W, _, 0, _, rfl, rfl, SqL.of (kb4 _ _ nWb hW), rfl, a0, xs0, rfl, .inl (SqL.of (kb4 _ _ na0 h0)), _, _, rfl, rfl, ?_⟩⟩
              refine ⟨_, rfl, b, _, rfl, bx4, by omega, fun v' H5 kb5 bx5 _ w5 => ⟨_, rfl, (by show 3 ≤ sizeLine; decide), fun t ht => ⟨(by show 1 ≤ sizeLine; decide), fun q hq => ?_⟩⟩⟩
              have st := same_alloc (o := .tup [v', .int ((xs0.length : Int) - 1), .int 0]) ht
              have et : upd H5 t (.tup [v', .int ((xs0.length : Int) - 1), .int 0]) t = some (.tup [v', .int ((xs0.length : Int) - 1), .int 0]) := upd_same
              generalize upd H5 t (.tup [v', .int ((xs0.length : Int) - 1), .int 0]) = H6 at st et hq ⊢
              have sq := same_alloc (o := .lst [.ref t]) hq
              have kb6 := ((kb_same (b := b) sz).trans kb5).trans (kb_same (b := b) st)
              have bx6 := bx_same bx5 st
              have nMq : M q := newM3 kb6 (bx6.mono (by omega)) q hq
              obtain ⟨q1, q2, q3, q4, q5, q6⟩ := put (v' := .ref q) (kb6.trans (kb_same (b := b) sq)) ((bx_same bx6 sq).mono (by omega)) (.lst q [.ref t] 2 upd_same nMq (by show 1 ≤ _; omega) fun y hy => by
                rw [List.mem_singleton.mp hy]
                refine .tup t _ 1 (sq _ _ et) (by show 3 ≤ _; omega) fun y hy => ?_
                simp only [List.mem_cons, List.not_mem_nil, or_false] at hy
                rcases hy with rfl | rfl | rfl
                · exact (((w5 M).keep (Kw.same st)).keep (Kw.same sq)).mono (by omega) (by omega)
                · exact .int _ (by omega) _
                · exact .int _ (by decide) _)
              exact ⟨_, rfl, _, rfl, L, vs, (p : Int), p, rfl, rfl, q1, Evl.ixN_nat hp, _, _, _, _, rfl, q2, q3, q4, q5, q6⟩
            | cons y0 yr =>
              refine iteT ?_
              have kb4 := kb3.trans (kb_same (b := b) sz)
              refine ⟨_, rfl, _, rfl, _, rfl, _, rfl, _, rfl, L, vs, (p : Int), .ref a, rfl, rfl, SqL.of eL4, atI_nat ep, b, W, a, p, _, wd, M, 6 + i, _, rfl, bx4, by omega, ok, nMb, newM3 (kb_same sz) (bx4.mono (by omega)), dp_nt kb4.nt dWp, nMa, sz _ _ ha, by simp, lx, by omega, by omega, fun y hy => (wx y hy).keep (Kw.same sz), fun v' H5 kb5 bx5 w5 => ?_⟩
              obtain ⟨q1, q2, q3, q4, q5, q6⟩ := put ((kb_same (b := b) sz).trans kb5) (bx5.mono (by omega)) w5
              exact ⟨_, rfl, _, rfl, L, vs, (p : Int), p, rfl, rfl, q1, Evl.ixN_nat hp, _, _, _, _, rfl, q2, q3, q4, q5, q6⟩
      · rintro σ H1 ⟨v3, v4, v5, vs, rfl, eL, lv, wv, kb, bx⟩
        have l3 : tn.toNat ≤ 3 := by omega
        have wv9 : ∀ v ∈ vs, Wf M H1 9 3 v := fun v hv => (wv v hv).mono (by omega) (Nat.le_refl _)
        refine ⟨_, rfl, L, rfl, ⟨_, SqL.of eL⟩, fun D hD => ?_⟩
        have nD : H D = none := by
          cases q : H D with
          | none => rfl
          | some o =>
            by_cases e : D = b
            · subst e
              obtain ⟨_, _, _, z, _⟩ := bx
              rw [z] at hD
              cases hD
            · rw [kb _ _ e q] at hD
              cases hD
        have nDb := bx.fresh hD
        obtain ⟨M', hM'⟩ : ∃ M' : Addr → Prop, M' = fun a => M a ∧ a ≠ D := ⟨_, rfl⟩
        have nMb' : ¬ M' b := fun h => nMb (by rw [hM'] at h; exact h.1)
        have nMD : ¬ M' D := fun h => by rw [hM'] at h; exact h.2 rfl
        have MN' : ∀ a, M' a → N a := fun a h => MN a (by rw [hM'] at h; exact h.1)
        have wv' : ∀ v ∈ vs, Wf M' H1 9 3 v := fun v hv => by rw [hM']; exact (wv9 v hv).off hD
        have nLD : L ≠ D := ne_of_none eL hD
        refine lc_it (walk_list (K := K) (xs := vs)) (fun i H' => ∃ us, H' D = some (.lst us) ∧ us.length = i ∧ (∀ u ∈ us, Wf M' H' 9 3 u) ∧ (∀ v ∈ vs, Wf M' H' 9 3 v) ∧ H' L = some (.lst vs) ∧ KB b H H' ∧ Bx b (n + 250 + i) H') ?_ ?_ ?_ ?_
        · exact ⟨[], upd_same, rfl, (fun u hu => by cases hu), (fun v hv => (wv' v hv).keep (Kw.same (same_alloc hD))), same_alloc hD _ _ eL, kb.trans (KB.alloc hD), (bx.alloc hD).mono (by omega)⟩
        · rintro i H' hi ⟨us, _, _, _, _, e, _⟩
          exact SqL.of e
        · rintro i x H2 H2' hi ⟨us, eD, lu, wu, wv2, eL2, kb2, bx2⟩ ⟨rfl, hx⟩
          have hi3 : i < 3 := by omega
          have wx := wv2 x (List.mem_of_getElem? hx)
          have out : ∀ {u : V} {H' : Hp}, KB b H2' H' → Bx b (n + 250 + (i : Int) + 1) H' → Wf M' H' 9 3 u →
              ∃ acc, H' D = some (.lst acc) ∧ acc.length < sizeLine ∧ ∃ us, (upd H' D (.lst (acc ++ [u]))) D = some (.lst us) ∧ us.length = i + 1 ∧ (∀ u' ∈ us, Wf M' (upd H' D (.lst (acc ++ [u]))) 9 3 u') ∧ (∀ v ∈ vs, Wf M' (upd H' D (.lst (acc ++ [u]))) 9 3 v) ∧ (upd H' D (.lst (acc ++ [u]))) L = some (.lst vs) ∧ KB b H (upd H' D (.lst (acc ++ [u]))) ∧ Bx b (n + 250 + ((i + 1 : Nat) : Int)) (upd H' D (.lst (acc ++ [u]))) := fun {u H'} kb bx w => by
            have eD' := kb _ _ nDb eD
            have ku := Kw.upd (ws := us ++ [u]) eD' nMD
            refine ⟨us, eD', by rw [lu]; exact lt_line i (by omega), us ++ [u], upd_same, by rw [List.length_append, lu]; rfl, fun v hv => ?_, fun v hv => ((wv2 v hv).keep (Kw.kb nMb' bx2 kb)).keep ku, by rw [upd_ne nLD]; exact kb _ _ nLb eL2, fun c o nc h => ?_, (bx.put nDb).mono (by omega)⟩
            · rcases List.mem_append.mp hv with q | q
              · exact ((wu v q).keep (Kw.kb nMb' bx2 kb)).keep ku
              · rw [List.mem_singleton.mp q]
                exact w.keep ku
            · rw [upd_ne (ne_of_none h nD)]
              exact (kb2.trans kb) c o nc h
          refine ⟨rfl, lcY ⟨_, rfl, rIsi_lst wx.th ?_⟩⟩
          cases hl : lstOf H2' x with
          | none => exact ⟨_, rfl, iteF ⟨_, rfl, out (KB.refl _ _) (bx2.mono (by omega)) wx⟩⟩
          | some ys =>
            obtain ⟨a, rfl, ha, nMa, ly, wy⟩ := wx.isL hl
            refine ⟨_, rfl, iteT ⟨_, rfl, b, 2, _, rfl, bx2, by omega, by decide, by decide, fun d H3 d0 d2 off3 bx3 => ⟨rfl, _, rfl, ite2 (fun _ => ?_) (fun _ => ?_)⟩⟩⟩
            · have kb3 := KB.off off3
              have nab : a ≠ b := fun e => nMb' (e ▸ nMa)
              refine ⟨_, rfl, a, ys, rfl, .inl ⟨SqL.of (kb3 _ _ nab ha), fun l hl => ?_⟩⟩
              have sl := same_alloc (o := .tup ys) hl
              exact out (kb3.trans (kb_same sl)) (bx_same bx3 sl) (.tup l ys 2 upd_same ly fun y hy => ((wy y hy).keep (Kw.kb nMb' bx2 kb3)).keep (Kw.same sl))
            · exact ⟨_, rfl, out (KB.off off3) bx3 (wx.keep (Kw.kb nMb' bx2 (KB.off off3)))⟩
        · rintro H2 ⟨us, eD, lu, wu, wv2, eL2, kb2, bx2⟩
          have l3' : us.length = 3 := by rw [lu]; exact lv
          match us, l3' with
          | [u1, u2, u3], _ =>
            exact k D u1 u2 u3 H2 kb2 (bx2.mono (by omega)) nD eD ((wu u1 (by simp)).imp MN') ((wu u2 (by simp)).imp MN') ((wu u3 (by simp)).imp MN')
end
end K4

set_option maxRecDepth 100000
set_option maxHeartbeats 1000000
/-! An object made in a try's body, by an __init__ that may raise. -/
namespace My
open PySem PySem.Spec PyProof.Rows L2 GxR Gd TL
section
variable {X : Cx} {CX : CXT} {k : Nat} {f C : Addr} {fd : FuncData} {ps : List Str} {sp : Sp} {E : L2.St → XK} {x : Str} {p pos : Pos} {e : Expr} {es : List Expr} {t : TA} {dvs : List V} {ds : List Value}
def tMakeS (C : Addr) (sp : Sp) (dvs : List V) (E : L2.St → XK) (t : TA) : TE := fun σ H Q => t σ H fun vs G => ∀ a b, G a = none → G b = none → b ≠ a →
  sp (.ref a :: (vs ++ dvs)) (upd (upd G b (.own a)) a (.ins C b [])) (fun v G' => v = .non ∧ Q (.ref a) G') (E σ)
theorem run_makeS {pins : List (Addr × Obj)} {σ : L2.St} {H : Hp} {s : Shared} {Q : VK} {us : List Value} {vs : List V} (M : Mk X.K C f) (F : FnOk X.prog X.w X.K X.mg X.base CX k f fd ps sp) (hr : Room (k + 1) X.A) (hb : Binds X.K fd ps ds) (hd : Vals dvs ds)
    (hx : PassesAt CX X σ (E σ)) (I : L2.Inv X pins σ H s) (r : Vals vs us)
    (h : ∀ a b, H a = none → H b = none → b ≠ a → sp (.ref a :: (vs ++ dvs)) (upd (upd H b (.own a)) a (.ins C b [])) (fun v G => v = .non ∧ Q (.ref a) G) (E σ)) : wpAny (model X.prog X.w) X.A (call (.ref C) us) (EP X pins σ Q) X.xe s := by
  have n0 := I.hok.fresh (Nat.le_refl s.heap.objs.size)
  have n1 := I.hok.fresh (Nat.le_succ s.heap.objs.size)
  have q := h _ _ n1 n0 (Nat.ne_of_lt (Nat.lt_succ_self _))
  have J := Inv.made (C := C) I
  have rs : Vals (V.ref (s.heap.objs.size + 1) :: (vs ++ dvs)) (Value.ref (s.heap.objs.size + 1) :: (us ++ ds)) := .cons rfl (r.append hd)
  have len : (Value.ref (s.heap.objs.size + 1) :: us ++ ds).length = ps.length := by
    have := F.len _ _ _ _ q
    rw [← this]
    exact rs.length.symm
  apply wpAny_call
  apply make_map (f := f) I.kIn M.makes M.init (beq_iff_eq.mp M.fn)
  have run := F.run _ X.stack _ _ ⟨Value.ref (s.heap.objs.size + 1) :: us, []⟩ (Value.ref (s.heap.objs.size + 1) :: (us ++ ds)) _ _ (E σ) (hr.make C us []) (J.env0.make C us []) (hb _ (Value.ref (s.heap.objs.size + 1) :: us) J.kIn len) rs q
  apply codeAny_mono run
  intro r' s' hq
  match r', hq with
  | .error z, hq => exact hx pins _ _ z s' J hq
  | .ok (.ret u), hq =>
    obtain ⟨v, G, J', rv, ⟨ev, q'⟩⟩ := J.after hq
    subst ev
    exact ⟨rv, V.ref (s.heap.objs.size + 1), G, J', rfl, q'⟩
  | .ok .next, hq => exact hq.elim
  | .ok .brk, hq => exact hq.elim
  | .ok .cont, hq => exact hq.elim
theorem pe_makeS (M : Mk X.K C f) (F : FnOk X.prog X.w X.K X.mg X.base CX k f fd ps sp) (hr : Room (k + 1) X.A) (hg : Gl X x) (hm : X.mg x = some (.ref C)) (hb : Binds X.K fd ps ds) (hd : Vals dvs ds) (hx : ∀ σ, PassesAt CX X σ (E σ))
    (ha : PA X (e :: es) t) (hdb : (x == ("__debug__" : Str)) = false := by decide) (he : starEach (e :: es) X.env = (false, eval e X.env) :: starEach es X.env := by rfl) (hpl : (backTo pos (starEach es X.env)).any (·.1) = false := by rfl) :
    PE X (.Call (.Name x p) (e :: es) [] pos) (tMakeS C sp dvs E t) := by
  constructor
  intro pins s σ H Q I h
  apply wpAny_Call_Name_kw (ld_glob I hg hm ?_ hdb)
  apply PySem.W.callWith_K (h₀ := X.base) I.ok.mod.kin M.kp ?_ he hpl
  exact thn (ha.run pos pins s σ H _ I h) fun us s1 ⟨vs, G, J, r, q⟩ => ⟨J.kIn, run_makeS M F hr hb hd (hx σ) J r q⟩
end
end My

set_option maxRecDepth 100000
set_option maxHeartbeats 400000
namespace K4
open PySem PySem.Spec PyProof.Rows L2 GxR Gd TL My
section
variable {P : Program} {w : World} {K : PySem.W.Frag} {mg : Str → Option Value} {base : Heap} {C : Addr}
def spToldG (K : PySem.W.Frag) (C : Addr) : Sp := fun vs H Q _ => ∃ (x : Addr) (xs1 xs2 xs3 : List V), vs = [.ref x] ∧ LnAt K C H x xs1 xs2 xs3 ∧ ∀ t p1 p2 p3 H', Same H H' → H' t = some (.tup [.ref p1, .ref p2, .ref p3]) → H' p1 = some (.tup xs1) → H' p2 = some (.tup xs2) → H' p3 = some (.tup xs3) → Q (.ref t) H'
theorem ok_toldG {f : Addr} {fd : FuncData} (F : Fun K "told" "Line.told" s_told f fd) (T : Txt mg) (TC : ClsT K C) : FnOk P w K mg base CX0 1 f fd ["self"] (spToldG K C) := by
  refine F.ok sc_told (fun vs H Q E h => ?_) (fun cdv A outer s H vs Q E hr h => ?_)
  · obtain ⟨x, xs1, xs2, xs3, rfl, _⟩ := h
    rfl
  · obtain ⟨x, xs1, xs2, xs3, rfl, ⟨dx, p1, p2, p3, d, hx, hp1, hp2, hp3⟩, k⟩ := h
    refine ⟨_, pss_one (ps_ret (pe_tup (pa_cons (pe_fld (pv 0) rfl) (pa_cons (pe_fld (pv 0) rfl) (pa_cons (pe_fld (pv 0) rfl) pa_nil))))), ?_⟩
    refine ⟨_, rfl, x, C, dx, _, _, rfl, hx, TC.cl, TC.n1, lf_places _ _ _ _, _, rfl, x, C, dx, _, _, rfl, hx, TC.cl, TC.n2, lf_stretches _ _ _ _, _, rfl, x, C, dx, _, _, rfl, hx, TC.cl, TC.n3, lf_longs _ _ _ _, (by show 3 ≤ sizeLine; decide), fun t ht => ?_⟩
    have e := same_alloc (o := .tup [.ref p1, .ref p2, .ref p3]) ht
    exact k t p1 p2 p3 _ e upd_same (e _ _ hp1) (e _ _ hp2) (e _ _ hp3)
abbrev s_law_caught : Stmt := top 41
theorem sc_law_caught : FnScope ["_law_some", "e"] ["_law_some"] (defScope s_law_caught) := ⟨rfl, rfl, rfl, by decide +kernel, rfl, by decide +kernel, by decide +kernel⟩
abbrev s_law_right : Stmt := top 42
theorem sc_law_right : FnScope ["_law_some", "_law_before", "_law_due_here", "_law_found", "_law_longs"] ["_law_some"] (defScope s_law_right) := ⟨rfl, rfl, rfl, by decide +kernel, rfl, by decide +kernel, by decide +kernel⟩
abbrev s_law : Stmt := top 43
theorem sc_law : FnScope ["_law_script", "_law_k", "_law_box_here", "_law_world_here"] ["_law_script"] (defScope s_law) := ⟨rfl, rfl, rfl, by decide +kernel, rfl, by decide +kernel, by decide +kernel⟩
theorem nameOf_nt {H H' : Hp} (e : Nt H H') {v : V} (th : Th H v) : nameOf H' v = nameOf H v := by
  unfold nameOf
  rw [tup_nt e th]
theorem plD_nt {H H' : Hp} (e : Nt H H') : ∀ {xs : List V} {as : List Str}, (∀ x ∈ xs, Th H x) → plD H' as xs = plD H as xs
  | [], _, _ => rfl
  | v :: r, as, h => by
    have hv := h v (by simp)
    show (match pl1 H' as v with | some d => some d | none => plD H' (as ++ [nameOf H' v]) r) = (match pl1 H as v with | some d => some d | none => plD H (as ++ [nameOf H v]) r)
    rw [pl1_nt e hv, nameOf_nt e hv, plD_nt e (fun x hx => h x (by simp [hx]))]
theorem placesD_nt {H H' : Hp} (e : Nt H H') {v : V} (d : Deep H v) : placesD H' v = placesD H v := by
  unfold placesD
  rw [isl_nt e d.1, seq_nt e d.1]
  cases hs : seqOf H v with
  | none => rfl
  | some xs =>
    have e1 := plD_nt e (xs := xs) (as := []) fun x hx => d.kids xs hs x hx
    show (if _ then plD H' [] xs else _) = (if _ then plD H [] xs else _)
    rw [e1]
theorem dueD_nt {H H' : Hp} (e : Nt H H') {v1 v2 v3 : V} (d1 : Deep H v1) (d2 : Deep H v2) (d3 : Deep H v3) : dueD H' v1 v2 v3 = dueD H v1 v2 v3 := by
  have em : manyOf H' v1 = manyOf H v1 := by
    unfold manyOf
    rw [seq_nt e d1.1]
  unfold dueD
  rw [placesD_nt e d1, em, stretchesD_nt e d2, longsD_nt e d3]
theorem passS0 {X : Cx} (σ : L2.St) : PassesAt CX0 X σ E0 := fun _ _ _ _ _ _ h => False.elim h
def clOf (a b c d e f : Addr) : Tag → Addr
  | .places => a
  | .name => b
  | .twice => c
  | .number => d
  | .stretches => e
  | .longs => f
def Tag.n : Tag → Nat
  | .places => 0
  | .name => 1
  | .twice => 2
  | .number => 3
  | .stretches => 4
  | .longs => 5
variable {cl : Tag → Addr} {CS fS fI Pt f1 : Addr} {fdS fdI fd1 : FuncData} {g1 g2 g3 g4 g5 g6 : Addr} {gd1 gd2 gd3 gd4 gd5 gd6 : FuncData}
def Found (H : Hp) (u : V) (d : Due) (v1 v2 v3 : V) (H0 : Hp) : Prop := match d with
  | some (t, x) => ∃ p, u = .ref p ∧ H p = some (.tup [.str (Str.ofString t.s), x])
  | none => ∃ p t p1 p2 p3 xs1 xs2 xs3, u = .ref p ∧ H p = some (.tup [.str "made", .ref t]) ∧ H t = some (.tup [.ref p1, .ref p2, .ref p3]) ∧ H p1 = some (.tup xs1) ∧ H p2 = some (.tup xs2) ∧ H p3 = some (.tup xs3) ∧ seqOf H0 v1 = some xs1 ∧ seqOf H0 v2 = some xs2 ∧ rowsOf H0 v3 = some xs3
def spCaught (Pt : Addr) : Sp := fun vs H Q _ => ∃ (L : Addr) (v1 v2 v3 : V), vs = [.ref L] ∧ H L = some (.lst [v1, v2, v3]) ∧ Deep H v1 ∧ Deep H v2 ∧ Deep H v3 ∧ TabG H Pt ∧ ∀ H' u, KT Pt H H' → Found H' u (dueD H v1 v2 v3) v1 v2 v3 H → Q u H'
theorem ok_caught {f : Addr} {fd : FuncData} (F : Fun K "_law_caught" "_law_caught" s_law_caught f fd) (T : Txt mg) (TC : ClsT K C) (ES : SeT K mg CS fS fdS sSE)
    (ENoPlaces : ExC K mg "NoPlaces" "NoPlaces.__init__" sNoPlaces (cl .places) g1 gd1) (ENoName : ExC K mg "NoName" "NoName.__init__" sNoName (cl .name) g2 gd2) (ETwice : ExC K mg "Twice" "Twice.__init__" sTwice (cl .twice) g3 gd3)
    (ENoNumber : ExC K mg "NoNumber" "NoNumber.__init__" sNoNumber (cl .number) g4 gd4) (ENoStretches : ExC K mg "NoStretches" "NoStretches.__init__" sNoStretches (cl .stretches) g5 gd5) (ENoLongs : ExC K mg "NoLongs" "NoLongs.__init__" sNoLongs (cl .longs) g6 gd6)
    (XM : ∀ s t : Tag, s.n < t.n → PySem.W.exmOne K (.ref (cl t)) (.ref (cl s)) = some false)
    (gL : mg "Line" = some (.ref C)) (ML : Mk K C fI) (Ginit : FnOk P w K mg base (CX P w) 6 fI fdI ["self", "places", "stretches", "longs"] (spInitX K C cl Pt)) (bI : Binds K fdI ["self", "places", "stretches", "longs"] [])
    (Mtold : Mt K C "told" "Line.told" s_told ["self"] f1 fd1) (Gtold : FnOk P w K mg base CX0 1 f1 fd1 ["self"] (spToldG K C)) :
    FnOk P w K mg base CX0 8 f fd ["_law_some"] (spCaught Pt) := by
  refine F.ok sc_law_caught (fun vs H Q E h => ?_) (fun cdv A outer s H vs Q E hr h => ?_)
  · obtain ⟨L, v1, v2, v3, rfl, _⟩ := h
    rfl
  · obtain ⟨L, v1, v2, v3, rfl, hL, d1, d2, d3, tb, k⟩ := h
    refine ⟨_, pss_one (ps_try_cl rfl rfl sc_law_caught.nd takes_never (.named (i := 1) (ts := fun a cls d => _) ⟨by rfl, by decide, .inl ENoPlaces.g⟩ rfl (by rfl) (fun a oe cls d pn hz hf => (pss_one (ps_ret (pe_tup (pa_cons pe_str (pa_cons (pe_xf ENoPlaces.x ENoPlaces.n hz hf (pv 1)) pa_nil)))))) (.named (i := 1) (ts := fun a cls d => _) ⟨by rfl, by decide, .inl ENoName.g⟩ rfl (by rfl) (fun a oe cls d pn hz hf => (pss_one (ps_ret (pe_tup (pa_cons pe_str (pa_cons (pe_xf ENoName.x ENoName.n hz hf (pv 1)) pa_nil)))))) (.named (i := 1) (ts := fun a cls d => _) ⟨by rfl, by decide, .inl ETwice.g⟩ rfl (by rfl) (fun a oe cls d pn hz hf => (pss_one (ps_ret (pe_tup (pa_cons pe_str (pa_cons (pe_xf ETwice.x ETwice.n hz hf (pv 1)) pa_nil)))))) (.named (i := 1) (ts := fun a cls d => _) ⟨by rfl, by decide, .inl ENoNumber.g⟩ rfl (by rfl) (fun a oe cls d pn hz hf => (pss_one (ps_ret (pe_tup (pa_cons pe_str (pa_cons (pe_xf ENoNumber.x ENoNumber.n hz hf (pv 1)) pa_nil)))))) (.named (i := 1) (ts := fun a cls d => _) ⟨by rfl, by decide, .inl ENoStretches.g⟩ rfl (by rfl) (fun a oe cls d pn hz hf => (pss_one (ps_ret (pe_tup (pa_cons pe_str (pa_cons (pe_xf ENoStretches.x ENoStretches.n hz hf (pv 1)) pa_nil)))))) (.named (i := 1) (ts := fun a cls d => _) ⟨by rfl, by decide, .inl ENoLongs.g⟩ rfl (by rfl) (fun a oe cls d pn hz hf => (pss_one (ps_ret (pe_tup (pa_cons pe_str (pa_cons (pe_xf ENoLongs.x ENoLongs.n hz hf (pv 1)) pa_nil)))))) (.plain (ts := fun a cls d => _) ⟨by rfl, by decide, .inl ES.g⟩ (fun a oe cls d pn hz hf => (pss_one (ps_ret (pe_tup (pa_cons pe_str (pa_cons pe_non pa_nil)))))) .nil))))))) (fun W pn xe tk _ => (pss_one (ps_ret (pe_tup (pa_cons pe_str (pa_cons (pe_methX0 (pe_makeS ML Ginit (hr.mono (by decide)) (by rfl) gL bI .nil (fun σ => passAt tk σ) (pa_cons (pe_ix (ixL (K := K) rfl) (pv 0) pe_int (fun _ _ => rfl)) (pa_cons (pe_ix (ixL (K := K) rfl) (pv 0) pe_int (fun _ _ => rfl)) (pa_cons (pe_ix (ixL (K := K) rfl) (pv 0) pe_int (fun _ _ => rfl)) pa_nil)))) TC.cl Mtold.m Gtold (hr.mono (by decide)) Mtold.b (fun σ => passS0 σ)) pa_nil))))))), ?_⟩
    refine ⟨_, rfl, L, _, 0, v1, rfl, rfl, SqL.of hL, rfl, _, rfl, L, _, 1, v2, rfl, rfl, SqL.of hL, rfl, _, rfl, L, _, 2, v3, rfl, rfl, SqL.of hL, rfl, fun x dx nx ndx ny => ?_⟩
    have s1 : Same H (upd (upd H dx (.own x)) x (.ins C dx [])) := (same_alloc ndx).trans (same_alloc (by rw [upd_ne ny.symm]; exact nx))
    have hx1 : upd (upd H dx (.own x)) x (.ins C dx []) x = some (.ins C dx []) := upd_same
    generalize upd (upd H dx (.own x)) x (.ins C dx []) = H1 at s1 hx1 ⊢
    have n1 := same_nt s1
    have tb1 := (same_kt tb s1).tab
    have kt : ∀ {H' : Hp}, KI x Pt H1 H' → KT Pt H H' := fun {H'} ki => ⟨fun c o nc h => ki.keep c o (ne_of_none h nx) nc (s1 _ _ h), ki.tab⟩
    have two : 2 ≤ sizeLine := by decide
    refine ⟨x, dx, v1, v2, v3, rfl, hx1, d1.nt n1, d2.nt n1, d3.nt n1, tb1, fun t u hd H' e ki he => ?_, fun hd H' xs1 xs2 xs3 ki q1 q2 q3 ln => ⟨rfl, ?_⟩⟩
    · rw [dueD_nt n1 d1 d2 d3] at hd
      rw [hd] at k
      have kt' := kt ki
      have ret : ∀ {p : Addr}, upd H' e (.xd [("found", u)]) p = none → Q (.ref p) (upd (upd H' e (.xd [("found", u)])) p (.tup [.str (Str.ofString t.s), u])) := fun hp =>
        k _ _ (kt'.trans (same_kt kt'.tab ((same_alloc he).trans (same_alloc hp)))) ⟨_, rfl, upd_same⟩
      cases t with
      | places =>
        refine ⟨true, ENoPlaces.e, fun _ y hy => ?_, nofun⟩
        exact ⟨_, rfl, rfl, rfl, e, _, _, rfl, upd_same, rfl, two, fun u hu => ret hu⟩
      | name =>
        refine ⟨false, XM .places .name (by decide), nofun, fun _ => ⟨true, ENoName.e, fun _ y hy => ?_, nofun⟩⟩
        exact ⟨_, rfl, rfl, rfl, e, _, _, rfl, upd_same, rfl, two, fun u hu => ret hu⟩
      | twice =>
        refine ⟨false, XM .places .twice (by decide), nofun, fun _ => ⟨false, XM .name .twice (by decide), nofun, fun _ => ⟨true, ETwice.e, fun _ y hy => ?_, nofun⟩⟩⟩
        exact ⟨_, rfl, rfl, rfl, e, _, _, rfl, upd_same, rfl, two, fun u hu => ret hu⟩
      | number =>
        refine ⟨false, XM .places .number (by decide), nofun, fun _ => ⟨false, XM .name .number (by decide), nofun, fun _ => ⟨false, XM .twice .number (by decide), nofun, fun _ => ⟨true, ENoNumber.e, fun _ y hy => ?_, nofun⟩⟩⟩⟩
        exact ⟨_, rfl, rfl, rfl, e, _, _, rfl, upd_same, rfl, two, fun u hu => ret hu⟩
      | stretches =>
        refine ⟨false, XM .places .stretches (by decide), nofun, fun _ => ⟨false, XM .name .stretches (by decide), nofun, fun _ => ⟨false, XM .twice .stretches (by decide), nofun, fun _ => ⟨false, XM .number .stretches (by decide), nofun, fun _ => ⟨true, ENoStretches.e, fun _ y hy => ?_, nofun⟩⟩⟩⟩⟩
        exact ⟨_, rfl, rfl, rfl, e, _, _, rfl, upd_same, rfl, two, fun u hu => ret hu⟩
      | longs =>
        refine ⟨false, XM .places .longs (by decide), nofun, fun _ => ⟨false, XM .name .longs (by decide), nofun, fun _ => ⟨false, XM .twice .longs (by decide), nofun, fun _ => ⟨false, XM .number .longs (by decide), nofun, fun _ => ⟨false, XM .stretches .longs (by decide), nofun, fun _ => ⟨true, ENoLongs.e, fun _ y hy => ?_, nofun⟩⟩⟩⟩⟩⟩
        exact ⟨_, rfl, rfl, rfl, e, _, _, rfl, upd_same, rfl, two, fun u hu => ret hu⟩
    · rw [dueD_nt n1 d1 d2 d3] at hd
      rw [hd] at k
      rw [seq_nt n1 d1.1] at q1
      rw [seq_nt n1 d2.1] at q2
      have q3' : rowsOf H v3 = some xs3 := by
        unfold rowsOf at q3 ⊢
        rw [seq_nt n1 d3.1] at q3
        exact q3
      have kt' := kt ki
      obtain ⟨dx', p1, p2, p3, d, hx, h1, h2, h3⟩ := id ln
      refine ⟨x, dx', _, rfl, hx, lf_no _ _ _ _ (by decide +kernel), x, xs1, xs2, xs3, rfl, ln, fun t p1 p2 p3 H2 s2 e e1 e2 e3 => ⟨two, fun p hp => ?_⟩⟩
      have s3 := same_alloc (o := .tup [.str "made", .ref t]) hp
      exact k _ _ (kt'.trans (same_kt kt'.tab (s2.trans s3))) ⟨p, t, p1, p2, p3, xs1, xs2, xs3, rfl, upd_same, s3 _ _ e, s3 _ _ e1, s3 _ _ e2, s3 _ _ e3, q1, q2, q3'⟩
end
end K4

set_option maxRecDepth 100000
set_option maxHeartbeats 400000
namespace K4
open PySem PySem.Spec PyProof.Rows L2 GxR Gd TL My
theorem ixT {X : Cx} {K : PySem.W.Frag} (h : X.K = K) : IxR X (rIxT K) := h ▸ ix_tup
mutual
theorem dq_nt {K : PySem.W.Frag} {H H' : Hp} (e : Nt H H') : ∀ {v : V} {d : PyData}, Dq K H v d → Dq K H' v d
  | _, _, .non => .non
  | _, _, .bl b => .bl b
  | _, _, .int i => .int i
  | _, _, .str z => .str z
  | _, _, .lst q h => .lst (e.seq q) (dqAll_nt e h)
  | _, _, .tup q h => .tup (e.seqT q) (dqAll_nt e h)
  | _, _, .dic q h => .dic (e _ _ (by simp) q) (dqKv_nt e h)
theorem dqAll_nt {K : PySem.W.Frag} {H H' : Hp} (e : Nt H H') : ∀ {vs : List V} {ds : List PyData}, DqAll K H vs ds → DqAll K H' vs ds
  | _, _, .nil => .nil
  | _, _, .cons h t => .cons (dq_nt e h) (dqAll_nt e t)
theorem dqKv_nt {K : PySem.W.Frag} {H H' : Hp} (e : Nt H H') : ∀ {vs : List (Key × V)} {ds : List (PyData × PyData)}, DqKv K H vs ds → DqKv K H' vs ds
  | _, _, .nil => .nil
  | _, _, .cons h t => .cons (dq_nt e h) (dqKv_nt e t)
end
theorem Wf.apart {N : Addr → Prop} {H : Hp} {m k0 : Nat} {a : Addr} (no : ∀ j, j < k0 → ¬ Wf N H m j (.ref a)) {k : Nat} {v : V} (hk : k < k0) (h : Wf N H m k v) : Wf (fun c => N c ∧ c ≠ a) H m k v := by
  induction h with
  | non k => exact .non k
  | bl b k => exact .bl b k
  | int i h k => exact .int i h k
  | str z g l k => exact .str z g l k
  | dic c e k => exact .dic c e k
  | lst c xs k e n l q ih => exact .lst c xs k e ⟨n, fun z => no _ hk (by rw [← z]; exact .lst c xs k e n l q)⟩ l fun x hx => ih x hx (by omega)
  | tup c xs k e l q ih => exact .tup c xs k e l fun x hx => ih x hx (by omega)
/-- a list with one thing more -/
theorem Wf.more {N : Addr → Prop} {H : Hp} {m k : Nat} {a : Addr} {xs : List V} {z : Str} (h : Wf N H m k (.ref a)) (ha : H a = some (.lst xs)) (g : Good z) (l : z.length ≤ 50) : Wf N (upd H a (.lst (xs ++ [.str z]))) (m + 1) k (.ref a) := by
  have low : ∃ j, j ≤ k ∧ Wf N H m j (.ref a) ∧ ∀ i, i < j → ¬ Wf N H m i (.ref a) := by
    clear l g
    induction k using Nat.strongRecOn with
    | ind k ih =>
      by_cases q : ∃ i, i < k ∧ Wf N H m i (.ref a)
      · obtain ⟨i, hi, w⟩ := q
        obtain ⟨j, h1, h2, h3⟩ := ih i hi w
        exact ⟨j, by omega, h2, h3⟩
      · exact ⟨k, Nat.le_refl _, h, fun i hi w => q ⟨i, hi, w⟩⟩
  obtain ⟨j, hj, w, no⟩ := low
  refine Wf.mono (Nat.le_refl _) hj ?_
  cases w with
  | dic c e k => rw [ha] at e; cases e
  | tup c ys k e l q => rw [ha] at e; cases e
  | lst c ys j' e n l' q =>
    rw [ha] at e
    cases e
    refine .lst a _ j' upd_same n (by rw [List.length_append, List.length_singleton]; omega) fun x hx => ?_
    rcases List.mem_append.mp hx with hx | hx
    · exact (((q x hx).apart no (by omega)).keep (Kw.upd ha fun z => z.2 rfl)).imp (fun c z => z.1) |>.mono (by omega) (Nat.le_refl _)
    · rw [List.mem_singleton.mp hx]
      exact .str z g l _
theorem pl1_wf {N : Addr → Prop} {H : Hp} {m : Nat} {as : List Str} {v u : V} {t : Tag} (h : Wf N H m 2 v) (e : pl1 H as v = some (t, u)) : Wf N H m 3 u := by
  unfold pl1 at e
  split at e
  · rename_i n q hx
    have wn := h.kid (seq_of_tup hx) n (by simp)
    have wq := h.kid (seq_of_tup hx) q (by simp)
    split at e
    · split at e
      · cases e; exact wn.mono (Nat.le_refl _) (by omega)
      · split at e
        · cases e
        · cases e; exact wq.mono (Nat.le_refl _) (by omega)
    · cases e; exact wn.mono (Nat.le_refl _) (by omega)
  · cases e; exact h.mono (Nat.le_refl _) (by omega)
theorem plD_wf {N : Addr → Prop} {H : Hp} {m : Nat} {u : V} {t : Tag} : ∀ {xs : List V} {as : List Str}, (∀ x ∈ xs, Wf N H m 2 x) → plD H as xs = some (t, u) → Wf N H m 3 u
  | [], _, _, e => by cases e
  | v :: r, as, h, e => by
    cases hp : pl1 H as v with
    | some d =>
      rw [pl1_stop hp] at e
      rw [Option.some.inj e] at hp
      exact pl1_wf (h v (by simp)) hp
    | none =>
      rw [pl1_snoc hp] at e
      exact plD_wf (fun x hx => h x (by simp [hx])) e
theorem stD_wf {N : Addr → Prop} {H : Hp} {m : Nat} {u : V} {t : Tag} : ∀ {xs : List V}, (∀ x ∈ xs, Wf N H m 2 x) → stD H xs = some (t, u) → Wf N H m 3 u
  | [], _, e => by cases e
  | v :: r, h, e => by
    cases hp : st1 H v with
    | false =>
      rw [st_stop hp] at e
      cases e
      exact (h u (by simp)).mono (Nat.le_refl _) (by omega)
    | true =>
      rw [st_go hp] at e
      exact stD_wf (fun x hx => h x (by simp [hx])) e
theorem loD_wf {N : Addr → Prop} {H : Hp} {m : Nat} {u : V} {t : Tag} {top : Int} : ∀ {xs : List V} {low : Int}, (∀ x ∈ xs, Wf N H m 2 x) → loD H top low xs = some (t, u) → Wf N H m 3 u
  | [], _, _, e => by cases e
  | v :: r, low, h, e => by
    cases hp : lo1 H low top v with
    | false =>
      rw [lo_stop hp] at e
      cases e
      exact (h u (by simp)).mono (Nat.le_refl _) (by omega)
    | true =>
      rw [lo_go hp] at e
      exact loD_wf (fun x hx => h x (by simp [hx])) e
theorem seq_wf {N : Addr → Prop} {H : Hp} {m : Nat} {v : V} (h : Wf N H m 3 v) : ∀ x ∈ (seqOf H v).getD [], Wf N H m 2 x := by
  cases e : seqOf H v with
  | none => exact fun x hx => by cases hx
  | some xs => exact h.kid e
theorem due_wf {N : Addr → Prop} {H : Hp} {m : Nat} {v1 v2 v3 u : V} {t : Tag} (h1 : Wf N H m 3 v1) (h2 : Wf N H m 3 v2) (h3 : Wf N H m 3 v3) (e : dueD H v1 v2 v3 = some (t, u)) : Wf N H m 3 u := by
  unfold dueD at e
  split at e
  · rename_i d hd
    rw [Option.some.inj e] at hd
    unfold placesD at hd
    split at hd
    · exact plD_wf (seq_wf h1) hd
    · cases hd; exact h1
  · split at e
    · rename_i d hd
      rw [Option.some.inj e] at hd
      unfold stretchesD at hd
      split at hd
      · exact stD_wf (seq_wf h2) hd
      · cases hd; exact h2
    · split at e
      · cases e
      · unfold longsD at e
        split at e
        · exact loD_wf (seq_wf h3) e
        · cases e; exact h3
theorem sb_two {a b : PyData} {k m n : Nat} (h1 : Sb a k m) (h2 : Sb b k n) : Sb (.tuple [a, b]) (k + 1) (m + n + 2) := by
  have h := sb_tuple (k := k) (m := m + n) (ds := [a, b]) fun d hd => by
    simp only [List.mem_cons, List.not_mem_nil, or_false] at hd
    rcases hd with rfl | rfl
    · exact h1.mono (Nat.le_refl _) (by omega)
    · exact h2.mono (Nat.le_refl _) (by omega)
  refine ⟨h.lv, h.dep, ?_, h.sh⟩
  have w1 := h1.wt
  have w2 := h2.wt
  show a.weight + 1 + (b.weight + 1 + 0) ≤ m + n + 2
  omega
theorem Wf.len {N : Addr → Prop} {H : Hp} {m k : Nat} {v : V} (h : Wf N H m k v) {xs : List V} (e : seqOf H v = some xs) : xs.length ≤ m := by
  cases h with
  | non k => cases e
  | bl b k => cases e
  | int i h k => cases e
  | str z g l k => cases e
  | dic a q k => rw [seq_dic q] at e; cases e
  | lst a ys k q n l h => rw [seq_lst q] at e; rw [← Option.some.inj e]; exact l
  | tup a ys k q l h => rw [seq_tup q] at e; rw [← Option.some.inj e]; exact l
theorem rows_dq {K : PySem.W.Frag} {N : Addr → Prop} {H : Hp} {v : V} {xs : List V} (h : Wf N H 9 3 v) (e : rowsOf H v = some xs) : ∃ ds, DqAll K H xs ds ∧ Sb (.tuple ds) 3 81009 := by
  unfold rowsOf at e
  split at e
  · rw [← Option.some.inj e]
    exact ⟨[], .nil, ⟨by decide +kernel, by decide, by decide, by decide +kernel⟩⟩
  · obtain ⟨ds, h1, h2, h3⟩ := dqs_of (K := K) fun x hx => (h.kid e x hx).dq (by decide)
    have l := h.len e
    refine ⟨ds, h1, (sb_tuple h3).mono (Nat.le_refl _) ?_⟩
    rw [h2]
    exact Nat.le_trans (Nat.mul_le_mul_right (wt 9 2 + 1) l) (by decide)
theorem rows_of {H : Hp} {v : V} {xs : List V} (e : seqOf H v = some xs) : rowsOf H v = some xs := by
  unfold rowsOf
  rw [if_neg (fun z => by rw [z] at e; cases e)]
  exact e
theorem sb_made {a b c : PyData} (h1 : Sb a 3 81009) (h2 : Sb b 3 81009) (h3 : Sb c 3 81009) : Sb (.tuple [.str "made", .tuple [a, b, c]]) 5 243036 := by
  have hx : ∀ d ∈ [a, b, c], Sb d 3 81009 := fun d hd => by
    simp only [List.mem_cons, List.not_mem_nil, or_false] at hd
    rcases hd with rfl | rfl | rfl
    · exact h1
    · exact h2
    · exact h3
  have h : Sb (.tuple [a, b, c]) 4 243030 := (sb_tuple hx).mono (Nat.le_refl _) (by show 3 * (81009 + 1) ≤ 243030; decide)
  exact sb_two (m := 4) ((sb_str (good_of _) (by decide +kernel)).mono (by decide) (Nat.le_refl _)) h
theorem sb_due {c : PyData} {t : Tag} (h : Sb c 3 111110) : Sb (.tuple [.str (Str.ofString t.s), c]) 4 111132 := by
  refine sb_two (m := 20) ((sb_str (good_of _) ?_).mono (by decide) (Nat.le_refl _)) h
  cases t <;> decide +kernel
theorem sm_kt {Pt : Addr} {H H' : Hp} (tb : TabG H Pt) (sm : SmAt H) (k : KT Pt H H') : SmAt H' := by
  obtain ⟨o, e⟩ := sm
  exact ⟨o, KT.nt tb k _ _ (by simp) e⟩
section
variable {P : Program} {w : World} {K : PySem.W.Frag} {mg : Str → Option Value} {base : Heap} {f1 f2 : Addr} {fd1 fd2 : FuncData}
def spRight (Pt : Addr) : Sp := fun vs H Q _ => ∃ (N : Addr → Prop) (L : Addr) (v1 v2 v3 : V), vs = [.ref L] ∧ H L = some (.lst [v1, v2, v3]) ∧ Wf N H 9 3 v1 ∧ Wf N H 9 3 v2 ∧ Wf N H 9 3 v3 ∧ TabG H Pt ∧ SmAt H ∧
  ∀ H', (∀ c o, c ≠ Pt → ¬ N c → H c = some o → H' c = some o) → TabG H' Pt → Q (.bl true) H'
theorem ok_right {f Pt : Addr} {fd : FuncData} (ns : K.lookup sysModules = none) (F : Fun K "_law_right" "_law_right" s_law_right f fd) (T : Txt mg)
    (Nlaw_due : Fn K mg "_law_due" s_law_due ["_law_places", "_law_stretches", "_law_longs"] f1 fd1) (Glaw_due : FnOk P w K mg base CX0 4 f1 fd1 ["_law_places", "_law_stretches", "_law_longs"] spLawDue)
    (Nlaw_caught : Fn K mg "_law_caught" s_law_caught ["_law_some"] f2 fd2) (Glaw_caught : FnOk P w K mg base CX0 8 f2 fd2 ["_law_some"] (spCaught Pt)) :
    GOk P w K mg base CX0 9 f fd ["_law_some"] (spRight Pt) := by
  refine gok F sc_law_right (fun vs H Q E h => ?_) (fun cdv A outer s H vs Q E gd hr h => ?_)
  · obtain ⟨N, L, v1, v2, v3, rfl, _⟩ := h
    rfl
  · obtain ⟨N, L, v1, v2, v3, rfl, hL, w1, w2, w3, tb, sm, k⟩ := h
    refine ⟨_, pss_cons (ps_set (i := 1) sc_law_right.nd rfl (Or.inl rfl) (pe_callB (call_reprQ ns gd hr) (by rfl) T.repr_ (by decide +kernel) (pa_cons (pv 0) pa_nil)))
      (pss_cons (ps_set (i := 2) sc_law_right.nd rfl (Or.inl rfl) (pe_call Glaw_due (hr.mono (by decide)) (by rfl) Nlaw_due.g Nlaw_due.kp Nlaw_due.b .nil pass0 (pa_cons (pe_ix (ixL (K := K) rfl) (pv 0) pe_int (fun _ _ => rfl)) (pa_cons (pe_ix (ixL (K := K) rfl) (pv 0) pe_int (fun _ _ => rfl)) (pa_cons (pe_ix (ixL (K := K) rfl) (pv 0) pe_int (fun _ _ => rfl)) pa_nil)))))
      (pss_cons (ps_set (i := 3) sc_law_right.nd rfl (Or.inl rfl) (pe_call Glaw_caught (hr.mono (by decide)) (by rfl) Nlaw_caught.g Nlaw_caught.kp Nlaw_caught.b .nil pass0 (pa_cons (pv 0) pa_nil)))
      (pss_cons (ps_if (pt_cmpR op_ne (pe_callB (call_reprQ ns gd hr) (by rfl) T.repr_ (by decide +kernel) (pa_cons (pv 0) pa_nil)) (pv 1) (nomark _)) (pss_one (ps_ret pe_bl)) pss_nil)
      (pss_cons (ps_if (pt_cmpR op_isN (pv 2) pe_non (nomark _)) (pss_cons (ps_set (i := 4) sc_law_right.nd rfl (Or.inl rfl) (pe_ifExp (pt_cmpR op_isN (pe_ix (ixL (K := K) rfl) (pv 0) pe_int (fun _ _ => rfl)) pe_non (nomark _)) (pe_tup pa_nil) (pe_callTy call_tuple_of (by rfl) T.tuple_ (by decide +kernel) (pa_cons (pe_ix (ixL (K := K) rfl) (pv 0) pe_int (fun _ _ => rfl)) pa_nil))))
          (pss_one (ps_ret (pe_cmpR op_eq (pe_callB (call_reprQ ns gd hr) (by rfl) T.repr_ (by decide +kernel) (pa_cons (pv 3) pa_nil)) (pe_callB (call_reprQ ns gd hr) (by rfl) T.repr_ (by decide +kernel) (pa_cons (pe_tup (pa_cons pe_str (pa_cons (pe_tup (pa_cons (pe_callTy call_tuple_of (by rfl) T.tuple_ (by decide +kernel) (pa_cons (pe_ix (ixL (K := K) rfl) (pv 0) pe_int (fun _ _ => rfl)) pa_nil)) (pa_cons (pe_callTy call_tuple_of (by rfl) T.tuple_ (by decide +kernel) (pa_cons (pe_ix (ixL (K := K) rfl) (pv 0) pe_int (fun _ _ => rfl)) pa_nil)) (pa_cons (pv 4) pa_nil)))) pa_nil))) pa_nil)) (nomark _))))) pss_nil)
      (pss_cons (ps_if (pt_cmpR op_ne (pe_callB (call_reprQ ns gd hr) (by rfl) T.repr_ (by decide +kernel) (pa_cons (pv 3) pa_nil)) (pe_callB (call_reprQ ns gd hr) (by rfl) T.repr_ (by decide +kernel) (pa_cons (pv 2) pa_nil)) (nomark _)) (pss_one (ps_ret pe_bl)) pss_nil)
      (pss_cons (ps_if (pt_val (pe_callB call_isi (by rfl) T.isinstance_ (by decide +kernel) (pa_cons (pe_ix (ixT (K := K) rfl) (pv 2) pe_int (fun _ _ => rfl)) (pa_cons (pe_bltn (v := .ty "list") (by rfl) T.list_ (by decide +kernel) rfl) pa_nil)))) (pss_one (ps_expr (pe_bm PySem.F.plainAttrs_list PySem.F.slot_list_append PySem.F.type_list_append mt_append (pe_ix (ixT (K := K) rfl) (pv 2) pe_int (fun _ _ => rfl)) (pa_cons pe_str pa_nil)))) pss_nil)
      (pss_one (ps_ret (pe_cmpR op_eq (pe_callB (call_reprQ ns gd hr) (by rfl) T.repr_ (by decide +kernel) (pa_cons (pv 3) pa_nil)) (pe_callB (call_reprQ ns gd hr) (by rfl) T.repr_ (by decide +kernel) (pa_cons (pv 2) pa_nil)) (nomark _)))))))))), ?_⟩
    obtain ⟨c1, q1, b1⟩ := w1.dq (K := K) (by decide)
    obtain ⟨c2, q2, b2⟩ := w2.dq (K := K) (by decide)
    obtain ⟨c3, q3, b3⟩ := w3.dq (K := K) (by decide)
    have DL : Dq K H (.ref L) (.list [c1, c2, c3]) := .lst (SqL.of hL) (.cons q1 (.cons q2 (.cons q3 .nil)))
    have SX : ∀ d ∈ [c1, c2, c3], Sb d 3 81009 := fun d hd => by
      simp only [List.mem_cons, List.not_mem_nil, or_false] at hd
      rcases hd with rfl | rfl | rfl
      · exact b1.mono (Nat.le_refl _) (by decide)
      · exact b2.mono (Nat.le_refl _) (by decide)
      · exact b3.mono (Nat.le_refl _) (by decide)
    have SL : Sb (.list [c1, c2, c3]) 4 243030 := (sb_list SX).mono (Nat.le_refl _) (by show 3 * (81009 + 1) ≤ 243030; decide)
    obtain ⟨m1, m2, m3⟩ := SL.rep (by decide) (by decide)
    clear b1 b2 b3 SX
    refine ⟨_, rfl, _, _, rfl, sm, DL, m1, m2, m3, ?_⟩
    refine ⟨_, rfl, L, _, 0, v1, rfl, rfl, SqL.of hL, rfl, _, rfl, L, _, 1, v2, rfl, rfl, SqL.of hL, rfl, _, rfl, L, _, 2, v3, rfl, rfl, SqL.of hL, rfl, v1, v2, v3, rfl, w1.deep, w2.deep, w3.deep, fun H1 u s1 du => ?_⟩
    have n1 := same_nt s1
    have tb1 := (same_kt tb s1).tab
    refine ⟨_, rfl, L, v1, v2, v3, rfl, s1 _ _ hL, w1.deep.nt n1, w2.deep.nt n1, w3.deep.nt n1, tb1, fun H2 u2 k2 fo => ?_⟩
    rw [dueD_nt n1 w1.deep w2.deep w3.deep] at fo
    have n2 := n1.trans (KT.nt tb1 k2)
    have sm2 := sm_kt tb1 (sm.same s1) k2
    have hL2 := n2 _ _ (by simp) hL
    refine ⟨_, rfl, _, _, rfl, sm2, dq_nt n2 DL, m1, m2, m3, _, rfl, rfl, _, rfl, ifF (by rw [decide_eq_true rfl]; rfl) ?_⟩
    cases hd : dueD H v1 v2 v3 with
    | none =>
      rw [hd] at du fo
      obtain rfl : u = .non := du
      obtain ⟨p, t, p1, p2, p3, xs1, xs2, xs3, rfl, e0, et, e1, e2, e3, y1, y2, y3⟩ := fo
      rw [seq_nt n1 w1.th] at y1
      rw [seq_nt n1 w2.th] at y2
      have y3' : rowsOf H v3 = some xs3 := by
        unfold rowsOf at y3 ⊢
        rw [seq_nt n1 w3.th] at y3
        exact y3
      obtain ⟨ds1, g1, b1⟩ := rows_dq (K := K) w1 (rows_of y1)
      obtain ⟨ds2, g2, b2⟩ := rows_dq (K := K) w2 (rows_of y2)
      obtain ⟨ds3, g3, b3⟩ := rows_dq (K := K) w3 y3'
      obtain ⟨r1, r2, r3⟩ := (sb_made b1 b2 b3).rep (by decide) (by decide)
      clear b1 b2 b3 m1 m2 m3 SL DL
      refine ⟨_, rfl, rfl, _, rfl, iteT ?_⟩
      refine ⟨_, rfl, L, _, 2, v3, rfl, rfl, SqL.of hL2, rfl, rfl, _, rfl, ?_⟩
      by_cases hn : v3 = .non
      · refine ifT (decide_eq_true hn) ⟨Nat.zero_le _, fun p6 hp6 => ?_⟩
        have s3 := same_alloc (o := .tup []) hp6
        have h6 : upd H2 p6 (.tup []) p6 = some (.tup xs3) := by
          unfold rowsOf at y3'
          rw [if_pos hn] at y3'
          rw [upd_same, Option.some.inj y3']
        generalize upd H2 p6 (.tup []) = H3 at s3 h6 ⊢
        have hL_H3 := s3 _ _ hL2
        have S3 := k2.trans (same_kt k2.tab s3)
        have sm3 := sm2.same s3
        have tf : Dq K H3 (.ref p) (.tuple [.str "made", .tuple [.tuple ds1, .tuple ds2, .tuple ds3]]) := .tup (SqT.of (s3 _ _ e0)) (.cons (.str _) (.cons (.tup (SqT.of (s3 _ _ et)) (.cons (.tup (SqT.of (s3 _ _ e1)) (dqAll_nt (n2.trans (same_nt s3)) g1)) (.cons (.tup (SqT.of (s3 _ _ e2)) (dqAll_nt (n2.trans (same_nt s3)) g2)) (.cons (.tup (SqT.of (s3 _ _ e3)) (dqAll_nt (n2.trans (same_nt s3)) g3)) .nil)))) .nil))
        have Y1 : seqOf H3 v1 = some xs1 := by rw [seq_nt (n2.trans (same_nt s3)) w1.th]; exact y1
        have Y2 : ∀ {H4 : Hp}, Same H3 H4 → seqOf H4 v2 = some xs2 := fun s4 => by rw [seq_nt ((n2.trans (same_nt s3)).trans (same_nt s4)) w2.th]; exact y2
        clear w1 w2 w3
        refine ⟨_, rfl, _, _, rfl, sm3, tf, r1, r2, r3, ?_⟩
        obtain ⟨a1, ea1, hb1⟩ := seq_some Y1
        subst ea1
        refine ⟨_, rfl, L, _, 0, _, rfl, rfl, SqL.of hL_H3, rfl, a1, xs1, rfl, ?_⟩
        rcases hb1 with hb1 | hb1
        · refine .inl ⟨SqL.of hb1, fun z1 hz1 => ?_⟩
          have s4 := same_alloc (o := .tup xs1) hz1
          have h4 : upd H3 z1 (.tup xs1) z1 = some (.tup xs1) := upd_same
          generalize upd H3 z1 (.tup xs1) = H4 at s4 h4 ⊢
          have hL_H4 := s4 _ _ hL_H3
          obtain ⟨a2, ea2, hb2⟩ := seq_some (Y2 s4)
          subst ea2
          refine ⟨_, rfl, L, _, 1, _, rfl, rfl, SqL.of hL_H4, rfl, a2, xs2, rfl, ?_⟩
          rcases hb2 with hb2 | hb2
          · refine .inl ⟨SqL.of hb2, fun z2 hz2 => ?_⟩
            have s5 := same_alloc (o := .tup xs2) hz2
            have h5 : upd H4 z2 (.tup xs2) z2 = some (.tup xs2) := upd_same
            generalize upd H4 z2 (.tup xs2) = H5 at s5 h5 ⊢
            have hL_H5 := s5 _ _ hL_H4
            refine ⟨_, rfl, (by show 3 ≤ sizeLine; decide), fun z4 hz4 => ⟨(by show 2 ≤ sizeLine; decide), fun z5 hz5 => ?_⟩⟩
            have s6 := same_alloc (o := .tup [.ref z1, .ref z2, .ref p6]) hz4
            have s7 := same_alloc (o := .tup [.str "made", .ref z4]) hz5
            have h4' := s7 _ _ (s6 _ _ (s5 _ _ h4))
            have h5' := s7 _ _ (s6 _ _ h5)
            have h6' := s7 _ _ (s6 _ _ (s5 _ _ (s4 _ _ h6)))
            have hz4' : upd (upd H5 z4 (.tup [.ref z1, .ref z2, .ref p6])) z5 (.tup [.str "made", .ref z4]) z4 = some (.tup [.ref z1, .ref z2, .ref p6]) := s7 _ _ upd_same
            have s37 := ((s4.trans s5).trans s6).trans s7
            have nn := (n2.trans (same_nt s3)).trans (same_nt s37)
            refine ⟨_, _, rfl, sm3.same s37, .tup (SqT.of upd_same) (.cons (.str _) (.cons (.tup (SqT.of hz4') (.cons (.tup (SqT.of h4') (dqAll_nt nn g1)) (.cons (.tup (SqT.of h5') (dqAll_nt nn g2)) (.cons (.tup (SqT.of h6') (dqAll_nt nn g3)) .nil)))) .nil)), r1, r2, r3, rfl, ?_⟩
            have kf := S3.trans (same_kt S3.tab s37)
            have q := k _ (fun c o nc _ h => kf.keep c o nc (s1 _ _ h)) kf.tab
            rw [← decide_eq_true (rfl : V.str (PyData.tuple [.str "made", .tuple [.tuple ds1, .tuple ds2, .tuple ds3]]).shown = V.str (PyData.tuple [.str "made", .tuple [.tuple ds1, .tuple ds2, .tuple ds3]]).shown)] at q
            exact q
          · refine .inr ⟨SqT.of hb2, ?_⟩
            obtain ⟨z2, ez2⟩ : ∃ z2, z2 = a2 := ⟨_, rfl⟩
            obtain ⟨H5, eH5⟩ : ∃ H5, H5 = H4 := ⟨_, rfl⟩
            have s5 : Same H4 H5 := by rw [eH5]; exact Same.refl _
            have h5 : H5 z2 = some (.tup xs2) := by rw [ez2, eH5]; exact hb2
            rw [← ez2, ← eH5]
            have hL_H5 := s5 _ _ hL_H4
            refine ⟨_, rfl, (by show 3 ≤ sizeLine; decide), fun z4 hz4 => ⟨(by show 2 ≤ sizeLine; decide), fun z5 hz5 => ?_⟩⟩
            have s6 := same_alloc (o := .tup [.ref z1, .ref z2, .ref p6]) hz4
            have s7 := same_alloc (o := .tup [.str "made", .ref z4]) hz5
            have h4' := s7 _ _ (s6 _ _ (s5 _ _ h4))
            have h5' := s7 _ _ (s6 _ _ h5)
            have h6' := s7 _ _ (s6 _ _ (s5 _ _ (s4 _ _ h6)))
            have hz4' : upd (upd H5 z4 (.tup [.ref z1, .ref z2, .ref p6])) z5 (.tup [.str "made", .ref z4]) z4 = some (.tup [.ref z1, .ref z2, .ref p6]) := s7 _ _ upd_same
            have s37 := ((s4.trans s5).trans s6).trans s7
            have nn := (n2.trans (same_nt s3)).trans (same_nt s37)
            refine ⟨_, _, rfl, sm3.same s37, .tup (SqT.of upd_same) (.cons (.str _) (.cons (.tup (SqT.of hz4') (.cons (.tup (SqT.of h4') (dqAll_nt nn g1)) (.cons (.tup (SqT.of h5') (dqAll_nt nn g2)) (.cons (.tup (SqT.of h6') (dqAll_nt nn g3)) .nil)))) .nil)), r1, r2, r3, rfl, ?_⟩
            have kf := S3.trans (same_kt S3.tab s37)
            have q := k _ (fun c o nc _ h => kf.keep c o nc (s1 _ _ h)) kf.tab
            rw [← decide_eq_true (rfl : V.str (PyData.tuple [.str "made", .tuple [.tuple ds1, .tuple ds2, .tuple ds3]]).shown = V.str (PyData.tuple [.str "made", .tuple [.tuple ds1, .tuple ds2, .tuple ds3]]).shown)] at q
            exact q
        · refine .inr ⟨SqT.of hb1, ?_⟩
          obtain ⟨z1, ez1⟩ : ∃ z1, z1 = a1 := ⟨_, rfl⟩
          obtain ⟨H4, eH4⟩ : ∃ H4, H4 = H3 := ⟨_, rfl⟩
          have s4 : Same H3 H4 := by rw [eH4]; exact Same.refl _
          have h4 : H4 z1 = some (.tup xs1) := by rw [ez1, eH4]; exact hb1
          rw [← ez1, ← eH4]
          have hL_H4 := s4 _ _ hL_H3
          obtain ⟨a2, ea2, hb2⟩ := seq_some (Y2 s4)
          subst ea2
          refine ⟨_, rfl, L, _, 1, _, rfl, rfl, SqL.of hL_H4, rfl, a2, xs2, rfl, ?_⟩
          rcases hb2 with hb2 | hb2
          · refine .inl ⟨SqL.of hb2, fun z2 hz2 => ?_⟩
            have s5 := same_alloc (o := .tup xs2) hz2
            have h5 : upd H4 z2 (.tup xs2) z2 = some (.tup xs2) := upd_same
            generalize upd H4 z2 (.tup xs2) = H5 at s5 h5 ⊢
            have hL_H5 := s5 _ _ hL_H4
            refine ⟨_, rfl, (by show 3 ≤ sizeLine; decide), fun z4 hz4 => ⟨(by show 2 ≤ sizeLine; decide), fun z5 hz5 => ?_⟩⟩
            have s6 := same_alloc (o := .tup [.ref z1, .ref z2, .ref p6]) hz4
            have s7 := same_alloc (o := .tup [.str "made", .ref z4]) hz5
            have h4' := s7 _ _ (s6 _ _ (s5 _ _ h4))
            have h5' := s7 _ _ (s6 _ _ h5)
            have h6' := s7 _ _ (s6 _ _ (s5 _ _ (s4 _ _ h6)))
            have hz4' : upd (upd H5 z4 (.tup [.ref z1, .ref z2, .ref p6])) z5 (.tup [.str "made", .ref z4]) z4 = some (.tup [.ref z1, .ref z2, .ref p6]) := s7 _ _ upd_same
            have s37 := ((s4.trans s5).trans s6).trans s7
            have nn := (n2.trans (same_nt s3)).trans (same_nt s37)
            refine ⟨_, _, rfl, sm3.same s37, .tup (SqT.of upd_same) (.cons (.str _) (.cons (.tup (SqT.of hz4') (.cons (.tup (SqT.of h4') (dqAll_nt nn g1)) (.cons (.tup (SqT.of h5') (dqAll_nt nn g2)) (.cons (.tup (SqT.of h6') (dqAll_nt nn g3)) .nil)))) .nil)), r1, r2, r3, rfl, ?_⟩
            have kf := S3.trans (same_kt S3.tab s37)
            have q := k _ (fun c o nc _ h => kf.keep c o nc (s1 _ _ h)) kf.tab
            rw [← decide_eq_true (rfl : V.str (PyData.tuple [.str "made", .tuple [.tuple ds1, .tuple ds2, .tuple ds3]]).shown = V.str (PyData.tuple [.str "made", .tuple [.tuple ds1, .tuple ds2, .tuple ds3]]).shown)] at q
            exact q
          · refine .inr ⟨SqT.of hb2, ?_⟩
            obtain ⟨z2, ez2⟩ : ∃ z2, z2 = a2 := ⟨_, rfl⟩
            obtain ⟨H5, eH5⟩ : ∃ H5, H5 = H4 := ⟨_, rfl⟩
            have s5 : Same H4 H5 := by rw [eH5]; exact Same.refl _
            have h5 : H5 z2 = some (.tup xs2) := by rw [ez2, eH5]; exact hb2
            rw [← ez2, ← eH5]
            have hL_H5 := s5 _ _ hL_H4
            refine ⟨_, rfl, (by show 3 ≤ sizeLine; decide), fun z4 hz4 => ⟨(by show 2 ≤ sizeLine; decide), fun z5 hz5 => ?_⟩⟩
            have s6 := same_alloc (o := .tup [.ref z1, .ref z2, .ref p6]) hz4
            have s7 := same_alloc (o := .tup [.str "made", .ref z4]) hz5
            have h4' := s7 _ _ (s6 _ _ (s5 _ _ h4))
            have h5' := s7 _ _ (s6 _ _ h5)
            have h6' := s7 _ _ (s6 _ _ (s5 _ _ (s4 _ _ h6)))
            have hz4' : upd (upd H5 z4 (.tup [.ref z1, .ref z2, .ref p6])) z5 (.tup [.str "made", .ref z4]) z4 = some (.tup [.ref z1, .ref z2, .ref p6]) := s7 _ _ upd_same
            have s37 := ((s4.trans s5).trans s6).trans s7
            have nn := (n2.trans (same_nt s3)).trans (same_nt s37)
            refine ⟨_, _, rfl, sm3.same s37, .tup (SqT.of upd_same) (.cons (.str _) (.cons (.tup (SqT.of hz4') (.cons (.tup (SqT.of h4') (dqAll_nt nn g1)) (.cons (.tup (SqT.of h5') (dqAll_nt nn g2)) (.cons (.tup (SqT.of h6') (dqAll_nt nn g3)) .nil)))) .nil)), r1, r2, r3, rfl, ?_⟩
            have kf := S3.trans (same_kt S3.tab s37)
            have q := k _ (fun c o nc _ h => kf.keep c o nc (s1 _ _ h)) kf.tab
            rw [← decide_eq_true (rfl : V.str (PyData.tuple [.str "made", .tuple [.tuple ds1, .tuple ds2, .tuple ds3]]).shown = V.str (PyData.tuple [.str "made", .tuple [.tuple ds1, .tuple ds2, .tuple ds3]]).shown)] at q
            exact q
      · have y3s : seqOf H v3 = some xs3 := by
          unfold rowsOf at y3'
          rw [if_neg hn] at y3'
          exact y3'
        refine ifF (decide_eq_false hn) ?_
        have Y3 : seqOf H2 v3 = some xs3 := by rw [seq_nt n2 w3.th]; exact y3s
        have hL_H2 := hL2
        clear y3 y3' y3s q3 hn
        obtain ⟨a3, ea3, hb3⟩ := seq_some Y3
        subst ea3
        refine ⟨_, rfl, L, _, 2, _, rfl, rfl, SqL.of hL_H2, rfl, a3, xs3, rfl, ?_⟩
        rcases hb3 with hb3 | hb3
        · refine .inl ⟨SqL.of hb3, fun p6 hp6 => ?_⟩
          have s3 := same_alloc (o := .tup xs3) hp6
          have h6 : upd H2 p6 (.tup xs3) p6 = some (.tup xs3) := upd_same
          generalize upd H2 p6 (.tup xs3) = H3 at s3 h6 ⊢
          have hL_H3 := s3 _ _ hL_H2
          have S3 := k2.trans (same_kt k2.tab s3)
          have sm3 := sm2.same s3
          have tf : Dq K H3 (.ref p) (.tuple [.str "made", .tuple [.tuple ds1, .tuple ds2, .tuple ds3]]) := .tup (SqT.of (s3 _ _ e0)) (.cons (.str _) (.cons (.tup (SqT.of (s3 _ _ et)) (.cons (.tup (SqT.of (s3 _ _ e1)) (dqAll_nt (n2.trans (same_nt s3)) g1)) (.cons (.tup (SqT.of (s3 _ _ e2)) (dqAll_nt (n2.trans (same_nt s3)) g2)) (.cons (.tup (SqT.of (s3 _ _ e3)) (dqAll_nt (n2.trans (same_nt s3)) g3)) .nil)))) .nil))
          have Y1 : seqOf H3 v1 = some xs1 := by rw [seq_nt (n2.trans (same_nt s3)) w1.th]; exact y1
          have Y2 : ∀ {H4 : Hp}, Same H3 H4 → seqOf H4 v2 = some xs2 := fun s4 => by rw [seq_nt ((n2.trans (same_nt s3)).trans (same_nt s4)) w2.th]; exact y2
          clear w1 w2 w3
          refine ⟨_, rfl, _, _, rfl, sm3, tf, r1, r2, r3, ?_⟩
          obtain ⟨a1, ea1, hb1⟩ := seq_some Y1
          subst ea1
          refine ⟨_, rfl, L, _, 0, _, rfl, rfl, SqL.of hL_H3, rfl, a1, xs1, rfl, ?_⟩
          rcases hb1 with hb1 | hb1
          · refine .inl ⟨SqL.of hb1, fun z1 hz1 => ?_⟩
            have s4 := same_alloc (o := .tup xs1) hz1
            have h4 : upd H3 z1 (.tup xs1) z1 = some (.tup xs1) := upd_same
            generalize upd H3 z1 (.tup xs1) = H4 at s4 h4 ⊢
            have hL_H4 := s4 _ _ hL_H3
            obtain ⟨a2, ea2, hb2⟩ := seq_some (Y2 s4)
            subst ea2
            refine ⟨_, rfl, L, _, 1, _, rfl, rfl, SqL.of hL_H4, rfl, a2, xs2, rfl, ?_⟩
            rcases hb2 with hb2 | hb2
            · refine .inl ⟨SqL.of hb2, fun z2 hz2 => ?_⟩
              have s5 := same_alloc (o := .tup xs2) hz2
              have h5 : upd H4 z2 (.tup xs2) z2 = some (.tup xs2) := upd_same
              generalize upd H4 z2 (.tup xs2) = H5 at s5 h5 ⊢
              have hL_H5 := s5 _ _ hL_H4
              refine ⟨_, rfl, (by show 3 ≤ sizeLine; decide), fun z4 hz4 => ⟨(by show 2 ≤ sizeLine; decide), fun z5 hz5 => ?_⟩⟩
              have s6 := same_alloc (o := .tup [.ref z1, .ref z2, .ref p6]) hz4
              have s7 := same_alloc (o := .tup [.str "made", .ref z4]) hz5
              have h4' := s7 _ _ (s6 _ _ (s5 _ _ h4))
              have h5' := s7 _ _ (s6 _ _ h5)
              have h6' := s7 _ _ (s6 _ _ (s5 _ _ (s4 _ _ h6)))
              have hz4' : upd (upd H5 z4 (.tup [.ref z1, .ref z2, .ref p6])) z5 (.tup [.str "made", .ref z4]) z4 = some (.tup [.ref z1, .ref z2, .ref p6]) := s7 _ _ upd_same
              have s37 := ((s4.trans s5).trans s6).trans s7
              have nn := (n2.trans (same_nt s3)).trans (same_nt s37)
              refine ⟨_, _, rfl, sm3.same s37, .tup (SqT.of upd_same) (.cons (.str _) (.cons (.tup (SqT.of hz4') (.cons (.tup (SqT.of h4') (dqAll_nt nn g1)) (.cons (.tup (SqT.of h5') (dqAll_nt nn g2)) (.cons (.tup (SqT.of h6') (dqAll_nt nn g3)) .nil)))) .nil)), r1, r2, r3, rfl, ?_⟩
              have kf := S3.trans (same_kt S3.tab s37)
              have q := k _ (fun c o nc _ h => kf.keep c o nc (s1 _ _ h)) kf.tab
              rw [← decide_eq_true (rfl : V.str (PyData.tuple [.str "made", .tuple [.tuple ds1, .tuple ds2, .tuple ds3]]).shown = V.str (PyData.tuple [.str "made", .tuple [.tuple ds1, .tuple ds2, .tuple ds3]]).shown)] at q
              exact q
            · refine .inr ⟨SqT.of hb2, ?_⟩
              obtain ⟨z2, ez2⟩ : ∃ z2, z2 = a2 := ⟨_, rfl⟩
              obtain ⟨H5, eH5⟩ : ∃ H5, H5 = H4 := ⟨_, rfl⟩
              have s5 : Same H4 H5 := by rw [eH5]; exact Same.refl _
              have h5 : H5 z2 = some (.tup xs2) := by rw [ez2, eH5]; exact hb2
              rw [← ez2, ← eH5]
              have hL_H5 := s5 _ _ hL_H4
              refine ⟨_, rfl, (by show 3 ≤ sizeLine; decide), fun z4 hz4 => ⟨(by show 2 ≤ sizeLine; decide), fun z5 hz5 => ?_⟩⟩
              have s6 := same_alloc (o := .tup [.ref z1, .ref z2, .ref p6]) hz4
              have s7 := same_alloc (o := .tup [.str "made", .ref z4]) hz5
              have h4' := s7 _ _ (s6 _ _ (s5 _ _ h4))
              have h5' := s7 _ _ (s6 _ _ h5)
              have h6' := s7 _ _ (s6 _ _ (s5 _ _ (s4 _ _ h6)))
              have hz4' : upd (upd H5 z4 (.tup [.ref z1, .ref z2, .ref p6])) z5 (.tup [.str "made", .ref z4]) z4 = some (.tup [.ref z1, .ref z2, .ref p6]) := s7 _ _ upd_same
              have s37 := ((s4.trans s5).trans s6).trans s7
              have nn := (n2.trans (same_nt s3)).trans (same_nt s37)
              refine ⟨_, _, rfl, sm3.same s37, .tup (SqT.of upd_same) (.cons (.str _) (.cons (.tup (SqT.of hz4') (.cons (.tup (SqT.of h4') (dqAll_nt nn g1)) (.cons (.tup (SqT.of h5') (dqAll_nt nn g2)) (.cons (.tup (SqT.of h6') (dqAll_nt nn g3)) .nil)))) .nil)), r1, r2, r3, rfl, ?_⟩
              have kf := S3.trans (same_kt S3.tab s37)
              have q := k _ (fun c o nc _ h => kf.keep c o nc (s1 _ _ h)) kf.tab
              rw [← decide_eq_true (rfl : V.str (PyData.tuple [.str "made", .tuple [.tuple ds1, .tuple ds2, .tuple ds3]]).shown = V.str (PyData.tuple [.str "made", .tuple [.tuple ds1, .tuple ds2, .tuple ds3]]).shown)] at q
              exact q
          · refine .inr ⟨SqT.of hb1, ?_⟩
            obtain ⟨z1, ez1⟩ : ∃ z1, z1 = a1 := ⟨_, rfl⟩
            obtain ⟨H4, eH4⟩ : ∃ H4, H4 = H3 := ⟨_, rfl⟩
            have s4 : Same H3 H4 := by rw [eH4]; exact Same.refl _
            have h4 : H4 z1 = some (.tup xs1) := by rw [ez1, eH4]; exact hb1
            rw [← ez1, ← eH4]
            have hL_H4 := s4 _ _ hL_H3
            obtain ⟨a2, ea2, hb2⟩ := seq_some (Y2 s4)
            subst ea2
            refine ⟨_, rfl, L, _, 1, _, rfl, rfl, SqL.of hL_H4, rfl, a2, xs2, rfl, ?_⟩
            rcases hb2 with hb2 | hb2
            · refine .inl ⟨SqL.of hb2, fun z2 hz2 => ?_⟩
              have s5 := same_alloc (o := .tup xs2) hz2
              have h5 : upd H4 z2 (.tup xs2) z2 = some (.tup xs2) := upd_same
              generalize upd H4 z2 (.tup xs2) = H5 at s5 h5 ⊢
              have hL_H5 := s5 _ _ hL_H4
              refine ⟨_, rfl, (by show 3 ≤ sizeLine; decide), fun z4 hz4 => ⟨(by show 2 ≤ sizeLine; decide), fun z5 hz5 => ?_⟩⟩
              have s6 := same_alloc (o := .tup [.ref z1, .ref z2, .ref p6]) hz4
              have s7 := same_alloc (o := .tup [.str "made", .ref z4]) hz5
              have h4' := s7 _ _ (s6 _ _ (s5 _ _ h4))
              have h5' := s7 _ _ (s6 _ _ h5)
              have h6' := s7 _ _ (s6 _ _ (s5 _ _ (s4 _ _ h6)))
              have hz4' : upd (upd H5 z4 (.tup [.ref z1, .ref z2, .ref p6])) z5 (.tup [.str "made", .ref z4]) z4 = some (.tup [.ref z1, .ref z2, .ref p6]) := s7 _ _ upd_same
              have s37 := ((s4.trans s5).trans s6).trans s7
              have nn := (n2.trans (same_nt s3)).trans (same_nt s37)
              refine ⟨_, _, rfl, sm3.same s37, .tup (SqT.of upd_same) (.cons (.str _) (.cons (.tup (SqT.of hz4') (.cons (.tup (SqT.of h4') (dqAll_nt nn g1)) (.cons (.tup (SqT.of h5') (dqAll_nt nn g2)) (.cons (.tup (SqT.of h6') (dqAll_nt nn g3)) .nil)))) .nil)), r1, r2, r3, rfl, ?_⟩
              have kf := S3.trans (same_kt S3.tab s37)
              have q := k _ (fun c o nc _ h => kf.keep c o nc (s1 _ _ h)) kf.tab
              rw [← decide_eq_true (rfl : V.str (PyData.tuple [.str "made", .tuple [.tuple ds1, .tuple ds2, .tuple ds3]]).shown = V.str (PyData.tuple [.str "made", .tuple [.tuple ds1, .tuple ds2, .tuple ds3]]).shown)] at q
              exact q
            · refine .inr ⟨SqT.of hb2, ?_⟩
              obtain ⟨z2, ez2⟩ : ∃ z2, z2 = a2 := ⟨_, rfl⟩
              obtain ⟨H5, eH5⟩ : ∃ H5, H5 = H4 := ⟨_, rfl⟩
              have s5 : Same H4 H5 := by rw [eH5]; exact Same.refl _
              have h5 : H5 z2 = some (.tup xs2) := by rw [ez2, eH5]; exact hb2
              rw [← ez2, ← eH5]
              have hL_H5 := s5 _ _ hL_H4
              refine ⟨_, rfl, (by show 3 ≤ sizeLine; decide), fun z4 hz4 => ⟨(by show 2 ≤ sizeLine; decide), fun z5 hz5 => ?_⟩⟩
              have s6 := same_alloc (o := .tup [.ref z1, .ref z2, .ref p6]) hz4
              have s7 := same_alloc (o := .tup [.str "made", .ref z4]) hz5
              have h4' := s7 _ _ (s6 _ _ (s5 _ _ h4))
              have h5' := s7 _ _ (s6 _ _ h5)
              have h6' := s7 _ _ (s6 _ _ (s5 _ _ (s4 _ _ h6)))
              have hz4' : upd (upd H5 z4 (.tup [.ref z1, .ref z2, .ref p6])) z5 (.tup [.str "made", .ref z4]) z4 = some (.tup [.ref z1, .ref z2, .ref p6]) := s7 _ _ upd_same
              have s37 := ((s4.trans s5).trans s6).trans s7
              have nn := (n2.trans (same_nt s3)).trans (same_nt s37)
              refine ⟨_, _, rfl, sm3.same s37, .tup (SqT.of upd_same) (.cons (.str _) (.cons (.tup (SqT.of hz4') (.cons (.tup (SqT.of h4') (dqAll_nt nn g1)) (.cons (.tup (SqT.of h5') (dqAll_nt nn g2)) (.cons (.tup (SqT.of h6') (dqAll_nt nn g3)) .nil)))) .nil)), r1, r2, r3, rfl, ?_⟩
              have kf := S3.trans (same_kt S3.tab s37)
              have q := k _ (fun c o nc _ h => kf.keep c o nc (s1 _ _ h)) kf.tab
              rw [← decide_eq_true (rfl : V.str (PyData.tuple [.str "made", .tuple [.tuple ds1, .tuple ds2, .tuple ds3]]).shown = V.str (PyData.tuple [.str "made", .tuple [.tuple ds1, .tuple ds2, .tuple ds3]]).shown)] at q
              exact q
        · refine .inr ⟨SqT.of hb3, ?_⟩
          obtain ⟨p6, ep6⟩ : ∃ p6, p6 = a3 := ⟨_, rfl⟩
          obtain ⟨H3, eH3⟩ : ∃ H3, H3 = H2 := ⟨_, rfl⟩
          have s3 : Same H2 H3 := by rw [eH3]; exact Same.refl _
          have h6 : H3 p6 = some (.tup xs3) := by rw [ep6, eH3]; exact hb3
          rw [← ep6, ← eH3]
          have hL_H3 := s3 _ _ hL_H2
          have S3 := k2.trans (same_kt k2.tab s3)
          have sm3 := sm2.same s3
          have tf : Dq K H3 (.ref p) (.tuple [.str "made", .tuple [.tuple ds1, .tuple ds2, .tuple ds3]]) := .tup (SqT.of (s3 _ _ e0)) (.cons (.str _) (.cons (.tup (SqT.of (s3 _ _ et)) (.cons (.tup (SqT.of (s3 _ _ e1)) (dqAll_nt (n2.trans (same_nt s3)) g1)) (.cons (.tup (SqT.of (s3 _ _ e2)) (dqAll_nt (n2.trans (same_nt s3)) g2)) (.cons (.tup (SqT.of (s3 _ _ e3)) (dqAll_nt (n2.trans (same_nt s3)) g3)) .nil)))) .nil))
          have Y1 : seqOf H3 v1 = some xs1 := by rw [seq_nt (n2.trans (same_nt s3)) w1.th]; exact y1
          have Y2 : ∀ {H4 : Hp}, Same H3 H4 → seqOf H4 v2 = some xs2 := fun s4 => by rw [seq_nt ((n2.trans (same_nt s3)).trans (same_nt s4)) w2.th]; exact y2
          clear w1 w2 w3
          refine ⟨_, rfl, _, _, rfl, sm3, tf, r1, r2, r3, ?_⟩
          obtain ⟨a1, ea1, hb1⟩ := seq_some Y1
          subst ea1
          refine ⟨_, rfl, L, _, 0, _, rfl, rfl, SqL.of hL_H3, rfl, a1, xs1, rfl, ?_⟩
          rcases hb1 with hb1 | hb1
          · refine .inl ⟨SqL.of hb1, fun z1 hz1 => ?_⟩
            have s4 := same_alloc (o := .tup xs1) hz1
            have h4 : upd H3 z1 (.tup xs1) z1 = some (.tup xs1) := upd_same
            generalize upd H3 z1 (.tup xs1) = H4 at s4 h4 ⊢
            have hL_H4 := s4 _ _ hL_H3
            obtain ⟨a2, ea2, hb2⟩ := seq_some (Y2 s4)
            subst ea2
            refine ⟨_, rfl, L, _, 1, _, rfl, rfl, SqL.of hL_H4, rfl, a2, xs2, rfl, ?_⟩
            rcases hb2 with hb2 | hb2
            · refine .inl ⟨SqL.of hb2, fun z2 hz2 => ?_⟩
              have s5 := same_alloc (o := .tup xs2) hz2
              have h5 : upd H4 z2 (.tup xs2) z2 = some (.tup xs2) := upd_same
              generalize upd H4 z2 (.tup xs2) = H5 at s5 h5 ⊢
              have hL_H5 := s5 _ _ hL_H4
              refine ⟨_, rfl, (by show 3 ≤ sizeLine; decide), fun z4 hz4 => ⟨(by show 2 ≤ sizeLine; decide), fun z5 hz5 => ?_⟩⟩
              have s6 := same_alloc (o := .tup [.ref z1, .ref z2, .ref p6]) hz4
              have s7 := same_alloc (o := .tup [.str "made", .ref z4]) hz5
              have h4' := s7 _ _ (s6 _ _ (s5 _ _ h4))
              have h5' := s7 _ _ (s6 _ _ h5)
              have h6' := s7 _ _ (s6 _ _ (s5 _ _ (s4 _ _ h6)))
              have hz4' : upd (upd H5 z4 (.tup [.ref z1, .ref z2, .ref p6])) z5 (.tup [.str "made", .ref z4]) z4 = some (.tup [.ref z1, .ref z2, .ref p6]) := s7 _ _ upd_same
              have s37 := ((s4.trans s5).trans s6).trans s7
              have nn := (n2.trans (same_nt s3)).trans (same_nt s37)
              refine ⟨_, _, rfl, sm3.same s37, .tup (SqT.of upd_same) (.cons (.str _) (.cons (.tup (SqT.of hz4') (.cons (.tup (SqT.of h4') (dqAll_nt nn g1)) (.cons (.tup (SqT.of h5') (dqAll_nt nn g2)) (.cons (.tup (SqT.of h6') (dqAll_nt nn g3)) .nil)))) .nil)), r1, r2, r3, rfl, ?_⟩
              have kf := S3.trans (same_kt S3.tab s37)
              have q := k _ (fun c o nc _ h => kf.keep c o nc (s1 _ _ h)) kf.tab
              rw [← decide_eq_true (rfl : V.str (PyData.tuple [.str "made", .tuple [.tuple ds1, .tuple ds2, .tuple ds3]]).shown = V.str (PyData.tuple [.str "made", .tuple [.tuple ds1, .tuple ds2, .tuple ds3]]).shown)] at q
              exact q
            · refine .inr ⟨SqT.of hb2, ?_⟩
              obtain ⟨z2, ez2⟩ : ∃ z2, z2 = a2 := ⟨_, rfl⟩
              obtain ⟨H5, eH5⟩ : ∃ H5, H5 = H4 := ⟨_, rfl⟩
              have s5 : Same H4 H5 := by rw [eH5]; exact Same.refl _
              have h5 : H5 z2 = some (.tup xs2) := by rw [ez2, eH5]; exact hb2
              rw [← ez2, ← eH5]
              have hL_H5 := s5 _ _ hL_H4
              refine ⟨_, rfl, (by show 3 ≤ sizeLine; decide), fun z4 hz4 => ⟨(by show 2 ≤ sizeLine; decide), fun z5 hz5 => ?_⟩⟩
              have s6 := same_alloc (o := .tup [.ref z1, .ref z2, .ref p6]) hz4
              have s7 := same_alloc (o := .tup [.str "made", .ref z4]) hz5
              have h4' := s7 _ _ (s6 _ _ (s5 _ _ h4))
              have h5' := s7 _ _ (s6 _ _ h5)
              have h6' := s7 _ _ (s6 _ _ (s5 _ _ (s4 _ _ h6)))
              have hz4' : upd (upd H5 z4 (.tup [.ref z1, .ref z2, .ref p6])) z5 (.tup [.str "made", .ref z4]) z4 = some (.tup [.ref z1, .ref z2, .ref p6]) := s7 _ _ upd_same
              have s37 := ((s4.trans s5).trans s6).trans s7
              have nn := (n2.trans (same_nt s3)).trans (same_nt s37)
              refine ⟨_, _, rfl, sm3.same s37, .tup (SqT.of upd_same) (.cons (.str _) (.cons (.tup (SqT.of hz4') (.cons (.tup (SqT.of h4') (dqAll_nt nn g1)) (.cons (.tup (SqT.of h5') (dqAll_nt nn g2)) (.cons (.tup (SqT.of h6') (dqAll_nt nn g3)) .nil)))) .nil)), r1, r2, r3, rfl, ?_⟩
              have kf := S3.trans (same_kt S3.tab s37)
              have q := k _ (fun c o nc _ h => kf.keep c o nc (s1 _ _ h)) kf.tab
              rw [← decide_eq_true (rfl : V.str (PyData.tuple [.str "made", .tuple [.tuple ds1, .tuple ds2, .tuple ds3]]).shown = V.str (PyData.tuple [.str "made", .tuple [.tuple ds1, .tuple ds2, .tuple ds3]]).shown)] at q
              exact q
          · refine .inr ⟨SqT.of hb1, ?_⟩
            obtain ⟨z1, ez1⟩ : ∃ z1, z1 = a1 := ⟨_, rfl⟩
            obtain ⟨H4, eH4⟩ : ∃ H4, H4 = H3 := ⟨_, rfl⟩
            have s4 : Same H3 H4 := by rw [eH4]; exact Same.refl _
            have h4 : H4 z1 = some (.tup xs1) := by rw [ez1, eH4]; exact hb1
            rw [← ez1, ← eH4]
            have hL_H4 := s4 _ _ hL_H3
            obtain ⟨a2, ea2, hb2⟩ := seq_some (Y2 s4)
            subst ea2
            refine ⟨_, rfl, L, _, 1, _, rfl, rfl, SqL.of hL_H4, rfl, a2, xs2, rfl, ?_⟩
            rcases hb2 with hb2 | hb2
            · refine .inl ⟨SqL.of hb2, fun z2 hz2 => ?_⟩
              have s5 := same_alloc (o := .tup xs2) hz2
              have h5 : upd H4 z2 (.tup xs2) z2 = some (.tup xs2) := upd_same
              generalize upd H4 z2 (.tup xs2) = H5 at s5 h5 ⊢
              have hL_H5 := s5 _ _ hL_H4
              refine ⟨_, rfl, (by show 3 ≤ sizeLine; decide), fun z4 hz4 => ⟨(by show 2 ≤ sizeLine; decide), fun z5 hz5 => ?_⟩⟩
              have s6 := same_alloc (o := .tup [.ref z1, .ref z2, .ref p6]) hz4
              have s7 := same_alloc (o := .tup [.str "made", .ref z4]) hz5
              have h4' := s7 _ _ (s6 _ _ (s5 _ _ h4))
              have h5' := s7 _ _ (s6 _ _ h5)
              have h6' := s7 _ _ (s6 _ _ (s5 _ _ (s4 _ _ h6)))
              have hz4' : upd (upd H5 z4 (.tup [.ref z1, .ref z2, .ref p6])) z5 (.tup [.str "made", .ref z4]) z4 = some (.tup [.ref z1, .ref z2, .ref p6]) := s7 _ _ upd_same
              have s37 := ((s4.trans s5).trans s6).trans s7
              have nn := (n2.trans (same_nt s3)).trans (same_nt s37)
              refine ⟨_, _, rfl, sm3.same s37, .tup (SqT.of upd_same) (.cons (.str _) (.cons (.tup (SqT.of hz4') (.cons (.tup (SqT.of h4') (dqAll_nt nn g1)) (.cons (.tup (SqT.of h5') (dqAll_nt nn g2)) (.cons (.tup (SqT.of h6') (dqAll_nt nn g3)) .nil)))) .nil)), r1, r2, r3, rfl, ?_⟩
              have kf := S3.trans (same_kt S3.tab s37)
              have q := k _ (fun c o nc _ h => kf.keep c o nc (s1 _ _ h)) kf.tab
              rw [← decide_eq_true (rfl : V.str (PyData.tuple [.str "made", .tuple [.tuple ds1, .tuple ds2, .tuple ds3]]).shown = V.str (PyData.tuple [.str "made", .tuple [.tuple ds1, .tuple ds2, .tuple ds3]]).shown)] at q
              exact q
            · refine .inr ⟨SqT.of hb2, ?_⟩
              obtain ⟨z2, ez2⟩ : ∃ z2, z2 = a2 := ⟨_, rfl⟩
              obtain ⟨H5, eH5⟩ : ∃ H5, H5 = H4 := ⟨_, rfl⟩
              have s5 : Same H4 H5 := by rw [eH5]; exact Same.refl _
              have h5 : H5 z2 = some (.tup xs2) := by rw [ez2, eH5]; exact hb2
              rw [← ez2, ← eH5]
              have hL_H5 := s5 _ _ hL_H4
              refine ⟨_, rfl, (by show 3 ≤ sizeLine; decide), fun z4 hz4 => ⟨(by show 2 ≤ sizeLine; decide), fun z5 hz5 => ?_⟩⟩
              have s6 := same_alloc (o := .tup [.ref z1, .ref z2, .ref p6]) hz4
              have s7 := same_alloc (o := .tup [.str "made", .ref z4]) hz5
              have h4' := s7 _ _ (s6 _ _ (s5 _ _ h4))
              have h5' := s7 _ _ (s6 _ _ h5)
              have h6' := s7 _ _ (s6 _ _ (s5 _ _ (s4 _ _ h6)))
              have hz4' : upd (upd H5 z4 (.tup [.ref z1, .ref z2, .ref p6])) z5 (.tup [.str "made", .ref z4]) z4 = some (.tup [.ref z1, .ref z2, .ref p6]) := s7 _ _ upd_same
              have s37 := ((s4.trans s5).trans s6).trans s7
              have nn := (n2.trans (same_nt s3)).trans (same_nt s37)
              refine ⟨_, _, rfl, sm3.same s37, .tup (SqT.of upd_same) (.cons (.str _) (.cons (.tup (SqT.of hz4') (.cons (.tup (SqT.of h4') (dqAll_nt nn g1)) (.cons (.tup (SqT.of h5') (dqAll_nt nn g2)) (.cons (.tup (SqT.of h6') (dqAll_nt nn g3)) .nil)))) .nil)), r1, r2, r3, rfl, ?_⟩
              have kf := S3.trans (same_kt S3.tab s37)
              have q := k _ (fun c o nc _ h => kf.keep c o nc (s1 _ _ h)) kf.tab
              rw [← decide_eq_true (rfl : V.str (PyData.tuple [.str "made", .tuple [.tuple ds1, .tuple ds2, .tuple ds3]]).shown = V.str (PyData.tuple [.str "made", .tuple [.tuple ds1, .tuple ds2, .tuple ds3]]).shown)] at q
              exact q
    | some d =>
      obtain ⟨t, x⟩ := d
      rw [hd] at du fo
      obtain ⟨p, rfl, hp1⟩ := du
      obtain ⟨p', rfl, hp'⟩ := fo
      have hp := KT.nt tb1 k2 _ _ (by simp) hp1
      have wx := due_wf w1 w2 w3 hd
      have wx2 := wx.keep (Kw.nt n2)
      clear m1 m2 m3 SL DL hp1
      refine ⟨_, rfl, rfl, _, rfl, ifF (by rw [decide_eq_false (by simp)]) ?_⟩
      have both : ∀ {H' : Hp} {c : PyData}, H' p = some (.tup [.str (Str.ofString t.s), x]) → H' p' = some (.tup [.str (Str.ofString t.s), x]) → Dq K H' x c → Dq K H' (.ref p) (.tuple [.str (Str.ofString t.s), c]) ∧ Dq K H' (.ref p') (.tuple [.str (Str.ofString t.s), c]) := fun h1 h2 q =>
        ⟨.tup (SqT.of h1) (.cons (.str _) (.cons q .nil)), .tup (SqT.of h2) (.cons (.str _) (.cons q .nil))⟩
      obtain ⟨c, q, b⟩ := wx2.dq (K := K) (by decide)
      obtain ⟨r1, r2, r3⟩ := (sb_due (t := t) (b.mono (Nat.le_refl _) (by decide))).rep (by decide) (by decide)
      obtain ⟨Dd, Df⟩ := both hp hp' q
      refine ⟨_, rfl, _, _, rfl, sm2, Df, r1, r2, r3, _, rfl, _, _, rfl, sm2, Dd, r1, r2, r3, rfl, _, rfl, ifF (by rw [decide_eq_true rfl]; rfl) ?_⟩
      refine ⟨_, rfl, p, _, 1, x, rfl, rfl, SqT.of hp, rfl, rIsi_lst wx2.th ?_⟩
      cases hl : lstOf H2 x with
      | none =>
        refine ⟨_, rfl, iteF ⟨_, rfl, _, _, rfl, sm2, Df, r1, r2, r3, _, rfl, _, _, rfl, sm2, Dd, r1, r2, r3, rfl, ?_⟩⟩
        have q := k H2 (fun c o nc _ h => k2.keep c o nc (s1 _ _ h)) k2.tab
        rw [← decide_eq_true (rfl : V.str (PyData.tuple [.str (Str.ofString t.s), c]).shown = V.str (PyData.tuple [.str (Str.ofString t.s), c]).shown)] at q
        exact q
      | some xs =>
        obtain ⟨a, rfl, ha, nMa, lx, _⟩ := wx2.isL hl
        refine ⟨_, rfl, iteT ⟨_, rfl, p, _, 1, .ref a, rfl, rfl, SqT.of hp, rfl, .inl ⟨rfl, _, SqL.of ha⟩, a, xs, _, rfl, rfl, ha, lt_line _ (by omega), ?_⟩⟩
        have w10 := wx2.more ha (good_of "more") (by decide +kernel)
        have npa : p ≠ a := ne_of hp ha (by simp)
        have npa' : p' ≠ a := ne_of hp' ha (by simp)
        have hp3 : upd H2 a (.lst (xs ++ [.str "more"])) p = some (.tup [.str (Str.ofString t.s), .ref a]) := by rw [upd_ne npa]; exact hp
        have hp3' : upd H2 a (.lst (xs ++ [.str "more"])) p' = some (.tup [.str (Str.ofString t.s), .ref a]) := by rw [upd_ne npa']; exact hp'
        have sm3 : SmAt (upd H2 a (.lst (xs ++ [.str "more"]))) := by
          obtain ⟨o, e⟩ := sm2
          exact ⟨o, by rw [upd_ne (ne_of e ha (by simp))]; exact e⟩
        have kf : ∀ c o, c ≠ Pt → ¬ N c → H c = some o → upd H2 a (.lst (xs ++ [.str "more"])) c = some o := fun c o nc nn h => by
          rw [upd_ne (fun z => nn (by rw [z]; exact nMa))]
          exact k2.keep c o nc (s1 _ _ h)
        have tb3 : TabG (upd H2 a (.lst (xs ++ [.str "more"]))) Pt := by
          obtain ⟨ps, e, z⟩ := k2.tab
          exact ⟨ps, by rw [upd_ne (ne_of e ha (by simp))]; exact e, z⟩
        have fin := k _ kf tb3
        obtain ⟨c', q', b'⟩ := w10.dq (K := K) (by decide)
        obtain ⟨r1, r2, r3⟩ := (sb_due (t := t) (b'.mono (Nat.le_refl _) (by decide))).rep (by decide) (by decide)
        obtain ⟨Dd', Df'⟩ := both hp3 hp3' q'
        refine ⟨_, rfl, _, _, rfl, sm3, Df', r1, r2, r3, _, rfl, _, _, rfl, sm3, Dd', r1, r2, r3, rfl, ?_⟩
        rw [← decide_eq_true (rfl : V.str (PyData.tuple [.str (Str.ofString t.s), c']).shown = V.str (PyData.tuple [.str (Str.ofString t.s), c']).shown)] at fin
        exact fin
end
end K4

set_option maxRecDepth 100000
set_option maxHeartbeats 400000
namespace K4
open PySem PySem.Spec PyProof.Rows L2 GxR Gd TL My
theorem nw_hide {H0 H : Hp} {L : Addr} (h : H0 L ≠ none) : Nt (nw H0 H) (hide L H) := fun c o _ e => by
  obtain ⟨h1, h2⟩ := nw_some e
  rw [hide_ne (fun q : c = L => h (by rw [← q]; exact h1))]
  exact h2
theorem tab_kb {b Pt : Addr} {H H' : Hp} (tb : TabG H Pt) (n : b ≠ Pt) (k : KB b H H') : TabG H' Pt := by
  obtain ⟨ps, e, t⟩ := tb
  exact ⟨ps, k _ _ n.symm e, t⟩
section
variable {P : Program} {w : World} {K : PySem.W.Frag} {mg : Str → Option Value} {base : Heap}
def spLaw (K : PySem.W.Frag) (Pt : Addr) : Sp := fun vs H Q _ => ∃ (a : Addr) (ns : List Int), vs = [.ref a] ∧ SqL K H a (ns.map V.int) ∧ ns.length ≤ 63 ∧ TabG H Pt ∧ SmAt H ∧ ∀ H', Q (.bl true) H'
theorem ok_law {f fC fB fW fS fR Pt : Addr} {fd fdC fdB fdW fdS fdR : FuncData} (F : Fun K "law" "law" s_law f fd) (T : Txt mg)
    (Nlaw_cell : Fn K mg "_law_cell" sCell ["_law_script", "_law_k"] fC fdC) (Glaw_cell : FnOk P w K mg base CX0 1 fC fdC ["_law_script", "_law_k"] (spCell K))
    (Nlaw_box : Fn K mg "_law_box" sBox ["_law_cell_here"] fB fdB) (Glaw_box : FnOk P w K mg base CX0 1 fB fdB ["_law_cell_here"] spBox)
    (Nlaw_world : Fn K mg "_law_world" s_law_world ["_law_box_here"] fW fdW) (Glaw_world : FnOk P w K mg base CX0 3 fW fdW ["_law_box_here"] (spWorld K))
    (Nlaw_spoilt : Fn K mg "_law_spoilt" s_law_spoilt ["_law_box_here", "_law_world_here"] fS fdS) (Glaw_spoilt : FnOk P w K mg base CX0 5 fS fdS ["_law_box_here", "_law_world_here"] (spSpoilt K))
    (Nlaw_right : Fn K mg "_law_right" s_law_right ["_law_some"] fR fdR) (Glaw_right : GOk P w K mg base CX0 9 fR fdR ["_law_some"] (spRight Pt)) :
    GOk P w K mg base CX0 10 f fd ["_law_script"] (spLaw K Pt) := by
  refine gok F sc_law (fun vs H Q E h => ?_) (fun cdv A outer s H vs Q E gd hr h => ?_)
  · obtain ⟨a, ns, rfl, _⟩ := h
    rfl
  · obtain ⟨a, ns, rfl, hS, hlen, hT, sm, k⟩ := h
    refine ⟨_, pss_cons (ps_for PassesOwn.never rfl (pi_range1 (by rfl) T.range_ (pa_cons (pe_callB (call_max2 rfl) (by rfl) T.max_ (by decide +kernel) (pa_cons pe_int (pa_cons (pe_callB (call_min2 rfl) (by rfl) T.min_ (by decide +kernel) (pa_cons pe_int (pa_cons (pe_callB call_len_seq (by rfl) T.len_ PySem.boot_len (pa_cons (pv 0) pa_nil)) pa_nil))) pa_nil))) pa_nil)) (pg_name (i := 1) sc_law.nd rfl (Or.inl rfl)) (pss_cons (ps_set (i := 2) sc_law.nd rfl (Or.inl rfl) (pe_call Glaw_box (hr.mono (by decide)) (by rfl) Nlaw_box.g Nlaw_box.kp Nlaw_box.b .nil pass0 (pa_cons (pe_call Glaw_cell (hr.mono (by decide)) (by rfl) Nlaw_cell.g Nlaw_cell.kp Nlaw_cell.b .nil pass0 (pa_cons (pv 0) (pa_cons (pv 1) pa_nil))) pa_nil)))
          (pss_cons (ps_set (i := 3) sc_law.nd rfl (Or.inl rfl) (pe_call Glaw_world (hr.mono (by decide)) (by rfl) Nlaw_world.g Nlaw_world.kp Nlaw_world.b .nil pass0 (pa_cons (pv 2) pa_nil)))
          (pss_one (ps_if (PW.pt (pw_or (pt_not (pt_val (pe_gcall gd Glaw_right (hr.mono (by decide)) (by rfl) Nlaw_right.g Nlaw_right.kp Nlaw_right.b .nil pass0 (pa_cons (pe_call Glaw_spoilt (hr.mono (by decide)) (by rfl) Nlaw_spoilt.g Nlaw_spoilt.kp Nlaw_spoilt.b .nil pass0 (pa_cons (pv 2) (pa_cons (pv 3) pa_nil))) pa_nil)))) (pw_or1 (pt_not (pt_val (pe_gcall gd Glaw_right (hr.mono (by decide)) (by rfl) Nlaw_right.g Nlaw_right.kp Nlaw_right.b .nil pass0 (pa_cons (pe_call Glaw_spoilt (hr.mono (by decide)) (by rfl) Nlaw_spoilt.g Nlaw_spoilt.kp Nlaw_spoilt.b .nil pass0 (pa_cons (pv 2) (pa_cons (pv 3) pa_nil))) pa_nil))))))) (pss_one (ps_ret pe_bl)) pss_nil)))))
      (pss_one (ps_ret pe_bl)), ?_⟩
    refine ⟨_, rfl, a, _, rfl, .inl hS, _, _, rfl, _, _, rfl, ?_⟩
    obtain ⟨N, hN, N2, N12⟩ : ∃ N : Nat, (if (if (((ns.map V.int).length : Nat) : Int) < 12 then (((ns.map V.int).length : Nat) : Int) else 12) > 2 then (if (((ns.map V.int).length : Nat) : Int) < 12 then (((ns.map V.int).length : Nat) : Int) else 12) else 2) = (N : Int) ∧ 2 ≤ N ∧ N ≤ 12 := by
      rw [List.length_map]
      refine ⟨max 2 (min 12 ns.length), ?_, by omega, by omega⟩
      split <;> split <;> omega
    rw [hN]
    refine ⟨_, rfl, by omega, by omega, ?_⟩
    rw [Int.toNat_natCast]
    refine for_range (lo := 0) (n := N) (fun i σ H' => ∃ v1 v2 v3 : Option V, σ = [some (.ref a), v1, v2, v3] ∧ KT Pt H H') ⟨_, _, _, rfl, KT.refl hT⟩ ?_ ?_
    · rintro i σ H1 hi ⟨v1, v2, v3, rfl, k1⟩
      have hS1 := seq_kt hT k1 hS
      refine ⟨_, rfl, _, rfl, a, ns, i, ?_, hS1, fun c => ?_⟩
      · show [V.ref a, V.int (0 + (i : Int))] = [V.ref a, V.int i]
        rw [Int.zero_add]
      refine ⟨c, rfl, fun b H2 fb off2 B2 => ?_⟩
      refine ⟨_, rfl, b, 0, rfl, B2, by omega, fun wd v H3 ok k3 hD B3 => ?_⟩
      have kk : KT Pt H1 H3 := KT.box k1.tab fb off2 k3
      have nbP : b ≠ Pt := (by
        obtain ⟨ps, e⟩ := TabG.at k1.tab
        exact (ne_of_none e fb).symm)
      have hb2 : H2 b ≠ none := by
        obtain ⟨_, _, _, q, _⟩ := B2
        rw [q]
        simp
      have hDh := dr_nt (nw_hide (H := H3) hb2) hD
      have k13 := k1.trans kk
      have tab3 := kk.tab
      have sm3 : SmAt H3 := by
        obtain ⟨o, e⟩ := sm
        exact ⟨o, k13.keep _ _ (ne_tab hT e (by simp)) e⟩
      obtain ⟨W, rfl⟩ : ∃ W, v = .ref W := by
        unfold Wd.data at hDh
        cases hDh with
        | lst e h => exact ⟨_, rfl⟩
      have nb1 : H3 b ≠ none := by
        obtain ⟨_, _, _, q, _⟩ := B3
        rw [q]
        simp
      refine ⟨_, rfl, _, rfl, b, W, _, wd, (fun a => H3 a = none), rfl, B3, by omega, ok, nb1, fun a h => h, hDh, fun L1 u1 u2 u3 X1 kb1 C1 nL1 eL1 w11 w21 w31 => ?_⟩
      have tX1 := tab_kb tab3 nbP kb1
      have sX1 : SmAt X1 := by
        obtain ⟨o, e⟩ := sm3
        refine ⟨o, kb1 _ _ (fun z => ?_) e⟩
        obtain ⟨_, _, _, q, _⟩ := B3
        rw [z, q] at e
        cases e
      refine ⟨(fun a => H3 a = none), L1, u1, u2, u3, rfl, eL1, w11, w21, w31, tX1, sX1, fun H5 kp1 tab5 => ?_⟩
      have far1 : ∀ {c o}, c ≠ b → c ≠ Pt → H3 c = some o → H5 c = some o := fun n1 n2 h => kp1 _ _ n2 (fun z => by rw [show _ = none from z] at h; cases h) (kb1 _ _ n1 h)
      have B5 : Bx b 500 H5 := by
        obtain ⟨x1, y1, z1, q, r⟩ := C1
        exact ⟨x1, y1, z1, kp1 _ _ nbP nb1 q, by omega⟩
      have hD5 : Dr (hide b H5) (.ref W) wd.data := dr_nt (fun c o nt h => by
        obtain ⟨h1, h2⟩ := hide_some h
        rw [hide_ne h1]
        exact far1 h1 (ne_tab tab3 h2 nt) h2) hDh
      have sm5 : SmAt H5 := by
        obtain ⟨o, e⟩ := sX1
        refine ⟨o, kp1 _ _ (ne_tab tX1 e (by simp)) (fun z => ?_) e⟩
        obtain ⟨o', e'⟩ := sm3
        have z' : H3 sysModules = none := z
        rw [e'] at z'
        cases z'
      refine ⟨_, rfl, iteF ?_⟩
      have nb2 : H5 b ≠ none := by
        obtain ⟨_, _, _, q, _⟩ := B5
        rw [q]
        simp
      refine ⟨_, rfl, _, rfl, b, W, _, wd, (fun a => H5 a = none), rfl, B5, by omega, ok, nb2, fun a h => h, hD5, fun L2 u1 u2 u3 X2 kb2 C2 nL2 eL2 w12 w22 w32 => ?_⟩
      have tX2 := tab_kb tab5 nbP kb2
      have sX2 : SmAt X2 := by
        obtain ⟨o, e⟩ := sm5
        refine ⟨o, kb2 _ _ (fun z => ?_) e⟩
        obtain ⟨_, _, _, q, _⟩ := B5
        rw [z, q] at e
        cases e
      refine ⟨(fun a => H5 a = none), L2, u1, u2, u3, rfl, eL2, w12, w22, w32, tX2, sX2, fun H7 kp2 tab7 => ?_⟩
      have far2 : ∀ {c o}, c ≠ b → c ≠ Pt → H5 c = some o → H7 c = some o := fun n1 n2 h => kp2 _ _ n2 (fun z => by rw [show _ = none from z] at h; cases h) (kb2 _ _ n1 h)
      refine ⟨_, rfl, iteF ⟨_, _, _, rfl, fun c o nc h => ?_, tab7⟩⟩
      have nbc : ∀ {o}, H1 c = some o → c ≠ b := fun h => ne_of_none h fb
      have h1 := k1.keep c o nc h
      have ncb := nbc h1
      exact far2 ncb nc (far1 ncb nc (kk.keep c o nc h1))
    · rintro σ H1 ⟨v1, v2, v3, rfl, k1⟩
      exact k H1
end
end K4

set_option maxRecDepth 100000
set_option maxHeartbeats 4000000
/-! The end of a law with tables whose own def shows dicts. -/
namespace Gd
open PySem PySem.Spec PyProof.Rows L2 GxR
open Classical in
noncomputable def hm0 (K : PySem.W.Frag) (a : Addr) (vs : List Value) (ns : List Int) (T : List Addr) (o1 : Obj) : Hp := fun b => if b = sysModules then some (.frz o1 smU) else h0 K a vs ns T b
theorem hm0_inv {K : PySem.W.Frag} {a b : Addr} {vs : List Value} {ns : List Int} {T : List Addr} {o1 : Obj} {u : HO} (h : hm0 K a vs ns T o1 b = some u) :
    (b = sysModules ∧ u = .frz o1 smU) ∨ (b = a ∧ K.lookup a = none ∧ u = .frz (scriptO vs) (.lst (ns.map V.int))) ∨ (b ∈ T ∧ u = .tbl #[]) := by
  unfold hm0 at h
  split at h
  · rename_i c
    exact .inl ⟨c, (Option.some.inj h).symm⟩
  · exact .inr (h0_inv h)
section
variable {P : Program} {w : World} {K : PySem.W.Frag} {mg mb : Str → Option Value} {CX : CXT} {k : Nat} {fa a : Addr} {cs : List (Addr × Addr)} {fd : FuncData} {x : Str} {sp : Sp} {s1 : Shared} {vs : List Value} {ns : List Int}
theorem law_mcall (KX : K.In s1.heap) (nsG : s1.heap.Ns mainGlobals mg) (nsB : s1.heap.Ns builtinsNs mb) (isB : ∀ x : Str, x ≠ "__name__" → mb x = bootBuiltins x) (lim : s1.heap.NoLimit) (gens : s1.gens = #[])
    (tabs : ∀ p ∈ cs, s1.heap.get? p.2 = some tabO) (tabK : ∀ p ∈ cs, K.lookup p.2 = none) (codes : ∀ p ∈ cs, PySem.W.CodeHd s1.heap p.1 p.2)
    (bmain : ∃ (bm : Addr) (ob : Obj), mg "__builtins__" = some (.ref bm) ∧ bm ≠ builtinsNs ∧ s1.heap.get? bm = some ob ∧ ob.cls = .type "module" ∧ ob.dict = some builtinsNs ∧ ob.data = .plain)
    (hsm : ∃ o es ep, s1.heap.get? sysModules = some o ∧ o.data = .dict es ep) (k1 : K.lookup sysModules = none) (na : a ≠ sysModules)
    (ha : s1.heap.get? a = some (scriptO vs)) (hi : IntsAre vs ns) (hl : ns.length ≤ sizeLine) (hr : Room k callerA)
    (F : ∀ base : Heap, K.In base → base.Ns mainGlobals mg → (∀ p ∈ cs, TabB base mg p.1 p.2) → GOk P w K mg base CX k fa fd [x] sp)
    (hbind : ∀ (s : Shared) (u : Value), BindsTo s fd ⟨[u], []⟩ [(x, u)])
    (hsp : ∀ H : Hp, SmAt H → (∀ p ∈ cs, H p.2 = some (.tbl #[])) → SqL K H a (ns.map V.int) → sp [.ref a] H (fun v _ => v = .bl true) fun _ _ _ => False)
    (hCX : ∀ H e s', CX [] H s1 (fun _ _ _ => False) e s' → False) :
    codeAny (model P w) callerA (.call (.ref fa) ⟨[.ref a], []⟩) (fun r s' => r = .ok (.ret (.bool true)) ∧ OldK s1.heap s'.heap ∧ s'.os = s1.os ∧ AllBare s'.gens) s1 := by
  have rv := vals_ints hi
  have hlen := hi.length
  obtain ⟨o1, es1, ep1, ho1, hd1⟩ := hsm
  let T := cs.map Prod.snd
  have inT : ∀ p ∈ cs, p.2 ∈ T := fun p hp => List.mem_map.mpr ⟨p, hp, rfl⟩
  have ofT : ∀ b ∈ T, s1.heap.get? b = some tabO ∧ K.lookup b = none := by
    intro b hb
    obtain ⟨p, hp, rfl⟩ := List.mem_map.mp hb
    exact ⟨tabs p hp, tabK p hp⟩
  have neT : a ∉ T := fun z => by
    have q := (ofT a z).1
    rw [ha] at q
    cases q
  have smT : sysModules ∉ T := fun z => by
    have q := (ofT _ z).1
    rw [ho1] at q
    rw [Option.some.inj q] at hd1
    cases hd1
  let H := hm0 K a vs ns T o1
  have notsm : ∀ {b : Addr} {o : Obj}, s1.heap.get? b = some o → (∀ es ep, o.data ≠ .dict es ep) → b ≠ sysModules := fun e n z => by
    subst z
    rw [ho1] at e
    rw [Option.some.inj e] at hd1
    exact n _ _ hd1
  have seen : ∀ {b : Addr} {o : Obj}, s1.heap.get? b = some o → (∀ us n, o.data ≠ .seq us n) → o.data ≠ .fields #[] → b ≠ sysModules → H b = none := by
    intro b o e n1 n2 n3
    cases q : H b with
    | none => rfl
    | some u =>
      exfalso
      rcases hm0_inv q with ⟨z, _⟩ | ⟨rfl, _, _⟩ | ⟨hb, _⟩
      · exact n3 z
      · rw [ha] at e
        cases e
        exact n1 _ _ rfl
      · rw [(ofT b hb).1] at e
        cases e
        exact n2 rfl
  have keepHid : ∀ {b : Addr} {o : Obj}, s1.heap.get? b = some o → H b = none → (hidT s1.heap H).get? b = some o := fun e n => hidT_get e n
  have nsHid : ∀ {b : Addr} {m : Str → Option Value}, b ≠ sysModules → s1.heap.Ns b m → (hidT s1.heap H).Ns b m := by
    rintro b m n ⟨o, es, ep, e, d, rest⟩
    refine ⟨o, es, ep, keepHid e (seen e (fun us n z => ?_) (fun z => ?_) n), d, rest⟩ <;> (rw [d] at z; cases z)
  have KH : K.In (hidT s1.heap H) := by
    intro b o e
    refine keepHid (KX b o e) ?_
    cases q : H b with
    | none => rfl
    | some u =>
      exfalso
      rcases hm0_inv q with ⟨rfl, _⟩ | ⟨rfl, z, _⟩ | ⟨hb, _⟩
      · rw [k1] at e
        cases e
      · rw [z] at e
        cases e
      · rw [(ofT b hb).2] at e
        cases e
  have limH : (hidT s1.heap H).NoLimit := by
    obtain ⟨mc, h1, h2⟩ := lim
    exact ⟨mc, nsHid (by decide) h1, h2⟩
  have M : L2.Mod K mg (hidT s1.heap H) := ⟨KH, nsHid (by decide) nsG, ⟨mb, nsHid (by decide) nsB, isB⟩, limH⟩
  have TB : ∀ p ∈ cs, TabB (hidT s1.heap H) mg p.1 p.2 := by
    intro p hp
    have tp := tabs p hp
    refine ⟨?_, ?_, ?_⟩
    · obtain ⟨o, us, file, tf, flags, tg, inF, text, tt, e1, r1, r2, r3, rest⟩ := codes p hp
      refine ⟨o, us, file, tf, flags, tg, inF, text, tt, keepHid e1 (seen e1 (fun vs n z => ?_) (fun z => ?_) (notsm e1 fun es ep z => ?_)), r1, r2, r3, rest⟩
      · rw [r2] at z
        cases z
      · rw [r2] at z
        cases z
        simp at r3
      · rw [r2] at z
        cases z
    · obtain ⟨bm, ob, b1, b2, b3, b4, b5, b6⟩ := bmain
      have g1 : bm ≠ mainGlobals := by
        rintro rfl
        obtain ⟨o, es, ep, e, d, _⟩ := nsG
        rw [b3] at e
        cases e
        rw [b6] at d
        cases d
      have g2 : bm ≠ p.2 := by
        rintro rfl
        rw [tp] at b3
        cases b3
        cases b6
      refine ⟨bm, ob, b1, b2, g1, g2, keepHid b3 (seen b3 (fun vs n z => ?_) (fun z => ?_) (notsm b3 fun es ep z => ?_)), b4, b5, b6⟩ <;> (rw [b6] at z; cases z)
    · intro z
      obtain ⟨o, es, ep, e, d, _⟩ := nsG
      rw [z, tp] at e
      cases e
      cases d
  have hH : ∀ p ∈ cs, H p.2 = some (.tbl #[]) := by
    intro p hp
    have n0 : ¬ p.2 = sysModules := fun z => smT (z ▸ inT p hp)
    have n1 : ¬ (p.2 = a ∧ K.lookup a = none) := fun z => neT (z.1 ▸ inT p hp)
    exact (if_neg n0).trans ((if_neg n1).trans (if_pos (inT p hp)))
  have hS : SqL K H a (ns.map V.int) := by
    cases q : K.lookup a with
    | none => exact .inl (.inr ⟨scriptO vs, (if_neg na).trans (if_pos ⟨rfl, q⟩)⟩)
    | some o =>
      have e := KX a o q
      rw [ha] at e
      cases e
      exact .inr ⟨_, vs.toArray, _, q, rfl, rfl, rfl, by rw [List.size_toArray, hlen]; exact hl, by simpa using rv⟩
  have hok : HOk P w H s1.heap := by
    intro b u q
    rcases hm0_inv q with ⟨rfl, rfl⟩ | ⟨rfl, _, rfl⟩ | ⟨hb, rfl⟩
    · exact ⟨ho1, ⟨_, ho1⟩, ⟨_, ho1⟩, fun h1 h2 ⟨o, z⟩ k => ⟨o, k _ z⟩⟩
    · exact ⟨ha, by rw [List.length_map]; exact hl, vs, _, rv, ha⟩
    · exact (ofT b hb).1
  have e0 : Env0 P w K mg (hidT s1.heap H) callerA [] s1 H :=
    ⟨rfl, M, fun b o e => of_hidT e, Nat.le_of_eq (hidT_size _ _), trivial, (fun b hb => by cases (show b ∈ ([] : List Addr) from hb)), hok, .of_eq gens⟩
  have run := (F _ KH (nsHid (by decide) nsG) TB).go callerA [] s1 H ⟨[.ref a], []⟩ [.ref a] [.ref a] (fun v _ => v = .bl true) (fun _ _ _ => False) rfl hr e0 (hbind s1 (.ref a)) (.cons rfl .nil) (hsp H ⟨o1, if_pos rfl⟩ hH hS)
  refine codeAny_mono run ?_
  intro r s' h
  match r, h with
  | .error e, h => exact (hCX H e s' h).elim
  | .ok .next, h => exact h.elim
  | .ok .brk, h => exact h.elim
  | .ok .cont, h => exact h.elim
  | .ok (.ret u), h =>
    obtain ⟨v, H', os, bare, un, hok', r', q⟩ := h
    obtain rfl : v = .bl true := q
    obtain rfl : u = Value.bool true := r'
    have plain : ∀ b o, b ∉ T → s1.heap.get? b = some o → s'.heap.get? b = some o := by
      intro b o nb e
      cases q : H b with
      | none => exact un.keep b o e q (fun z => by cases (show b ∈ ([] : List Addr) from z)) (by simp)
      | some y =>
        rcases hm0_inv q with ⟨rfl, rfl⟩ | ⟨rfl, _, rfl⟩ | ⟨hb, _⟩
        · obtain ⟨e2, _⟩ := hok' sysModules _ (un.frzs _ _ _ q)
          rw [ho1] at e
          exact Option.some.inj e ▸ e2
        · obtain ⟨e2, _⟩ := hok' b _ (un.frzs b _ _ q)
          rw [ha] at e
          cases e
          exact e2
        · exact absurd hb nb
    have grown : ∀ p ∈ cs, ∃ more : Array Value, s'.heap.get? p.2 = some { cls := .none, data := .fields more } := by
      intro p hp
      obtain ⟨more, z⟩ := un.tbls p.2 #[] (hH p hp)
      exact ⟨_, hok' p.2 _ z⟩
    refine ⟨rfl, ⟨fun b o e => ?_, fun b o e => ?_⟩, os, bare⟩ <;> by_cases hb : b ∈ T
    · obtain ⟨p, hp, rfl⟩ := List.mem_map.mp hb
      obtain ⟨more, hm⟩ := grown p hp
      rw [tabs p hp] at e
      cases e
      exact .inr (.inl ⟨((codes p hp).tab (tabs p hp)).isCodeTable, rfl, #[], more, rfl, by rw [Array.empty_append]; exact hm⟩)
    · exact .inl (plain b o hb e)
    · obtain ⟨p, hp, rfl⟩ := List.mem_map.mp hb
      obtain ⟨more, hm⟩ := grown p hp
      exact ⟨_, hm⟩
    · exact ⟨o, plain b o hb e⟩
end
/-- what is to be known of such a law -/
def GLawM (l : PySem.W.OpenLaw) (w : World) (K : PySem.W.Frag) (CX : CXT) (k n : Nat) (x : Str) (mg : Str → Option Value) (fa : Addr) (h : Heap) : Prop :=
  ∃ (fd : FuncData) (cs : List (Addr × Addr)) (sp : Sp), K.lookup sysModules = none ∧ (∀ p ∈ cs, h.get? p.2 = some tabO) ∧ (∀ p ∈ cs, K.lookup p.2 = none) ∧ (∀ p ∈ cs, PySem.W.CodeHd h p.1 p.2) ∧
    (∀ (s : Shared) (u : Value), BindsTo s fd ⟨[u], []⟩ [(x, u)]) ∧
    (∀ (H : Hp) (a : Addr) (ns : List Int), ns.length ≤ n → SmAt H → (∀ p ∈ cs, H p.2 = some (.tbl #[])) → SqL K H a (ns.map V.int) →
      sp [.ref a] H (fun v _ => v = .bl true) fun _ _ _ => False) ∧
    ∀ base : Heap, K.In base → base.Ns mainGlobals mg → (∀ p ∈ cs, TabB base mg p.1 p.2) → GOk l.prog w K mg base CX k fa fd [x] sp
open PySem.W in
theorem walk_m {l : PySem.W.OpenLaw} {n k : Nat} {q : Program} {loose : List Str} {XP : (Str → Option Value) → Heap → Prop} {YP : World → Heap → Prop} {d : DefRec} {K : Params → PySem.W.Frag} {CX : World → CXT} {x : Str}
    (no : importsNone q = true) (hn : l.most = some n) (small : n ≤ sizeLine) (hdf : d.params.defaults = []) (hr : Room k callerA) (hY : ∀ (w : World) (h : Heap), YP w h → (K w.params).In h)
    (F : ∀ (w : World) (mg : Str → Option Value) (fa : Addr) (h : Heap), YP w h → (K w.params).In h → h.Ns mainGlobals mg → mg d.name = some (.ref fa) → Empt q (K w.params) h → GLawM l w (K w.params) (CX w) k n x mg fa h)
    (hCX : ∀ (w : World) (H : Hp) (s : Shared) (e : Value) (s' : Shared), CX w [] H s (fun _ _ _ => False) e s' → False) :
    PySem.W.WalkO q loose XP YP l.row.toRowW d [] (fun f vs => PySem.call f vs) := by
  intro w s0 s1 mg mb G Y fa o pm cd doc dV kV ho hd hcd hD hmg hg args vals as pre lay rd well low
  obtain ⟨a, vs, ns, rfl, rfl, hobj, hints, hlen⟩ := Att.script_of hn pre well
  have na : a ≠ sysModules := by
    cases rd with
    | cons r1 r2 =>
      cases r1 with
      | list _ _ _ _ => exact beq_eq_false_iff_ne.mp (low a (by simp))
  have KX := hY w _ Y
  have em : Empt q (K w.params) s1.heap := by
    intro x f c t o1 fd1 e dd us sl hx k1 k2 k3 k4 k5 k6
    obtain ⟨r, hr1, hr2⟩ := List.any_eq_true.mp hx
    have hn1 : r.name = x := beq_iff_eq.mp hr2
    obtain ⟨a1, o2, fd2, c2, t2, y1, y2, y3, y4, y5, y6⟩ := G.T.tab r hr1
    have z1 := PySem.W.mg_of KX G.T.g k1
    rw [hn1, z1] at y1
    cases y1
    have z2 := KX _ _ k2
    rw [z2] at y2
    cases y2
    rw [k3] at y3
    cases y3
    rw [k4] at y4
    cases y4
    have y6b := y6
    obtain ⟨⟨oc, vc, e1, e2, e3, e4⟩, hP⟩ := y6b
    have z5 := KX _ _ k5
    rw [z5] at e1
    cases e1
    cases e3
    rw [k6] at e4
    cases e4
    exact ⟨PySem.W.CodeHd.of y5 y6, hP⟩
  obtain ⟨fd, cs, sp, k1, t1, t2, t3, hb, hsp, hF⟩ := F w mg fa _ Y KX G.T.g hmg em
  have run := law_mcall KX G.T.g G.T.b G.T.builtins G.T.nolimit hg t1 t2 t3 G.T.bmain (let ⟨_, ⟨o, es, ep, e, d, _⟩, _⟩ := (G.T.seer no).mods; ⟨o, es, ep, e, d⟩) k1 na hobj hints (Nat.le_trans hlen small) hr hF hb (fun H a1 a2 a3 => hsp H a ns hlen a1 a2 a3) (fun H e s' => hCX w H s1 e s')
  refine enter_call (codeAny_mono run ?_)
  rintro r z ⟨rfl, old, os, bare⟩
  exact ⟨.inl ⟨.bool true, .bool true, [], rfl, fun _ => rfl, .bool true, Att.post_true l _, fun _ => ⟨List.Pairwise.nil, fun _ m => (nomatch m)⟩⟩, old, os, bare⟩
end Gd

set_option maxRecDepth 100000
set_option maxHeartbeats 4000000
namespace K4
open PySem PySem.Spec PyProof.Rows L2 GxR Gd TL My
theorem all_mk {l : PySem.W.OpenLaw} {q : Program} {w : World} {K : PySem.W.Frag} {h : Heap} {mg : Str → Option Value} {fa C CP CN CW CM CT CL CS f1 f2 f3 f4 f5 f6 f7 f8 f9 f10 f11 f12 f13 f14 f15 f16 f17 f18 f19 f20 f21 f22 f23 f24 f25 f26 f27 f28 f29 f30 f31 f32 f33 f34 f35 f36 f37 f38 co tb : Addr} {eo : Value} {eoD : Option Addr} {us : Array Value} {usl : Array (Option Value)}
    (X : K.In h) (G : h.Ns mainGlobals mg) (hfa : mg "law" = some (.ref fa)) (em : Empt q K h)
    {dT : Addr} {oT : Obj} {mT : Nat} {nmCP qCP : Str} {NCP : Addr} {bsCP : List Value} {snCP : List Str} {subCP : List Value} {abCP : Bool} {colCP : Option Bool} {ddCP : Option Addr} {m0CP m1CP m2CP m3CP m5CP : Option Value} {nmCN qCN : Str} {NCN : Addr} {bsCN : List Value} {snCN : List Str} {subCN : List Value} {abCN : Bool} {colCN : Option Bool} {ddCN : Option Addr} {m0CN m1CN m2CN m3CN m5CN : Option Value} {nmCW qCW : Str} {NCW : Addr} {bsCW : List Value} {snCW : List Str} {subCW : List Value} {abCW : Bool} {colCW : Option Bool} {ddCW : Option Addr} {m0CW m1CW m2CW m3CW m5CW : Option Value} {nmCM qCM : Str} {NCM : Addr} {bsCM : List Value} {snCM : List Str} {subCM : List Value} {abCM : Bool} {colCM : Option Bool} {ddCM : Option Addr} {m0CM m1CM m2CM m3CM m5CM : Option Value} {nmCT qCT : Str} {NCT : Addr} {bsCT : List Value} {snCT : List Str} {subCT : List Value} {abCT : Bool} {colCT : Option Bool} {ddCT : Option Addr} {m0CT m1CT m2CT m3CT m5CT : Option Value} {nmCL qCL : Str} {NCL : Addr} {bsCL : List Value} {snCL : List Str} {subCL : List Value} {abCL : Bool} {colCL : Option Bool} {ddCL : Option Addr} {m0CL m1CL m2CL m3CL m5CL : Option Value} {od1 an1 : Option Addr} {sl1 : Array (Option Value)} {oc1 kV1 dc1 pm1 cd1 ct1 : Value} {od2 an2 : Option Addr} {sl2 : Array (Option Value)} {oc2 kV2 dc2 pm2 cd2 ct2 : Value} {od3 an3 : Option Addr} {sl3 : Array (Option Value)} {oc3 kV3 dc3 pm3 cd3 ct3 : Value} {od4 an4 : Option Addr} {sl4 : Array (Option Value)} {oc4 kV4 dc4 pm4 cd4 ct4 : Value} {od5 an5 : Option Addr} {sl5 : Array (Option Value)} {oc5 kV5 dc5 pm5 cd5 ct5 : Value} {od6 an6 : Option Addr} {sl6 : Array (Option Value)} {oc6 kV6 dc6 pm6 cd6 ct6 : Value} {od7 an7 : Option Addr} {sl7 : Array (Option Value)} {oc7 kV7 dc7 pm7 cd7 ct7 : Value} {od8 an8 : Option Addr} {sl8 : Array (Option Value)} {oc8 kV8 dc8 pm8 cd8 ct8 : Value} {od9 an9 : Option Addr} {sl9 : Array (Option Value)} {oc9 kV9 dc9 pm9 ct9 : Value} {od10 an10 : Option Addr} {sl10 : Array (Option Value)} {oc10 kV10 dc10 pm10 cd10 ct10 : Value} {od11 an11 : Option Addr} {sl11 : Array (Option Value)} {oc11 kV11 dc11 pm11 cd11 ct11 : Value} {od12 an12 : Option Addr} {sl12 : Array (Option Value)} {oc12 kV12 dc12 pm12 cd12 ct12 : Value} {od13 an13 : Option Addr} {sl13 : Array (Option Value)} {oc13 kV13 dc13 pm13 cd13 ct13 : Value} {od14 an14 : Option Addr} {sl14 : Array (Option Value)} {oc14 kV14 dc14 pm14 cd14 ct14 : Value} {od15 an15 : Option Addr} {sl15 : Array (Option Value)} {oc15 kV15 dc15 pm15 cd15 ct15 : Value} {od16 an16 : Option Addr} {sl16 : Array (Option Value)} {oc16 kV16 dc16 pm16 cd16 ct16 : Value} {od17 an17 : Option Addr} {sl17 : Array (Option Value)} {oc17 kV17 dc17 pm17 cd17 ct17 : Value} {od18 an18 : Option Addr} {sl18 : Array (Option Value)} {oc18 kV18 dc18 pm18 cd18 ct18 : Value} {od19 an19 : Option Addr} {sl19 : Array (Option Value)} {oc19 kV19 dc19 pm19 cd19 ct19 : Value} {od20 an20 : Option Addr} {sl20 : Array (Option Value)} {oc20 kV20 dc20 pm20 cd20 ct20 : Value} {od21 an21 : Option Addr} {sl21 : Array (Option Value)} {oc21 kV21 dc21 pm21 cd21 ct21 : Value} {od22 an22 : Option Addr} {sl22 : Array (Option Value)} {oc22 kV22 dc22 pm22 cd22 ct22 : Value} {od23 an23 : Option Addr} {sl23 : Array (Option Value)} {oc23 kV23 dc23 pm23 cd23 ct23 : Value} {od24 an24 : Option Addr} {sl24 : Array (Option Value)} {oc24 kV24 dc24 pm24 cd24 ct24 : Value} {od25 an25 : Option Addr} {sl25 : Array (Option Value)} {oc25 kV25 dc25 pm25 cd25 ct25 : Value} {od26 an26 : Option Addr} {sl26 : Array (Option Value)} {oc26 kV26 dc26 pm26 cd26 ct26 : Value} {od27 an27 : Option Addr} {sl27 : Array (Option Value)} {oc27 kV27 dc27 pm27 cd27 ct27 : Value} {od28 an28 : Option Addr} {sl28 : Array (Option Value)} {oc28 kV28 dc28 pm28 cd28 ct28 : Value} {od29 an29 : Option Addr} {sl29 : Array (Option Value)} {oc29 kV29 dc29 pm29 cd29 ct29 : Value} {od30 an30 : Option Addr} {sl30 : Array (Option Value)} {oc30 kV30 dc30 pm30 cd30 ct30 : Value} {od31 an31 : Option Addr} {sl31 : Array (Option Value)} {oc31 kV31 dc31 pm31 cd31 ct31 : Value} {od32 an32 : Option Addr} {sl32 : Array (Option Value)} {oc32 kV32 dc32 pm32 cd32 ct32 : Value} {od33 an33 : Option Addr} {sl33 : Array (Option Value)} {oc33 kV33 dc33 pm33 cd33 ct33 : Value} {od34 an34 : Option Addr} {sl34 : Array (Option Value)} {oc34 kV34 dc34 pm34 cd34 ct34 : Value} {od35 an35 : Option Addr} {sl35 : Array (Option Value)} {oc35 kV35 dc35 pm35 cd35 ct35 : Value} {od36 an36 : Option Addr} {sl36 : Array (Option Value)} {oc36 kV36 dc36 pm36 cd36 ct36 : Value} {od37 an37 : Option Addr} {sl37 : Array (Option Value)} {oc37 kV37 dc37 pm37 cd37 ct37 : Value} {od38 an38 : Option Addr} {sl38 : Array (Option Value)} {oc38 kV38 dc38 pm38 cd38 ct38 : Value}
    (aC : PySem.W.nsIn K mainGlobals "Line" = some (some (.ref C))) (pgC : PySem.W.plainGet K C Str.empty = true) (hdC : PySem.W.hasDictIn K C = true) (poC : PySem.W.plainOver K C = true) (saC : PySem.W.findIn K (.ref C) "__setattr__" = some (some (.builtin "object.__setattr__"))) (mkC : PySem.W.makesIn K C = true) (kcC : PySem.W.keepIn K (.ref C) = true) (n0C : PySem.W.findIn K (.ref C) "_places" = some none) (n1C : PySem.W.findIn K (.ref C) "_stretches" = some none) (n2C : PySem.W.findIn K (.ref C) "_longs" = some none) (n3C : PySem.W.findIn K (.ref C) "_numbers" = some none) (aCP : PySem.W.nsIn K mainGlobals "NoPlaces" = some (some (.ref CP))) (xlCP : K.lookup CP = some (excClassObj nmCP qCP CP NCP bsCP [.ref CS, .type "ValueError", .type "Exception", .type "BaseException", .type "object"] true snCP subCP abCP colCP ddCP m0CP m1CP m2CP m3CP m5CP "ValueError.__new__")) (saCP : PySem.W.findIn K (.ref CP) "__setattr__" = some (some (.builtin "object.__setattr__"))) (gaCP : PySem.W.findIn K (.ref CP) "__getattribute__" = some (some (.builtin "BaseException.__getattribute__"))) (ggCP : PySem.W.findIn K (.ref CP) "__getattr__" = some none) (kcCP : PySem.W.keepIn K (.ref CP) = true) (exCP : PySem.W.subIn K (.ref CP) (.type "BaseException") = some true) (tyCP : PySem.W.typeIn K (.ref CP) = some (.type "type")) (hdCP : PySem.W.hasDictIn K CP = true) (icCP : PySem.W.isClsIn K CP = true) (coCP : PySem.W.findIn K (.ref CP) "__class__" = some (some (.builtin "object.__class__"))) (moCP : PySem.W.mroIn K CP (.type "object") = some true) (n0CP : PySem.W.findIn K (.ref CP) "found" = some none) (aCN : PySem.W.nsIn K mainGlobals "NoName" = some (some (.ref CN))) (xlCN : K.lookup CN = some (excClassObj nmCN qCN CN NCN bsCN [.ref CS, .type "ValueError", .type "Exception", .type "BaseException", .type "object"] true snCN subCN abCN colCN ddCN m0CN m1CN m2CN m3CN m5CN "ValueError.__new__")) (saCN : PySem.W.findIn K (.ref CN) "__setattr__" = some (some (.builtin "object.__setattr__"))) (gaCN : PySem.W.findIn K (.ref CN) "__getattribute__" = some (some (.builtin "BaseException.__getattribute__"))) (ggCN : PySem.W.findIn K (.ref CN) "__getattr__" = some none) (kcCN : PySem.W.keepIn K (.ref CN) = true) (exCN : PySem.W.subIn K (.ref CN) (.type "BaseException") = some true) (tyCN : PySem.W.typeIn K (.ref CN) = some (.type "type")) (hdCN : PySem.W.hasDictIn K CN = true) (icCN : PySem.W.isClsIn K CN = true) (coCN : PySem.W.findIn K (.ref CN) "__class__" = some (some (.builtin "object.__class__"))) (moCN : PySem.W.mroIn K CN (.type "object") = some true) (n0CN : PySem.W.findIn K (.ref CN) "found" = some none) (aCW : PySem.W.nsIn K mainGlobals "Twice" = some (some (.ref CW))) (xlCW : K.lookup CW = some (excClassObj nmCW qCW CW NCW bsCW [.ref CS, .type "ValueError", .type "Exception", .type "BaseException", .type "object"] true snCW subCW abCW colCW ddCW m0CW m1CW m2CW m3CW m5CW "ValueError.__new__")) (saCW : PySem.W.findIn K (.ref CW) "__setattr__" = some (some (.builtin "object.__setattr__"))) (gaCW : PySem.W.findIn K (.ref CW) "__getattribute__" = some (some (.builtin "BaseException.__getattribute__"))) (ggCW : PySem.W.findIn K (.ref CW) "__getattr__" = some none) (kcCW : PySem.W.keepIn K (.ref CW) = true) (exCW : PySem.W.subIn K (.ref CW) (.type "BaseException") = some true) (tyCW : PySem.W.typeIn K (.ref CW) = some (.type "type")) (hdCW : PySem.W.hasDictIn K CW = true) (icCW : PySem.W.isClsIn K CW = true) (coCW : PySem.W.findIn K (.ref CW) "__class__" = some (some (.builtin "object.__class__"))) (moCW : PySem.W.mroIn K CW (.type "object") = some true) (n0CW : PySem.W.findIn K (.ref CW) "found" = some none) (aCM : PySem.W.nsIn K mainGlobals "NoNumber" = some (some (.ref CM))) (xlCM : K.lookup CM = some (excClassObj nmCM qCM CM NCM bsCM [.ref CS, .type "ValueError", .type "Exception", .type "BaseException", .type "object"] true snCM subCM abCM colCM ddCM m0CM m1CM m2CM m3CM m5CM "ValueError.__new__")) (saCM : PySem.W.findIn K (.ref CM) "__setattr__" = some (some (.builtin "object.__setattr__"))) (gaCM : PySem.W.findIn K (.ref CM) "__getattribute__" = some (some (.builtin "BaseException.__getattribute__"))) (ggCM : PySem.W.findIn K (.ref CM) "__getattr__" = some none) (kcCM : PySem.W.keepIn K (.ref CM) = true) (exCM : PySem.W.subIn K (.ref CM) (.type "BaseException") = some true) (tyCM : PySem.W.typeIn K (.ref CM) = some (.type "type")) (hdCM : PySem.W.hasDictIn K CM = true) (icCM : PySem.W.isClsIn K CM = true) (coCM : PySem.W.findIn K (.ref CM) "__class__" = some (some (.builtin "object.__class__"))) (moCM : PySem.W.mroIn K CM (.type "object") = some true) (n0CM : PySem.W.findIn K (.ref CM) "found" = some none) (aCT : PySem.W.nsIn K mainGlobals "NoStretches" = some (some (.ref CT))) (xlCT : K.lookup CT = some (excClassObj nmCT qCT CT NCT bsCT [.ref CS, .type "ValueError", .type "Exception", .type "BaseException", .type "object"] true snCT subCT abCT colCT ddCT m0CT m1CT m2CT m3CT m5CT "ValueError.__new__")) (saCT : PySem.W.findIn K (.ref CT) "__setattr__" = some (some (.builtin "object.__setattr__"))) (gaCT : PySem.W.findIn K (.ref CT) "__getattribute__" = some (some (.builtin "BaseException.__getattribute__"))) (ggCT : PySem.W.findIn K (.ref CT) "__getattr__" = some none) (kcCT : PySem.W.keepIn K (.ref CT) = true) (exCT : PySem.W.subIn K (.ref CT) (.type "BaseException") = some true) (tyCT : PySem.W.typeIn K (.ref CT) = some (.type "type")) (hdCT : PySem.W.hasDictIn K CT = true) (icCT : PySem.W.isClsIn K CT = true) (coCT : PySem.W.findIn K (.ref CT) "__class__" = some (some (.builtin "object.__class__"))) (moCT : PySem.W.mroIn K CT (.type "object") = some true) (n0CT : PySem.W.findIn K (.ref CT) "found" = some none) (aCL : PySem.W.nsIn K mainGlobals "NoLongs" = some (some (.ref CL))) (xlCL : K.lookup CL = some (excClassObj nmCL qCL CL NCL bsCL [.ref CS, .type "ValueError", .type "Exception", .type "BaseException", .type "object"] true snCL subCL abCL colCL ddCL m0CL m1CL m2CL m3CL m5CL "ValueError.__new__")) (saCL : PySem.W.findIn K (.ref CL) "__setattr__" = some (some (.builtin "object.__setattr__"))) (gaCL : PySem.W.findIn K (.ref CL) "__getattribute__" = some (some (.builtin "BaseException.__getattribute__"))) (ggCL : PySem.W.findIn K (.ref CL) "__getattr__" = some none) (kcCL : PySem.W.keepIn K (.ref CL) = true) (exCL : PySem.W.subIn K (.ref CL) (.type "BaseException") = some true) (tyCL : PySem.W.typeIn K (.ref CL) = some (.type "type")) (hdCL : PySem.W.hasDictIn K CL = true) (icCL : PySem.W.isClsIn K CL = true) (coCL : PySem.W.findIn K (.ref CL) "__class__" = some (some (.builtin "object.__class__"))) (moCL : PySem.W.mroIn K CL (.type "object") = some true) (n0CL : PySem.W.findIn K (.ref CL) "found" = some none) (a1 : PySem.W.findIn K (.ref CS) "__init__" = some (some (.ref f1))) (i1 : PySem.W.isFn K (.ref f1) = true) (l1 : K.lookup f1 = some ⟨oc1, od1, .func (PySem.W.fnOf "__init__" "StaffError.__init__" (defArgs sSE) (defBody sSE) (defScope sSE) .none kV1 dc1 pm1 an1 cd1 ct1), sl1⟩) (c1 : PySem.W.codeIn K cd1 "StaffError.__init__" = true) (k1 : PySem.W.keepIn K (.ref f1) = true) (a2 : PySem.W.findIn K (.ref CP) "__init__" = some (some (.ref f2))) (i2 : PySem.W.isFn K (.ref f2) = true) (l2 : K.lookup f2 = some ⟨oc2, od2, .func (PySem.W.fnOf "__init__" "NoPlaces.__init__" (defArgs sNoPlaces) (defBody sNoPlaces) (defScope sNoPlaces) .none kV2 dc2 pm2 an2 cd2 ct2), sl2⟩) (c2 : PySem.W.codeIn K cd2 "NoPlaces.__init__" = true) (k2 : PySem.W.keepIn K (.ref f2) = true) (a3 : PySem.W.findIn K (.ref CN) "__init__" = some (some (.ref f3))) (i3 : PySem.W.isFn K (.ref f3) = true) (l3 : K.lookup f3 = some ⟨oc3, od3, .func (PySem.W.fnOf "__init__" "NoName.__init__" (defArgs sNoName) (defBody sNoName) (defScope sNoName) .none kV3 dc3 pm3 an3 cd3 ct3), sl3⟩) (c3 : PySem.W.codeIn K cd3 "NoName.__init__" = true) (k3 : PySem.W.keepIn K (.ref f3) = true) (a4 : PySem.W.findIn K (.ref CW) "__init__" = some (some (.ref f4))) (i4 : PySem.W.isFn K (.ref f4) = true) (l4 : K.lookup f4 = some ⟨oc4, od4, .func (PySem.W.fnOf "__init__" "Twice.__init__" (defArgs sTwice) (defBody sTwice) (defScope sTwice) .none kV4 dc4 pm4 an4 cd4 ct4), sl4⟩) (c4 : PySem.W.codeIn K cd4 "Twice.__init__" = true) (k4 : PySem.W.keepIn K (.ref f4) = true) (a5 : PySem.W.findIn K (.ref CM) "__init__" = some (some (.ref f5))) (i5 : PySem.W.isFn K (.ref f5) = true) (l5 : K.lookup f5 = some ⟨oc5, od5, .func (PySem.W.fnOf "__init__" "NoNumber.__init__" (defArgs sNoNumber) (defBody sNoNumber) (defScope sNoNumber) .none kV5 dc5 pm5 an5 cd5 ct5), sl5⟩) (c5 : PySem.W.codeIn K cd5 "NoNumber.__init__" = true) (k5 : PySem.W.keepIn K (.ref f5) = true) (a6 : PySem.W.findIn K (.ref CT) "__init__" = some (some (.ref f6))) (i6 : PySem.W.isFn K (.ref f6) = true) (l6 : K.lookup f6 = some ⟨oc6, od6, .func (PySem.W.fnOf "__init__" "NoStretches.__init__" (defArgs sNoStretches) (defBody sNoStretches) (defScope sNoStretches) .none kV6 dc6 pm6 an6 cd6 ct6), sl6⟩) (c6 : PySem.W.codeIn K cd6 "NoStretches.__init__" = true) (k6 : PySem.W.keepIn K (.ref f6) = true) (a7 : PySem.W.findIn K (.ref CL) "__init__" = some (some (.ref f7))) (i7 : PySem.W.isFn K (.ref f7) = true) (l7 : K.lookup f7 = some ⟨oc7, od7, .func (PySem.W.fnOf "__init__" "NoLongs.__init__" (defArgs sNoLongs) (defBody sNoLongs) (defScope sNoLongs) .none kV7 dc7 pm7 an7 cd7 ct7), sl7⟩) (c7 : PySem.W.codeIn K cd7 "NoLongs.__init__" = true) (k7 : PySem.W.keepIn K (.ref f7) = true) (a8 : PySem.W.nsIn K mainGlobals "is_whole" = some (some (.ref f8))) (l8 : K.lookup f8 = some ⟨oc8, od8, .func (PySem.W.fnOf "is_whole" "is_whole" (defArgs sWhole) (defBody sWhole) (defScope sWhole) .none kV8 dc8 pm8 an8 cd8 ct8), sl8⟩) (c8 : PySem.W.codeIn K cd8 "is_whole" = true) (k8 : PySem.W.keepIn K (.ref f8) = true) (a9 : PySem.W.nsIn K mainGlobals "is_name" = some (some (.ref f9))) (l9 : K.lookup f9 = some ⟨oc9, od9, .func (PySem.W.fnOf "is_name" "is_name" (defArgs sName) (defBody sName) (defScope sName) .none kV9 dc9 pm9 an9 (.ref co) ct9), sl9⟩) (c9 : PySem.W.codeIn K (.ref co) "is_name" = true) (k9 : PySem.W.keepIn K (.ref f9) = true) (a10 : PySem.W.nsIn K mainGlobals "is_list" = some (some (.ref f10))) (l10 : K.lookup f10 = some ⟨oc10, od10, .func (PySem.W.fnOf "is_list" "is_list" (defArgs s_is_list) (defBody s_is_list) (defScope s_is_list) .none kV10 dc10 pm10 an10 cd10 ct10), sl10⟩) (c10 : PySem.W.codeIn K cd10 "is_list" = true) (k10 : PySem.W.keepIn K (.ref f10) = true) (a11 : PySem.W.nsIn K mainGlobals "is_tuple" = some (some (.ref f11))) (l11 : K.lookup f11 = some ⟨oc11, od11, .func (PySem.W.fnOf "is_tuple" "is_tuple" (defArgs s_is_tuple) (defBody s_is_tuple) (defScope s_is_tuple) .none kV11 dc11 pm11 an11 cd11 ct11), sl11⟩) (c11 : PySem.W.codeIn K cd11 "is_tuple" = true) (k11 : PySem.W.keepIn K (.ref f11) = true) (a12 : PySem.W.nsIn K mainGlobals "_check_place" = some (some (.ref f12))) (l12 : K.lookup f12 = some ⟨oc12, od12, .func (PySem.W.fnOf "_check_place" "_check_place" (defArgs s_check_place) (defBody s_check_place) (defScope s_check_place) .none kV12 dc12 pm12 an12 cd12 ct12), sl12⟩) (c12 : PySem.W.codeIn K cd12 "_check_place" = true) (k12 : PySem.W.keepIn K (.ref f12) = true) (a13 : PySem.W.nsIn K mainGlobals "_check_places" = some (some (.ref f13))) (l13 : K.lookup f13 = some ⟨oc13, od13, .func (PySem.W.fnOf "_check_places" "_check_places" (defArgs s_check_places) (defBody s_check_places) (defScope s_check_places) .none kV13 dc13 pm13 an13 cd13 ct13), sl13⟩) (c13 : PySem.W.codeIn K cd13 "_check_places" = true) (k13 : PySem.W.keepIn K (.ref f13) = true) (a14 : PySem.W.nsIn K mainGlobals "_is_stretch" = some (some (.ref f14))) (l14 : K.lookup f14 = some ⟨oc14, od14, .func (PySem.W.fnOf "_is_stretch" "_is_stretch" (defArgs s_is_stretch) (defBody s_is_stretch) (defScope s_is_stretch) .none kV14 dc14 pm14 an14 cd14 ct14), sl14⟩) (c14 : PySem.W.codeIn K cd14 "_is_stretch" = true) (k14 : PySem.W.keepIn K (.ref f14) = true) (a15 : PySem.W.nsIn K mainGlobals "_check_stretches" = some (some (.ref f15))) (l15 : K.lookup f15 = some ⟨oc15, od15, .func (PySem.W.fnOf "_check_stretches" "_check_stretches" (defArgs s_check_stretches) (defBody s_check_stretches) (defScope s_check_stretches) .none kV15 dc15 pm15 an15 cd15 ct15), sl15⟩) (c15 : PySem.W.codeIn K cd15 "_check_stretches" = true) (k15 : PySem.W.keepIn K (.ref f15) = true) (a16 : PySem.W.nsIn K mainGlobals "_is_long" = some (some (.ref f16))) (l16 : K.lookup f16 = some ⟨oc16, od16, .func (PySem.W.fnOf "_is_long" "_is_long" (defArgs s_is_long) (defBody s_is_long) (defScope s_is_long) .none kV16 dc16 pm16 an16 cd16 ct16), sl16⟩) (c16 : PySem.W.codeIn K cd16 "_is_long" = true) (k16 : PySem.W.keepIn K (.ref f16) = true) (a17 : PySem.W.nsIn K mainGlobals "_check_longs" = some (some (.ref f17))) (l17 : K.lookup f17 = some ⟨oc17, od17, .func (PySem.W.fnOf "_check_longs" "_check_longs" (defArgs s_check_longs) (defBody s_check_longs) (defScope s_check_longs) .none kV17 dc17 pm17 an17 cd17 ct17), sl17⟩) (c17 : PySem.W.codeIn K cd17 "_check_longs" = true) (k17 : PySem.W.keepIn K (.ref f17) = true) (a18 : PySem.W.findIn K (.ref C) "__init__" = some (some (.ref f18))) (i18 : PySem.W.isFn K (.ref f18) = true) (l18 : K.lookup f18 = some ⟨oc18, od18, .func (PySem.W.fnOf "__init__" "Line.__init__" (defArgs s_init) (defBody s_init) (defScope s_init) (.ref dT) kV18 dc18 pm18 an18 cd18 ct18), sl18⟩) (c18 : PySem.W.codeIn K cd18 "Line.__init__" = true) (k18 : PySem.W.keepIn K (.ref f18) = true) (a19 : PySem.W.findIn K (.ref C) "told" = some (some (.ref f19))) (i19 : PySem.W.isFn K (.ref f19) = true) (l19 : K.lookup f19 = some ⟨oc19, od19, .func (PySem.W.fnOf "told" "Line.told" (defArgs s_told) (defBody s_told) (defScope s_told) .none kV19 dc19 pm19 an19 cd19 ct19), sl19⟩) (c19 : PySem.W.codeIn K cd19 "Line.told" = true) (k19 : PySem.W.keepIn K (.ref f19) = true) (a20 : PySem.W.nsIn K mainGlobals "_law_cell" = some (some (.ref f20))) (l20 : K.lookup f20 = some ⟨oc20, od20, .func (PySem.W.fnOf "_law_cell" "_law_cell" (defArgs sCell) (defBody sCell) (defScope sCell) .none kV20 dc20 pm20 an20 cd20 ct20), sl20⟩) (c20 : PySem.W.codeIn K cd20 "_law_cell" = true) (k20 : PySem.W.keepIn K (.ref f20) = true) (a21 : PySem.W.nsIn K mainGlobals "_law_box" = some (some (.ref f21))) (l21 : K.lookup f21 = some ⟨oc21, od21, .func (PySem.W.fnOf "_law_box" "_law_box" (defArgs sBox) (defBody sBox) (defScope sBox) .none kV21 dc21 pm21 an21 cd21 ct21), sl21⟩) (c21 : PySem.W.codeIn K cd21 "_law_box" = true) (k21 : PySem.W.keepIn K (.ref f21) = true) (a22 : PySem.W.nsIn K mainGlobals "_law_take" = some (some (.ref f22))) (l22 : K.lookup f22 = some ⟨oc22, od22, .func (PySem.W.fnOf "_law_take" "_law_take" (defArgs sTake) (defBody sTake) (defScope sTake) .none kV22 dc22 pm22 an22 cd22 ct22), sl22⟩) (c22 : PySem.W.codeIn K cd22 "_law_take" = true) (k22 : PySem.W.keepIn K (.ref f22) = true) (a23 : PySem.W.nsIn K mainGlobals "_law_names" = some (some (.ref f23))) (l23 : K.lookup f23 = some ⟨oc23, od23, .func (PySem.W.fnOf "_law_names" "_law_names" (defArgs s_law_names) (defBody s_law_names) (defScope s_law_names) .none kV23 dc23 pm23 an23 cd23 ct23), sl23⟩) (c23 : PySem.W.codeIn K cd23 "_law_names" = true) (k23 : PySem.W.keepIn K (.ref f23) = true) (a24 : PySem.W.nsIn K mainGlobals "_law_world" = some (some (.ref f24))) (l24 : K.lookup f24 = some ⟨oc24, od24, .func (PySem.W.fnOf "_law_world" "_law_world" (defArgs s_law_world) (defBody s_law_world) (defScope s_law_world) .none kV24 dc24 pm24 an24 cd24 ct24), sl24⟩) (c24 : PySem.W.codeIn K cd24 "_law_world" = true) (k24 : PySem.W.keepIn K (.ref f24) = true) (a25 : PySem.W.nsIn K mainGlobals "_law_is_name" = some (some (.ref f25))) (l25 : K.lookup f25 = some ⟨oc25, od25, .func (PySem.W.fnOf "_law_is_name" "_law_is_name" (defArgs s_law_is_name) (defBody s_law_is_name) (defScope s_law_is_name) .none kV25 dc25 pm25 an25 cd25 ct25), sl25⟩) (c25 : PySem.W.codeIn K cd25 "_law_is_name" = true) (k25 : PySem.W.keepIn K (.ref f25) = true) (a26 : PySem.W.nsIn K mainGlobals "_law_whole" = some (some (.ref f26))) (l26 : K.lookup f26 = some ⟨oc26, od26, .func (PySem.W.fnOf "_law_whole" "_law_whole" (defArgs s_law_whole) (defBody s_law_whole) (defScope s_law_whole) .none kV26 dc26 pm26 an26 cd26 ct26), sl26⟩) (c26 : PySem.W.codeIn K cd26 "_law_whole" = true) (k26 : PySem.W.keepIn K (.ref f26) = true) (a27 : PySem.W.nsIn K mainGlobals "_law_is_row" = some (some (.ref f27))) (l27 : K.lookup f27 = some ⟨oc27, od27, .func (PySem.W.fnOf "_law_is_row" "_law_is_row" (defArgs s_law_is_row) (defBody s_law_is_row) (defScope s_law_is_row) .none kV27 dc27 pm27 an27 cd27 ct27), sl27⟩) (c27 : PySem.W.codeIn K cd27 "_law_is_row" = true) (k27 : PySem.W.keepIn K (.ref f27) = true) (a28 : PySem.W.nsIn K mainGlobals "_law_places_due" = some (some (.ref f28))) (l28 : K.lookup f28 = some ⟨oc28, od28, .func (PySem.W.fnOf "_law_places_due" "_law_places_due" (defArgs s_law_places_due) (defBody s_law_places_due) (defScope s_law_places_due) .none kV28 dc28 pm28 an28 cd28 ct28), sl28⟩) (c28 : PySem.W.codeIn K cd28 "_law_places_due" = true) (k28 : PySem.W.keepIn K (.ref f28) = true) (a29 : PySem.W.nsIn K mainGlobals "_law_due" = some (some (.ref f29))) (l29 : K.lookup f29 = some ⟨oc29, od29, .func (PySem.W.fnOf "_law_due" "_law_due" (defArgs s_law_due) (defBody s_law_due) (defScope s_law_due) .none kV29 dc29 pm29 an29 cd29 ct29), sl29⟩) (c29 : PySem.W.codeIn K cd29 "_law_due" = true) (k29 : PySem.W.keepIn K (.ref f29) = true) (a30 : PySem.W.nsIn K mainGlobals "_law_odd" = some (some (.ref f30))) (l30 : K.lookup f30 = some ⟨oc30, od30, .func (PySem.W.fnOf "_law_odd" "_law_odd" (defArgs s_law_odd) (defBody s_law_odd) (defScope s_law_odd) .none kV30 dc30 pm30 an30 cd30 ct30), sl30⟩) (c30 : PySem.W.codeIn K cd30 "_law_odd" = true) (k30 : PySem.W.keepIn K (.ref f30) = true) (a31 : PySem.W.nsIn K mainGlobals "_law_number" = some (some (.ref f31))) (l31 : K.lookup f31 = some ⟨oc31, od31, .func (PySem.W.fnOf "_law_number" "_law_number" (defArgs s_law_number) (defBody s_law_number) (defScope s_law_number) .none kV31 dc31 pm31 an31 cd31 ct31), sl31⟩) (c31 : PySem.W.codeIn K cd31 "_law_number" = true) (k31 : PySem.W.keepIn K (.ref f31) = true) (a32 : PySem.W.nsIn K mainGlobals "_law_bent_name" = some (some (.ref f32))) (l32 : K.lookup f32 = some ⟨oc32, od32, .func (PySem.W.fnOf "_law_bent_name" "_law_bent_name" (defArgs s_law_bent_name) (defBody s_law_bent_name) (defScope s_law_bent_name) .none kV32 dc32 pm32 an32 cd32 ct32), sl32⟩) (c32 : PySem.W.codeIn K cd32 "_law_bent_name" = true) (k32 : PySem.W.keepIn K (.ref f32) = true) (a33 : PySem.W.nsIn K mainGlobals "_law_part_otherwise" = some (some (.ref f33))) (l33 : K.lookup f33 = some ⟨oc33, od33, .func (PySem.W.fnOf "_law_part_otherwise" "_law_part_otherwise" (defArgs s_law_part_otherwise) (defBody s_law_part_otherwise) (defScope s_law_part_otherwise) .none kV33 dc33 pm33 an33 cd33 ct33), sl33⟩) (c33 : PySem.W.codeIn K cd33 "_law_part_otherwise" = true) (k33 : PySem.W.keepIn K (.ref f33) = true) (a34 : PySem.W.nsIn K mainGlobals "_law_thing_otherwise" = some (some (.ref f34))) (l34 : K.lookup f34 = some ⟨oc34, od34, .func (PySem.W.fnOf "_law_thing_otherwise" "_law_thing_otherwise" (defArgs s_law_thing_otherwise) (defBody s_law_thing_otherwise) (defScope s_law_thing_otherwise) .none kV34 dc34 pm34 an34 cd34 ct34), sl34⟩) (c34 : PySem.W.codeIn K cd34 "_law_thing_otherwise" = true) (k34 : PySem.W.keepIn K (.ref f34) = true) (a35 : PySem.W.nsIn K mainGlobals "_law_spoilt" = some (some (.ref f35))) (l35 : K.lookup f35 = some ⟨oc35, od35, .func (PySem.W.fnOf "_law_spoilt" "_law_spoilt" (defArgs s_law_spoilt) (defBody s_law_spoilt) (defScope s_law_spoilt) .none kV35 dc35 pm35 an35 cd35 ct35), sl35⟩) (c35 : PySem.W.codeIn K cd35 "_law_spoilt" = true) (k35 : PySem.W.keepIn K (.ref f35) = true) (a36 : PySem.W.nsIn K mainGlobals "_law_caught" = some (some (.ref f36))) (l36 : K.lookup f36 = some ⟨oc36, od36, .func (PySem.W.fnOf "_law_caught" "_law_caught" (defArgs s_law_caught) (defBody s_law_caught) (defScope s_law_caught) .none kV36 dc36 pm36 an36 cd36 ct36), sl36⟩) (c36 : PySem.W.codeIn K cd36 "_law_caught" = true) (k36 : PySem.W.keepIn K (.ref f36) = true) (a37 : PySem.W.nsIn K mainGlobals "_law_right" = some (some (.ref f37))) (l37 : K.lookup f37 = some ⟨oc37, od37, .func (PySem.W.fnOf "_law_right" "_law_right" (defArgs s_law_right) (defBody s_law_right) (defScope s_law_right) .none kV37 dc37 pm37 an37 cd37 ct37), sl37⟩) (c37 : PySem.W.codeIn K cd37 "_law_right" = true) (k37 : PySem.W.keepIn K (.ref f37) = true) (a38 : PySem.W.nsIn K mainGlobals "law" = some (some (.ref f38))) (l38 : K.lookup f38 = some ⟨oc38, od38, .func (PySem.W.fnOf "law" "law" (defArgs s_law) (defBody s_law) (defScope s_law) .none kV38 dc38 pm38 an38 cd38 ct38), sl38⟩) (c38 : PySem.W.codeIn K cd38 "law" = true) (k38 : PySem.W.keepIn K (.ref f38) = true) (lT : K.lookup dT = some oT) (oTd : oT.data = .seq #[.none] mT) (lco : K.lookup co = some ⟨eo, eoD, .fields us, usl⟩) (u11 : us[11]? = some (.ref tb)) (ntb : K.lookup tb = none) (hrec : ((PyProof.Rows.recsOf q).any fun r => r.name == "is_name") = true) (z0 : PySem.W.nsIn K mainGlobals "isinstance" = some none) (z1 : PySem.W.nsIn K mainGlobals "int" = some none) (z2 : PySem.W.nsIn K mainGlobals "bool" = some none) (z3 : PySem.W.nsIn K mainGlobals "str" = some none) (z4 : PySem.W.nsIn K mainGlobals "len" = some none) (z5 : PySem.W.nsIn K mainGlobals "all" = some none) (z6 : PySem.W.nsIn K mainGlobals "max" = some none) (z7 : PySem.W.nsIn K mainGlobals "min" = some none) (z8 : PySem.W.nsIn K mainGlobals "range" = some none) (z9 : PySem.W.nsIn K mainGlobals "repr" = some none) (z10 : PySem.W.nsIn K mainGlobals "list" = some none) (z11 : PySem.W.nsIn K mainGlobals "tuple" = some none) (z12 : PySem.W.nsIn K mainGlobals "enumerate" = some none) (z13 : PySem.W.nsIn K mainGlobals "sorted" = some none) (z14 : PySem.W.nsIn K mainGlobals "dict" = some none) (z15 : PySem.W.nsIn K mainGlobals "ValueError" = some none) (aCS : PySem.W.nsIn K mainGlobals "StaffError" = some (some (.ref CS))) (gaCS : PySem.W.specialIn K (.ref CS) "__getattribute__" = some (some (.builtin "type.__getattribute__"))) (rdCS : PySem.W.readsIn K CS (.type "type") = true) (atCS : PySem.W.findCls K (.ref CS) (.type "type") "__init__" = some (.val (.ref f1))) (vi : PySem.W.findCls K (.type "ValueError") (.type "type") "__init__" = some (.val (.builtin "ValueError.__init__"))) (xCNCP : PySem.W.exmOne K (.ref CN) (.ref CP) = some false) (xCWCP : PySem.W.exmOne K (.ref CW) (.ref CP) = some false) (xCWCN : PySem.W.exmOne K (.ref CW) (.ref CN) = some false) (xCMCP : PySem.W.exmOne K (.ref CM) (.ref CP) = some false) (xCMCN : PySem.W.exmOne K (.ref CM) (.ref CN) = some false) (xCMCW : PySem.W.exmOne K (.ref CM) (.ref CW) = some false) (xCTCP : PySem.W.exmOne K (.ref CT) (.ref CP) = some false) (xCTCN : PySem.W.exmOne K (.ref CT) (.ref CN) = some false) (xCTCW : PySem.W.exmOne K (.ref CT) (.ref CW) = some false) (xCTCM : PySem.W.exmOne K (.ref CT) (.ref CM) = some false) (xCLCP : PySem.W.exmOne K (.ref CL) (.ref CP) = some false) (xCLCN : PySem.W.exmOne K (.ref CL) (.ref CN) = some false) (xCLCW : PySem.W.exmOne K (.ref CL) (.ref CW) = some false) (xCLCM : PySem.W.exmOne K (.ref CL) (.ref CM) = some false) (xCLCT : PySem.W.exmOne K (.ref CL) (.ref CT) = some false) (cg : PySem.W.specialIn K (.builtin "object.__class__") "__get__" = some (some (.builtin "getset_descriptor.__get__"))) (ct : PySem.W.takesIn K (.builtin "object.__class__") = some true) (smN : K.lookup sysModules = none) :
    GLawM l w K CX0 10 63 "_law_script" mg fa h := by
  have e := hfa.symm.trans (PySem.W.mg_of X G a38)
  cases e
  have T : Txt mg := ⟨PySem.W.mg_none_of X G z0, PySem.W.mg_none_of X G z1, PySem.W.mg_none_of X G z2, PySem.W.mg_none_of X G z3, PySem.W.mg_none_of X G z4, PySem.W.mg_none_of X G z5, PySem.W.mg_none_of X G z6, PySem.W.mg_none_of X G z7, PySem.W.mg_none_of X G z8, PySem.W.mg_none_of X G z9, PySem.W.mg_none_of X G z10, PySem.W.mg_none_of X G z11, PySem.W.mg_none_of X G z12, PySem.W.mg_none_of X G z13, PySem.W.mg_none_of X G z14⟩
  have seCP : PySem.W.subIn K (.ref CP) (.ref CP) = some true := My.sub_self (by unfold PySem.W.clsIn; rw [xlCP] <;> rfl) rfl
  have seCN : PySem.W.subIn K (.ref CN) (.ref CN) = some true := My.sub_self (by unfold PySem.W.clsIn; rw [xlCN] <;> rfl) rfl
  have seCW : PySem.W.subIn K (.ref CW) (.ref CW) = some true := My.sub_self (by unfold PySem.W.clsIn; rw [xlCW] <;> rfl) rfl
  have seCM : PySem.W.subIn K (.ref CM) (.ref CM) = some true := My.sub_self (by unfold PySem.W.clsIn; rw [xlCM] <;> rfl) rfl
  have seCT : PySem.W.subIn K (.ref CT) (.ref CT) = some true := My.sub_self (by unfold PySem.W.clsIn; rw [xlCT] <;> rfl) rfl
  have seCL : PySem.W.subIn K (.ref CL) (.ref CL) = some true := My.sub_self (by unfold PySem.W.clsIn; rw [xlCL] <;> rfl) rfl
  have F1 := fun_mk (st := sSE) l1 c1 k1
  have b1 := F1.binds (ps := ["self", "text"]) fun _ _ _ _ _ _ us hl => match us, hl with | [_, _], _ => rfl
  have F2 := fun_mk (st := sNoPlaces) l2 c2 k2
  have b2 := F2.binds (ps := ["self", "found"]) fun _ _ _ _ _ _ us hl => match us, hl with | [_, _], _ => rfl
  have F3 := fun_mk (st := sNoName) l3 c3 k3
  have b3 := F3.binds (ps := ["self", "found"]) fun _ _ _ _ _ _ us hl => match us, hl with | [_, _], _ => rfl
  have F4 := fun_mk (st := sTwice) l4 c4 k4
  have b4 := F4.binds (ps := ["self", "found"]) fun _ _ _ _ _ _ us hl => match us, hl with | [_, _], _ => rfl
  have F5 := fun_mk (st := sNoNumber) l5 c5 k5
  have b5 := F5.binds (ps := ["self", "found"]) fun _ _ _ _ _ _ us hl => match us, hl with | [_, _], _ => rfl
  have F6 := fun_mk (st := sNoStretches) l6 c6 k6
  have b6 := F6.binds (ps := ["self", "found"]) fun _ _ _ _ _ _ us hl => match us, hl with | [_, _], _ => rfl
  have F7 := fun_mk (st := sNoLongs) l7 c7 k7
  have b7 := F7.binds (ps := ["self", "found"]) fun _ _ _ _ _ _ us hl => match us, hl with | [_, _], _ => rfl
  have F8 := fun_mk (st := sWhole) l8 c8 k8
  have b8 := F8.binds (ps := ["thing", "low", "high"]) fun _ _ _ _ _ _ us hl => match us, hl with | [_, _, _], _ => rfl
  have F9 := fun_mk (st := sName) l9 c9 k9
  have b9 := F9.binds (ps := ["thing"]) fun _ _ _ _ _ _ us hl => match us, hl with | [_], _ => rfl
  have F10 := fun_mk (st := s_is_list) l10 c10 k10
  have b10 := F10.binds (ps := ["thing", "low", "high"]) fun _ _ _ _ _ _ us hl => match us, hl with | [_, _, _], _ => rfl
  have F11 := fun_mk (st := s_is_tuple) l11 c11 k11
  have b11 := F11.binds (ps := ["thing", "many"]) fun _ _ _ _ _ _ us hl => match us, hl with | [_, _], _ => rfl
  have F12 := fun_mk (st := s_check_place) l12 c12 k12
  have b12 := F12.binds (ps := ["place", "ahead"]) fun _ _ _ _ _ _ us hl => match us, hl with | [_, _], _ => rfl
  have F13 := fun_mk (st := s_check_places) l13 c13 k13
  have b13 := F13.binds (ps := ["places"]) fun _ _ _ _ _ _ us hl => match us, hl with | [_], _ => rfl
  have F14 := fun_mk (st := s_is_stretch) l14 c14 k14
  have b14 := F14.binds (ps := ["thing"]) fun _ _ _ _ _ _ us hl => match us, hl with | [_], _ => rfl
  have F15 := fun_mk (st := s_check_stretches) l15 c15 k15
  have b15 := F15.binds (ps := ["stretches", "many"]) fun _ _ _ _ _ _ us hl => match us, hl with | [_, _], _ => rfl
  have F16 := fun_mk (st := s_is_long) l16 c16 k16
  have b16 := F16.binds (ps := ["thing", "low", "top"]) fun _ _ _ _ _ _ us hl => match us, hl with | [_, _, _], _ => rfl
  have F17 := fun_mk (st := s_check_longs) l17 c17 k17
  have b17 := F17.binds (ps := ["longs", "top"]) fun _ _ _ _ _ _ us hl => match us, hl with | [_, _], _ => rfl
  have F18 : FunV K "__init__" "Line.__init__" s_init f18 _ := ⟨⟨_, _, _, _, _, _, _, _, _, _, rfl, l18, c18⟩⟩
  have b18 : Binds K (PySem.W.fnOf "__init__" "Line.__init__" (defArgs s_init) (defBody s_init) (defScope s_init) (.ref dT) kV18 dc18 pm18 an18 cd18 ct18) ["self", "places", "stretches", "longs"] [] := fun s us X hl => by
    rw [List.append_nil] at hl ⊢
    match us, hl with
    | [_, _, _, _], _ => exact BindsTo.of_defaults rfl (X _ _ lT) oTd rfl rfl
  have bd18 : Binds K (PySem.W.fnOf "__init__" "Line.__init__" (defArgs s_init) (defBody s_init) (defScope s_init) (.ref dT) kV18 dc18 pm18 an18 cd18 ct18) ["self", "places", "stretches", "longs"] [.none] := fun s us X hl => by
    have hl2 : us.length = 3 := by simpa using hl
    match us, hl2 with
    | [_, _, _], _ => exact BindsTo.of_defaults rfl (X _ _ lT) oTd rfl rfl
  have F19 := fun_mk (st := s_told) l19 c19 k19
  have b19 := F19.binds (ps := ["self"]) fun _ _ _ _ _ _ us hl => match us, hl with | [_], _ => rfl
  have F20 := fun_mk (st := sCell) l20 c20 k20
  have b20 := F20.binds (ps := ["_law_script", "_law_k"]) fun _ _ _ _ _ _ us hl => match us, hl with | [_, _], _ => rfl
  have F21 := fun_mk (st := sBox) l21 c21 k21
  have b21 := F21.binds (ps := ["_law_cell_here"]) fun _ _ _ _ _ _ us hl => match us, hl with | [_], _ => rfl
  have F22 := fun_mk (st := sTake) l22 c22 k22
  have b22 := F22.binds (ps := ["_law_box_here", "_law_many"]) fun _ _ _ _ _ _ us hl => match us, hl with | [_, _], _ => rfl
  have F23 := fun_mk (st := s_law_names) l23 c23 k23
  have b23 := F23.binds (ps := ["_law_box_here", "_law_many"]) fun _ _ _ _ _ _ us hl => match us, hl with | [_, _], _ => rfl
  have F24 := fun_mk (st := s_law_world) l24 c24 k24
  have b24 := F24.binds (ps := ["_law_box_here"]) fun _ _ _ _ _ _ us hl => match us, hl with | [_], _ => rfl
  have F25 := fun_mk (st := s_law_is_name) l25 c25 k25
  have b25 := F25.binds (ps := ["_law_thing"]) fun _ _ _ _ _ _ us hl => match us, hl with | [_], _ => rfl
  have F26 := fun_mk (st := s_law_whole) l26 c26 k26
  have b26 := F26.binds (ps := ["_law_thing", "_law_low", "_law_high"]) fun _ _ _ _ _ _ us hl => match us, hl with | [_, _, _], _ => rfl
  have F27 := fun_mk (st := s_law_is_row) l27 c27 k27
  have b27 := F27.binds (ps := ["_law_thing", "_law_size"]) fun _ _ _ _ _ _ us hl => match us, hl with | [_, _], _ => rfl
  have F28 := fun_mk (st := s_law_places_due) l28 c28 k28
  have b28 := F28.binds (ps := ["_law_places"]) fun _ _ _ _ _ _ us hl => match us, hl with | [_], _ => rfl
  have F29 := fun_mk (st := s_law_due) l29 c29 k29
  have b29 := F29.binds (ps := ["_law_places", "_law_stretches", "_law_longs"]) fun _ _ _ _ _ _ us hl => match us, hl with | [_, _, _], _ => rfl
  have F30 := fun_mk (st := s_law_odd) l30 c30 k30
  have b30 := F30.binds (ps := ["_law_box_here", "_law_world_here"]) fun _ _ _ _ _ _ us hl => match us, hl with | [_, _], _ => rfl
  have F31 := fun_mk (st := s_law_number) l31 c31 k31
  have b31 := F31.binds (ps := ["_law_box_here"]) fun _ _ _ _ _ _ us hl => match us, hl with | [_], _ => rfl
  have F32 := fun_mk (st := s_law_bent_name) l32 c32 k32
  have b32 := F32.binds (ps := ["_law_box_here", "_law_name"]) fun _ _ _ _ _ _ us hl => match us, hl with | [_, _], _ => rfl
  have F33 := fun_mk (st := s_law_part_otherwise) l33 c33 k33
  have b33 := F33.binds (ps := ["_law_box_here", "_law_world_here", "_law_part", "_law_thing"]) fun _ _ _ _ _ _ us hl => match us, hl with | [_, _, _, _], _ => rfl
  have F34 := fun_mk (st := s_law_thing_otherwise) l34 c34 k34
  have b34 := F34.binds (ps := ["_law_box_here", "_law_world_here", "_law_part", "_law_some"]) fun _ _ _ _ _ _ us hl => match us, hl with | [_, _, _, _], _ => rfl
  have F35 := fun_mk (st := s_law_spoilt) l35 c35 k35
  have b35 := F35.binds (ps := ["_law_box_here", "_law_world_here"]) fun _ _ _ _ _ _ us hl => match us, hl with | [_, _], _ => rfl
  have F36 := fun_mk (st := s_law_caught) l36 c36 k36
  have b36 := F36.binds (ps := ["_law_some"]) fun _ _ _ _ _ _ us hl => match us, hl with | [_], _ => rfl
  have F37 := fun_mk (st := s_law_right) l37 c37 k37
  have b37 := F37.binds (ps := ["_law_some"]) fun _ _ _ _ _ _ us hl => match us, hl with | [_], _ => rfl
  have F38 := fun_mk (st := s_law) l38 c38 k38
  have TC : ClsT K C := ⟨⟨pgC, hdC, poC, saC⟩, n0C, n1C, n2C, n3C⟩
  have ES : SeT K mg CS f1 _ sSE := ⟨PySem.W.mg_none_of X G z15, vi, PySem.W.mg_of X G aCS, ⟨gaCS, rdCS, atCS⟩, k1, F1, b1⟩
  have e0CP : ExC K mg "NoPlaces" "NoPlaces.__init__" sNoPlaces CP f2 _ := ⟨PySem.W.mg_of X G aCP, F2, b2, ⟨⟨nmCP, qCP, NCP, bsCP, _, snCP, subCP, abCP, colCP, ddCP, m0CP, m1CP, m2CP, m3CP, m5CP, xlCP, rfl⟩, saCP, exCP, tyCP, kcCP⟩, a2, (beq_iff_eq.mp i2), n0CP, PySem.W.exm_ref exCP hdCP tyCP seCP, ⟨gaCP, ggCP, exCP, hdCP⟩, ⟨icCP, gaCP, ggCP, exCP, coCP, cg, ct, moCP⟩⟩
  have ECP : ExC K mg "NoPlaces" "NoPlaces.__init__" sNoPlaces (clOf CP CN CW CM CT CL .places) f2 _ := e0CP
  have e0CN : ExC K mg "NoName" "NoName.__init__" sNoName CN f3 _ := ⟨PySem.W.mg_of X G aCN, F3, b3, ⟨⟨nmCN, qCN, NCN, bsCN, _, snCN, subCN, abCN, colCN, ddCN, m0CN, m1CN, m2CN, m3CN, m5CN, xlCN, rfl⟩, saCN, exCN, tyCN, kcCN⟩, a3, (beq_iff_eq.mp i3), n0CN, PySem.W.exm_ref exCN hdCN tyCN seCN, ⟨gaCN, ggCN, exCN, hdCN⟩, ⟨icCN, gaCN, ggCN, exCN, coCN, cg, ct, moCN⟩⟩
  have ECN : ExC K mg "NoName" "NoName.__init__" sNoName (clOf CP CN CW CM CT CL .name) f3 _ := e0CN
  have e0CW : ExC K mg "Twice" "Twice.__init__" sTwice CW f4 _ := ⟨PySem.W.mg_of X G aCW, F4, b4, ⟨⟨nmCW, qCW, NCW, bsCW, _, snCW, subCW, abCW, colCW, ddCW, m0CW, m1CW, m2CW, m3CW, m5CW, xlCW, rfl⟩, saCW, exCW, tyCW, kcCW⟩, a4, (beq_iff_eq.mp i4), n0CW, PySem.W.exm_ref exCW hdCW tyCW seCW, ⟨gaCW, ggCW, exCW, hdCW⟩, ⟨icCW, gaCW, ggCW, exCW, coCW, cg, ct, moCW⟩⟩
  have ECW : ExC K mg "Twice" "Twice.__init__" sTwice (clOf CP CN CW CM CT CL .twice) f4 _ := e0CW
  have e0CM : ExC K mg "NoNumber" "NoNumber.__init__" sNoNumber CM f5 _ := ⟨PySem.W.mg_of X G aCM, F5, b5, ⟨⟨nmCM, qCM, NCM, bsCM, _, snCM, subCM, abCM, colCM, ddCM, m0CM, m1CM, m2CM, m3CM, m5CM, xlCM, rfl⟩, saCM, exCM, tyCM, kcCM⟩, a5, (beq_iff_eq.mp i5), n0CM, PySem.W.exm_ref exCM hdCM tyCM seCM, ⟨gaCM, ggCM, exCM, hdCM⟩, ⟨icCM, gaCM, ggCM, exCM, coCM, cg, ct, moCM⟩⟩
  have ECM : ExC K mg "NoNumber" "NoNumber.__init__" sNoNumber (clOf CP CN CW CM CT CL .number) f5 _ := e0CM
  have e0CT : ExC K mg "NoStretches" "NoStretches.__init__" sNoStretches CT f6 _ := ⟨PySem.W.mg_of X G aCT, F6, b6, ⟨⟨nmCT, qCT, NCT, bsCT, _, snCT, subCT, abCT, colCT, ddCT, m0CT, m1CT, m2CT, m3CT, m5CT, xlCT, rfl⟩, saCT, exCT, tyCT, kcCT⟩, a6, (beq_iff_eq.mp i6), n0CT, PySem.W.exm_ref exCT hdCT tyCT seCT, ⟨gaCT, ggCT, exCT, hdCT⟩, ⟨icCT, gaCT, ggCT, exCT, coCT, cg, ct, moCT⟩⟩
  have ECT : ExC K mg "NoStretches" "NoStretches.__init__" sNoStretches (clOf CP CN CW CM CT CL .stretches) f6 _ := e0CT
  have e0CL : ExC K mg "NoLongs" "NoLongs.__init__" sNoLongs CL f7 _ := ⟨PySem.W.mg_of X G aCL, F7, b7, ⟨⟨nmCL, qCL, NCL, bsCL, _, snCL, subCL, abCL, colCL, ddCL, m0CL, m1CL, m2CL, m3CL, m5CL, xlCL, rfl⟩, saCL, exCL, tyCL, kcCL⟩, a7, (beq_iff_eq.mp i7), n0CL, PySem.W.exm_ref exCL hdCL tyCL seCL, ⟨gaCL, ggCL, exCL, hdCL⟩, ⟨icCL, gaCL, ggCL, exCL, coCL, cg, ct, moCL⟩⟩
  have ECL : ExC K mg "NoLongs" "NoLongs.__init__" sNoLongs (clOf CP CN CW CM CT CL .longs) f7 _ := e0CL
  have XM : ∀ s t : Tag, s.n < t.n → PySem.W.exmOne K (.ref (clOf CP CN CW CM CT CL t)) (.ref (clOf CP CN CW CM CT CL s)) = some false := by
    intro s t h
    cases s <;> cases t <;> first | exact absurd h (by decide) | exact xCNCP | exact xCWCP | exact xCWCN | exact xCMCP | exact xCMCN | exact xCMCW | exact xCTCP | exact xCTCN | exact xCTCW | exact xCTCM | exact xCLCP | exact xCLCN | exact xCLCW | exact xCLCM | exact xCLCT
  obtain ⟨ch, tabh⟩ := em "is_name" f9 co tb _ _ eo eoD us usl hrec a9 l9 rfl rfl lco u11
  refine ⟨PySem.W.fnOf "law" "law" (defArgs s_law) (defBody s_law) (defScope s_law) .none kV38 dc38 pm38 an38 cd38 ct38, [(co, tb)], spLaw K tb, smN, ?_, ?_, ?_, fun s v => .of_eq rfl, ?_, ?_⟩
  · intro p hp
    obtain rfl := List.mem_singleton.mp hp
    exact tabh
  · intro p hp
    obtain rfl := List.mem_singleton.mp hp
    exact ntb
  · intro p hp
    obtain rfl := List.mem_singleton.mp hp
    exact ch
  · intro H a ns hn sm hT hS
    exact ⟨a, ns, rfl, hS, hn, ⟨#[], hT (co, tb) (List.mem_singleton.mpr rfl), trivial⟩, sm, fun _ => rfl⟩
  · intro base kb nb TB
    have gis_whole : FnOk l.prog w K mg base CX0 _ f8 _ _ _ := ok_whole F8 T
    have gis_name := ok_name (P := l.prog) (w := w) l9 c9 T (TB (co, tb) (List.mem_singleton.mpr rfl))
    have gis_list : FnOk l.prog w K mg base CX0 _ f10 _ _ _ := ok_is_listG F10 T
    have gis_tuple : FnOk l.prog w K mg base CX0 _ f11 _ _ _ := ok_is_tupleG F11 T
    have gcheck_place : FnOk l.prog w K mg base (CX l.prog w) _ f12 _ _ _ := ok_placeX F12 T ES ECP ECN ECW ECM ⟨F11, PySem.W.mg_of X G a11, b11⟩ gis_tuple ⟨F9, PySem.W.mg_of X G a9, b9⟩ gis_name ⟨F8, PySem.W.mg_of X G a8, b8⟩ gis_whole
    have gcheck_places : FnOk l.prog w K mg base (CX l.prog w) _ f13 _ _ _ := ok_placesX F13 T ES ECP ⟨F10, PySem.W.mg_of X G a10, b10⟩ gis_list ⟨F12, PySem.W.mg_of X G a12, b12⟩ gcheck_place
    have gis_stretch : FnOk l.prog w K mg base CX0 _ f14 _ _ _ := ok_is_stretchG F14 T ⟨F11, PySem.W.mg_of X G a11, b11⟩ gis_tuple ⟨F8, PySem.W.mg_of X G a8, b8⟩ gis_whole
    have gcheck_stretches : FnOk l.prog w K mg base (CX l.prog w) _ f15 _ _ _ := ok_stretchesX F15 T ES ECT ⟨F10, PySem.W.mg_of X G a10, b10⟩ gis_list ⟨F14, PySem.W.mg_of X G a14, b14⟩ gis_stretch
    have gis_long : FnOk l.prog w K mg base CX0 _ f16 _ _ _ := ok_is_longG F16 T ⟨F11, PySem.W.mg_of X G a11, b11⟩ gis_tuple ⟨F8, PySem.W.mg_of X G a8, b8⟩ gis_whole
    have gcheck_longs : FnOk l.prog w K mg base (CX l.prog w) _ f17 _ _ _ := ok_longsX F17 T ES ECL ⟨F10, PySem.W.mg_of X G a10, b10⟩ gis_list ⟨F16, PySem.W.mg_of X G a16, b16⟩ gis_long
    have ginit : FnOk l.prog w K mg base (CX l.prog w) _ f18 _ _ _ := ok_initX F18 T TC ⟨F13, PySem.W.mg_of X G a13, b13⟩ gcheck_places ⟨F15, PySem.W.mg_of X G a15, b15⟩ gcheck_stretches ⟨F17, PySem.W.mg_of X G a17, b17⟩ gcheck_longs
    have gtold : FnOk l.prog w K mg base CX0 _ f19 _ _ _ := ok_toldG F19 T TC
    have glaw_cell : FnOk l.prog w K mg base CX0 _ f20 _ _ _ := ok_cell F20 T
    have glaw_box : FnOk l.prog w K mg base CX0 _ f21 _ _ _ := ok_box F21 T
    have glaw_take : FnOk l.prog w K mg base CX0 _ f22 _ _ _ := ok_take F22
    have glaw_names : FnOk l.prog w K mg base CX0 _ f23 _ _ _ := ok_names F23 T ⟨F22, PySem.W.mg_of X G a22, b22⟩ glaw_take
    have glaw_world : FnOk l.prog w K mg base CX0 _ f24 _ _ _ := ok_world F24 T ⟨F22, PySem.W.mg_of X G a22, b22⟩ glaw_take ⟨F23, PySem.W.mg_of X G a23, b23⟩ glaw_names
    have glaw_is_name : FnOk l.prog w K mg base CX0 _ f25 _ _ _ := ok_law_is_name F25 T
    have glaw_whole : FnOk l.prog w K mg base CX0 _ f26 _ _ _ := ok_law_whole F26 T
    have glaw_is_row : FnOk l.prog w K mg base CX0 _ f27 _ _ _ := ok_law_is_row F27 T
    have glaw_places_due : FnOk l.prog w K mg base CX0 _ f28 _ _ _ := ok_law_places_due F28 T ⟨F27, PySem.W.mg_of X G a27, b27⟩ glaw_is_row ⟨F25, PySem.W.mg_of X G a25, b25⟩ glaw_is_name ⟨F26, PySem.W.mg_of X G a26, b26⟩ glaw_whole
    have glaw_due : FnOk l.prog w K mg base CX0 _ f29 _ _ _ := ok_law_due F29 T ⟨F27, PySem.W.mg_of X G a27, b27⟩ glaw_is_row ⟨F28, PySem.W.mg_of X G a28, b28⟩ glaw_places_due ⟨F26, PySem.W.mg_of X G a26, b26⟩ glaw_whole
    have glaw_odd : FnOk l.prog w K mg base CX0 _ f30 _ _ _ := ok_odd F30 T ⟨F22, PySem.W.mg_of X G a22, b22⟩ glaw_take
    have glaw_number : FnOk l.prog w K mg base CX0 _ f31 _ _ _ := ok_number F31 T ⟨F22, PySem.W.mg_of X G a22, b22⟩ glaw_take
    have glaw_bent_name : FnOk l.prog w K mg base CX0 _ f32 _ _ _ := ok_bent F32 T ⟨F22, PySem.W.mg_of X G a22, b22⟩ glaw_take
    have glaw_part_otherwise : FnOk l.prog w K mg base CX0 _ f33 _ _ _ := ok_part F33 T ⟨F22, PySem.W.mg_of X G a22, b22⟩ glaw_take ⟨F30, PySem.W.mg_of X G a30, b30⟩ glaw_odd ⟨F31, PySem.W.mg_of X G a31, b31⟩ glaw_number ⟨F32, PySem.W.mg_of X G a32, b32⟩ glaw_bent_name
    have glaw_thing_otherwise : FnOk l.prog w K mg base CX0 _ f34 _ _ _ := ok_thing F34 T ⟨F22, PySem.W.mg_of X G a22, b22⟩ glaw_take ⟨F30, PySem.W.mg_of X G a30, b30⟩ glaw_odd ⟨F33, PySem.W.mg_of X G a33, b33⟩ glaw_part_otherwise
    have glaw_spoilt : FnOk l.prog w K mg base CX0 _ f35 _ _ _ := ok_spoilt F35 T ⟨F22, PySem.W.mg_of X G a22, b22⟩ glaw_take ⟨F30, PySem.W.mg_of X G a30, b30⟩ glaw_odd ⟨F34, PySem.W.mg_of X G a34, b34⟩ glaw_thing_otherwise ⟨F31, PySem.W.mg_of X G a31, b31⟩ glaw_number
    have glaw_caught : FnOk l.prog w K mg base CX0 _ f36 _ _ _ := ok_caught F36 T TC ES ECP ECN ECW ECM ECT ECL XM (PySem.W.mg_of X G aC) ⟨mkC, a18, i18, kcC⟩ ginit b18 ⟨F19, ⟨a19, i19, k19⟩, b19⟩ gtold
    have glaw_right : GOk l.prog w K mg base CX0 _ f37 _ _ _ := ok_right smN F37 T ⟨F29, PySem.W.mg_of X G a29, b29⟩ glaw_due ⟨F36, PySem.W.mg_of X G a36, b36⟩ glaw_caught
    exact (ok_law F38 T ⟨F20, PySem.W.mg_of X G a20, b20⟩ glaw_cell ⟨F21, PySem.W.mg_of X G a21, b21⟩ glaw_box ⟨F24, PySem.W.mg_of X G a24, b24⟩ glaw_world ⟨F35, PySem.W.mg_of X G a35, b35⟩ glaw_spoilt ⟨F37, PySem.W.mg_of X G a37, b37⟩ glaw_right)
end K4

open PySem PySem.W PyProof.Rows in
set_option maxRecDepth 100000 in
set_option maxHeartbeats 0 in
theorem PySem.Challenge.cw_onestaff_k04_lines_refused_holds : PySem.Challenge.rw_onestaff_k04_lines_refused.Holds := by
  w_on; o_law; k_head; (case hw => w_witness2)
  k_fill
  refine Gd.walk_m (no := by first | rfl | decide +kernel) (l := PySem.Challenge.rw_onestaff_k04_lines_refused) (n := 63) (k := 10) (x := "_law_script") (CX := fun _ => L2.CX0) rfl (by decide) rfl ⟨rfl, by decide, by decide⟩ (fun w h Y => PySem.W.kIn_of Y) ?F (fun _ _ _ _ _ z => z)
  case F =>
    intro w mg fa h Y KX G hmg em
    refine' K4.all_mk KX G hmg em ?QaC ?QpgC ?QhdC ?QpoC ?QsaC ?QmkC ?QkcC ?Qn0C ?Qn1C ?Qn2C ?Qn3C ?QaCP ?QxlCP ?QsaCP ?QgaCP ?QggCP ?QkcCP ?QexCP ?QtyCP ?QhdCP ?QicCP ?QcoCP ?QmoCP ?Qn0CP ?QaCN ?QxlCN ?QsaCN ?QgaCN ?QggCN ?QkcCN ?QexCN ?QtyCN ?QhdCN ?QicCN ?QcoCN ?QmoCN ?Qn0CN ?QaCW ?QxlCW ?QsaCW ?QgaCW ?QggCW ?QkcCW ?QexCW ?QtyCW ?QhdCW ?QicCW ?QcoCW ?QmoCW ?Qn0CW ?QaCM ?QxlCM ?QsaCM ?QgaCM ?QggCM ?QkcCM ?QexCM ?QtyCM ?QhdCM ?QicCM ?QcoCM ?QmoCM ?Qn0CM ?QaCT ?QxlCT ?QsaCT ?QgaCT ?QggCT ?QkcCT ?QexCT ?QtyCT ?QhdCT ?QicCT ?QcoCT ?QmoCT ?Qn0CT ?QaCL ?QxlCL ?QsaCL ?QgaCL ?QggCL ?QkcCL ?QexCL ?QtyCL ?QhdCL ?QicCL ?QcoCL ?QmoCL ?Qn0CL ?Qa1 ?Qi1 ?Ql1 ?Qc1 ?Qk1 ?Qa2 ?Qi2 ?Ql2 ?Qc2 ?Qk2 ?Qa3 ?Qi3 ?Ql3 ?Qc3 ?Qk3 ?Qa4 ?Qi4 ?Ql4 ?Qc4 ?Qk4 ?Qa5 ?Qi5 ?Ql5 ?Qc5 ?Qk5 ?Qa6 ?Qi6 ?Ql6 ?Qc6 ?Qk6 ?Qa7 ?Qi7 ?Ql7 ?Qc7 ?Qk7 ?Qa8 ?Ql8 ?Qc8 ?Qk8 ?Qa9 ?Ql9 ?Qc9 ?Qk9 ?Qa10 ?Ql10 ?Qc10 ?Qk10 ?Qa11 ?Ql11 ?Qc11 ?Qk11 ?Qa12 ?Ql12 ?Qc12 ?Qk12 ?Qa13 ?Ql13 ?Qc13 ?Qk13 ?Qa14 ?Ql14 ?Qc14 ?Qk14 ?Qa15 ?Ql15 ?Qc15 ?Qk15 ?Qa16 ?Ql16 ?Qc16 ?Qk16 ?Qa17 ?Ql17 ?Qc17 ?Qk17 ?Qa18 ?Qi18 ?Ql18 ?Qc18 ?Qk18 ?Qa19 ?Qi19 ?Ql19 ?Qc19 ?Qk19 ?Qa20 ?Ql20 ?Qc20 ?Qk20 ?Qa21 ?Ql21 ?Qc21 ?Qk21 ?Qa22 ?Ql22 ?Qc22 ?Qk22 ?Qa23 ?Ql23 ?Qc23 ?Qk23 ?Qa24 ?Ql24 ?Qc24 ?Qk24 ?Qa25 ?Ql25 ?Qc25 ?Qk25 ?Qa26 ?Ql26 ?Qc26 ?Qk26 ?Qa27 ?Ql27 ?Qc27 ?Qk27 ?Qa28 ?Ql28 ?Qc28 ?Qk28 ?Qa29 ?Ql29 ?Qc29 ?Qk29 ?Qa30 ?Ql30 ?Qc30 ?Qk30 ?Qa31 ?Ql31 ?Qc31 ?Qk31 ?Qa32 ?Ql32 ?Qc32 ?Qk32 ?Qa33 ?Ql33 ?Qc33 ?Qk33 ?Qa34 ?Ql34 ?Qc34 ?Qk34 ?Qa35 ?Ql35 ?Qc35 ?Qk35 ?Qa36 ?Ql36 ?Qc36 ?Qk36 ?Qa37 ?Ql37 ?Qc37 ?Qk37 ?Qa38 ?Ql38 ?Qc38 ?Qk38 ?QlT ?QoTd ?Qlco ?Qu11 ?Qntb ?Qhrec ?Qz0 ?Qz1 ?Qz2 ?Qz3 ?Qz4 ?Qz5 ?Qz6 ?Qz7 ?Qz8 ?Qz9 ?Qz10 ?Qz11 ?Qz12 ?Qz13 ?Qz14 ?Qz15 ?QaCS ?QgaCS ?QrdCS ?QatCS ?Qvi ?QxCNCP ?QxCWCP ?QxCWCN ?QxCMCP ?QxCMCN ?QxCMCW ?QxCTCP ?QxCTCN ?QxCTCW ?QxCTCM ?QxCLCP ?QxCLCN ?QxCLCW ?QxCLCM ?QxCLCT ?Qcg ?Qct ?QsmN
    (case QaC => k_is)
    (case QpgC => k_is)
    (case QhdC => k_is)
    (case QpoC => k_is)
    (case QsaC => k_is)
    (case QmkC => k_is)
    (case QkcC => k_is)
    (case Qn0C => k_is)
    (case Qn1C => k_is)
    (case Qn2C => k_is)
    (case Qn3C => k_is)
    (case QaCP => k_is)
    (case QxlCP => k_is)
    (case QsaCP => k_is)
    (case QgaCP => k_is)
    (case QggCP => k_is)
    (case QkcCP => k_is)
    (case QexCP => k_is)
    (case QtyCP => k_is)
    (case QhdCP => k_is)
    (case QicCP => k_is)
    (case QcoCP => k_is)
    (case QmoCP => k_is)
    (case Qn0CP => k_is)
    (case QaCN => k_is)
    (case QxlCN => k_is)
    (case QsaCN => k_is)
    (case QgaCN => k_is)
    (case QggCN => k_is)
    (case QkcCN => k_is)
    (case QexCN => k_is)
    (case QtyCN => k_is)
    (case QhdCN => k_is)
    (case QicCN => k_is)
    (case QcoCN => k_is)
    (case QmoCN => k_is)
    (case Qn0CN => k_is)
    (case QaCW => k_is)
    (case QxlCW => k_is)
    (case QsaCW => k_is)
    (case QgaCW => k_is)
    (case QggCW => k_is)
    (case QkcCW => k_is)
    (case QexCW => k_is)
    (case QtyCW => k_is)
    (case QhdCW => k_is)
    (case QicCW => k_is)
    (case QcoCW => k_is)
    (case QmoCW => k_is)
    (case Qn0CW => k_is)
    (case QaCM => k_is)
    (case QxlCM => k_is)
    (case QsaCM => k_is)
    (case QgaCM => k_is)
    (case QggCM => k_is)
    (case QkcCM => k_is)
    (case QexCM => k_is)
    (case QtyCM => k_is)
    (case QhdCM => k_is)
    (case QicCM => k_is)
    (case QcoCM => k_is)
    (case QmoCM => k_is)
    (case Qn0CM => k_is)
    (case QaCT => k_is)
    (case QxlCT => k_is)
    (case QsaCT => k_is)
    (case QgaCT => k_is)
    (case QggCT => k_is)
    (case QkcCT => k_is)
    (case QexCT => k_is)
    (case QtyCT => k_is)
    (case QhdCT => k_is)
    (case QicCT => k_is)
    (case QcoCT => k_is)
    (case QmoCT => k_is)
    (case Qn0CT => k_is)
    (case QaCL => k_is)
    (case QxlCL => k_is)
    (case QsaCL => k_is)
    (case QgaCL => k_is)
    (case QggCL => k_is)
    (case QkcCL => k_is)
    (case QexCL => k_is)
    (case QtyCL => k_is)
    (case QhdCL => k_is)
    (case QicCL => k_is)
    (case QcoCL => k_is)
    (case QmoCL => k_is)
    (case Qn0CL => k_is)
    (case Qa1 => k_is)
    (case Qi1 => k_is)
    (case Ql1 => k_is)
    (case Qc1 => k_is)
    (case Qk1 => k_is)
    (case Qa2 => k_is)
    (case Qi2 => k_is)
    (case Ql2 => k_is)
    (case Qc2 => k_is)
    (case Qk2 => k_is)
    (case Qa3 => k_is)
    (case Qi3 => k_is)
    (case Ql3 => k_is)
    (case Qc3 => k_is)
    (case Qk3 => k_is)
    (case Qa4 => k_is)
    (case Qi4 => k_is)
    (case Ql4 => k_is)
    (case Qc4 => k_is)
    (case Qk4 => k_is)
    (case Qa5 => k_is)
    (case Qi5 => k_is)
    (case Ql5 => k_is)
    (case Qc5 => k_is)
    (case Qk5 => k_is)
    (case Qa6 => k_is)
    (case Qi6 => k_is)
    (case Ql6 => k_is)
    (case Qc6 => k_is)
    (case Qk6 => k_is)
    (case Qa7 => k_is)
    (case Qi7 => k_is)
    (case Ql7 => k_is)
    (case Qc7 => k_is)
    (case Qk7 => k_is)
    (case Qa8 => k_is)
    (case Ql8 => k_is)
    (case Qc8 => k_is)
    (case Qk8 => k_is)
    (case Qa9 => k_is)
    (case Ql9 => k_is)
    (case Qc9 => k_is)
    (case Qk9 => k_is)
    (case Qa10 => k_is)
    (case Ql10 => k_is)
    (case Qc10 => k_is)
    (case Qk10 => k_is)
    (case Qa11 => k_is)
    (case Ql11 => k_is)
    (case Qc11 => k_is)
    (case Qk11 => k_is)
    (case Qa12 => k_is)
    (case Ql12 => k_is)
    (case Qc12 => k_is)
    (case Qk12 => k_is)
    (case Qa13 => k_is)
    (case Ql13 => k_is)
    (case Qc13 => k_is)
    (case Qk13 => k_is)
    (case Qa14 => k_is)
    (case Ql14 => k_is)
    (case Qc14 => k_is)
    (case Qk14 => k_is)
    (case Qa15 => k_is)
    (case Ql15 => k_is)
    (case Qc15 => k_is)
    (case Qk15 => k_is)
    (case Qa16 => k_is)
    (case Ql16 => k_is)
    (case Qc16 => k_is)
    (case Qk16 => k_is)
    (case Qa17 => k_is)
    (case Ql17 => k_is)
    (case Qc17 => k_is)
    (case Qk17 => k_is)
    (case Qa18 => k_is)
    (case Qi18 => k_is)
    (case Ql18 => k_is)
    (case Qc18 => k_is)
    (case Qk18 => k_is)
    (case Qa19 => k_is)
    (case Qi19 => k_is)
    (case Ql19 => k_is)
    (case Qc19 => k_is)
    (case Qk19 => k_is)
    (case Qa20 => k_is)
    (case Ql20 => k_is)
    (case Qc20 => k_is)
    (case Qk20 => k_is)
    (case Qa21 => k_is)
    (case Ql21 => k_is)
    (case Qc21 => k_is)
    (case Qk21 => k_is)
    (case Qa22 => k_is)
    (case Ql22 => k_is)
    (case Qc22 => k_is)
    (case Qk22 => k_is)
    (case Qa23 => k_is)
    (case Ql23 => k_is)
    (case Qc23 => k_is)
    (case Qk23 => k_is)
    (case Qa24 => k_is)
    (case Ql24 => k_is)
    (case Qc24 => k_is)
    (case Qk24 => k_is)
    (case Qa25 => k_is)
    (case Ql25 => k_is)
    (case Qc25 => k_is)
    (case Qk25 => k_is)
    (case Qa26 => k_is)
    (case Ql26 => k_is)
    (case Qc26 => k_is)
    (case Qk26 => k_is)
    (case Qa27 => k_is)
    (case Ql27 => k_is)
    (case Qc27 => k_is)
    (case Qk27 => k_is)
    (case Qa28 => k_is)
    (case Ql28 => k_is)
    (case Qc28 => k_is)
    (case Qk28 => k_is)
    (case Qa29 => k_is)
    (case Ql29 => k_is)
    (case Qc29 => k_is)
    (case Qk29 => k_is)
    (case Qa30 => k_is)
    (case Ql30 => k_is)
    (case Qc30 => k_is)
    (case Qk30 => k_is)
    (case Qa31 => k_is)
    (case Ql31 => k_is)
    (case Qc31 => k_is)
    (case Qk31 => k_is)
    (case Qa32 => k_is)
    (case Ql32 => k_is)
    (case Qc32 => k_is)
    (case Qk32 => k_is)
    (case Qa33 => k_is)
    (case Ql33 => k_is)
    (case Qc33 => k_is)
    (case Qk33 => k_is)
    (case Qa34 => k_is)
    (case Ql34 => k_is)
    (case Qc34 => k_is)
    (case Qk34 => k_is)
    (case Qa35 => k_is)
    (case Ql35 => k_is)
    (case Qc35 => k_is)
    (case Qk35 => k_is)
    (case Qa36 => k_is)
    (case Ql36 => k_is)
    (case Qc36 => k_is)
    (case Qk36 => k_is)
    (case Qa37 => k_is)
    (case Ql37 => k_is)
    (case Qc37 => k_is)
    (case Qk37 => k_is)
    (case Qa38 => k_is)
    (case Ql38 => k_is)
    (case Qc38 => k_is)
    (case Qk38 => k_is)
    (case QlT => k_is)
    (case QoTd => rfl)
    (case Qlco => k_is)
    (case Qu11 => rfl)
    (case Qntb => rfl)
    (case Qhrec => decide +kernel)
    (case Qz0 => k_is)
    (case Qz1 => k_is)
    (case Qz2 => k_is)
    (case Qz3 => k_is)
    (case Qz4 => k_is)
    (case Qz5 => k_is)
    (case Qz6 => k_is)
    (case Qz7 => k_is)
    (case Qz8 => k_is)
    (case Qz9 => k_is)
    (case Qz10 => k_is)
    (case Qz11 => k_is)
    (case Qz12 => k_is)
    (case Qz13 => k_is)
    (case Qz14 => k_is)
    (case Qz15 => k_is)
    (case QaCS => k_is)
    (case QgaCS => k_is)
    (case QrdCS => k_is)
    (case QatCS => k_is)
    (case Qvi => k_is)
    (case QxCNCP => first | kit_is | kernel_rfl | k_is)
    (case QxCWCP => first | kit_is | kernel_rfl | k_is)
    (case QxCWCN => first | kit_is | kernel_rfl | k_is)
    (case QxCMCP => first | kit_is | kernel_rfl | k_is)
    (case QxCMCN => first | kit_is | kernel_rfl | k_is)
    (case QxCMCW => first | kit_is | kernel_rfl | k_is)
    (case QxCTCP => first | kit_is | kernel_rfl | k_is)
    (case QxCTCN => first | kit_is | kernel_rfl | k_is)
    (case QxCTCW => first | kit_is | kernel_rfl | k_is)
    (case QxCTCM => first | kit_is | kernel_rfl | k_is)
    (case QxCLCP => first | kit_is | kernel_rfl | k_is)
    (case QxCLCN => first | kit_is | kernel_rfl | k_is)
    (case QxCLCW => first | kit_is | kernel_rfl | k_is)
    (case QxCLCM => first | kit_is | kernel_rfl | k_is)
    (case QxCLCT => first | kit_is | kernel_rfl | k_is)
    (case Qcg => k_is)
    (case Qct => k_is)
    (case QsmN => first | rfl | kernel_rfl)

