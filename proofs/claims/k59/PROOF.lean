import PyProof.Rows.All
import Wide.All
import OpenK.AllK
import Wide.FinOn
import PyProof.EqAt
import PyProof.EqKinds
import PyProof.TupleCall
import HandS.Base
import HandS.Call
import HandS.List
import HandS.Comp
import HandS.Ends
import HandS.Text
import HandS.Exc
import HandS.Words
import HandS.WordsList
import HandS.Iter
import HandS.Dict
import HandS.Wide
import HandS.IsInst
import HandS.AnyAll
import HandS.EndBits
import HandS.EndTab
import KE.GoesMore
import KE.GoesEnum
import HandS.Walk
import HandS.DictComp
import HandS.Conv
import HandS.TryMany
import HandS.ExcOwn
import HandS.WordsExc
import HandS.ExcInit
import HandS.ExcField
import HandS.ExcIs
import KE.KExcIs
import KE.KIsAll
import KE.KEqDict
import PyProof.Rows.RegFStrParts
import PyProof.Rows.ReprShort
import HandS.GenList
import PyProof.ConsumeS
import HandS.Zip
import KE.DataFind
import PyProof.NeKinds
import HandS.TupAny
import HandS.SetFor
import PySem.Challenge.RW_onestaff_k59_stands_refused
set_option Elab.async false
set_option linter.all false
set_option maxRecDepth 100000
set_option maxHeartbeats 4000000
/-! Defs that show lists and tuples: they run where no display is under way. -/
namespace Gd
open PySem PySem.Spec PyProof.Rows L2

/-- a def's promise, kept wherever no display is under way -/
structure GOk (P : Program) (w : World) (K : PySem.W.Frag) (mg : Str → Option Value) (base : Heap) (CX : CXT) (k : Nat) (f : Addr) (fd : FuncData) (ps : List Str) (sp : Sp) : Prop where
  size : ∀ vs H Q E, sp vs H Q E → vs.length = ps.length
  go : ∀ (A : Around) (out : List Env) (s : Shared) (H : Hp) (ar : Args) (us : List Value) (vs : List V) (Q : VK) (E : XK), A.guards = some [] →
    Room k A → Env0 P w K mg base A out s H → BindsTo s fd ar (ps.zip us) → Vals vs us → sp vs H Q E →
    codeAny (model P w) A (.call (.ref f) ar) (CR CX out P w H s Q E) s

section
variable {P : Program} {w : World} {K : PySem.W.Frag} {mg : Str → Option Value} {base : Heap}

/-- by its body -/
theorem gok_body {CX : CXT} {k : Nat} {x qual : Str} {st : Stmt} {f : Addr} {fd : FuncData} {N ps : List Str} {sp : Sp} (F : Fun K x qual st f fd) (S : FnScope N ps (defScope st))
    (size : ∀ vs H Q E, sp vs H Q E → vs.length = ps.length)
    (body : ∀ (cd : Value) (A : Around) (out : List Env) (s : Shared) (H : Hp) (vs : List V) (Q : VK) (E : XK), A.guards = some [] →
      Room k (A.deeper (envOfC qual (defScope st) s.heap.objs.size f cd)) → sp vs H Q E →
      ∃ t, PSs (cxOf CX P w K mg base N qual (defScope st) f cd A out s H E) (defBody st) t ∧ t { nx := fun _ H' => Q .non H', rt := Q } (start N vs) H) :
    GOk P w K mg base CX (k + 1) f fd ps sp := by
  obtain ⟨oc, od, kV, doc, pm, an, cd, ct, osl, rfl, lk, hcd⟩ := F.ex
  refine ⟨size, fun A out s H ar us vs Q E gd hr e0 hb r hsp => ?_⟩
  have hl := size _ _ _ _ hsp
  have KX : K.In s.heap := e0.mod.kin.keeps fun b o z => (e0.bs b o z).1
  have kinds : ∀ y ∈ ps.zip us, (defScope st).names.lookup y.1 = some .local ∨
      ((defScope st).names.lookup y.1 = some .cell ∧ ((cellsFrom (s.heap.objs.size + 1) (defScope st).names []).lookup y.1).isSome = true) := by
    rintro ⟨n, v⟩ hy
    have hm := (List.of_mem_zip hy).1
    cases S.par n hm with
    | inl q => exact .inl q
    | inr q => exact .inr ⟨q, PySem.W.cellsFrom_some _ _ _ (.inl q)⟩
  have Z := PySem.W.codeRec_of KX hcd
  refine codeAny_call_function hr.depth (KX _ _ lk) rfl S.co S.gen rfl Z (hb _ _ _ _ ?_)
  refine wpAny_newFunctionEnv_cells S.kind kinds fun env he s1 ic => ?_
  subst he
  have lim : s.heap.NoLimit := e0.mod.nolimit.keeps fun b o z => (e0.bs b o z).1
  refine ⟨lim.keeps ic.toInCall.keep, codeAny_func ?_⟩
  obtain ⟨t, ht, hq⟩ := body cd A out s H vs Q E gd (hr.deeper _) hsp
  have I := inv_start (CX := CX) (E := E) S hr.hd e0 hl r ic
  refine wpAny_mono (ht.run [] s1 (start N vs) H _ I hq) ?_ (fun _ _ z => z)
  intro fl s' hs
  cases fl with
  | brk => obtain ⟨_, _, _, q⟩ := hs; exact q.elim
  | cont => obtain ⟨_, _, _, q⟩ := hs; exact q.elim
  | next =>
    obtain ⟨σ', H', J, q⟩ := hs
    exact ⟨V.non, H', J.os, J.bare, J.base, J.hok, rfl, q⟩
  | ret u =>
    obtain ⟨v, σ', H', J, rv, q⟩ := hs
    exact ⟨v, H', J.os, J.bare, J.base, J.hok, rv, q⟩
/-- the same where nothing is raised -/
theorem gok {k : Nat} {x qual : Str} {st : Stmt} {f : Addr} {fd : FuncData} {N ps : List Str} {sp : Sp} (F : Fun K x qual st f fd) (S : FnScope N ps (defScope st))
    (size : ∀ vs H Q E, sp vs H Q E → vs.length = ps.length)
    (body : ∀ (cd : Value) (A : Around) (out : List Env) (s : Shared) (H : Hp) (vs : List V) (Q : VK) (E : XK), A.guards = some [] →
      Room k (A.deeper (envOfC qual (defScope st) s.heap.objs.size f cd)) → sp vs H Q E →
      ∃ t, PSs (cxOf CX0 P w K mg base N qual (defScope st) f cd A out s H E).nox (defBody st) t ∧ t { nx := fun _ H' => Q .non H', rt := Q } (start N vs) H) :
    GOk P w K mg base CX0 (k + 1) f fd ps sp := by
  refine gok_body F S size fun cd A out s H vs Q E gd hr q => ?_
  obtain ⟨t, h, z⟩ := body cd A out s H vs Q E gd hr q
  exact ⟨t, h.nox, z⟩
theorem GOk.mono {CX : CXT} {j k : Nat} {f : Addr} {fd : FuncData} {ps : List Str} {sp : Sp} (F : GOk P w K mg base CX j f fd ps sp) (h : j ≤ k) : GOk P w K mg base CX k f fd ps sp :=
  ⟨F.size, fun A out s H ar us vs Q E gd hr => F.go A out s H ar us vs Q E gd (hr.mono h)⟩
theorem gok_of {CX : CXT} {k : Nat} {f : Addr} {fd : FuncData} {ps : List Str} {sp : Sp} (F : FnOk P w K mg base CX k f fd ps sp) : GOk P w K mg base CX k f fd ps sp :=
  ⟨F.len, fun A out s H ar us vs Q E _ hr => F.run A out s H ar us vs Q E hr⟩
end

section
variable {X : Cx} {CX : CXT} {k : Nat} {f : Addr} {fd : FuncData} {ps : List Str} {sp : Sp} {dvs : List V} {ds : List Value} {E : XK} {x : Str} {p pos : Pos} {e : Expr} {es : List Expr} {t : TA}
/-- f(e, ..), f such a def, from a body of such a def -/
theorem pe_gcall (gd : X.A.guards = some []) (F : GOk X.prog X.w X.K X.mg X.base CX k f fd ps sp) (hr : Room k X.A) (hg : Gl X x) (hm : X.mg x = some (.ref f)) (hk : PySem.W.keepIn X.K (.ref f) = true)
    (hb : Binds X.K fd ps ds) (hd : Vals dvs ds) (hx : Passes CX X E) (ha : PA X (e :: es) t) (hdb : (x == ("__debug__" : Str)) = false := by decide)
    (he : starEach (e :: es) X.env = (false, eval e X.env) :: starEach es X.env := by rfl) (hpl : (backTo pos (starEach es X.env)).any (·.1) = false := by rfl) :
    PE X (.Call (.Name x p) (e :: es) [] pos) (tCall sp dvs E t) := by
  refine ⟨fun pins s σ H Q I h => wpAny_Call_Name_kw (ld_glob I hg hm ?_ hdb)⟩
  have A1 := ha.run pos pins s σ H _ I h
  refine PySem.W.callWith_K (h₀ := X.base) I.ok.mod.kin hk (thn A1 ?_) he hpl
  rintro us s1 ⟨vs, H1, I1, r, q⟩
  refine ⟨I1.kIn, ?_⟩
  have both := r.append hd
  have hl : (us ++ ds).length = ps.length := (both.length).symm.trans (F.size _ _ _ _ q)
  have run1 := F.go X.A X.stack s1 H1 ⟨us, []⟩ (us ++ ds) (vs ++ dvs) Q E gd hr I1.env0 (hb s1 us I1.kIn hl) both q
  refine wpAny_call (codeAny_mono run1 ?_)
  intro res s' hq
  match res, hq with
  | .error e, hq => exact hx pins σ H1 s1 e s' I1 hq
  | .ok (.ret u), hq => exact I1.after hq
  | .ok .next, hq => exact hq.elim
  | .ok .brk, hq => exact hq.elim
  | .ok .cont, hq => exact hq.elim

/-! ### repr of data -/
mutual
theorem dp_noDict {K : PySem.W.Frag} {H : Hp} : ∀ {v : V} {d : PyData}, Dp K H v d → d.hasDict = false
  | _, _, .non => by simp only [PyData.hasDict]
  | _, _, .bl _ => by simp only [PyData.hasDict]
  | _, _, .int _ => by simp only [PyData.hasDict]
  | _, _, .str _ => by simp only [PyData.hasDict]
  | _, _, .lst _ h => by simp only [PyData.hasDict]; exact dpAll_noDict h
  | _, _, .tup _ h => by simp only [PyData.hasDict]; exact dpAll_noDict h
theorem dpAll_noDict {K : PySem.W.Frag} {H : Hp} : ∀ {vs : List V} {ds : List PyData}, DpAll K H vs ds → PyData.hasDictAll ds = false
  | _, _, .nil => by simp only [PyData.hasDictAll]
  | _, _, .cons h t => by simp only [PyData.hasDictAll, dp_noDict h, dpAll_noDict t, Bool.or_self]
end
/-- repr(v), v some data d -/
def rRepr (K : PySem.W.Frag) : List V → Hp → VK → Prop := fun xs H Q => ∃ v d, xs = [v] ∧ Dp K H v d ∧ d.showable = true ∧ d.depth ≤ 100 ∧ d.shown.length ≤ sizeLine ∧ Q (.str d.shown) H
theorem call_repr (gd : X.A.guards = some []) (hr : Room k X.A) : CallR X (.builtin "repr") (rRepr X.K) := by
  intro pins s σ H xs us Q I r h
  obtain ⟨v, d, rfl, dp, hs, hdep, hsz, q⟩ := h
  cases r with
  | cons rv rn =>
    cases rn
    have hun := hr.un
    cases dp with
    | non =>
      cases rv
      refine PySem.P.repr_of_none ⟨.str _, H, I.tok _, ⟨_, rfl⟩, ?_⟩
      simpa only [PyData.shown] using q
    | bl b =>
      cases rv
      refine PySem.P.repr_of_bool ⟨.str _, H, I.tok _, ⟨_, rfl⟩, ?_⟩
      simpa only [PyData.shown] using q
    | int i =>
      obtain ⟨t, rfl⟩ := rv
      refine PySem.P.repr_of_int (by simpa [PyData.showable] using hs) ⟨.str _, H, I.tok _, ⟨_, rfl⟩, ?_⟩
      simpa only [PyData.shown] using q
    | str z =>
      obtain ⟨t, rfl⟩ := rv
      refine PySem.P.repr_of_str ⟨.str _, H, I.tok _, ⟨_, rfl⟩, ?_⟩ (by simpa only [PyData.shown] using hsz)
      simpa only [PyData.shown] using q
    | lst hl ha =>
      cases rv
      obtain ⟨as, rd⟩ := Dp.reads I _ _ _ (.lst hl ha) rfl
      refine repr_of_reads' rd hs (PyData.noDict_hsm (dp_noDict (.lst hl ha))) gd (by omega) (fun _ _ z => z) (fun h' u tk hk => ?_) hsz
      exact ⟨.str _, H, I.kept hk, ⟨_, rfl⟩, q⟩
    | tup hl ha =>
      cases rv
      obtain ⟨as, rd⟩ := Dp.reads I _ _ _ (.tup hl ha) rfl
      refine repr_of_reads' rd hs (PyData.noDict_hsm (dp_noDict (.tup hl ha))) gd (by omega) (fun _ _ z => z) (fun h' u tk hk => ?_) hsz
      exact ⟨.str _, H, I.kept hk, ⟨_, rfl⟩, q⟩
end
end Gd

set_option maxRecDepth 100000
set_option maxHeartbeats 4000000
/-! The end of a law whose own def shows data: no display is under way at its call. -/
namespace Gd
open PySem PySem.Spec PyProof.Rows L2 GxR

/-- the script's own object -/
def scriptO (vs : List Value) : Obj := { cls := .type "list", data := .seq vs.toArray }
def tabO : Obj := { cls := .none, data := .fields #[] }
open Classical in
/-- what is tracked at the law's call: the script (where the written part hasn't it), the tables -/
noncomputable def h0 (K : PySem.W.Frag) (a : Addr) (vs : List Value) (ns : List Int) (T : List Addr) : Hp := fun b =>
  if b = a ∧ K.lookup a = none then some (.frz (scriptO vs) (.lst (ns.map V.int))) else if b ∈ T then some (.tbl #[]) else none

theorem h0_inv {K : PySem.W.Frag} {a b : Addr} {vs : List Value} {ns : List Int} {T : List Addr} {u : HO} (h : h0 K a vs ns T b = some u) :
    (b = a ∧ K.lookup a = none ∧ u = .frz (scriptO vs) (.lst (ns.map V.int))) ∨ (b ∈ T ∧ u = .tbl #[]) := by
  unfold h0 at h
  by_cases c1 : b = a ∧ K.lookup a = none
  · rw [if_pos c1] at h
    exact .inl ⟨c1.1, c1.2, (Option.some.inj h).symm⟩
  · rw [if_neg c1] at h
    by_cases c2 : b ∈ T
    · rw [if_pos c2] at h
      exact .inr ⟨c2, (Option.some.inj h).symm⟩
    · rw [if_neg c2] at h
      cases h

section
variable {P : Program} {w : World} {K : PySem.W.Frag} {mg mb : Str → Option Value} {CX : CXT} {k : Nat} {fa a : Addr} {cs : List (Addr × Addr)} {fd : FuncData} {x : Str} {sp : Sp} {s1 : Shared} {vs : List Value} {ns : List Int}
theorem law_gcall (KX : K.In s1.heap) (nsG : s1.heap.Ns mainGlobals mg) (nsB : s1.heap.Ns builtinsNs mb) (isB : ∀ x : Str, x ≠ "__name__" → mb x = bootBuiltins x) (lim : s1.heap.NoLimit) (gens : s1.gens = #[])
    (tabs : ∀ p ∈ cs, s1.heap.get? p.2 = some tabO) (tabK : ∀ p ∈ cs, K.lookup p.2 = none) (codes : ∀ p ∈ cs, PySem.W.CodeHd s1.heap p.1 p.2)
    (bmain : ∃ (bm : Addr) (ob : Obj), mg "__builtins__" = some (.ref bm) ∧ bm ≠ builtinsNs ∧ s1.heap.get? bm = some ob ∧ ob.cls = .type "module" ∧ ob.dict = some builtinsNs ∧ ob.data = .plain)
    (ha : s1.heap.get? a = some (scriptO vs)) (hi : IntsAre vs ns) (hl : ns.length ≤ sizeLine) (hr : Room k callerA)
    (F : ∀ base : Heap, K.In base → base.Ns mainGlobals mg → (∀ p ∈ cs, TabB base mg p.1 p.2) → GOk P w K mg base CX k fa fd [x] sp)
    (hbind : ∀ (s : Shared) (u : Value), BindsTo s fd ⟨[u], []⟩ [(x, u)])
    (hsp : ∀ H : Hp, (∀ p ∈ cs, H p.2 = some (.tbl #[])) → SqL K H a (ns.map V.int) → sp [.ref a] H (fun v _ => v = .bl true) fun _ _ _ => False)
    (hCX : ∀ H e s', CX [] H s1 (fun _ _ _ => False) e s' → False) :
    codeAny (model P w) callerA (.call (.ref fa) ⟨[.ref a], []⟩) (fun r s' => r = .ok (.ret (.bool true)) ∧ OldK s1.heap s'.heap ∧ s'.os = s1.os ∧ AllBare s'.gens) s1 := by
  have rv := vals_ints hi
  have hlen := hi.length
  let T := cs.map Prod.snd
  have inT : ∀ p ∈ cs, p.2 ∈ T := fun p hp => List.mem_map.mpr ⟨p, hp, rfl⟩
  have ofT : ∀ b ∈ T, s1.heap.get? b = some tabO ∧ K.lookup b = none := by
    intro b hb
    obtain ⟨p, hp, rfl⟩ := List.mem_map.mp hb
    exact ⟨tabs p hp, tabK p hp⟩
  have neT : a ∉ T := fun z => by
    have q := (ofT a z).1
    rw [ha] at q
    cases q
  let H := h0 K a vs ns T
  -- a tracked object is the script or a table
  have seen : ∀ {b : Addr} {o : Obj}, s1.heap.get? b = some o → (∀ us n, o.data ≠ .seq us n) → o.data ≠ .fields #[] → H b = none := by
    intro b o e n1 n2
    cases q : H b with
    | none => rfl
    | some u =>
      exfalso
      rcases h0_inv q with ⟨rfl, _, _⟩ | ⟨hb, _⟩
      · rw [ha] at e
        cases e
        exact n1 _ _ rfl
      · rw [(ofT b hb).1] at e
        cases e
        exact n2 rfl
  have keepHid : ∀ {b : Addr} {o : Obj}, s1.heap.get? b = some o → H b = none → (hidT s1.heap H).get? b = some o := fun e n => hidT_get e n
  have dictHid : ∀ {b : Addr} {o : Obj} {es : Array DictEntry} {ep : Nat}, s1.heap.get? b = some o → o.data = .dict es ep → (hidT s1.heap H).get? b = some o := by
    intro b o es ep e d
    refine keepHid e (seen e (fun us n z => ?_) fun z => ?_) <;> (rw [d] at z; cases z)
  have nsHid : ∀ {b : Addr} {m : Str → Option Value}, s1.heap.Ns b m → (hidT s1.heap H).Ns b m := by
    rintro b m ⟨o, es, ep, e, d, rest⟩
    exact ⟨o, es, ep, dictHid e d, d, rest⟩
  have KH : K.In (hidT s1.heap H) := by
    intro b o e
    refine keepHid (KX b o e) ?_
    cases q : H b with
    | none => rfl
    | some u =>
      exfalso
      rcases h0_inv q with ⟨rfl, z, _⟩ | ⟨hb, _⟩
      · rw [z] at e
        cases e
      · rw [(ofT b hb).2] at e
        cases e
  have limH : (hidT s1.heap H).NoLimit := by
    obtain ⟨mc, h1, h2⟩ := lim
    exact ⟨mc, nsHid h1, h2⟩
  have M : L2.Mod K mg (hidT s1.heap H) := ⟨KH, nsHid nsG, ⟨mb, nsHid nsB, isB⟩, limH⟩
  have TB : ∀ p ∈ cs, TabB (hidT s1.heap H) mg p.1 p.2 := by
    intro p hp
    have tp := tabs p hp
    refine ⟨?_, ?_, ?_⟩
    · obtain ⟨o, us, file, tf, flags, tg, inF, text, tt, e1, r1, r2, r3, rest⟩ := codes p hp
      refine ⟨o, us, file, tf, flags, tg, inF, text, tt, keepHid e1 (seen e1 (fun vs n z => ?_) fun z => ?_), r1, r2, r3, rest⟩
      · rw [r2] at z
        cases z
      · rw [r2] at z
        cases z
        simp at r3
    · obtain ⟨bm, ob, b1, b2, b3, b4, b5, b6⟩ := bmain
      have g1 : bm ≠ mainGlobals := by
        rintro rfl
        obtain ⟨o, es, ep, e, d, _⟩ := nsG
        rw [b3] at e
        cases e
        rw [b6] at d
        cases d
      have g2 : bm ≠ p.2 := by
        rintro rfl
        rw [tp] at b3
        cases b3
        cases b6
      refine ⟨bm, ob, b1, b2, g1, g2, keepHid b3 (seen b3 (fun vs n z => ?_) fun z => ?_), b4, b5, b6⟩ <;> (rw [b6] at z; cases z)
    · intro z
      obtain ⟨o, es, ep, e, d, _⟩ := nsG
      rw [z, tp] at e
      cases e
      cases d
  have hH : ∀ p ∈ cs, H p.2 = some (.tbl #[]) := by
    intro p hp
    have n1 : ¬ (p.2 = a ∧ K.lookup a = none) := fun z => neT (z.1 ▸ inT p hp)
    exact (if_neg n1).trans (if_pos (inT p hp))
  have hS : SqL K H a (ns.map V.int) := by
    cases q : K.lookup a with
    | none => exact .inl (.inr ⟨scriptO vs, if_pos ⟨rfl, q⟩⟩)
    | some o =>
      have e := KX a o q
      rw [ha] at e
      cases e
      exact .inr ⟨_, vs.toArray, _, q, rfl, rfl, rfl, by rw [List.size_toArray, hlen]; exact hl, by simpa using rv⟩
  have hok : HOk P w H s1.heap := by
    intro b u q
    rcases h0_inv q with ⟨rfl, _, rfl⟩ | ⟨hb, rfl⟩
    · exact ⟨ha, by rw [List.length_map]; exact hl, vs, _, rv, ha⟩
    · exact (ofT b hb).1
  have e0 : Env0 P w K mg (hidT s1.heap H) callerA [] s1 H :=
    ⟨rfl, M, fun b o e => of_hidT e, Nat.le_of_eq (hidT_size _ _), trivial, (fun b hb => by cases (show b ∈ ([] : List Addr) from hb)), hok, .of_eq gens⟩
  have run := (F _ KH (nsHid nsG) TB).go callerA [] s1 H ⟨[.ref a], []⟩ [.ref a] [.ref a] (fun v _ => v = .bl true) (fun _ _ _ => False) rfl hr e0 (hbind s1 (.ref a)) (.cons rfl .nil) (hsp H hH hS)
  refine codeAny_mono run ?_
  intro r s' h
  match r, h with
  | .error e, h => exact (hCX H e s' h).elim
  | .ok .next, h => exact h.elim
  | .ok .brk, h => exact h.elim
  | .ok .cont, h => exact h.elim
  | .ok (.ret u), h =>
    obtain ⟨v, H', os, bare, un, hok', r', q⟩ := h
    obtain rfl : v = .bl true := q
    obtain rfl : u = Value.bool true := r'
    have plain : ∀ b o, b ∉ T → s1.heap.get? b = some o → s'.heap.get? b = some o := by
      intro b o nb e
      cases q : H b with
      | none => exact un.keep b o e q (fun z => by cases (show b ∈ ([] : List Addr) from z)) (by simp)
      | some y =>
        rcases h0_inv q with ⟨rfl, _, rfl⟩ | ⟨hb, _⟩
        · obtain ⟨e2, _⟩ := hok' b _ (un.frzs b _ _ q)
          rw [ha] at e
          cases e
          exact e2
        · exact absurd hb nb
    have grown : ∀ p ∈ cs, ∃ more : Array Value, s'.heap.get? p.2 = some { cls := .none, data := .fields more } := by
      intro p hp
      obtain ⟨more, z⟩ := un.tbls p.2 #[] (hH p hp)
      exact ⟨_, hok' p.2 _ z⟩
    refine ⟨rfl, ⟨fun b o e => ?_, fun b o e => ?_⟩, os, bare⟩ <;> by_cases hb : b ∈ T
    · obtain ⟨p, hp, rfl⟩ := List.mem_map.mp hb
      obtain ⟨more, hm⟩ := grown p hp
      rw [tabs p hp] at e
      cases e
      exact .inr (.inl ⟨((codes p hp).tab (tabs p hp)).isCodeTable, rfl, #[], more, rfl, by rw [Array.empty_append]; exact hm⟩)
    · exact .inl (plain b o hb e)
    · obtain ⟨p, hp, rfl⟩ := List.mem_map.mp hb
      obtain ⟨more, hm⟩ := grown p hp
      exact ⟨_, hm⟩
    · exact ⟨o, plain b o hb e⟩
end

/-- the tables of the text's own defs are empty behind the top -/
def Empt (q : Program) (K : PySem.W.Frag) (h : Heap) : Prop := ∀ (x : Str) (f c t : Addr) (o : Obj) (fd : FuncData) (e : Value) (dd : Option Addr) (us : Array Value) (sl : Array (Option Value)),
  ((PyProof.Rows.recsOf q).any fun r => r.name == x) = true → PySem.W.nsIn K mainGlobals x = some (some (.ref f)) → K.lookup f = some o → o.data = .func fd → fd.code = .ref c →
  K.lookup c = some ⟨e, dd, .fields us, sl⟩ → us[11]? = some (.ref t) → PySem.W.CodeHd h c t ∧ h.get? t = some tabO
/-- what is to be known of the law at the head's heap -/
def GLaw (l : PySem.W.OpenLaw) (w : World) (K : PySem.W.Frag) (CX : CXT) (k n : Nat) (x : Str) (mg : Str → Option Value) (fa : Addr) (h : Heap) : Prop :=
  ∃ (fd : FuncData) (cs : List (Addr × Addr)) (sp : Sp), (∀ p ∈ cs, h.get? p.2 = some tabO) ∧ (∀ p ∈ cs, K.lookup p.2 = none) ∧ (∀ p ∈ cs, PySem.W.CodeHd h p.1 p.2) ∧
    (∀ (s : Shared) (u : Value), BindsTo s fd ⟨[u], []⟩ [(x, u)]) ∧
    (∀ (H : Hp) (a : Addr) (ns : List Int), ns.length ≤ n → (∀ z ∈ ns, Builtin.Int.intBits z ≤ 1048576) → (∀ p ∈ cs, H p.2 = some (.tbl #[])) → SqL K H a (ns.map V.int) →
      sp [.ref a] H (fun v _ => v = .bl true) fun _ _ _ => False) ∧
    ∀ base : Heap, K.In base → base.Ns mainGlobals mg → (∀ p ∈ cs, TabB base mg p.1 p.2) → GOk l.prog w K mg base CX k fa fd [x] sp
theorem walk_g {l : PySem.W.OpenLaw} {n k : Nat} {q : Program} {loose : List Str} {XP : (Str → Option Value) → Heap → Prop} {YP : World → Heap → Prop} {d : DefRec} {K : Params → PySem.W.Frag} {CX : World → CXT} {x : Str}
    (hn : l.most = some n) (small : n ≤ sizeLine) (hdf : d.params.defaults = []) (hr : Room k callerA) (hY : ∀ (w : World) (h : Heap), YP w h → (K w.params).In h)
    (F : ∀ (w : World) (mg : Str → Option Value) (fa : Addr) (h : Heap), YP w h → (K w.params).In h → h.Ns mainGlobals mg → mg d.name = some (.ref fa) → Empt q (K w.params) h → GLaw l w (K w.params) (CX w) k n x mg fa h)
    (hCX : ∀ (w : World) (H : Hp) (s : Shared) (e : Value) (s' : Shared), CX w [] H s (fun _ _ _ => False) e s' → False) :
    PySem.W.WalkO q loose XP YP l.row.toRowW d [] (fun f vs => PySem.call f vs) := by
  refine Att.attach_callB hn hdf ?_
  intro w sA s1 mg mb fa o pm cd doc a vs ns G Y ho hd hcd hmg hobj hints hlen hbits hg
  have KX := hY w _ Y
  have em : Empt q (K w.params) s1.heap := by
    intro x f c t o1 fd1 e dd us sl hx k1 k2 k3 k4 k5 k6
    obtain ⟨r, hr1, hr2⟩ := List.any_eq_true.mp hx
    have hn1 : r.name = x := beq_iff_eq.mp hr2
    obtain ⟨a1, o2, fd2, c2, t2, y1, y2, y3, y4, y5, y6⟩ := G.T.tab r hr1
    have z1 := PySem.W.mg_of KX G.T.g k1
    rw [hn1, z1] at y1
    cases y1
    have z2 := KX _ _ k2
    rw [z2] at y2
    cases y2
    rw [k3] at y3
    cases y3
    rw [k4] at y4
    cases y4
    have y6b := y6
    obtain ⟨⟨oc, vc, e1, e2, e3, e4⟩, hP⟩ := y6b
    have z5 := KX _ _ k5
    rw [z5] at e1
    cases e1
    cases e3
    rw [k6] at e4
    cases e4
    exact ⟨PySem.W.CodeHd.of y5 y6, hP⟩
  obtain ⟨fd, cs, sp, t1, t2, t3, hb, hsp, hF⟩ := F w mg fa _ Y KX G.T.g hmg em
  exact law_gcall KX G.T.g G.T.b G.T.builtins G.T.nolimit hg t1 t2 t3 G.T.bmain hobj hints (Nat.le_trans hlen small) hr hF hb (fun H a1 a2 => hsp H a ns hlen hbits a1 a2) (fun H e s' => hCX w H s1 e s')
end Gd

set_option maxRecDepth 100000
set_option maxHeartbeats 4000000
/-! Things, boxes, texts: what the laws share, over no program. -/
namespace My
open PySem PySem.Spec PyProof.Rows L2 GxR Gd TL
/-! ### things -/
def Good (z : Str) : Prop := ∀ c ∈ z.cps.toList, c < 1114112
inductive Th (H : Hp) : V → Prop
  | non : Th H .non
  | bl (b : Bool) : Th H (.bl b)
  | int (i : Int) : Th H (.int i)
  | str (z : Str) (h : z.length ≤ 1000000) (g : Good z) : Th H (.str z)
  | lst (a : Addr) (xs : List V) (h : H a = some (.lst xs)) : Th H (.ref a)
  | tup (a : Addr) (xs : List V) (h : H a = some (.tup xs)) : Th H (.ref a)
  | dic (a : Addr) {kvs : List (Key × V)} (h : H a = some (.dK kvs)) : Th H (.ref a)
def lc (c : Nat) : Bool := decide (97 ≤ c) && decide (c ≤ 122)
def nm : V → Bool
  | .str z => decide (1 ≤ z.length) && decide (z.length ≤ 6) && z.cps.toList.all lc
  | _ => false
def wh (lo hi : Int) : V → Bool
  | .int i => decide (lo ≤ i) && decide (i ≤ hi)
  | _ => false
/-- its kind -/
theorem Th.ty {K : PySem.W.Frag} {H : Hp} {v : V} (h : Th H v) : ∃ t, TyX K H v (.type t) ∧
    ((∃ i, v = .int i ∧ t = "int") ∨ (∃ b, v = .bl b ∧ t = "bool") ∨ (∃ z, v = .str z ∧ (z.length ≤ 1000000 ∧ Good z) ∧ t = "str") ∨
     ((∀ i, v ≠ .int i) ∧ (∀ b, v ≠ .bl b) ∧ (∀ z, v ≠ .str z) ∧ (t = "NoneType" ∨ t = "list" ∨ t = "tuple" ∨ t = "dict"))) := by
  cases h with
  | non => exact ⟨_, .base .non, .inr (.inr (.inr ⟨by simp, by simp, by simp, .inl rfl⟩))⟩
  | bl b => exact ⟨_, .base (.bl b), .inr (.inl ⟨b, rfl, rfl⟩)⟩
  | int i => exact ⟨_, .base (.int i), .inl ⟨i, rfl, rfl⟩⟩
  | str z h g => exact ⟨_, .base (.str z), .inr (.inr (.inl ⟨z, rfl, ⟨h, g⟩, rfl⟩))⟩
  | lst a xs h => exact ⟨_, .base (.lst h), .inr (.inr (.inr ⟨by simp, by simp, by simp, .inr (.inl rfl)⟩))⟩
  | tup a xs h => exact ⟨_, .base (.tup h), .inr (.inr (.inr ⟨by simp, by simp, by simp, .inr (.inr (.inl rfl))⟩))⟩
  | dic a h => exact ⟨_, .base (.dK h), .inr (.inr (.inr ⟨by simp, by simp, by simp, .inr (.inr (.inr rfl))⟩))⟩
/-- all but the table stays -/
structure KT (P : Addr) (H H' : Hp) : Prop where
  keep : ∀ c o, c ≠ P → H c = some o → H' c = some o
  tab : TabG H' P
theorem TabG.at {H : Hp} {P : Addr} (t : TabG H P) : ∃ ps, H P = some (.tbl ps) := let ⟨ps, h, _⟩ := t; ⟨ps, h⟩
theorem ne_tab {H : Hp} {P a : Addr} {o : HO} (t : TabG H P) (h : H a = some o) (n : ∀ ps, o ≠ .tbl ps) : a ≠ P := by
  rintro rfl
  obtain ⟨ps, e⟩ := TabG.at t
  rw [h] at e
  exact n ps (Option.some.inj e)
theorem KT.refl {P : Addr} {H : Hp} (t : TabG H P) : KT P H H := ⟨fun _ _ _ h => h, t⟩
theorem KT.trans {P : Addr} {H H1 H2 : Hp} (a : KT P H H1) (b : KT P H1 H2) : KT P H H2 := ⟨fun c o n h => b.keep c o n (a.keep c o n h), b.tab⟩
theorem KT.of {P : Addr} {H H' : Hp} (t : Tabbed P H H') : KT P H H' := ⟨fun c o n h => by rw [t.2 c n]; exact h, t.1⟩
theorem KT.alloc {P p : Addr} {H : Hp} {o : HO} (t : TabG H P) (n : H p = none) : KT P H (upd H p o) := by
  obtain ⟨ps, e, ht⟩ := t
  refine ⟨fun c q _ h => by rw [upd_ne (ne_of_none h n)]; exact h, ps, by rw [upd_ne (ne_of_none e n)]; exact e, ht⟩
theorem Th.kt {P : Addr} {H H' : Hp} (t : TabG H P) (k : KT P H H') {v : V} (h : Th H v) : Th H' v := by
  cases h with
  | non => exact .non
  | bl b => exact .bl b
  | int i => exact .int i
  | str z h g => exact .str z h g
  | lst a xs h => exact .lst a xs (k.keep _ _ (ne_tab t h (by simp)) h)
  | tup a xs h => exact .tup a xs (k.keep _ _ (ne_tab t h (by simp)) h)
  | dic a h => exact .dic a (k.keep _ _ (ne_tab t h (by simp)) h)

theorem elt_between {prog : Program} {w : World} {scope : Scope} {x a b : Str} {j1 j2 : Nat} {p1 p2 p3 p4 : Pos} (hk : scope.kind = .function) (hl : scope.names.lookup x = some .local)
    (hd : (x == ("__debug__" : Str)) = false := by decide) :
    EltP prog w scope x (.Compare (.Constant (.str a) j1 p1) [.LtE, .LtE] [.Name x p2, .Constant (.str b) j2 p3] p4) (fun c => !decide ([c] < a.cps.toList) && !decide (b.cps.toList < [c])) := by
  intro cenv A' E' c t s2 m2 hs hn hm
  refine Compare_chain ?_ (by with_unfolding_all rfl)
  refine Calls.Constant_str (chain_link ?_)
  refine wpAny_Name (wpAny_loadName_local (by rw [hs]; exact hk) (show cenv.scope.names.lookup x = some .local by rw [hs]; exact hl) hn hm ?_) hd
  refine PySem.P.le_str ?_
  refine wpAny_truthy_bool ?_
  cases q : decide ([c] < a.cps.toList) with
  | true =>
    refine ite_ff ⟨?_, keeps_tok _ _⟩
    have q' : decide ((⟨#[c]⟩ : Str).cps.toList < a.cps.toList) = true := q
    simp [q']
  | false =>
    refine ite_tt (chain_last ?_)
    refine Calls.Constant_str ?_
    refine PySem.P.le_str ⟨?_, keeps_tok _ _⟩
    have q2 : ¬ [c] < a.cps.toList := of_decide_eq_false q
    simp [List.not_lt.mp q2]
def genSc : Scope := { kind := ScopeKind.function, names := [(Str.ofString ".0", NameKind.local), (Str.ofString "sign", NameKind.local)], isGenerator := true, isCoroutine := false }
theorem no_free : ∀ y ∈ genSc.names, y.2 ≠ NameKind.free := by decide +kernel
theorem one_lt (c d : Nat) : [c] < [d] ↔ c < d := by
  rw [List.cons_lt_cons_iff]
  constructor
  · rintro (h | ⟨_, h⟩)
    · exact h
    · exact absurd h (List.not_lt_nil _)
  · exact .inl
theorem lc_eq (c : Nat) : (!decide ([c] < [97]) && !decide ([122] < [c])) = lc c := by
  unfold lc
  rw [Bool.eq_iff_iff]
  simp only [Bool.and_eq_true, Bool.not_eq_true', decide_eq_false_iff_not, decide_eq_true_eq, one_lt]
  omega
/-! ### the box -/
def Bx (b : Addr) (n : Int) (H : Hp) : Prop := ∃ x y z : Int, H b = some (.lst [.int x, .int y, .int z]) ∧ 0 ≤ x ∧ 0 ≤ y ∧ y < 2147483629 ∧ 0 ≤ z ∧ z ≤ n
theorem Bx.same {b : Addr} {n : Int} {H H' : Hp} (h : Bx b n H) (e : H' b = H b) : Bx b n H' := by
  obtain ⟨x, y, z, h1, r⟩ := h
  exact ⟨x, y, z, e.trans h1, r⟩
theorem Bx.mono {b : Addr} {n m : Int} {H : Hp} (h : Bx b n H) (e : n ≤ m) : Bx b m H := by
  obtain ⟨x, y, z, h1, h2, h3, h4, h5, h6⟩ := h
  exact ⟨x, y, z, h1, h2, h3, h4, h5, by omega⟩
theorem i0 (a b c : V) : atI [a, b, c] 0 = some a := rfl
theorem i1 (a b c : V) : atI [a, b, c] 1 = some b := rfl
theorem i2 (a b c : V) : atI [a, b, c] 2 = some c := rfl
theorem j0 : ixN 3 0 = some 0 := rfl
theorem j2 : ixN 3 2 = some 2 := rfl
/-! ### lists and texts -/
theorem atI_ex {α : Type} {xs : List α} {d : Int} (h0 : 0 ≤ d) (h1 : d < xs.length) : ∃ v, v ∈ xs ∧ atI xs d = some v := by
  obtain ⟨j, rfl⟩ := Int.eq_ofNat_of_zero_le h0
  have hj : j < xs.length := by omega
  exact ⟨xs[j], List.getElem_mem hj, atI_nat (List.getElem?_eq_getElem hj)⟩
theorem joinL_len (S : List Nat) : ∀ ps : List (List Nat), (joinL S ps).length ≤ (ps.map List.length).sum + ps.length * S.length
  | [] => by simp [joinL]
  | [p] => by simp [joinL]
  | p :: q :: r => by
    have ih := joinL_len S (q :: r)
    have e : joinL S (p :: q :: r) = p ++ (S ++ joinL S (q :: r)) := rfl
    rw [e, List.length_append, List.length_append, List.map_cons, List.sum_cons, List.length_cons, Nat.succ_mul]
    omega
theorem tl_len (z : Str) : (tl z).length = z.length := by
  show z.cps.toList.length = z.cps.size
  simp
theorem join_len (y : Str) (ps : List Str) : (Txt.join y ps).length ≤ (ps.map (·.length)).sum + ps.length * y.length := by
  have h := joinL_len (tl y) (ps.map tl)
  rw [← tl_len, join_eq, tl_join]
  have e : (ps.map tl).map List.length = ps.map (·.length) := by
    rw [List.map_map]
    exact List.map_congr_left fun z _ => tl_len z
  rw [e, List.length_map, tl_len] at h
  exact h
theorem sum_ones (ps : List Str) (h : ∀ z ∈ ps, z.length ≤ 1) : (ps.map (·.length)).sum ≤ ps.length := by
  induction ps with
  | nil => simp
  | cons a r ih =>
    have h1 := h a List.mem_cons_self
    have h2 := ih fun z hz => h z (List.mem_cons_of_mem _ hz)
    simp only [List.map_cons, List.sum_cons, List.length_cons]
    omega
theorem lcY {A : TE} {σ : L2.St} {H : Hp} {G : VK} {B : Hp → Prop} (h : A σ H G) : tYes σ H (fun b H3 => if b = true then A σ H3 G else B H3) := by
  show if true = true then A σ H G else B H
  exact iteT h
theorem good_app {a b : Str} (h : Good a) (k : Good b) : Good (a ++ b) := fun c hc => by
  have e : (a ++ b).cps.toList = a.cps.toList ++ b.cps.toList := tl_append a b
  rw [e] at hc
  exact (List.mem_append.mp hc).elim (h c) (k c)
theorem good_cut {a : Str} (h : Good a) (lo hi : Option Int) : Good (cutS a lo hi) := fun c hc => by
  unfold cutS at hc
  exact h c (List.mem_of_mem_drop (List.mem_of_mem_take (by simpa using hc)))
theorem good_joinL {S : List Nat} (hS : ∀ c ∈ S, c < 1114112) : ∀ ps : List (List Nat), (∀ p ∈ ps, ∀ c ∈ p, c < 1114112) → ∀ c ∈ joinL S ps, c < 1114112
  | [], _, c, h => by simp [joinL] at h
  | [p], hp, c, h => hp p List.mem_cons_self c (by simpa [joinL] using h)
  | p :: q :: r, hp, c, h => by
    have e : joinL S (p :: q :: r) = p ++ (S ++ joinL S (q :: r)) := rfl
    rw [e, List.mem_append, List.mem_append] at h
    rcases h with h | h | h
    · exact hp p List.mem_cons_self c h
    · exact hS c h
    · exact good_joinL hS (q :: r) (fun z hz => hp z (List.mem_cons_of_mem _ hz)) c h
theorem good_join {y : Str} {ps : List Str} (hy : Good y) (h : ∀ z ∈ ps, Good z) : Good (Txt.join y ps) := fun c hc => by
  have e : (Txt.join y ps).cps.toList = joinL (tl y) (ps.map tl) := by rw [join_eq]; exact tl_join y ps
  rw [e] at hc
  refine good_joinL hy _ (fun p hp => ?_) c hc
  obtain ⟨z, hz, rfl⟩ := List.mem_map.mp hp
  exact h z hz
theorem good_of (x : String) : Good (Str.ofString x) := fun c hc => by
  have e : (Str.ofString x).cps.toList = x.toList.map Char.toNat := by
    rw [Str.ofString_eq_toList]
  rw [e] at hc
  obtain ⟨d, _, rfl⟩ := List.mem_map.mp hc
  have := d.valid
  unfold UInt32.isValidChar Nat.isValidChar at this
  show d.val.toNat < 1114112
  omega
theorem good_one {z : Str} {c : Nat} (h : Good z) (hc : c ∈ z.cps.toList) : Good ⟨#[c]⟩ := fun d hd => by
  have e : d = c := by simpa using hd
  rw [e]
  exact h c hc
/-- all but the box stays -/
def KB (b : Addr) (H H' : Hp) : Prop := ∀ c o, c ≠ b → H c = some o → H' c = some o
theorem KB.refl (b : Addr) (H : Hp) : KB b H H := fun _ _ _ h => h
theorem KB.trans {b : Addr} {H H1 H2 : Hp} (a : KB b H H1) (c : KB b H1 H2) : KB b H H2 := fun x o n h => c x o n (a x o n h)
theorem KB.off {b : Addr} {H H' : Hp} (h : ∀ a, a ≠ b → H' a = H a) : KB b H H' := fun c o n e => (h c n).trans e
theorem KB.alloc {b p : Addr} {H : Hp} {o : HO} (n : H p = none) : KB b H (upd H p o) := fun c u _ h => by rw [upd_ne (ne_of_none h n)]; exact h
theorem Bx.alloc {b p : Addr} {n : Int} {H : Hp} {o : HO} (h : Bx b n H) (f : H p = none) : Bx b n (upd H p o) := by
  obtain ⟨x, y, z, h1, r⟩ := h
  exact ⟨x, y, z, by rw [upd_ne (ne_of_none h1 f)]; exact h1, r⟩
theorem Bx.put {b p : Addr} {n : Int} {H : Hp} {o : HO} (h : Bx b n H) (f : p ≠ b) : Bx b n (upd H p o) := by
  obtain ⟨x, y, z, h1, r⟩ := h
  exact ⟨x, y, z, by rw [upd_ne f.symm]; exact h1, r⟩
/-- a comprehension over a text's signs -/
theorem lc_text {z : Str} {g : TG} {tt : TT} {te : TE} {vs : List Nat} {σ : L2.St} {H1 : Hp} {D : Addr} {Qd : Hp → Prop} (Pv : Nat → Hp → Prop) (h0 : Pv 0 (upd H1 D (.lst [])))
    (hs : ∀ i c H, z.cps.toList[i]? = some c → Pv i H → g (.str ⟨#[c]⟩) (wipe σ vs) H fun σ2 H2 => wipe σ2 vs = wipe σ vs ∧ tt σ2 H2 fun b H3 =>
      if b = true then te σ2 H3 fun y H4 => ∃ acc, H4 D = some (.lst acc) ∧ acc.length < sizeLine ∧ Pv (i + 1) (upd H4 D (.lst (acc ++ [y]))) else Pv (i + 1) H3) (hd : ∀ H, Pv z.length H → Qd H) :
    ∃ W : Nat → Nat → Hp → Prop, (∃ m, W 0 m (upd H1 D (.lst []))) ∧ ∀ i m H, W i m H →
      ((Its z).stop i H ∧ Qd H) ∨ ((Its z).go i H ∧ ∃ Nx : Hp → Prop, (∀ H', Nx H' → ∃ m', m' < m ∧ W (i + 1) m' H') ∧ ∀ x H', (Its z).yld i H x H' → g x (wipe σ vs) H' fun σ2 H2 => wipe σ2 vs = wipe σ vs ∧ tt σ2 H2 fun b H3 =>
        if b = true then te σ2 H3 fun y H4 => ∃ acc, H4 D = some (.lst acc) ∧ acc.length < sizeLine ∧ Nx (upd H4 D (.lst (acc ++ [y]))) else Nx H3) := by
  refine ⟨fun i m H => i + m = z.cps.size ∧ Pv i H, ⟨z.cps.size, by simp, h0⟩, fun i m H hW => ?_⟩
  obtain ⟨e, p⟩ := hW
  cases m with
  | zero =>
    have ei : i = z.cps.size := e
    subst ei
    exact .inl ⟨Nat.le_refl _, hd H p⟩
  | succ m =>
    refine .inr ⟨show i < z.cps.size by omega, Pv (i + 1), fun H' q => ⟨m, Nat.lt_succ_self m, by omega, q⟩, ?_⟩
    rintro x H' ⟨rfl, c, hc, rfl⟩
    exact hs i c _ (by rw [← hc]; simp) p
def badOf (l : List Nat) : List V := (l.filter fun c => !lc c).map fun c => V.str ⟨#[c]⟩
theorem bad_data {K : PySem.W.Frag} {H : Hp} : ∀ l : List Nat, DpAll K H (l.map fun c => V.str ⟨#[c]⟩) (l.map fun c => PyData.str ⟨#[c]⟩)
  | [] => .nil
  | c :: r => .cons (.str _) (bad_data r)
theorem one_ok {c : Nat} (h : c < 1114112) : PyData.strOk ⟨#[c]⟩ = true := by
  simp [PyData.strOk, h]
theorem bad_shaped : ∀ l : List Nat, (∀ c ∈ l, c < 1114112) → PyData.canLayAll0 (l.map fun c => PyData.str ⟨#[c]⟩) = true
  | [], _ => by simp [PyData.canLayAll0]
  | c :: r, h => by
    simp only [List.map_cons, PyData.canLayAll0, PyData.canLay0, Bool.and_eq_true]
    exact ⟨one_ok (h c List.mem_cons_self), bad_shaped r fun d hd => h d (List.mem_cons_of_mem _ hd)⟩
theorem bad_depth : ∀ l : List Nat, PyData.depthAll (l.map fun c => PyData.str ⟨#[c]⟩) = 0
  | [] => by simp [PyData.depthAll]
  | c :: r => by
    simp only [List.map_cons, PyData.depthAll, PyData.depth, bad_depth r]
    rfl
theorem letters_mem (c : Nat) : decide (c ∈ (Str.ofString "abcdefghijklmnopqrstuvwxyz").cps.toList) = lc c := by
  have e : (Str.ofString "abcdefghijklmnopqrstuvwxyz").cps.toList = (List.range 26).map (· + 97) := by decide +kernel
  rw [e]
  unfold lc
  rw [Bool.eq_iff_iff]
  simp only [decide_eq_true_eq, List.mem_map, List.mem_range, Bool.and_eq_true]
  constructor
  · rintro ⟨a, h, rfl⟩
    omega
  · intro h
    exact ⟨c - 97, by omega, by omega⟩
/-- a fresh place is no box -/
theorem Bx.fresh {b p : Addr} {n : Int} {H : Hp} (h : Bx b n H) (f : H p = none) : p ≠ b := by
  rintro rfl
  obtain ⟨x, y, z, e, _⟩ := h
  rw [f] at e
  cases e
theorem dec9000 {m : Int} (h0 : 0 < m) (h : m ≤ 10 ^ 30) : m.natAbs.log2 < 9000 := by
  have h1 : m.natAbs ≤ 10 ^ 30 := by omega
  have h2 : m.natAbs < 2 ^ 100 := Nat.lt_of_le_of_lt h1 (by decide)
  have h3 := (Nat.log2_lt (by omega)).mpr h2
  omega
theorem log1900 {m : Int} (h : m.natAbs ≤ 10 ^ 31) : m.natAbs.log2 < 1900 := by
  by_cases h0 : m.natAbs = 0
  · rw [h0]
    decide
  · have h2 : m.natAbs < 2 ^ 110 := Nat.lt_of_le_of_lt h (by decide)
    have h3 := (Nat.log2_lt h0).mpr h2
    omega
/-- a place in a list of the script stays -/
theorem seq_kt {K : PySem.W.Frag} {P a : Addr} {H H' : Hp} {xs : List V} (t : TabG H P) (k : KT P H H') (h : SqL K H a xs) : SqL K H' a xs := by
  rcases h with (h | ⟨o, h⟩) | h
  · exact .inl (.inl (k.keep _ _ (ne_tab t h (by simp)) h))
  · exact .inl (.inr ⟨o, k.keep _ _ (ne_tab t h (by simp)) h⟩)
  · exact .inr h
/-- what a row of steps with the box does to all else -/
theorem KT.box {P b : Addr} {H H' H1 : Hp} (t : TabG H P) (f : H b = none) (e : ∀ a, a ≠ b → H1 a = H a) (k : KB b H1 H') : KT P H H' := by
  obtain ⟨ps, ht, tr⟩ := t
  have nb : P ≠ b := ne_of_none ht f
  exact ⟨fun c o _ h => k c o (ne_of_none h f) ((e c (ne_of_none h f)).trans h), ps, k P _ nb ((e P nb).trans ht), tr⟩
theorem two_bools (a b : Bool) : (PyData.list [.bool a, .bool b]).shown.length ≤ sizeLine := by
  cases a <;> cases b <;> decide +kernel
end My

set_option maxRecDepth 100000
set_option maxHeartbeats 4000000
namespace T9
open PySem PySem.Spec PyProof.Rows L2 GxR Gd TL My
/-! ### the text -/
def top (i : Nat) : Stmt := PySem.Challenge.pw_onestaff_k59_stands_refused.main.body.getD i (.Pass ⟨0, 0, 0, 0⟩)
abbrev sWhole : Stmt := top 15
abbrev sName : Stmt := top 16
abbrev sList : Stmt := top 17
abbrev sTuple : Stmt := top 18
abbrev sCell : Stmt := top 36
abbrev sBox : Stmt := top 37
abbrev sTake : Stmt := top 38
structure Txt (mg : Str → Option Value) : Prop where
  isinstance_ : mg "isinstance" = none
  int_ : mg "int" = none
  bool_ : mg "bool" = none
  str_ : mg "str" = none
  len_ : mg "len" = none
  all_ : mg "all" = none
  max_ : mg "max" = none
  min_ : mg "min" = none
  range_ : mg "range" = none
  repr_ : mg "repr" = none
  list_ : mg "list" = none
  tuple_ : mg "tuple" = none
  enumerate_ : mg "enumerate" = none
  sorted_ : mg "sorted" = none
  dict_ : mg "dict" = none
  zip_ : mg "zip" = none
structure Fn (K : PySem.W.Frag) (mg : Str → Option Value) (x : Str) (st : Stmt) (ps : List Str) (f : Addr) (fd : FuncData) : Prop where
  fn : Fun K x x st f fd
  g : mg x = some (.ref f)
  b : Binds K fd ps []
theorem Fn.kp {K : PySem.W.Frag} {mg : Str → Option Value} {x : Str} {st : Stmt} {ps : List Str} {f : Addr} {fd : FuncData} (h : Fn K mg x st ps f fd) : PySem.W.keepIn K (.ref f) = true := h.fn.kp
section
variable {P : Program} {w : World} {K : PySem.W.Frag} {mg : Str → Option Value} {base : Heap}
def spWhole : Sp := fun vs H Q _ => ∃ (v : V) (lo hi : Int), vs = [v, .int lo, .int hi] ∧ Th H v ∧ Q (.bl (wh lo hi v)) H
theorem scWhole : FnScope ["thing", "low", "high"] ["thing", "low", "high"] (defScope sWhole) := ⟨rfl, rfl, rfl, by decide +kernel, rfl, by decide +kernel, by decide +kernel⟩
theorem ok_whole {f : Addr} {fd : FuncData} (F : Fun K "is_whole" "is_whole" sWhole f fd) (T : Txt mg) : FnOk P w K mg base CX0 1 f fd ["thing", "low", "high"] spWhole := by
  refine F.ok scWhole (fun vs H Q E h => ?_) (fun cdv A outer s H vs Q E hr h => ?_)
  · obtain ⟨v, lo, hi, rfl, _⟩ := h
    rfl
  · obtain ⟨v, lo, hi, rfl, th, k⟩ := h
    obtain ⟨t, ty, cs⟩ := th.ty (K := K)
    refine ⟨_, pss_cons (ps_if (PW.pt (pw_or (pt_not (pt_val (pe_callB call_isi (by rfl) T.isinstance_ (by decide +kernel) (pa_cons (pv 0) (pa_cons (pe_bltn (v := .ty "int") (by rfl) T.int_ (by decide +kernel) rfl) pa_nil)))))
        (pw_or1 (pt_val (pe_callB call_isi (by rfl) T.isinstance_ (by decide +kernel) (pa_cons (pv 0) (pa_cons (pe_bltn (v := .ty "bool") (by rfl) T.bool_ (by decide +kernel) rfl) pa_nil)))))))
        (pss_one (ps_ret pe_bl)) pss_nil)
      (pss_one (ps_ret (pe_chain op_le op_le (pv 1) (pv 0) (pv 2)))), ?_⟩
    rcases cs with ⟨i, rfl, rfl⟩ | ⟨b, rfl, rfl⟩ | ⟨z, rfl, _, rfl⟩ | ⟨n1, n2, n3, ht⟩
    · refine ⟨_, rfl, _, _, _, _, true, rfl, .ty "int", ty, (by rfl), _, rfl, iteF ?_⟩
      refine ⟨_, rfl, _, _, _, _, false, rfl, .ty "bool", ty, (by rfl), _, rfl, iteF ?_⟩
      refine ⟨_, rfl, _, rfl, _, _, rfl, rfl, _, rfl, ?_⟩
      refine ite2 (fun c => ?_) (fun c => ?_)
      · refine ⟨_, rfl, _, _, rfl, rfl, ?_⟩
        have e : (decide (i ≤ hi)) = wh lo hi (.int i) := by simp [wh, of_decide_eq_true c]
        show Q (.bl (decide (i ≤ hi))) H
        rw [e]; exact k
      · have e : false = wh lo hi (.int i) := by simp at c; simp [wh]; omega
        rw [e]; exact k
    · refine ⟨_, rfl, _, _, _, _, true, rfl, .ty "int", ty, (by rfl), _, rfl, iteF ?_⟩
      refine ⟨_, rfl, _, _, _, _, true, rfl, .ty "bool", ty, (by rfl), _, rfl, iteT ?_⟩
      exact k
    · refine ⟨_, rfl, _, _, _, _, false, rfl, .ty "int", ty, (by rfl), _, rfl, iteT (iteT ?_)⟩
      exact k
    · have e : wh lo hi v = false := by
        cases v with
        | int i => exact absurd rfl (n1 i)
        | _ => rfl
      rw [e] at k
      rcases ht with rfl | rfl | rfl | rfl
      · exact ⟨_, rfl, _, _, _, _, false, rfl, .ty "int", ty, (by rfl), _, rfl, iteT (iteT k)⟩
      · exact ⟨_, rfl, _, _, _, _, false, rfl, .ty "int", ty, (by rfl), _, rfl, iteT (iteT k)⟩
      · exact ⟨_, rfl, _, _, _, _, false, rfl, .ty "int", ty, (by rfl), _, rfl, iteT (iteT k)⟩
      · exact ⟨_, rfl, _, _, _, _, false, rfl, .ty "int", ty, (by rfl), _, rfl, iteT (iteT k)⟩

/-! ### is_name -/
theorem scName : FnScope ["thing"] ["thing"] (defScope sName) := ⟨rfl, rfl, rfl, by decide +kernel, rfl, by decide +kernel, by decide +kernel⟩
def spName (Pt : Addr) : Sp := fun vs H Q _ => ∃ (v : V), vs = [v] ∧ Th H v ∧ TabG H Pt ∧ ∀ H', KT Pt H H' → Q (.bl (nm v)) H'
theorem ok_name {f Pt c : Addr} {oc kV doc pm ct : Value} {od an : Option Addr} {osl : Array (Option Value)}
    (lk : K.lookup f = some ⟨oc, od, .func (PySem.W.fnOf "is_name" "is_name" (defArgs sName) (defBody sName) (defScope sName) .none kV doc pm an (.ref c) ct), osl⟩) (hcd : PySem.W.codeIn K (.ref c) "is_name" = true)
    (T : Txt mg) (TB : TabB base mg c Pt) : FnOk P w K mg base CX0 2 f (PySem.W.fnOf "is_name" "is_name" (defArgs sName) (defBody sName) (defScope sName) .none kV doc pm an (.ref c) ct) ["thing"] (spName Pt) := by
  refine fn_of lk hcd scName (fun vs H Q E h => ?_) (fun A outer s H vs Q E hr h => ?_)
  · obtain ⟨v, rfl, _⟩ := h
    rfl
  · obtain ⟨v, rfl, th, tb, k⟩ := h
    obtain ⟨t, ty, cs⟩ := th.ty (K := K)
    refine ⟨_, (pss_cons (ps_if (PW.pt (pw_or (pt_not (pt_val (pe_callB call_isi (by rfl) T.isinstance_ (by decide +kernel) (pa_cons (pv 0) (pa_cons (pe_bltn (v := .ty "str") (by rfl) T.str_ (by decide +kernel) rfl) pa_nil)))))
        (pw_or1 (pt_not (pt_chain op_le op_le pe_int (pe_callB call_len_str (by rfl) T.len_ PySem.boot_len (pa_cons (pv 0) pa_nil)) pe_int)))))
        (pss_one (ps_ret pe_bl)) pss_nil)
      (pss_one (ps_ret (pe_allS hr (by rfl) T.all_ (by decide +kernel) TB rfl ⟨rfl, rfl, by decide +kernel, by decide +kernel, by decide +kernel, fun y hy e => absurd e (no_free y hy)⟩ (pv 0) (elt_between (by rfl) (by decide +kernel)) (fun _ => rfl))))).nox, ?_⟩
    have no : ∀ e : nm v = false, Q (.bl false) H := fun e => e ▸ k H (KT.refl tb)
    rcases cs with ⟨i, rfl, rfl⟩ | ⟨b, rfl, rfl⟩ | ⟨z, rfl, ⟨hz, _⟩, rfl⟩ | ⟨n1, n2, n3, ht⟩
    · exact ⟨_, rfl, _, _, _, _, false, rfl, .ty "str", ty, (by rfl), _, rfl, iteT (iteT (no rfl))⟩
    · exact ⟨_, rfl, _, _, _, _, false, rfl, .ty "str", ty, (by rfl), _, rfl, iteT (iteT (no rfl))⟩
    · refine ⟨_, rfl, _, _, _, _, true, rfl, .ty "str", ty, (by rfl), _, rfl, iteF ?_⟩
      have hz2 : z.length ≤ sizeLine := Nat.le_trans hz (by decide)
      refine ⟨_, rfl, z, rfl, hz2, _, _, rfl, rfl, _, rfl, ite2 (fun c1 => ?_) (fun c1 => ?_)⟩
      · have c1' : (1 : Int) ≤ z.length := of_decide_eq_true c1
        refine ⟨_, _, rfl, rfl, _, rfl, ?_⟩
        refine ite2 (fun c2 => ?_) (fun c2 => ?_)
        · refine no ?_
          have c2' : ¬ (z.length : Int) ≤ 6 := by simpa using c2
          have n6 : ¬ z.length ≤ 6 := by omega
          simp [nm, n6]
        · have c2' : (z.length : Int) ≤ 6 := by simpa using c2
          have n6 : z.length ≤ 6 := by omega
          have n1 : 1 ≤ z.length := by omega
          refine ⟨_, rfl, z, rfl, tb, fun H2 ht => ?_⟩
          have e : z.cps.toList.all (fun c => !decide ([c] < (Str.ofString "a").cps.toList) && !decide ((Str.ofString "z").cps.toList < [c])) = nm (.str z) := by
            have ea : (Str.ofString "a").cps.toList = [97] := by decide +kernel
            have ez : (Str.ofString "z").cps.toList = [122] := by decide +kernel
            rw [ea, ez]
            simp only [lc_eq]
            simp [nm, n6, n1]
          show Q (.bl (z.cps.toList.all _)) H2
          rw [e]
          exact k H2 (KT.of ht)
      · refine ⟨_, rfl, iteT (no ?_)⟩
        have c1' : ¬ (1 : Int) ≤ z.length := by simpa using c1
        have n1 : ¬ 1 ≤ z.length := by omega
        simp [nm, n1]
    · have e : nm v = false := by
        cases v with
        | str z => exact absurd rfl (n3 z)
        | _ => rfl
      rcases ht with rfl | rfl | rfl | rfl
      · exact ⟨_, rfl, _, _, _, _, false, rfl, .ty "str", ty, (by rfl), _, rfl, iteT (iteT (no e))⟩
      · exact ⟨_, rfl, _, _, _, _, false, rfl, .ty "str", ty, (by rfl), _, rfl, iteT (iteT (no e))⟩
      · exact ⟨_, rfl, _, _, _, _, false, rfl, .ty "str", ty, (by rfl), _, rfl, iteT (iteT (no e))⟩
      · exact ⟨_, rfl, _, _, _, _, false, rfl, .ty "str", ty, (by rfl), _, rfl, iteT (iteT (no e))⟩
def spCell (K : PySem.W.Frag) : Sp := fun vs H Q _ => ∃ (l : Addr) (ns : List Int) (j : Nat), vs = [.ref l, .int (j : Int)] ∧ SqL K H l (ns.map V.int) ∧ ∀ i : Int, Q (.int i) H
theorem scCell : FnScope ["_law_script", "_law_k"] ["_law_script", "_law_k"] (defScope sCell) := ⟨rfl, rfl, rfl, by decide +kernel, rfl, by decide +kernel, by decide +kernel⟩
theorem ok_cell {f : Addr} {fd : FuncData} (F : Fun K "_law_cell" "_law_cell" sCell f fd) (T : Txt mg) : FnOk P w K mg base CX0 1 f fd ["_law_script", "_law_k"] (spCell K) := by
  refine F.ok scCell (fun vs H Q E h => ?_) (fun cdv A outer s H vs Q E hr h => ?_)
  · obtain ⟨l, ns, j, rfl, _⟩ := h
    rfl
  · obtain ⟨l, ns, j, rfl, hS, k⟩ := h
    refine ⟨_, pss_cons (ps_if (pt_cmpR op_lt (pv 1) (pe_callB call_len_seq (by rfl) T.len_ PySem.boot_len (pa_cons (pv 0) pa_nil)) (nomark _)) (pss_one (ps_ret (pe_ix ix_list (pv 0) (pv 1) (fun _ _ => rfl)))) pss_nil)
      (pss_one (ps_ret (pe_op op_add (pe_op op_mul pe_int (pv 1)) pe_int))), ?_⟩
    refine ⟨_, rfl, _, rfl, l, _, rfl, .inl hS, _, _, rfl, rfl, _, rfl, ite2 (fun c => ?_) (fun c => ?_)⟩
    · have c1 : (j : Int) < ((ns.map V.int).length : Nat) := of_decide_eq_true c
      have c2 : j < ns.length := by rw [List.length_map] at c1; omega
      refine ⟨_, rfl, _, rfl, l, _, _, _, rfl, rfl, hS, atI_nat (v := .int ns[j]) ?_, k _⟩
      rw [List.getElem?_map, List.getElem?_eq_getElem c2]
      rfl
    · exact ⟨_, rfl, _, _, rfl, rfl, .inl ⟨by decide, by decide⟩, _, _, rfl, rfl, k _⟩
def spBox : Sp := fun vs H Q _ => ∃ c : Int, vs = [.int c] ∧ ∀ b H', H b = none → (∀ a, a ≠ b → H' a = H a) → Bx b 0 H' → Q (.ref b) H'
theorem scBox : FnScope ["_law_cell_here"] ["_law_cell_here"] (defScope sBox) := ⟨rfl, rfl, rfl, by decide +kernel, rfl, by decide +kernel, by decide +kernel⟩
theorem ok_box {f : Addr} {fd : FuncData} (F : Fun K "_law_box" "_law_box" sBox f fd) (T : Txt mg) : FnOk P w K mg base CX0 1 f fd ["_law_cell_here"] spBox := by
  refine F.ok scBox (fun vs H Q E h => ?_) (fun cdv A outer s H vs Q E hr h => ?_)
  · obtain ⟨c, rfl, _⟩ := h
    rfl
  · obtain ⟨c, rfl, k⟩ := h
    refine ⟨_, pss_one (ps_ret (pe_lst (pa_cons (pe_callB (call_max2 rfl) (by rfl) T.max_ (by decide +kernel) (pa_cons pe_int (pa_cons (pe_op op_sub (pv 0) (pe_op op_pow pe_int pe_int)) pa_nil))) (pa_cons (pe_op op_mod (pv 0) pe_int) (pa_cons pe_int pa_nil))))), ?_⟩
    refine ⟨_, rfl, _, _, rfl, rfl, ⟨by decide, by decide, by decide⟩, _, _, rfl, rfl, _, _, rfl, ?_⟩
    refine ⟨_, rfl, _, _, rfl, rfl, (by show (0 : Int) < 2147483629; decide), ?_⟩
    refine ⟨(by show 3 ≤ sizeLine; decide), fun b hb => ?_⟩
    refine k b _ hb (fun a na => upd_ne na) ⟨_, _, 0, upd_same, ?_, ?_, ?_, Int.le_refl _, Int.le_refl _⟩
    · split <;> omega
    · exact Int.emod_nonneg _ (by decide)
    · exact Int.emod_lt_of_pos _ (by decide)
def spTake : Sp := fun vs H Q _ => ∃ (b : Addr) (many n : Int), vs = [.ref b, .int many] ∧ Bx b n H ∧ n ≤ 100000 ∧ 0 < many ∧ many.natAbs.log2 < 9000 ∧
  ∀ d H', 0 ≤ d → d < many → (∀ a, a ≠ b → H' a = H a) → Bx b (n + 1) H' → Q (.int d) H'
theorem scTake : FnScope ["_law_box_here", "_law_many", "_law_digit", "_law_number"] ["_law_box_here", "_law_many"] (defScope sTake) := ⟨rfl, rfl, rfl, by decide +kernel, rfl, by decide +kernel, by decide +kernel⟩
theorem ok_take {f : Addr} {fd : FuncData} (F : Fun K "_law_take" "_law_take" sTake f fd) : FnOk P w K mg base CX0 1 f fd ["_law_box_here", "_law_many"] spTake := by
  refine F.ok scTake (fun vs H Q E h => ?_) (fun cdv A outer s H vs Q E hr h => ?_)
  · obtain ⟨b, many, n, rfl, _⟩ := h
    rfl
  · obtain ⟨b, many, n, rfl, ⟨x, y, z, hb, x0, y0, y1, z0, zn⟩, hn, m0, ml, k⟩ := h
    refine ⟨_, pss_cons (ps_if (pt_cmpR op_gt (pe_ix ix_list (pv 0) pe_int (fun _ _ => rfl)) pe_int (nomark _))
        (pss_cons (ps_set (i := 2) scTake.nd rfl (Or.inl rfl) (pe_op op_mod (pe_ix ix_list (pv 0) pe_int (fun _ _ => rfl)) (pv 1)))
        (pss_cons (ps_asg (pe_op op_fdivW (pe_ix ix_list (pv 0) pe_int (fun _ _ => rfl)) (pv 1)) (pg_sub (pv 0) pe_int set_list))
        (pss_one (ps_ret (pv 2))))) pss_nil)
      (pss_cons (ps_asg (pe_op op_add (pe_ix ix_list (pv 0) pe_int (fun _ _ => rfl)) pe_int) (pg_sub (pv 0) pe_int set_list))
      (pss_cons (ps_set (i := 3) scTake.nd rfl (Or.inl rfl) (pe_op op_mod (pe_op op_pow (pe_op op_add (pe_op op_add (pe_ix ix_list (pv 0) pe_int (fun _ _ => rfl)) (pe_op op_mul pe_int (pe_ix ix_list (pv 0) pe_int (fun _ _ => rfl)))) pe_int) pe_int) pe_int))
      (pss_cons (ps_set (i := 3) scTake.nd rfl (Or.inl rfl) (pe_op op_mod (pe_op op_pow (pe_op op_add (pv 3) (pe_op op_mul pe_int (pe_ix ix_list (pv 0) pe_int (fun _ _ => rfl)))) pe_int) pe_int))
      (pss_one (ps_ret (pe_op op_mod (pe_op op_fdiv (pv 3) pe_int) (pv 1))))))), ?_⟩
    have hL : SqL K H b [.int x, .int y, .int z] := SqL.of hb
    refine ⟨_, rfl, b, _, _, _, rfl, rfl, hL, i0 _ _ _, _, _, rfl, rfl, _, rfl, ite2 (fun c => ?_) (fun c => ?_)⟩
    · refine ⟨_, rfl, b, _, _, _, rfl, rfl, hL, i0 _ _ _, _, rfl, _, _, rfl, rfl, m0, ?_⟩
      refine ⟨_, rfl, b, _, _, _, rfl, rfl, hL, i0 _ _ _, _, rfl, _, _, rfl, rfl, ⟨m0, ml⟩, ?_⟩
      refine ⟨_, rfl, b, _, _, _, rfl, rfl, hb, j0, ?_⟩
      refine ⟨_, rfl, ?_⟩
      exact k _ _ (Int.emod_nonneg _ (by omega)) (Int.emod_lt_of_pos _ m0) (fun a na => upd_ne na) ⟨_, _, _, upd_same, Int.ediv_nonneg x0 (by omega), y0, y1, z0, by omega⟩
    · refine ⟨_, rfl, b, _, _, _, rfl, rfl, hL, i2 _ _ _, _, _, rfl, rfl, ?_⟩
      refine ⟨_, rfl, b, _, _, _, rfl, rfl, hb, j2, ?_⟩
      have h1 : upd H b (.lst ([V.int x, .int y, .int z].set 2 (.int (z + 1)))) b = some (.lst [.int x, .int y, .int (z + 1)]) := upd_same
      have hL1 : SqL K (upd H b (.lst ([V.int x, .int y, .int z].set 2 (.int (z + 1))))) b [.int x, .int y, .int (z + 1)] := SqL.of h1
      refine ⟨_, rfl, b, _, _, _, rfl, rfl, hL1, i1 _ _ _, _, rfl, b, _, _, _, rfl, rfl, hL1, i2 _ _ _, _, _, rfl, rfl, .inl ⟨by decide, by decide⟩, _, _, rfl, rfl, _, _, rfl, rfl,
        _, _, rfl, rfl, ⟨by decide, by decide, ?_⟩, _, _, rfl, rfl, (by show (0 : Int) < 2147483647; decide), ?_⟩
      · omega
      refine ⟨_, rfl, _, rfl, b, _, _, _, rfl, rfl, hL1, i2 _ _ _, _, _, rfl, rfl, .inl ⟨by decide, by decide⟩, _, _, rfl, rfl,
        _, _, rfl, rfl, ⟨by decide, by decide, ?_⟩, _, _, rfl, rfl, (by show (0 : Int) < 2147483587; decide), ?_⟩
      · have g0 := Int.emod_nonneg ((y + 7919 * (z + 1) + 67) ^ (5 : Int).toNat) (show (2147483647 : Int) ≠ 0 by decide)
        have g1 := Int.emod_lt_of_pos ((y + 7919 * (z + 1) + 67) ^ (5 : Int).toNat) (show (0 : Int) < 2147483647 by decide)
        generalize (y + 7919 * (z + 1) + 67) ^ (5 : Int).toNat % 2147483647 = q at g0 g1 ⊢
        omega
      refine ⟨_, rfl, _, _, rfl, rfl, ⟨by decide, by decide⟩, _, rfl, _, _, rfl, rfl, m0, ?_⟩
      exact k _ _ (Int.emod_nonneg _ (by omega)) (Int.emod_lt_of_pos _ m0) (fun a na => upd_ne na) ⟨_, _, _, h1, x0, y0, y1, by omega, by omega⟩
end
end T9


set_option maxRecDepth 100000
set_option maxHeartbeats 4000000
/-! Data in the heap, kept by steps that change a box, a table. -/
namespace My
open PySem PySem.Spec PyProof.Rows L2 GxR Gd TL
/-- all but tables stays -/
def Nt (H H' : Hp) : Prop := ∀ c o, (∀ ps, o ≠ .tbl ps) → H c = some o → H' c = some o
theorem Nt.refl (H : Hp) : Nt H H := fun _ _ _ h => h
theorem Nt.trans {H H1 H2 : Hp} (a : Nt H H1) (b : Nt H1 H2) : Nt H H2 := fun c o n h => b c o n (a c o n h)
theorem KT.nt {P : Addr} {H H' : Hp} (t : TabG H P) (k : KT P H H') : Nt H H' := fun c o n h => k.keep c o (ne_tab t h n) h
theorem Nt.alloc {H : Hp} {p : Addr} {o : HO} (n : H p = none) : Nt H (upd H p o) := fun c u _ h => by rw [upd_ne (ne_of_none h n)]; exact h
/-- the heap but the box -/
def hide (b : Addr) (H : Hp) : Hp := fun c => if c = b then none else H c
theorem hide_ne {b c : Addr} {H : Hp} (h : c ≠ b) : hide b H c = H c := if_neg h
theorem hide_some {b c : Addr} {H : Hp} {o : HO} (h : hide b H c = some o) : c ≠ b ∧ H c = some o := by
  unfold hide at h
  by_cases q : c = b
  · rw [if_pos q] at h
    cases h
  · rw [if_neg q] at h
    exact ⟨q, h⟩
theorem KB.nt {b : Addr} {H H' : Hp} (k : KB b H H') : Nt (hide b H) (hide b H') := fun c o _ h => by
  obtain ⟨n, h⟩ := hide_some h
  rw [hide_ne n]
  exact k c o n h
theorem hide_nt (b : Addr) (H : Hp) : Nt (hide b H) H := fun c o _ h => (hide_some h).2
theorem Nt.seq {K : PySem.W.Frag} {H H' : Hp} {a : Addr} {xs : List V} (e : Nt H H') (h : SqL K H a xs) : SqL K H' a xs := by
  rcases h with (h | ⟨o, h⟩) | h
  · exact .inl (.inl (e _ _ (by simp) h))
  · exact .inl (.inr ⟨o, e _ _ (by simp) h⟩)
  · exact .inr h
theorem Nt.seqT {K : PySem.W.Frag} {H H' : Hp} {a : Addr} {xs : List V} (e : Nt H H') (h : SqT K H a xs) : SqT K H' a xs := by
  rcases h with (h | ⟨o, h⟩) | h
  · exact .inl (.inl (e _ _ (by simp) h))
  · exact .inl (.inr ⟨o, e _ _ (by simp) h⟩)
  · exact .inr h
section
variable {K : PySem.W.Frag} {H H' : Hp}
mutual
theorem dp_nt (e : Nt H H') : ∀ {v : V} {d : PyData}, Dp K H v d → Dp K H' v d
  | _, _, .non => .non
  | _, _, .bl b => .bl b
  | _, _, .int i => .int i
  | _, _, .str z => .str z
  | _, _, .lst h a => .lst (e.seq h) (dpAll_nt e a)
  | _, _, .tup h a => .tup (e.seqT h) (dpAll_nt e a)
theorem dpAll_nt (e : Nt H H') : ∀ {vs : List V} {ds : List PyData}, DpAll K H vs ds → DpAll K H' vs ds
  | _, _, .nil => .nil
  | _, _, .cons h t => .cons (dp_nt e h) (dpAll_nt e t)
end
theorem dp_list {v : V} {ds : List PyData} (h : Dp K H v (.list ds)) : ∃ a xs, v = .ref a ∧ SqL K H a xs ∧ DpAll K H xs ds := by
  cases h with
  | lst h a => exact ⟨_, _, rfl, h, a⟩
theorem dp_tuple {v : V} {ds : List PyData} (h : Dp K H v (.tuple ds)) : ∃ a xs, v = .ref a ∧ SqT K H a xs ∧ DpAll K H xs ds := by
  cases h with
  | tup h a => exact ⟨_, _, rfl, h, a⟩
theorem dp_str {v : V} {z : Str} (h : Dp K H v (.str z)) : v = .str z := by
  cases h
  rfl
theorem dp_int {v : V} {i : Int} (h : Dp K H v (.int i)) : v = .int i := by
  cases h
  rfl
theorem dp_none {v : V} (h : Dp K H v .none) : v = .non := by
  cases h
  rfl
theorem dpAll_len : ∀ {xs : List V} {ds : List PyData}, DpAll K H xs ds → xs.length = ds.length
  | _, _, .nil => rfl
  | _, _, .cons _ t => congrArg (· + 1) (dpAll_len t)
theorem dpAll_get : ∀ {xs : List V} {ds : List PyData}, DpAll K H xs ds → ∀ {i : Nat} {x : V}, xs[i]? = some x → ∃ d, ds[i]? = some d ∧ Dp K H x d
  | _, _, .nil, _, _, h => by simp at h
  | _, _, .cons a _, 0, _, h => by simp at h; subst h; exact ⟨_, rfl, a⟩
  | _, _, .cons _ t, i + 1, x, h => by
    obtain ⟨d, h1, h2⟩ := dpAll_get t (i := i) (x := x) (by simpa using h)
    exact ⟨d, by simpa using h1, h2⟩
theorem dpAll_at : ∀ {xs : List V} {ds : List PyData}, DpAll K H xs ds → ∀ {i : Nat} {d : PyData}, ds[i]? = some d → ∃ x, xs[i]? = some x ∧ Dp K H x d
  | _, _, .nil, _, _, h => by simp at h
  | _, _, .cons a _, 0, _, h => by simp at h; subst h; exact ⟨_, rfl, a⟩
  | _, _, .cons _ t, i + 1, d, h => by
    obtain ⟨x, h1, h2⟩ := dpAll_at t (i := i) (d := d) (by simpa using h)
    exact ⟨x, by simpa using h1, h2⟩
theorem dpAll_app : ∀ {xs ys : List V} {ds es : List PyData}, DpAll K H xs ds → DpAll K H ys es → DpAll K H (xs ++ ys) (ds ++ es)
  | _, _, _, _, .nil, h => h
  | _, _, _, _, .cons a t, h => .cons a (dpAll_app t h)
theorem dp_two {v : V} {c d : PyData} (h : Dp K H v (.tuple [c, d])) : ∃ a x y, v = .ref a ∧ SqT K H a [x, y] ∧ Dp K H x c ∧ Dp K H y d := by
  obtain ⟨a, xs, rfl, h1, h2⟩ := dp_tuple h
  cases h2 with
  | cons p t =>
    cases t with
    | cons q t =>
      cases t
      exact ⟨a, _, _, rfl, h1, p, q⟩
theorem dp_three {v : V} {c d e : PyData} (h : Dp K H v (.tuple [c, d, e])) : ∃ a x y z, v = .ref a ∧ SqT K H a [x, y, z] ∧ Dp K H x c ∧ Dp K H y d ∧ Dp K H z e := by
  obtain ⟨a, xs, rfl, h1, h2⟩ := dp_tuple h
  cases h2 with
  | cons p t =>
    cases t with
    | cons q t =>
      cases t with
      | cons r t =>
        cases t
        exact ⟨a, _, _, _, rfl, h1, p, q, r⟩
theorem dp_four {v : V} {c d e f : PyData} (h : Dp K H v (.list [c, d, e, f])) : ∃ a x y z u, v = .ref a ∧ SqL K H a [x, y, z, u] ∧ Dp K H x c ∧ Dp K H y d ∧ Dp K H z e ∧ Dp K H u f := by
  obtain ⟨a, xs, rfl, h1, h2⟩ := dp_list h
  cases h2 with
  | cons p t =>
    cases t with
    | cons q t =>
      cases t with
      | cons r t =>
        cases t with
        | cons s t =>
          cases t
          exact ⟨a, _, _, _, _, rfl, h1, p, q, r, s⟩
end
/-! ### names that are good, worlds of lines -/
def NameOk (z : Str) : Prop := 1 ≤ z.length ∧ z.length ≤ 6 ∧ z.cps.toList.all lc = true
theorem NameOk.good {z : Str} (h : NameOk z) : Good z := fun c hc => by
  have := List.all_eq_true.mp h.2.2 c hc
  unfold lc at this
  simp at this
  omega
theorem NameOk.nm {z : Str} (h : NameOk z) : nm (.str z) = true := by
  obtain ⟨h1, h2, h3⟩ := h
  simp [My.nm, h1, h2, h3]
theorem NameOk.th {z : Str} {H : Hp} (h : NameOk z) : Th H (.str z) := .str z (by have := h.2.1; omega) h.good
structure Wd where
  ps : List (Str × Int)
  st : List (Str × Int)
  lo : List (Int × Int × Int)
  sp : Str
def longsOk (top : Int) : Int → List (Int × Int × Int) → Prop
  | _, [] => True
  | low, (f, l, h) :: r => low ≤ f ∧ f + 2 ≤ l ∧ l ≤ top ∧ 0 ≤ h ∧ h ≤ 1 ∧ longsOk top l r
structure Wd.Ok (w : Wd) : Prop where
  p2 : 2 ≤ w.ps.length
  p6 : w.ps.length ≤ 6
  nm : ∀ p ∈ w.ps, NameOk p.1 ∧ 1 ≤ p.2 ∧ p.2 ≤ 3
  nd : (w.ps.map (·.1)).Nodup
  sl : w.st.length + 1 = w.ps.length
  st : ∀ p ∈ w.st, (p.1 = "staff" ∨ p.1 = "ticket") ∧ 0 ≤ p.2 ∧ p.2 ≤ 1
  ll : w.lo.length ≤ 2
  lo : longsOk (w.ps.length - 1 : Nat) 0 w.lo
  sn : NameOk w.sp
  s0 : w.sp ∉ w.ps.map (·.1)
def dP (p : Str × Int) : PyData := .tuple [.str p.1, .int p.2]
def dL (p : Int × Int × Int) : PyData := .tuple [.int p.1, .int p.2.1, .int p.2.2]
def Wd.data (w : Wd) : PyData := .list [.list (w.ps.map dP), .list (w.st.map dP), .list (w.lo.map dL), .str w.sp]
end My

set_option maxRecDepth 100000
set_option maxHeartbeats 4000000
namespace T9
open PySem PySem.Spec PyProof.Rows L2 GxR Gd TL My
/-- a list or a tuple -/
def SqX (K : PySem.W.Frag) (H : Hp) (a : Addr) (xs : List V) : Prop := SqL K H a xs ∨ SqT K H a xs
theorem same_nt {H H' : Hp} (e : Same H H') : Nt H H' := fun c o _ h => e c o h
theorem same_alloc {H : Hp} {p : Addr} {o : HO} (n : H p = none) : Same H (upd H p o) := fun c u h => by rw [upd_ne (ne_of_none h n)]; exact h
theorem same_kt {Pt : Addr} {H H' : Hp} (t : TabG H Pt) (e : Same H H') : KT Pt H H' := by
  obtain ⟨ps, h1, h2⟩ := t
  exact ⟨fun c o _ h => e c o h, ps, e _ _ h1, h2⟩
theorem SqX.nt {K : PySem.W.Frag} {H H' : Hp} {a : Addr} {xs : List V} (e : Nt H H') (h : SqX K H a xs) : SqX K H' a xs := h.elim (fun q => .inl (e.seq q)) fun q => .inr (e.seqT q)
theorem ty_seqL {K : PySem.W.Frag} {H : Hp} {a : Addr} {xs : List V} (h : SqL K H a xs) : TyX K H (.ref a) (.type "list") := by
  rcases h with (h | ⟨o, h⟩) | ⟨o, its, n, h1, h2, _⟩
  · exact .base (.lst h)
  · exact .base (.frz h)
  · exact .kList h1 h2
theorem ty_seqT {K : PySem.W.Frag} {H : Hp} {a : Addr} {xs : List V} (h : SqT K H a xs) : TyX K H (.ref a) (.type "tuple") := by
  rcases h with (h | ⟨o, h⟩) | ⟨o, its, n, h1, h2, _⟩
  · exact .base (.tup h)
  · exact .fTuple h
  · exact .kTuple h1 h2
section
variable {P : Program} {w : World} {K : PySem.W.Frag} {mg : Str → Option Value} {base : Heap}
abbrev s_is_list : Stmt := top 17
theorem sc_is_list : FnScope ["thing", "low", "high"] ["thing", "low", "high"] (defScope s_is_list) := ⟨rfl, rfl, rfl, by decide +kernel, rfl, by decide +kernel, by decide +kernel⟩
def spIsList (K : PySem.W.Frag) : Sp := fun vs H Q _ => ∃ (a : Addr) (lo hi : Int) (xs : List V), vs = [.ref a, .int lo, .int hi] ∧ SqX K H a xs ∧ ∀ H', Same H H' → Q (.bl (decide (lo ≤ (xs.length : Int)) && decide ((xs.length : Int) ≤ hi))) H'
theorem ok_is_list {f : Addr} {fd : FuncData} (F : Fun K "is_list" "is_list" s_is_list f fd) (T : Txt mg) : FnOk P w K mg base CX0 1 f fd ["thing", "low", "high"] (spIsList K) := by
  refine F.ok sc_is_list (fun vs H Q E h => ?_) (fun cdv A outer s H vs Q E hr h => ?_)
  · obtain ⟨a, lo, hi, xs, rfl, _⟩ := h
    rfl
  · obtain ⟨a, lo, hi, xs, rfl, hX, k⟩ := h
    refine ⟨_, pss_one (ps_ret (pe_and (pe_callB call_isiT (by rfl) T.isinstance_ (by decide +kernel) (pa_cons (pv 0) (pa_cons (pe_tup (pa_cons (pe_bltn (v := .ty "list") (by rfl) T.list_ (by decide +kernel) rfl) (pa_cons (pe_bltn (v := .ty "tuple") (by rfl) T.tuple_ (by decide +kernel) rfl) pa_nil))) pa_nil))) (pe_one (pe_chain op_le op_le (pv 1) (pe_callB call_len_seq (by rfl) T.len_ PySem.boot_len (pa_cons (pv 0) pa_nil)) (pv 2))))), ?_⟩
    refine ⟨_, rfl, (by show 2 ≤ sizeLine; decide), fun t ht => ?_⟩
    have e := same_alloc (o := .tup [.ty "list", .ty "tuple"]) ht
    have hX' := SqX.nt (same_nt e) hX
    have fin : ∃ c, V.bl true = .bl c ∧ if c = true then tChain (rI0 fun i j => .bl (decide (i ≤ j))) (rI0 fun i j => .bl (decide (i ≤ j))) (tVar 1) (tCB (fun xs H Q => ∃ p ys, xs = [.ref p] ∧ (SqL K H p ys ∨ SqT K H p ys) ∧ Q (.int ys.length) H) (tCons (tVar 0) tNil)) (tVar 2) [some (.ref a), some (.int lo), some (.int hi)] (upd H t (.tup [.ty "list", .ty "tuple"])) Q else Q (.bl false) (upd H t (.tup [.ty "list", .ty "tuple"])) := by
      refine ⟨_, rfl, iteT ?_⟩
      refine ⟨_, rfl, _, rfl, a, xs, rfl, hX', _, _, rfl, rfl, _, rfl, ite2 (fun c => ?_) (fun c => ?_)⟩
      · refine ⟨_, rfl, _, _, rfl, rfl, ?_⟩
        have q := k _ e
        rw [c, Bool.true_and] at q
        exact q
      · have q := k _ e
        rw [show decide (lo ≤ (xs.length : Int)) = false by simpa using c, Bool.false_and] at q
        exact q
    rcases hX' with hL | hT
    · exact ⟨_, t, _, _, [.type "list", .type "tuple"], true, rfl, upd_same, .cons (.ty _) (.cons (.ty _) .nil), ty_seqL hL, (by rfl), fin⟩
    · exact ⟨_, t, _, _, [.type "list", .type "tuple"], true, rfl, upd_same, .cons (.ty _) (.cons (.ty _) .nil), ty_seqT hT, (by rfl), fin⟩
abbrev s_is_tuple : Stmt := top 18
theorem sc_is_tuple : FnScope ["thing", "many"] ["thing", "many"] (defScope s_is_tuple) := ⟨rfl, rfl, rfl, by decide +kernel, rfl, by decide +kernel, by decide +kernel⟩
def spIsTuple (K : PySem.W.Frag) : Sp := fun vs H Q _ => ∃ (a : Addr) (n : Int) (xs : List V), vs = [.ref a, .int n] ∧ SqT K H a xs ∧ Q (.bl (decide ((xs.length : Int) = n))) H
theorem ok_is_tuple {f : Addr} {fd : FuncData} (F : Fun K "is_tuple" "is_tuple" s_is_tuple f fd) (T : Txt mg) : FnOk P w K mg base CX0 1 f fd ["thing", "many"] (spIsTuple K) := by
  refine F.ok sc_is_tuple (fun vs H Q E h => ?_) (fun cdv A outer s H vs Q E hr h => ?_)
  · obtain ⟨a, n, xs, rfl, _⟩ := h
    rfl
  · obtain ⟨a, n, xs, rfl, hT, k⟩ := h
    refine ⟨_, pss_one (ps_ret (pe_and (pe_callB call_isi (by rfl) T.isinstance_ (by decide +kernel) (pa_cons (pv 0) (pa_cons (pe_bltn (v := .ty "tuple") (by rfl) T.tuple_ (by decide +kernel) rfl) pa_nil))) (pe_one (pe_cmpR op_eq (pe_callB call_len_seq (by rfl) T.len_ PySem.boot_len (pa_cons (pv 0) pa_nil)) (pv 1) (nomark _))))), ?_⟩
    refine ⟨_, rfl, _, _, _, _, true, rfl, .ty "tuple", ty_seqT hT, (by rfl), _, rfl, iteT ?_⟩
    refine ⟨_, rfl, a, xs, rfl, .inr hT, _, rfl, rfl, ?_⟩
    have e : decide (V.int (xs.length : Int) = V.int n) = decide ((xs.length : Int) = n) := by simp
    show Q (.bl (decide (V.int (xs.length : Int) = V.int n))) H
    rw [e]
    exact k
abbrev s_check_place : Stmt := top 29
theorem sc_check_place : FnScope ["place", "ahead", "name", "roads"] ["place", "ahead"] (defScope s_check_place) := ⟨rfl, rfl, rfl, by decide +kernel, rfl, by decide +kernel, by decide +kernel⟩
def spCheckPlace (K : PySem.W.Frag) (Pt : Addr) : Sp := fun vs H Q _ => ∃ (t l : Addr) (z : Str) (r : Int) (as : List Str), vs = [.ref t, .ref l] ∧ SqT K H t [.str z, .int r] ∧ NameOk z ∧ 1 ≤ r ∧ r ≤ 3 ∧ SqL K H l (as.map V.str) ∧ z ∉ as ∧ TabG H Pt ∧ ∀ H', KT Pt H H' → Q .non H'
theorem flat_strs (as : List Str) : (as.map V.str).all flatV = true := by
  induction as with
  | nil => rfl
  | cons a r ih => simpa [flatV] using ih
theorem inV_strs {z : Str} {as : List Str} (h : z ∉ as) : inV (.str z) (as.map V.str) = false := by
  unfold inV
  rw [List.any_map, ← Bool.not_eq_true, List.any_eq_true]
  rintro ⟨y, hy, e⟩
  have e' : (y == z) = true := e
  exact h (eq_of_beq e' ▸ hy)
theorem ok_check_place {f fTu fNa fWh Pt : Addr} {fd fdTu fdNa fdWh : FuncData} (F : Fun K "_check_place" "_check_place" s_check_place f fd) (T : Txt mg)
    (Nis_tuple : Fn K mg "is_tuple" s_is_tuple ["thing", "many"] fTu fdTu) (Gis_tuple : FnOk P w K mg base CX0 1 fTu fdTu ["thing", "many"] (spIsTuple K))
    (Nis_name : Fn K mg "is_name" sName ["thing"] fNa fdNa) (Gis_name : FnOk P w K mg base CX0 2 fNa fdNa ["thing"] (spName Pt))
    (Nis_whole : Fn K mg "is_whole" sWhole ["thing", "low", "high"] fWh fdWh) (Gis_whole : FnOk P w K mg base CX0 1 fWh fdWh ["thing", "low", "high"] spWhole) :
    FnOk P w K mg base CX0 3 f fd ["place", "ahead"] (spCheckPlace K Pt) := by
  refine F.ok sc_check_place (fun vs H Q E h => ?_) (fun cdv A outer s H vs Q E hr h => ?_)
  · obtain ⟨t, l, z, r, as, rfl, _⟩ := h
    rfl
  · obtain ⟨t, l, z, r, as, rfl, hT, hz, r1, r3, hl, hn, tb, k⟩ := h
    refine ⟨_, pss_cons (ps_if (pt_not (pt_val (pe_call Gis_tuple (hr.mono (by decide)) (by rfl) Nis_tuple.g Nis_tuple.kp Nis_tuple.b .nil pass0 (pa_cons (pv 0) (pa_cons pe_int pa_nil))))) (pss_one ps_never) pss_nil)
      (pss_cons (ps_asg (pv 0) (pg_tup (by rfl) (pgs_cons (pg_name (i := 2) sc_check_place.nd rfl (Or.inl rfl)) (pgs_cons (pg_name (i := 3) sc_check_place.nd rfl (Or.inl rfl)) pgs_nil))))
      (pss_cons (ps_if (pt_not (pt_val (pe_call Gis_name (hr.mono (by decide)) (by rfl) Nis_name.g Nis_name.kp Nis_name.b .nil pass0 (pa_cons (pv 2) pa_nil)))) (pss_one ps_never) pss_nil)
      (pss_cons (ps_if (pt_cmpR op_in_seq (pv 2) (pv 1) rfl) (pss_one ps_never) pss_nil)
      (pss_one (ps_if (pt_not (pt_val (pe_call Gis_whole (hr.mono (by decide)) (by rfl) Nis_whole.g Nis_whole.kp Nis_whole.b .nil pass0 (pa_cons (pv 3) (pa_cons pe_int (pa_cons pe_int pa_nil)))))) (pss_one ps_never) pss_nil))))), ?_⟩
    refine ⟨_, rfl, t, 2, _, rfl, hT, _, rfl, iteF ?_⟩
    refine ⟨_, rfl, t, _, rfl, hT, rfl, _, _, rfl, _, _, rfl, rfl, ?_⟩
    refine ⟨_, rfl, .str z, rfl, hz.th, tb, fun H1 k1 => ?_⟩
    rw [hz.nm]
    refine ⟨_, rfl, iteF ?_⟩
    have n1 := KT.nt tb k1
    refine ⟨_, rfl, _, rfl, l, _, rfl, .inl (n1.seq hl), rfl, flat_strs as, ?_⟩
    refine ⟨_, rfl, ?_⟩
    show if inV (.str z) (as.map V.str) = true then _ else _
    rw [inV_strs hn]
    refine iteF ?_
    refine ⟨_, rfl, .int r, 1, 3, rfl, .int r, ?_⟩
    have e : wh 1 3 (.int r) = true := by simp [wh, r1, r3]
    rw [e]
    exact ⟨_, rfl, iteF (k H1 k1)⟩
end
end T9

set_option maxRecDepth 100000
set_option maxHeartbeats 4000000
namespace T9
open PySem PySem.Spec PyProof.Rows L2 GxR Gd TL My
theorem get_map {α β : Type} {f : α → β} {l : List α} {i : Nat} {d : β} (h : (l.map f)[i]? = some d) : ∃ p, l[i]? = some p ∧ d = f p := by
  rw [List.getElem?_map] at h
  cases e : l[i]? with
  | none =>
    rw [e] at h
    cases h
  | some p =>
    rw [e] at h
    exact ⟨p, rfl, (Option.some.inj h).symm⟩
theorem take_at {α : Type} {l : List α} {i : Nat} {x : α} (h : l[i]? = some x) : l.take (i + 1) = l.take i ++ [x] := by
  rw [List.take_add_one, h]
  rfl
theorem fresh_name {ps : List (Str × Int)} (nd : (ps.map (·.1)).Nodup) {i : Nat} {p : Str × Int} (h : ps[i]? = some p) : p.1 ∉ (ps.take i).map (·.1) := by
  have hi := (List.getElem?_eq_some_iff.mp h).1
  intro hm
  obtain ⟨q, hq, e⟩ := List.mem_map.mp hm
  obtain ⟨j, hj, eq⟩ := List.getElem_of_mem hq
  have hj' : j < i := by
    have := hj
    rw [List.length_take] at this
    omega
  rw [List.getElem_take] at eq
  have e1 : (ps.map (·.1))[j]? = some p.1 := by
    rw [List.getElem?_map, List.getElem?_eq_getElem (by omega), eq]
    simp [e]
  have e2 : (ps.map (·.1))[i]? = some p.1 := by
    rw [List.getElem?_map, h]
    rfl
  have nd2 : (ps.map (·.1)).Pairwise (· ≠ ·) := nd
  have hjl : j < (ps.map (·.1)).length := by rw [List.length_map]; omega
  have hil : i < (ps.map (·.1)).length := by rw [List.length_map]; exact hi
  have z := List.pairwise_iff_getElem.mp nd2 j i hjl hil hj'
  rw [List.getElem?_eq_getElem hjl] at e1
  rw [List.getElem?_eq_getElem hil] at e2
  exact z ((Option.some.inj e1).trans (Option.some.inj e2).symm)
theorem KT.put {Pt L : Addr} {H H' : Hp} {o : HO} (k : KT Pt H H') (n : H L = none) (np : L ≠ Pt) : KT Pt H (upd H' L o) := by
  obtain ⟨k1, ps, e, t⟩ := k
  exact ⟨fun c u q h => by rw [upd_ne (ne_of_none h n)]; exact k1 c u q h, ps, by rw [upd_ne np.symm]; exact e, t⟩
theorem longs_get {top : Int} : ∀ {low : Int} {lo : List (Int × Int × Int)}, longsOk top low lo → ∀ {i : Nat} {p : Int × Int × Int}, lo[i]? = some p →
    (((lo.take i).getLast?.map fun q => q.2.1).getD low) ≤ p.1 ∧ p.1 + 2 ≤ p.2.1 ∧ p.2.1 ≤ top ∧ 0 ≤ p.2.2 ∧ p.2.2 ≤ 1
  | _, [], _, _, _, h => by simp at h
  | low, (f, l, h) :: r, hk, 0, p, e => by
    simp at e
    subst e
    obtain ⟨h1, h2, h3, h4, h5, _⟩ := hk
    exact ⟨by simpa using h1, h2, h3, h4, h5⟩
  | low, (f, l, h) :: r, hk, i + 1, p, e => by
    obtain ⟨h1, h2, h3, h4, h5, h6⟩ := hk
    have ih := longs_get h6 (i := i) (p := p) (by simpa using e)
    refine ⟨?_, ih.2⟩
    have e1 : ((f, l, h) :: r).take (i + 1) = (f, l, h) :: r.take i := rfl
    rw [e1, List.getLast?_cons]
    cases q : (r.take i).getLast? with
    | none =>
      have := ih.1
      rw [q] at this
      simpa using this
    | some z =>
      have := ih.1
      rw [q] at this
      simpa using this
section
variable {P : Program} {w : World} {K : PySem.W.Frag} {mg : Str → Option Value} {base : Heap}
abbrev s_check_places : Stmt := top 28
theorem sc_check_places : FnScope ["places", "ahead", "place"] ["places"] (defScope s_check_places) := ⟨rfl, rfl, rfl, by decide +kernel, rfl, by decide +kernel, by decide +kernel⟩
def spCheckPlaces (K : PySem.W.Frag) (Pt : Addr) : Sp := fun vs H Q _ => ∃ (a : Addr) (xs : List V) (ps : List (Str × Int)), vs = [.ref a] ∧ SqX K H a xs ∧ DpAll K H xs (ps.map dP) ∧ 2 ≤ ps.length ∧ ps.length ≤ 6 ∧
  (∀ p ∈ ps, NameOk p.1 ∧ 1 ≤ p.2 ∧ p.2 ≤ 3) ∧ (ps.map (·.1)).Nodup ∧ TabG H Pt ∧ ∀ H', KT Pt H H' → Q .non H'
theorem ok_check_places {f fL fC Pt : Addr} {fd fdL fdC : FuncData} (F : Fun K "_check_places" "_check_places" s_check_places f fd) (T : Txt mg)
    (Nis_list : Fn K mg "is_list" s_is_list ["thing", "low", "high"] fL fdL) (Gis_list : FnOk P w K mg base CX0 1 fL fdL ["thing", "low", "high"] (spIsList K))
    (Ncheck_place : Fn K mg "_check_place" s_check_place ["place", "ahead"] fC fdC) (Gcheck_place : FnOk P w K mg base CX0 3 fC fdC ["place", "ahead"] (spCheckPlace K Pt)) :
    FnOk P w K mg base CX0 4 f fd ["places"] (spCheckPlaces K Pt) := by
  refine F.ok sc_check_places (fun vs H Q E h => ?_) (fun cdv A outer s H vs Q E hr h => ?_)
  · obtain ⟨a, xs, ps, rfl, _⟩ := h
    rfl
  · obtain ⟨a, xs, ps, rfl, hX, hd, p2, p6, ok, nd, tb, k⟩ := h
    rcases id hX with hL | hT
    · skip
      refine ⟨_, pss_cons (ps_if (pt_not (pt_val (pe_call Gis_list (hr.mono (by decide)) (by rfl) Nis_list.g Nis_list.kp Nis_list.b .nil pass0 (pa_cons (pv 0) (pa_cons pe_int (pa_cons pe_int pa_nil)))))) (pss_one ps_never) pss_nil)
      (pss_cons (ps_set (i := 1) sc_check_places.nd rfl (Or.inl rfl) (pe_lst pa_nil))
      (pss_one (ps_for PassesOwn.never rfl (pi_list (pv 0)) (pg_name (i := 2) sc_check_places.nd rfl (Or.inl rfl)) (pss_cons (ps_expr (pe_call Gcheck_place (hr.mono (by decide)) (by rfl) Ncheck_place.g Ncheck_place.kp Ncheck_place.b .nil pass0 (pa_cons (pv 2) (pa_cons (pv 1) pa_nil))))
          (pss_one (ps_expr (pe_bm PySem.F.plainAttrs_list PySem.F.slot_list_append PySem.F.type_list_append mt_append (pv 1) (pa_cons (pe_ix ix_tup (pv 2) pe_int (fun _ _ => rfl)) pa_nil)))))))), ?_⟩
      refine ⟨_, rfl, a, 2, 6, xs, rfl, hX, fun H1 s1 => ?_⟩
      have el : (xs.length : Int) = (ps.length : Int) := by rw [dpAll_len hd, List.length_map]
      rw [el, show decide ((2 : Int) ≤ (ps.length : Int)) = true from decide_eq_true (by omega), show decide ((ps.length : Int) ≤ 6) = true from decide_eq_true (by omega)]
      refine ⟨_, rfl, iteF ?_⟩
      refine ⟨Nat.zero_le _, fun L hL0 => ?_⟩
      have hLn : H L = none := s1.free hL0
      have kA := (same_kt tb s1).trans (KT.alloc (o := .lst []) (same_kt tb s1).tab hL0)
      have HX := Nt.seq (KT.nt tb kA) hL
      refine ⟨_, rfl, a, rfl, ⟨_, HX⟩, for_list (K := K) (a := a) (xs := xs) (fun i σ H' => ∃ v : Option V, σ = [some (.ref a), some (.ref L), v] ∧ H' L = some (.lst (((ps.take i).map (·.1)).map V.str)) ∧ KT Pt H H')
        ⟨_, rfl, upd_same, kA⟩ (fun i σ H' _ ⟨_, _, _, q⟩ => Nt.seq (KT.nt tb q) hL) ?_ ?_⟩
      · rintro i x σ H2 hx ⟨v, rfl, eL, k2⟩
        obtain ⟨d, hd1, hd2⟩ := dpAll_get hd hx
        obtain ⟨p, hp, rfl⟩ := get_map hd1
        obtain ⟨t, x1, x2, rfl, ht, q1, q2⟩ := dp_two hd2
        obtain rfl := dp_str q1
        obtain rfl := dp_int q2
        have ht2 := Nt.seqT (KT.nt tb k2) ht
        have hpm := List.mem_of_getElem? hp
        obtain ⟨m1, m2, m3⟩ := ok p hpm
        refine ⟨_, rfl, _, rfl, t, L, p.1, p.2, (ps.take i).map (·.1), rfl, ht2, m1, m2, m3, SqL.of eL, fresh_name nd hp, k2.tab, fun H3 k3 => ?_⟩
        have eL3 : H3 L = some (.lst (((ps.take i).map (·.1)).map V.str)) := KT.nt k2.tab k3 L _ (by simp) eL
        have ht3 := Nt.seqT (KT.nt tb (k2.trans k3)) ht
        have nLP : L ≠ Pt := ne_tab k3.tab eL3 (by simp)
        have hi := (List.getElem?_eq_some_iff.mp hp).1
        refine ⟨_, rfl, .inl ⟨rfl, _, SqL.of eL3⟩, _, rfl, t, _, 0, .str p.1, rfl, rfl, ht3, rfl, L, _, _, rfl, rfl, eL3, ?_, ?_⟩
        · rw [List.length_map, List.length_map, List.length_take]
          exact small1000 (by omega)
        · refine ⟨_, rfl, ?_, KT.put (k2.trans k3) hLn nLP⟩
          rw [upd_same, take_at hp, List.map_append, List.map_append]
          rfl
      · rintro σ H2 ⟨v, rfl, eL, k2⟩
        exact k H2 k2
    · skip
      refine ⟨_, pss_cons (ps_if (pt_not (pt_val (pe_call Gis_list (hr.mono (by decide)) (by rfl) Nis_list.g Nis_list.kp Nis_list.b .nil pass0 (pa_cons (pv 0) (pa_cons pe_int (pa_cons pe_int pa_nil)))))) (pss_one ps_never) pss_nil)
      (pss_cons (ps_set (i := 1) sc_check_places.nd rfl (Or.inl rfl) (pe_lst pa_nil))
      (pss_one (ps_for PassesOwn.never rfl (pi_tup (pv 0)) (pg_name (i := 2) sc_check_places.nd rfl (Or.inl rfl)) (pss_cons (ps_expr (pe_call Gcheck_place (hr.mono (by decide)) (by rfl) Ncheck_place.g Ncheck_place.kp Ncheck_place.b .nil pass0 (pa_cons (pv 2) (pa_cons (pv 1) pa_nil))))
          (pss_one (ps_expr (pe_bm PySem.F.plainAttrs_list PySem.F.slot_list_append PySem.F.type_list_append mt_append (pv 1) (pa_cons (pe_ix ix_tup (pv 2) pe_int (fun _ _ => rfl)) pa_nil)))))))), ?_⟩
      refine ⟨_, rfl, a, 2, 6, xs, rfl, hX, fun H1 s1 => ?_⟩
      have el : (xs.length : Int) = (ps.length : Int) := by rw [dpAll_len hd, List.length_map]
      rw [el, show decide ((2 : Int) ≤ (ps.length : Int)) = true from decide_eq_true (by omega), show decide ((ps.length : Int) ≤ 6) = true from decide_eq_true (by omega)]
      refine ⟨_, rfl, iteF ?_⟩
      refine ⟨Nat.zero_le _, fun L hL0 => ?_⟩
      have hLn : H L = none := s1.free hL0
      have kA := (same_kt tb s1).trans (KT.alloc (o := .lst []) (same_kt tb s1).tab hL0)
      have HX := Nt.seqT (KT.nt tb kA) hT
      refine ⟨_, rfl, a, rfl, ⟨_, HX⟩, for_tup (K := K) (a := a) (xs := xs) (fun i σ H' => ∃ v : Option V, σ = [some (.ref a), some (.ref L), v] ∧ H' L = some (.lst (((ps.take i).map (·.1)).map V.str)) ∧ KT Pt H H')
        ⟨_, rfl, upd_same, kA⟩ (fun i σ H' _ ⟨_, _, _, q⟩ => Nt.seqT (KT.nt tb q) hT) ?_ ?_⟩
      · rintro i x σ H2 hx ⟨v, rfl, eL, k2⟩
        obtain ⟨d, hd1, hd2⟩ := dpAll_get hd hx
        obtain ⟨p, hp, rfl⟩ := get_map hd1
        obtain ⟨t, x1, x2, rfl, ht, q1, q2⟩ := dp_two hd2
        obtain rfl := dp_str q1
        obtain rfl := dp_int q2
        have ht2 := Nt.seqT (KT.nt tb k2) ht
        have hpm := List.mem_of_getElem? hp
        obtain ⟨m1, m2, m3⟩ := ok p hpm
        refine ⟨_, rfl, _, rfl, t, L, p.1, p.2, (ps.take i).map (·.1), rfl, ht2, m1, m2, m3, SqL.of eL, fresh_name nd hp, k2.tab, fun H3 k3 => ?_⟩
        have eL3 : H3 L = some (.lst (((ps.take i).map (·.1)).map V.str)) := KT.nt k2.tab k3 L _ (by simp) eL
        have ht3 := Nt.seqT (KT.nt tb (k2.trans k3)) ht
        have nLP : L ≠ Pt := ne_tab k3.tab eL3 (by simp)
        have hi := (List.getElem?_eq_some_iff.mp hp).1
        refine ⟨_, rfl, .inl ⟨rfl, _, SqL.of eL3⟩, _, rfl, t, _, 0, .str p.1, rfl, rfl, ht3, rfl, L, _, _, rfl, rfl, eL3, ?_, ?_⟩
        · rw [List.length_map, List.length_map, List.length_take]
          exact small1000 (by omega)
        · refine ⟨_, rfl, ?_, KT.put (k2.trans k3) hLn nLP⟩
          rw [upd_same, take_at hp, List.map_append, List.map_append]
          rfl
      · rintro σ H2 ⟨v, rfl, eL, k2⟩
        exact k H2 k2
abbrev s_is_stretch : Stmt := top 31
theorem sc_is_stretch : FnScope ["thing", "kind", "home"] ["thing"] (defScope s_is_stretch) := ⟨rfl, rfl, rfl, by decide +kernel, rfl, by decide +kernel, by decide +kernel⟩
def spIsStretch (K : PySem.W.Frag) : Sp := fun vs H Q _ => ∃ (t : Addr) (z : Str) (h : Int), vs = [.ref t] ∧ SqT K H t [.str z, .int h] ∧ (z = "staff" ∨ z = "ticket") ∧ 0 ≤ h ∧ h ≤ 1 ∧ ∀ H', Same H H' → Q (.bl true) H'
theorem ok_is_stretch {f fTu fWh : Addr} {fd fdTu fdWh : FuncData} (F : Fun K "_is_stretch" "_is_stretch" s_is_stretch f fd) (T : Txt mg)
    (Nis_tuple : Fn K mg "is_tuple" s_is_tuple ["thing", "many"] fTu fdTu) (Gis_tuple : FnOk P w K mg base CX0 1 fTu fdTu ["thing", "many"] (spIsTuple K))
    (Nis_whole : Fn K mg "is_whole" sWhole ["thing", "low", "high"] fWh fdWh) (Gis_whole : FnOk P w K mg base CX0 1 fWh fdWh ["thing", "low", "high"] spWhole) :
    FnOk P w K mg base CX0 2 f fd ["thing"] (spIsStretch K) := by
  refine F.ok sc_is_stretch (fun vs H Q E h => ?_) (fun cdv A outer s H vs Q E hr h => ?_)
  · obtain ⟨t, z, h, rfl, _⟩ := h
    rfl
  · obtain ⟨t, z, h, rfl, hT, hz, h0, h1, k⟩ := h
    refine ⟨_, pss_cons (ps_if (pt_not (pt_val (pe_call Gis_tuple (hr.mono (by decide)) (by rfl) Nis_tuple.g Nis_tuple.kp Nis_tuple.b .nil pass0 (pa_cons (pv 0) (pa_cons pe_int pa_nil))))) (pss_one (ps_ret pe_bl)) pss_nil)
      (pss_cons (ps_asg (pv 0) (pg_tup (by rfl) (pgs_cons (pg_name (i := 1) sc_is_stretch.nd rfl (Or.inl rfl)) (pgs_cons (pg_name (i := 2) sc_is_stretch.nd rfl (Or.inl rfl)) pgs_nil))))
      (pss_one (ps_ret (pe_and (pe_cmpR op_in_seq (pv 1) (pe_tup (pa_cons pe_str (pa_cons pe_str pa_nil))) rfl) (pe_one (pe_call Gis_whole (hr.mono (by decide)) (by rfl) Nis_whole.g Nis_whole.kp Nis_whole.b .nil pass0 (pa_cons (pv 2) (pa_cons pe_int (pa_cons pe_int pa_nil))))))))), ?_⟩
    refine ⟨_, rfl, t, 2, _, rfl, hT, _, rfl, iteF ?_⟩
    refine ⟨_, rfl, t, _, rfl, hT, rfl, _, _, rfl, _, _, rfl, rfl, ?_⟩
    refine ⟨_, rfl, (by show 2 ≤ sizeLine; decide), fun u hu => ?_⟩
    have e := same_alloc (o := .tup [.str "staff", .str "ticket"]) hu
    refine ⟨u, _, rfl, .inr (SqT.of upd_same), rfl, rfl, _, rfl, ?_⟩
    have ei : inV (.str z) [.str "staff", .str "ticket"] = true := by
      rcases hz with rfl | rfl <;> decide +kernel
    show if inV (.str z) [.str "staff", .str "ticket"] = true then _ else _
    rw [ei]
    refine iteT ?_
    refine ⟨_, rfl, .int h, 0, 1, rfl, .int h, ?_⟩
    have e2 : wh 0 1 (.int h) = true := by simp [wh, h0, h1]
    rw [e2]
    exact k _ e
abbrev s_check_stretches : Stmt := top 30
theorem sc_check_stretches : FnScope ["stretches", "many", "stretch"] ["stretches", "many"] (defScope s_check_stretches) := ⟨rfl, rfl, rfl, by decide +kernel, rfl, by decide +kernel, by decide +kernel⟩
def spCheckStretches (K : PySem.W.Frag) : Sp := fun vs H Q _ => ∃ (a : Addr) (n : Int) (xs : List V) (st : List (Str × Int)), vs = [.ref a, .int n] ∧ SqX K H a xs ∧ DpAll K H xs (st.map dP) ∧ n = st.length ∧
  (∀ p ∈ st, (p.1 = "staff" ∨ p.1 = "ticket") ∧ 0 ≤ p.2 ∧ p.2 ≤ 1) ∧ ∀ H', Same H H' → Q .non H'
theorem ok_check_stretches {f fL fC : Addr} {fd fdL fdC : FuncData} (F : Fun K "_check_stretches" "_check_stretches" s_check_stretches f fd) (T : Txt mg)
    (Nis_list : Fn K mg "is_list" s_is_list ["thing", "low", "high"] fL fdL) (Gis_list : FnOk P w K mg base CX0 1 fL fdL ["thing", "low", "high"] (spIsList K))
    (Nis_stretch : Fn K mg "_is_stretch" s_is_stretch ["thing"] fC fdC) (Gis_stretch : FnOk P w K mg base CX0 2 fC fdC ["thing"] (spIsStretch K)) :
    FnOk P w K mg base CX0 3 f fd ["stretches", "many"] (spCheckStretches K) := by
  refine F.ok sc_check_stretches (fun vs H Q E h => ?_) (fun cdv A outer s H vs Q E hr h => ?_)
  · obtain ⟨a, n, xs, st, rfl, _⟩ := h
    rfl
  · obtain ⟨a, n, xs, st, rfl, hX, hd, hn, ok, k⟩ := h
    rcases id hX with hL | hT
    · skip
      refine ⟨_, pss_cons (ps_if (pt_not (pt_val (pe_call Gis_list (hr.mono (by decide)) (by rfl) Nis_list.g Nis_list.kp Nis_list.b .nil pass0 (pa_cons (pv 0) (pa_cons (pv 1) (pa_cons (pv 1) pa_nil)))))) (pss_one ps_never) pss_nil)
      (pss_one (ps_for PassesOwn.never rfl (pi_list (pv 0)) (pg_name (i := 2) sc_check_stretches.nd rfl (Or.inl rfl)) (pss_one (ps_if (pt_not (pt_val (pe_call Gis_stretch (hr.mono (by decide)) (by rfl) Nis_stretch.g Nis_stretch.kp Nis_stretch.b .nil pass0 (pa_cons (pv 2) pa_nil)))) (pss_one ps_never) pss_nil)))), ?_⟩
      refine ⟨_, rfl, _, rfl, _, rfl, a, n, n, xs, rfl, hX, fun H1 s1 => ?_⟩
      have el : (xs.length : Int) = n := by rw [dpAll_len hd, List.length_map, hn]
      rw [el, show decide (n ≤ n) = true from decide_eq_true (Int.le_refl n)]
      refine ⟨_, rfl, iteF ?_⟩
      refine ⟨_, rfl, a, rfl, ⟨_, Nt.seq (same_nt s1) hL⟩, for_list (K := K) (a := a) (xs := xs) (fun i σ H' => ∃ v : Option V, σ = [some (.ref a), some (.int n), v] ∧ Same H H')
        ⟨_, rfl, s1⟩ (fun i σ H' _ ⟨_, _, q⟩ => Nt.seq (same_nt q) hL) ?_ ?_⟩
      · rintro i x σ H2 hx ⟨v, rfl, k2⟩
        obtain ⟨d, hd1, hd2⟩ := dpAll_get hd hx
        obtain ⟨p, hp, rfl⟩ := get_map hd1
        obtain ⟨t, x1, x2, rfl, ht, q1, q2⟩ := dp_two hd2
        obtain rfl := dp_str q1
        obtain rfl := dp_int q2
        obtain ⟨m1, m2, m3⟩ := ok p (List.mem_of_getElem? hp)
        exact ⟨_, rfl, t, p.1, p.2, rfl, Nt.seqT (same_nt k2) ht, m1, m2, m3, fun H3 k3 => ⟨_, rfl, iteF ⟨_, rfl, k2.trans k3⟩⟩⟩
      · rintro σ H2 ⟨v, rfl, k2⟩
        exact k H2 k2
    · skip
      refine ⟨_, pss_cons (ps_if (pt_not (pt_val (pe_call Gis_list (hr.mono (by decide)) (by rfl) Nis_list.g Nis_list.kp Nis_list.b .nil pass0 (pa_cons (pv 0) (pa_cons (pv 1) (pa_cons (pv 1) pa_nil)))))) (pss_one ps_never) pss_nil)
      (pss_one (ps_for PassesOwn.never rfl (pi_tup (pv 0)) (pg_name (i := 2) sc_check_stretches.nd rfl (Or.inl rfl)) (pss_one (ps_if (pt_not (pt_val (pe_call Gis_stretch (hr.mono (by decide)) (by rfl) Nis_stretch.g Nis_stretch.kp Nis_stretch.b .nil pass0 (pa_cons (pv 2) pa_nil)))) (pss_one ps_never) pss_nil)))), ?_⟩
      refine ⟨_, rfl, _, rfl, _, rfl, a, n, n, xs, rfl, hX, fun H1 s1 => ?_⟩
      have el : (xs.length : Int) = n := by rw [dpAll_len hd, List.length_map, hn]
      rw [el, show decide (n ≤ n) = true from decide_eq_true (Int.le_refl n)]
      refine ⟨_, rfl, iteF ?_⟩
      refine ⟨_, rfl, a, rfl, ⟨_, Nt.seqT (same_nt s1) hT⟩, for_tup (K := K) (a := a) (xs := xs) (fun i σ H' => ∃ v : Option V, σ = [some (.ref a), some (.int n), v] ∧ Same H H')
        ⟨_, rfl, s1⟩ (fun i σ H' _ ⟨_, _, q⟩ => Nt.seqT (same_nt q) hT) ?_ ?_⟩
      · rintro i x σ H2 hx ⟨v, rfl, k2⟩
        obtain ⟨d, hd1, hd2⟩ := dpAll_get hd hx
        obtain ⟨p, hp, rfl⟩ := get_map hd1
        obtain ⟨t, x1, x2, rfl, ht, q1, q2⟩ := dp_two hd2
        obtain rfl := dp_str q1
        obtain rfl := dp_int q2
        obtain ⟨m1, m2, m3⟩ := ok p (List.mem_of_getElem? hp)
        exact ⟨_, rfl, t, p.1, p.2, rfl, Nt.seqT (same_nt k2) ht, m1, m2, m3, fun H3 k3 => ⟨_, rfl, iteF ⟨_, rfl, k2.trans k3⟩⟩⟩
      · rintro σ H2 ⟨v, rfl, k2⟩
        exact k H2 k2
abbrev s_is_long : Stmt := top 33
theorem sc_is_long : FnScope ["thing", "low", "top", "first", "last", "home"] ["thing", "low", "top"] (defScope s_is_long) := ⟨rfl, rfl, rfl, by decide +kernel, rfl, by decide +kernel, by decide +kernel⟩
def spIsLong (K : PySem.W.Frag) : Sp := fun vs H Q _ => ∃ (t : Addr) (f l h low tp : Int), vs = [.ref t, .int low, .int tp] ∧ SqT K H t [.int f, .int l, .int h] ∧ low ≤ f ∧ f + 2 ≤ l ∧ l ≤ tp ∧ 0 ≤ h ∧ h ≤ 1 ∧ Q (.bl true) H
theorem ok_is_long {f fTu fWh : Addr} {fd fdTu fdWh : FuncData} (F : Fun K "_is_long" "_is_long" s_is_long f fd) (T : Txt mg)
    (Nis_tuple : Fn K mg "is_tuple" s_is_tuple ["thing", "many"] fTu fdTu) (Gis_tuple : FnOk P w K mg base CX0 1 fTu fdTu ["thing", "many"] (spIsTuple K))
    (Nis_whole : Fn K mg "is_whole" sWhole ["thing", "low", "high"] fWh fdWh) (Gis_whole : FnOk P w K mg base CX0 1 fWh fdWh ["thing", "low", "high"] spWhole) :
    FnOk P w K mg base CX0 2 f fd ["thing", "low", "top"] (spIsLong K) := by
  refine F.ok sc_is_long (fun vs H Q E h => ?_) (fun cdv A outer s H vs Q E hr h => ?_)
  · obtain ⟨t, fi, la, h, low, tp, rfl, _⟩ := h
    rfl
  · obtain ⟨t, fi, la, h, low, tp, rfl, hT, a1, a2, a3, a4, a5, k⟩ := h
    refine ⟨_, pss_cons (ps_if (pt_not (pt_val (pe_call Gis_tuple (hr.mono (by decide)) (by rfl) Nis_tuple.g Nis_tuple.kp Nis_tuple.b .nil pass0 (pa_cons (pv 0) (pa_cons pe_int pa_nil))))) (pss_one (ps_ret pe_bl)) pss_nil)
      (pss_cons (ps_asg (pv 0) (pg_tup (by rfl) (pgs_cons (pg_name (i := 3) sc_is_long.nd rfl (Or.inl rfl)) (pgs_cons (pg_name (i := 4) sc_is_long.nd rfl (Or.inl rfl)) (pgs_cons (pg_name (i := 5) sc_is_long.nd rfl (Or.inl rfl)) pgs_nil)))))
      (pss_one (ps_ret (pe_and (pe_call Gis_whole (hr.mono (by decide)) (by rfl) Nis_whole.g Nis_whole.kp Nis_whole.b .nil pass0 (pa_cons (pv 3) (pa_cons (pv 1) (pa_cons (pv 2) pa_nil)))) (pe_and (pe_call Gis_whole (hr.mono (by decide)) (by rfl) Nis_whole.g Nis_whole.kp Nis_whole.b .nil pass0 (pa_cons (pv 4) (pa_cons (pe_op op_add (pv 3) pe_int) (pa_cons (pv 2) pa_nil)))) (pe_one (pe_call Gis_whole (hr.mono (by decide)) (by rfl) Nis_whole.g Nis_whole.kp Nis_whole.b .nil pass0 (pa_cons (pv 5) (pa_cons pe_int (pa_cons pe_int pa_nil)))))))))), ?_⟩
    refine ⟨_, rfl, t, 3, _, rfl, hT, _, rfl, iteF ?_⟩
    refine ⟨_, rfl, t, _, rfl, hT, rfl, _, _, rfl, _, _, rfl, _, _, rfl, rfl, ?_⟩
    refine ⟨_, rfl, _, rfl, _, rfl, .int fi, low, tp, rfl, .int fi, ?_⟩
    rw [show wh low tp (.int fi) = true by simp [wh]; omega]
    refine ⟨_, rfl, iteT ?_⟩
    refine ⟨_, rfl, _, rfl, _, _, rfl, rfl, _, rfl, .int la, fi + 2, tp, rfl, .int la, ?_⟩
    rw [show wh (fi + 2) tp (.int la) = true by simp [wh]; omega]
    refine ⟨_, rfl, iteT ?_⟩
    refine ⟨_, rfl, .int h, 0, 1, rfl, .int h, ?_⟩
    rw [show wh 0 1 (.int h) = true by simp [wh]; omega]
    exact k
abbrev s_check_longs : Stmt := top 32
theorem sc_check_longs : FnScope ["longs", "top", "low", "long"] ["longs", "top"] (defScope s_check_longs) := ⟨rfl, rfl, rfl, by decide +kernel, rfl, by decide +kernel, by decide +kernel⟩
def spCheckLongs (K : PySem.W.Frag) : Sp := fun vs H Q _ => ∃ (a : Addr) (tp : Int) (xs : List V) (lo : List (Int × Int × Int)), vs = [.ref a, .int tp] ∧ SqX K H a xs ∧ DpAll K H xs (lo.map dL) ∧ lo.length ≤ 2 ∧ longsOk tp 0 lo ∧ ∀ H', Same H H' → Q .non H'
def lastOf (lo : List (Int × Int × Int)) (i : Nat) : Int := ((lo.take i).getLast?.map fun q => q.2.1).getD 0
theorem ok_check_longs {f fL fC : Addr} {fd fdL fdC : FuncData} (F : Fun K "_check_longs" "_check_longs" s_check_longs f fd) (T : Txt mg)
    (Nis_list : Fn K mg "is_list" s_is_list ["thing", "low", "high"] fL fdL) (Gis_list : FnOk P w K mg base CX0 1 fL fdL ["thing", "low", "high"] (spIsList K))
    (Nis_long : Fn K mg "_is_long" s_is_long ["thing", "low", "top"] fC fdC) (Gis_long : FnOk P w K mg base CX0 2 fC fdC ["thing", "low", "top"] (spIsLong K)) :
    FnOk P w K mg base CX0 3 f fd ["longs", "top"] (spCheckLongs K) := by
  refine F.ok sc_check_longs (fun vs H Q E h => ?_) (fun cdv A outer s H vs Q E hr h => ?_)
  · obtain ⟨a, n, xs, st, rfl, _⟩ := h
    rfl
  · obtain ⟨a, tp, xs, lo, rfl, hX, hd, l2, ok, k⟩ := h
    rcases id hX with hL | hT
    · skip
      refine ⟨_, pss_cons (ps_if (pt_not (pt_val (pe_call Gis_list (hr.mono (by decide)) (by rfl) Nis_list.g Nis_list.kp Nis_list.b .nil pass0 (pa_cons (pv 0) (pa_cons pe_int (pa_cons pe_int pa_nil)))))) (pss_one ps_never) pss_nil)
      (pss_cons (ps_set (i := 2) sc_check_longs.nd rfl (Or.inl rfl) pe_int)
      (pss_one (ps_for PassesOwn.never rfl (pi_list (pv 0)) (pg_name (i := 3) sc_check_longs.nd rfl (Or.inl rfl)) (pss_cons (ps_if (pt_not (pt_val (pe_call Gis_long (hr.mono (by decide)) (by rfl) Nis_long.g Nis_long.kp Nis_long.b .nil pass0 (pa_cons (pv 3) (pa_cons (pv 2) (pa_cons (pv 1) pa_nil)))))) (pss_one ps_never) pss_nil)
          (pss_one (ps_set (i := 2) sc_check_longs.nd rfl (Or.inl rfl) (pe_ix ix_tup (pv 3) pe_int (fun _ _ => rfl)))))))), ?_⟩
      refine ⟨_, rfl, a, 0, 2, xs, rfl, hX, fun H1 s1 => ?_⟩
      have el : (xs.length : Int) = (lo.length : Int) := by rw [dpAll_len hd, List.length_map]
      rw [el, show decide ((0 : Int) ≤ (lo.length : Int)) = true from decide_eq_true (by omega), show decide ((lo.length : Int) ≤ 2) = true from decide_eq_true (by omega)]
      refine ⟨_, rfl, iteF ?_⟩
      refine ⟨_, rfl, a, rfl, ⟨_, Nt.seq (same_nt s1) hL⟩, for_list (K := K) (a := a) (xs := xs) (fun i σ H' => ∃ v : Option V, σ = [some (.ref a), some (.int tp), some (.int (lastOf lo i)), v] ∧ Same H H')
        ⟨_, rfl, s1⟩ (fun i σ H' _ ⟨_, _, q⟩ => Nt.seq (same_nt q) hL) ?_ ?_⟩
      · rintro i x σ H2 hx ⟨v, rfl, k2⟩
        obtain ⟨d, hd1, hd2⟩ := dpAll_get hd hx
        obtain ⟨p, hp, rfl⟩ := get_map hd1
        obtain ⟨t, x1, x2, x3, rfl, ht, q1, q2, q3⟩ := dp_three hd2
        obtain rfl := dp_int q1
        obtain rfl := dp_int q2
        obtain rfl := dp_int q3
        obtain ⟨m1, m2, m3, m4, m5⟩ := longs_get ok hp
        have ht2 := Nt.seqT (same_nt k2) ht
        refine ⟨_, rfl, _, rfl, _, rfl, t, _, _, _, _, _, rfl, ht2, m1, m2, m3, m4, m5, _, rfl, iteF ?_⟩
        refine ⟨_, rfl, t, _, 1, .int p.2.1, rfl, rfl, ht2, rfl, some (.ref t), ?_, k2⟩
        have e : lastOf lo (i + 1) = p.2.1 := by
          unfold lastOf
          rw [take_at hp, List.getLast?_append]
          simp
        rw [e]
        rfl
      · rintro σ H2 ⟨v, rfl, k2⟩
        exact k H2 k2
    · skip
      refine ⟨_, pss_cons (ps_if (pt_not (pt_val (pe_call Gis_list (hr.mono (by decide)) (by rfl) Nis_list.g Nis_list.kp Nis_list.b .nil pass0 (pa_cons (pv 0) (pa_cons pe_int (pa_cons pe_int pa_nil)))))) (pss_one ps_never) pss_nil)
      (pss_cons (ps_set (i := 2) sc_check_longs.nd rfl (Or.inl rfl) pe_int)
      (pss_one (ps_for PassesOwn.never rfl (pi_tup (pv 0)) (pg_name (i := 3) sc_check_longs.nd rfl (Or.inl rfl)) (pss_cons (ps_if (pt_not (pt_val (pe_call Gis_long (hr.mono (by decide)) (by rfl) Nis_long.g Nis_long.kp Nis_long.b .nil pass0 (pa_cons (pv 3) (pa_cons (pv 2) (pa_cons (pv 1) pa_nil)))))) (pss_one ps_never) pss_nil)
          (pss_one (ps_set (i := 2) sc_check_longs.nd rfl (Or.inl rfl) (pe_ix ix_tup (pv 3) pe_int (fun _ _ => rfl)))))))), ?_⟩
      refine ⟨_, rfl, a, 0, 2, xs, rfl, hX, fun H1 s1 => ?_⟩
      have el : (xs.length : Int) = (lo.length : Int) := by rw [dpAll_len hd, List.length_map]
      rw [el, show decide ((0 : Int) ≤ (lo.length : Int)) = true from decide_eq_true (by omega), show decide ((lo.length : Int) ≤ 2) = true from decide_eq_true (by omega)]
      refine ⟨_, rfl, iteF ?_⟩
      refine ⟨_, rfl, a, rfl, ⟨_, Nt.seqT (same_nt s1) hT⟩, for_tup (K := K) (a := a) (xs := xs) (fun i σ H' => ∃ v : Option V, σ = [some (.ref a), some (.int tp), some (.int (lastOf lo i)), v] ∧ Same H H')
        ⟨_, rfl, s1⟩ (fun i σ H' _ ⟨_, _, q⟩ => Nt.seqT (same_nt q) hT) ?_ ?_⟩
      · rintro i x σ H2 hx ⟨v, rfl, k2⟩
        obtain ⟨d, hd1, hd2⟩ := dpAll_get hd hx
        obtain ⟨p, hp, rfl⟩ := get_map hd1
        obtain ⟨t, x1, x2, x3, rfl, ht, q1, q2, q3⟩ := dp_three hd2
        obtain rfl := dp_int q1
        obtain rfl := dp_int q2
        obtain rfl := dp_int q3
        obtain ⟨m1, m2, m3, m4, m5⟩ := longs_get ok hp
        have ht2 := Nt.seqT (same_nt k2) ht
        refine ⟨_, rfl, _, rfl, _, rfl, t, _, _, _, _, _, rfl, ht2, m1, m2, m3, m4, m5, _, rfl, iteF ?_⟩
        refine ⟨_, rfl, t, _, 1, .int p.2.1, rfl, rfl, ht2, rfl, some (.ref t), ?_, k2⟩
        have e : lastOf lo (i + 1) = p.2.1 := by
          unfold lastOf
          rw [take_at hp, List.getLast?_append]
          simp
        rw [e]
        rfl
      · rintro σ H2 ⟨v, rfl, k2⟩
        exact k H2 k2
end
end T9

set_option maxRecDepth 100000
set_option maxHeartbeats 4000000
/-! enumerate(a tuple) -/
namespace My
open PySem PySem.Spec PyProof.Rows L2
open Builtin in
set_option maxHeartbeats 1000000 in
theorem meets_enum_of {v : Value} {o : Obj} {H : Heap → Prop} (B : Begins v o H) :
    Meets (Builtin.«enumerate.__new__» ⟨[.type "enumerate", v], []⟩) (fun _ R s => H s.heap ∧
      R (.ok (.ret (.ref (s.heap.push o).objs.size))) { s with heap := (s.heap.push o).push { cls := .type "enumerate", data := .fields #[.none, .bool false, .ref s.heap.objs.size, rawInt 0, .none, .none] } }) :=
  .of_wp fun prog w A R s hh => by
    obtain ⟨hp, g, d, tk, os⟩ := s
    obtain ⟨hB, hR⟩ := hh
    have hsub := sub_enumerate
    have it1 : ∀ {A' : Around} {E : Value → Shared → Prop} {Q : Value → Shared → Prop}, Q (.ref hp.objs.size) ⟨hp.push o, g, d, tk, os⟩ → wpAny (model prog w) A' (pyIter v) Q E ⟨hp, g, d, tk, os⟩ :=
      fun z => B.iter prog w _ _ ⟨hp, g, d, tk, os⟩ _ hB z
    wp_walk using it1
    refine wpAny_stack_any fun st => wpAny_pure ?_
    split
    · rename_i c _ _ _ _ _
      cases (c == Value.type "enumerate") <;> (wp_walk using it1; exact ⟨_, rfl, hR⟩)
    · wp_walk using it1
      exact ⟨_, rfl, hR⟩
theorem call_enum_tuple {prog : Program} {w : World} {A : Around} {E : Value → Shared → Prop} {s : Shared} {a : Addr} {items : Array Value} {Q : Value → Shared → Prop} (ht : s.heap.IsTuple a items)
    (h : ∀ h', IsEnum h' (s.heap.objs.size + 1) s.heap.objs.size 0 .none → h'.IsTupleIter s.heap.objs.size a 0 → (∀ b o, s.heap.get? b = some o → h'.get? b = some o) →
      Q (.ref (s.heap.objs.size + 1)) { s with heap := h' }) : wpAny (model prog w) A (call (.type "enumerate") [.ref a]) Q E s := by
  refine callType_new F.called_enumerate (by decide) (F.typeCall_enumerate_1 _) (F.newCall_enumerate_1 _) (fun obj => F.args_object_init_2 obj _) F.entry_enumerate_new (meets_enum_of (begins_tuple a items)) ⟨ht, ?_⟩
  have z1 : (s.heap.push { cls := .type "tuple_iterator", data := .fields #[.ref a, .int 0 0] }).objs.size = s.heap.objs.size + 1 := Heap.size_push ..
  have ge := Heap.get?_push_size (s.heap.push { cls := .type "tuple_iterator", data := .fields #[.ref a, .int 0 0] }) (o := { cls := .type "enumerate", data := .fields #[.none, .bool false, .ref s.heap.objs.size, rawInt 0, .none, .none] }) rfl
  rw [z1] at ge
  show _ ∧ _
  rw [z1]
  exact ⟨⟨_, ge, rfl⟩, h _ ge ⟨_, Heap.get?_push_of_some _ (Heap.get?_push_size _ rfl), rfl, rfl⟩ fun b o x => Heap.get?_push_of_some _ (Heap.get?_push_of_some _ x)⟩
/-- the tuple at a, each item in a new pair with its number -/
def IteT (K : PySem.W.Frag) (a : Addr) : It :=
  ⟨fun i H => ∃ (xs : List V) (x : V), SqT K H a xs ∧ xs[i]? = some x,
   fun i H v H' => ∃ T x, v = .ref T ∧ H T = none ∧ H' = upd H T (.tup [.int (i : Nat), x]) ∧ ∀ xs, SqT K H a xs → xs[i]? = some x,
   fun i H => ∃ xs : List V, SqT K H a xs ∧ xs.length ≤ i⟩
theorem turn_enumT {P : Program} {w : World} {K : PySem.W.Frag} {elts : List Expr} {kk : Nat} {tp : Pos} (a e it : Addr) :
    Turn P w K (.Tuple elts kk tp) (IteT K a) [e, it] e (fun i h => (∃ old, IsEnum h e it ((i : Nat) : Int) old) ∧ h.IsTupleIter it a i ∧ e ≠ it) := by
  have two : ∀ {b : Addr}, b ∈ [e, it] → b = e ∨ b = it := fun {b} hb => by simpa using hb
  constructor
  case mem => exact List.mem_cons_self
  case obj =>
    rintro i h ⟨⟨old, he⟩, ⟨o, ho, hc, hd⟩, hne⟩ b hb
    rcases two hb with rfl | rfl
    · exact ⟨_, he, fun v q => nomatch q⟩
    · exact ⟨o, ho, fun v q => by rw [hd] at q; cases q⟩
  case keep =>
    rintro i h h' ⟨⟨old, he⟩, ⟨o, ho, r⟩, hne⟩ k
    exact ⟨⟨old, k e List.mem_cons_self _ he⟩, ⟨o, k it (by simp) _ ho, r⟩, hne⟩
  case self =>
    rintro A i s Q E ⟨⟨_, he⟩, _⟩ hQ
    exact wpAny_pyIter_enum he hQ
  case item =>
    rintro X rfl rfl rfl hc i pins s σ H E I hf ⟨⟨old, he⟩, hit, hne⟩ ⟨xs, x, hq, hx⟩
    obtain ⟨its, rv, p, hz⟩ := I.tuple hq
    have pt : s.heap.IsTuple a its.toArray := let ⟨o, h1, h2, n, h3⟩ := p; ⟨o, h1, h2, n, h3⟩
    obtain ⟨u, hu, ru⟩ := rv.get hx
    have hi : i < its.toArray.size := by
      have := (List.getElem?_eq_some_iff.mp hu).1
      simpa using this
    have ane : a ≠ it := by
      rintro rfl
      obtain ⟨o1, h1, h2, _⟩ := hit
      obtain ⟨o2, h3, h4, _⟩ := pt
      rw [h1] at h3
      cases h3
      rw [h2] at h4
      simp at h4
    have aee : a ≠ e := by
      rintro rfl
      obtain ⟨o2, h3, h4, _⟩ := pt
      have h1 : s.heap.get? a = some _ := he
      rw [h1] at h3
      cases h3
      simp at h4
    have le : e < s.heap.objs.size := Heap.lt_size he
    have li : it < s.heap.objs.size := by
      obtain ⟨_, q, _⟩ := hit
      exact Heap.lt_size q
    have D := Draws.tuple (prog := X.prog) (w := X.w) (A := X.A.in1) (show X.A.in1.handled = none from I.ok.hd hc) it a ane its.toArray
    refine wpAny_pyNext_enum_itemD D he ⟨hit, pt⟩ hi hne (fun z => ?_) fun y h' tk hy ho hst hT hsz hk => ?_
    · rcases List.mem_cons.mp z with z | z
      · exact hne z
      · exact aee (List.mem_singleton.mp z).symm
    · have ey : y = u := by
        have z : its.toArray[i]? = some u := by simpa using hu
        exact Option.some.inj (hy.symm.trans z)
      subst ey
      refine ⟨_, rfl, wpAny_letOwnedTupleGo_enum (s := { s with heap := h', toks := tk + 1 }) ho fun h2 he2 sb => ?_⟩
      have hT2 : h2.get? s.heap.objs.size = some { cls := .type "tuple", data := .seq #[.int i tk, y] } := (sb.2 _ (Nat.ne_of_gt le)).trans hT
      have new : ObjOk X.prog X.w (upd H s.heap.objs.size (.tup [.int (i : Nat), x])) h2 s.heap.objs.size (.tup [.int (i : Nat), x]) :=
        ⟨(by show 2 ≤ sizeLine; decide), [.int i tk, y], .cons ⟨_, rfl⟩ (.cons ru .nil), ⟨_, hT2, rfl, _, rfl⟩⟩
      have I1 := I.turnedNew (t' := tk + 1) (ch := [e, it]) (h' := h2) (fun b o hb q => (sb.2 b (fun z => hb (by simp [z]))).trans (hk b o (fun z => hb (by simp [z])) (fun z => hb (by simp [z])) q)) hf (Nat.le_refl _) new
      refine ⟨.ref s.heap.objs.size, _, I1, rfl, ⟨_, x, rfl, I.hok.fresh (Nat.le_refl _), rfl, fun ys hy => by rw [I.tuple_inj hy hq]; exact hx⟩, ⟨⟨y, ?_⟩, ?_, hne⟩, fun b hb => ?_⟩
      · have e1 : ((i + 1 : Nat) : Int) = (i : Int) + 1 := by omega
        rw [e1]
        exact he2
      · obtain ⟨o, q1, q2⟩ := hst.1
        exact ⟨o, (sb.2 it (Ne.symm hne)).trans q1, q2⟩
      · have lb : b < s.heap.objs.size := by
          rcases two hb with rfl | rfl
          · exact le
          · exact li
        rw [upd_ne (Nat.ne_of_lt lb)]
        exact (hf b hb).1
  case done =>
    rintro X rfl rfl rfl hc i pins s σ H E I hf ⟨⟨old, he⟩, hit, hne⟩ ⟨xs, hq, hx⟩
    obtain ⟨its, rv, p, hz⟩ := I.tuple hq
    have pt : s.heap.IsTuple a its.toArray := let ⟨o, h1, h2, n, h3⟩ := p; ⟨o, h1, h2, n, h3⟩
    have ane : a ≠ it := by
      rintro rfl
      obtain ⟨o1, h1, h2, _⟩ := hit
      obtain ⟨o2, h3, h4, _⟩ := pt
      rw [h1] at h3
      cases h3
      rw [h2] at h4
      simp at h4
    obtain ⟨f0, f1, f2, f3, f4, f5⟩ := hf it (by simp)
    have hl := rv.length
    -- at the end the place is not told by Draws (it stands at any i ≥ the size): the library's end of a tuple's iterator
    have D : Draws X.prog X.w X.A.in1 it [it, a] i (fun _ _ => False) (fun j h => j = i ∧ h.IsTupleIter it a i ∧ h.IsTuple a its.toArray) := by
      constructor
      case live => rintro j h ⟨_, ⟨o, ho, _⟩, _⟩; exact ⟨o, ho⟩
      case frame => rintro j h h' ⟨ej, st1, st2⟩ hk; exact ⟨ej, st1.at fun o e => hk it (by simp) o e, st2.at fun o e => hk a (by simp) o e⟩
      case item => rintro j s Q E hj ⟨ej, _⟩ _; exact absurd hj (by omega)
      case done => rintro s Q E ⟨_, st1, st2⟩ hE; exact wpAny_nextOf_tuple_end (show X.A.in1.handled = none from I.ok.hd hc) st1 st2 (by simp; omega) hE
    exact wpAny_pyNext_enum_endD D he ⟨rfl, hit, pt⟩ fun h' eb => ⟨rfl, I.turned (t' := s.toks) (fun b o hb q => eb b o hb q) f0 f1 f3 f4 f5⟩
def iEnumT (K : PySem.W.Frag) (ta : TA) : TI := fun σ H R => ta σ H fun vs H1 => ∃ a xs, vs = [.ref a] ∧ SqT K H1 a xs ∧ R (IteT K a) H1
theorem pi_enumT {X : Cx} {e : Expr} {ta : TA} {p pos tp : Pos} {elts : List Expr} {kk : Nat} (hg : Gl X "enumerate") (hm : X.mg "enumerate" = none) (ha : PA X [e] ta) (hs : starEach [e] X.env = [(false, eval e X.env)] := by rfl) :
    PI X (.Tuple elts kk tp) (.Call (.Name "enumerate" p) [e] [] pos) (iEnumT X.K ta) := by
  refine ⟨fun pins s σ H R I h => Call_ (ld_blt I hg hm boot_enumerate (PyProof.Rows.callWith_type1 (thn (ha.run pos pins s σ H _ I h) ?_) hs rfl))⟩
  rintro us s1 ⟨vs, H1, I1, r1, a, xs, rfl, hq, q⟩
  cases r1 with
  | cons r rr =>
    cases rr
    cases r
    obtain ⟨its, rv, p, hz⟩ := I1.tuple hq
    have pt : s1.heap.IsTuple a its.toArray := let ⟨o, h1, h2, n, h3⟩ := p; ⟨o, h1, h2, n, h3⟩
    refine call_enum_tuple pt fun h' he hit hk => wpAny_pyIter_enum he ?_
    have I2 : Inv X pins σ H1 { s1 with heap := h' } := I1.kept (t' := s1.toks) hk
    refine ⟨s1.heap.objs.size + 1, [s1.heap.objs.size + 1, s1.heap.objs.size], _, _, H1, rfl, I2, turn_enumT a (s1.heap.objs.size + 1) s1.heap.objs.size, ⟨⟨.none, he⟩, hit, Nat.succ_ne_self _⟩, fun b hb => ?_, q⟩
    have lb : s1.heap.objs.size ≤ b := by
      have e' : b = s1.heap.objs.size + 1 ∨ b = s1.heap.objs.size := by simpa using hb
      rcases e' with z | z
      · rw [z]; exact Nat.le_add_right _ _
      · rw [z]; exact Nat.le_refl _
    exact I1.fpOk lb (I1.hok.fresh lb)
theorem walk_enumT {K : PySem.W.Frag} {a : Addr} {xs : List V} : Walk (IteT K a) xs.length (fun H => SqT K H a xs) (YPair (fun i => some (.int (i : Nat))) (fun i => xs[i]?)) := by
  refine ⟨fun i _ hi q => ⟨xs, xs[i], q, by simp [hi]⟩, fun _ q => ⟨xs, q, Nat.le_refl _⟩, ?_⟩
  rintro i H v H' _ q ⟨T, x, h1, h2, h3, h4⟩
  exact ⟨T, .int (i : Nat), x, h1, h2, h3, rfl, h4 xs q⟩
/-- a dict comprehension over a walk -/
theorem dc_it {J : It} {n : Nat} {G : Hp → Prop} {Y : Nat → Hp → V → Hp → Prop} (w : Walk J n G Y) {g : TG} {tt : TT} {tk tv : TE} {vs : List Nat} {σ : L2.St} {H1 : Hp} {D : Addr} {Qd : Hp → Prop} (Pv : Nat → Hp → Prop) (h0 : Pv 0 (upd H1 D (.dK [])))
    (hG : ∀ i H, i ≤ n → Pv i H → G H)
    (hs : ∀ i x H H', i < n → Pv i H → Y i H x H' → g x (wipe σ vs) H' fun σ2 H2 => wipe σ2 vs = wipe σ vs ∧ tt σ2 H2 fun b H3 =>
      if b = true then tk σ2 H3 fun y H4 => tv σ2 H4 fun z H5 => ∃ kvs k, y = kV k ∧ H5 D = some (.dK kvs) ∧ kvs.length < sizeLine ∧ Pv (i + 1) (upd H5 D (.dK (putK kvs k z))) else Pv (i + 1) H3) (hd : ∀ H, Pv n H → Qd H) :
    ∃ W : Nat → Nat → Hp → Prop, (∃ m, W 0 m (upd H1 D (.dK []))) ∧ ∀ i m H, W i m H →
      (J.stop i H ∧ Qd H) ∨ (J.go i H ∧ ∃ Nx : Hp → Prop, (∀ H', Nx H' → ∃ m', m' < m ∧ W (i + 1) m' H') ∧ ∀ x H', J.yld i H x H' → g x (wipe σ vs) H' fun σ2 H2 => wipe σ2 vs = wipe σ vs ∧ tt σ2 H2 fun b H3 =>
        if b = true then tk σ2 H3 fun y H4 => tv σ2 H4 fun z H5 => ∃ kvs k, y = kV k ∧ H5 D = some (.dK kvs) ∧ kvs.length < sizeLine ∧ Nx (upd H5 D (.dK (putK kvs k z))) else Nx H3) := by
  refine ⟨fun i m H => i + m = n ∧ Pv i H, ⟨n, by simp, h0⟩, ?_⟩
  rintro i m H ⟨ei, p⟩
  have g1 := hG i H (by omega) p
  cases m with
  | zero =>
    have e : i = n := by omega
    subst e
    exact .inl ⟨w.stops H g1, hd H p⟩
  | succ m =>
    refine .inr ⟨w.goes i H (by omega) g1, Pv (i + 1), fun H' q => ⟨m, Nat.lt_succ_self m, by omega, q⟩, fun x H' y => hs i x H H' (by omega) p (w.yields i H x H' (by omega) g1 y)⟩
end My

set_option maxRecDepth 100000
set_option maxHeartbeats 4000000
namespace T9
open PySem PySem.Spec PyProof.Rows L2 GxR Gd TL My
/-! ### a line in the heap -/
def lf (p1 p2 p3 d : Addr) : List (Str × V) := putF "_numbers" (.ref d) (putF "_longs" (.ref p3) (putF "_stretches" (.ref p2) (putF "_places" (.ref p1) [])))
theorem lf_get (p1 p2 p3 d : Addr) (g : Str) : (lf p1 p2 p3 d).lookup g = if g = "_numbers" then some (.ref d) else if g = "_longs" then some (.ref p3) else if g = "_stretches" then some (.ref p2) else if g = "_places" then some (.ref p1) else none := by
  unfold lf
  rw [lookup_putF, lookup_putF, lookup_putF, lookup_putF]
  rfl
def posOf (ps : List (Str × Int)) (z : Str) : Option Nat := ps.findIdx? fun p => decide (p.1 = z)
/-- what stands in the dict of numbers -/
def NumsAt (H : Hp) (d : Addr) (ps : List (Str × Int)) : Prop := ∃ kvs : List (Key × V), H d = some (.dK kvs) ∧ kvs.length ≤ ps.length ∧ ∀ z, valV kvs (Sum.inr z) = (posOf ps z).map fun j => V.int (j : Nat)
structure LineAt (K : PySem.W.Frag) (C : Addr) (w : Wd) (H : Hp) (x : Addr) : Prop where
  ex : ∃ dx p1 p2 p3 d xs1 xs2 xs3, H x = some (.ins C dx (lf p1 p2 p3 d)) ∧ SqT K H p1 xs1 ∧ DpAll K H xs1 (w.ps.map dP) ∧ SqT K H p2 xs2 ∧ DpAll K H xs2 (w.st.map dP) ∧ SqT K H p3 xs3 ∧ DpAll K H xs3 (w.lo.map dL) ∧ NumsAt H d w.ps
theorem NumsAt.nt {H H' : Hp} {d : Addr} {ps : List (Str × Int)} (e : Nt H H') (h : NumsAt H d ps) : NumsAt H' d ps := by
  obtain ⟨kvs, h1, h2⟩ := h
  exact ⟨kvs, e _ _ (by simp) h1, h2⟩
theorem LineAt.nt {K : PySem.W.Frag} {C : Addr} {w : Wd} {H H' : Hp} {x : Addr} (e : Nt H H') (h : LineAt K C w H x) : LineAt K C w H' x := by
  obtain ⟨dx, p1, p2, p3, d, xs1, xs2, xs3, h1, h2, h3, h4, h5, h6, h7, h8⟩ := h
  exact ⟨dx, p1, p2, p3, d, xs1, xs2, xs3, e _ _ (by simp) h1, e.seqT h2, dpAll_nt e h3, e.seqT h4, dpAll_nt e h5, e.seqT h6, dpAll_nt e h7, h8.nt e⟩
structure ClsT (K : PySem.W.Frag) (C : Addr) : Prop where
  cl : Cls K C
  n1 : NoAttr K C "_places"
  n2 : NoAttr K C "_stretches"
  n3 : NoAttr K C "_longs"
  n4 : NoAttr K C "_numbers"
theorem tup_of {K : PySem.W.Frag} {H : Hp} {a : Addr} {xs : List V} {G : VK} (h : SqX K H a xs) (k : ∀ p H', Same H H' → SqT K H' p xs → G (.ref p) H') :
    ∃ p ys, [V.ref a] = [V.ref p] ∧ ((SqL K H p ys ∧ ∀ l, H l = none → G (.ref l) (upd H l (.tup ys))) ∨ (SqT K H p ys ∧ G (.ref p) H)) := by
  rcases h with h | h
  · exact ⟨a, xs, rfl, .inl ⟨h, fun l hl => k l _ (same_alloc hl) (SqT.of upd_same)⟩⟩
  · exact ⟨a, xs, rfl, .inr ⟨h, k a H (Same.refl H) h⟩⟩
/-- lists and tuples stay -/
def Ls (H H' : Hp) : Prop := ∀ c o, (∀ ps, o ≠ .tbl ps) → (∀ C d fs, o ≠ .ins C d fs) → H c = some o → H' c = some o
theorem Ls.trans {H H1 H2 : Hp} (a : Ls H H1) (b : Ls H1 H2) : Ls H H2 := fun c o n m h => b c o n m (a c o n m h)
theorem Ls.seq {K : PySem.W.Frag} {H H' : Hp} {a : Addr} {xs : List V} (e : Ls H H') (h : SqL K H a xs) : SqL K H' a xs := by
  rcases h with (h | ⟨o, h⟩) | h
  · exact .inl (.inl (e _ _ (by simp) (by simp) h))
  · exact .inl (.inr ⟨o, e _ _ (by simp) (by simp) h⟩)
  · exact .inr h
theorem Ls.seqT {K : PySem.W.Frag} {H H' : Hp} {a : Addr} {xs : List V} (e : Ls H H') (h : SqT K H a xs) : SqT K H' a xs := by
  rcases h with (h | ⟨o, h⟩) | h
  · exact .inl (.inl (e _ _ (by simp) (by simp) h))
  · exact .inl (.inr ⟨o, e _ _ (by simp) (by simp) h⟩)
  · exact .inr h
theorem Ls.seqX {K : PySem.W.Frag} {H H' : Hp} {a : Addr} {xs : List V} (e : Ls H H') (h : SqX K H a xs) : SqX K H' a xs := h.elim (fun q => .inl (e.seq q)) fun q => .inr (e.seqT q)
section
variable {K : PySem.W.Frag} {H H' : Hp}
mutual
theorem dp_ls (e : Ls H H') : ∀ {v : V} {d : PyData}, Dp K H v d → Dp K H' v d
  | _, _, .non => .non
  | _, _, .bl b => .bl b
  | _, _, .int i => .int i
  | _, _, .str z => .str z
  | _, _, .lst h a => .lst (e.seq h) (dpAll_ls e a)
  | _, _, .tup h a => .tup (e.seqT h) (dpAll_ls e a)
theorem dpAll_ls (e : Ls H H') : ∀ {vs : List V} {ds : List PyData}, DpAll K H vs ds → DpAll K H' vs ds
  | _, _, .nil => .nil
  | _, _, .cons h t => .cons (dp_ls e h) (dpAll_ls e t)
end
end
/-- all but the new line and the table stays -/
structure KI (x Pt : Addr) (H H' : Hp) : Prop where
  keep : ∀ c o, c ≠ x → c ≠ Pt → H c = some o → H' c = some o
  tab : TabG H' Pt
theorem KI.ls {x Pt C dx : Addr} {fs : List (Str × V)} {H H' : Hp} (hx : H x = some (.ins C dx fs)) (t : TabG H Pt) (k : KI x Pt H H') : Ls H H' := fun c o n m h => by
  refine k.keep c o ?_ (ne_tab t h n) h
  rintro rfl
  rw [hx] at h
  exact m _ _ _ (Option.some.inj h).symm
theorem KI.trans {x Pt : Addr} {H H1 H2 : Hp} (a : KI x Pt H H1) (b : KI x Pt H1 H2) : KI x Pt H H2 := ⟨fun c o n1 n2 h => b.keep c o n1 n2 (a.keep c o n1 n2 h), b.tab⟩
theorem KI.of {x Pt : Addr} {H H' : Hp} (k : KT Pt H H') : KI x Pt H H' := ⟨fun c o _ n h => k.keep c o n h, k.tab⟩
theorem KI.same {x Pt : Addr} {H H' : Hp} (t : TabG H Pt) (s : Same H H') : KI x Pt H H' := KI.of (same_kt t s)
theorem KI.put {x Pt : Addr} {H : Hp} {o : HO} (t : TabG H Pt) (n : x ≠ Pt) : KI x Pt H (upd H x o) := by
  obtain ⟨ps, e, ht⟩ := t
  exact ⟨fun c u nx _ h => by rw [upd_ne nx]; exact h, ps, by rw [upd_ne n.symm]; exact e, ht⟩
theorem posOf_nil (z : Str) : posOf [] z = none := rfl
theorem posOf_snoc (ps : List (Str × Int)) (p : Str × Int) (z : Str) (h : p.1 ∉ ps.map (·.1)) : posOf (ps ++ [p]) z = if p.1 = z then some ps.length else posOf ps z := by
  unfold posOf
  rw [List.findIdx?_append]
  by_cases e : p.1 = z
  · rw [if_pos e]
    have n : ps.findIdx? (fun p => decide (p.1 = z)) = none := by
      rw [List.findIdx?_eq_none_iff]
      intro q hq
      have : q.1 ≠ z := fun eq => h (List.mem_map.mpr ⟨q, hq, eq.trans e.symm⟩)
      simpa using this
    rw [n]
    simp [List.findIdx?_cons, e]
  · rw [if_neg e]
    simp [List.findIdx?_cons, e]
theorem same_ls {H H' : Hp} (e : Same H H') : Ls H H' := fun c o _ _ h => e c o h
theorem KB.seq' {D : Addr} {H H' : Hp} (n : H D = none) (k : KB D H H') : Ls H H' := fun c o _ _ h => k c o (fun e => by rw [e, n] at h; cases h) h
section
variable {P : Program} {w : World} {K : PySem.W.Frag} {mg : Str → Option Value} {base : Heap}
abbrev s_init : Stmt := inClass (top 34) 0
theorem sc_init : FnScope ["self", "places", "stretches", "longs", "top", "rows", "number", "name", "_"] ["self", "places", "stretches", "longs"] (defScope s_init) := ⟨rfl, rfl, rfl, by decide +kernel, rfl, by decide +kernel, by decide +kernel⟩
/-- a def that may have defaults -/
structure FunV (K : PySem.W.Frag) (x qual : Str) (st : Stmt) (f : Addr) (fd : FuncData) : Prop where
  ex : ∃ (oc : Value) (od : Option Addr) (dV kV doc pm : Value) (an : Option Addr) (cdv ct : Value) (osl : Array (Option Value)),
    fd = PySem.W.fnOf x qual (defArgs st) (defBody st) (defScope st) dV kV doc pm an cdv ct ∧ K.lookup f = some ⟨oc, od, .func fd, osl⟩ ∧ PySem.W.codeIn K cdv qual = true
theorem FunV.ok {x qual : Str} {st : Stmt} {f : Addr} {fd : FuncData} {N ps : List Str} {k : Nat} {sp : Sp} (F : FunV K x qual st f fd) (S : FnScope N ps (defScope st)) (len : ∀ vs H Q E, sp vs H Q E → vs.length = ps.length)
    (hbody : ∀ (cdv : Value) (A : Around) (outer : List Env) (s : Shared) (H : Hp) (vs : List V) (Q : VK) (E : XK), Room k (A.deeper (envOfC qual (defScope st) s.heap.objs.size f cdv)) → sp vs H Q E →
      ∃ t, PSs (cxOf CX0 P w K mg base N qual (defScope st) f cdv A outer s H E).nox (defBody st) t ∧ t { nx := fun _ H' => Q .non H', rt := Q } (start N vs) H) : FnOk P w K mg base CX0 (k + 1) f fd ps sp := by
  obtain ⟨oc, od, dV, kV, doc, pm, an, cdv, ct, osl, rfl, lk, hcd⟩ := F.ex
  refine fn_of lk hcd S len fun A outer s H vs Q E hr hsp => ?_
  obtain ⟨t, h, q⟩ := hbody cdv A outer s H vs Q E hr hsp
  exact ⟨t, h.nox, q⟩
/-- what is handed in where longs stand -/
def LongsIn (K : PySem.W.Frag) (H : Hp) (v : V) (lo : List (Int × Int × Int)) : Prop := (v = .non ∧ lo = []) ∨ ∃ a xs, v = .ref a ∧ SqX K H a xs ∧ DpAll K H xs (lo.map dL)
def spInit (K : PySem.W.Frag) (C Pt : Addr) : Sp := fun vs H Q _ => ∃ (x dx a1 a2 : Addr) (v3 : V) (xs1 xs2 : List V) (wd : Wd), vs = [.ref x, .ref a1, .ref a2, v3] ∧ H x = some (.ins C dx []) ∧
  SqX K H a1 xs1 ∧ DpAll K H xs1 (wd.ps.map dP) ∧ SqX K H a2 xs2 ∧ DpAll K H xs2 (wd.st.map dP) ∧ LongsIn K H v3 wd.lo ∧ wd.Ok ∧ TabG H Pt ∧
  ∀ H', KI x Pt H H' → LineAt K C wd H' x → Q .non H'
theorem rows_read {σ : L2.St} {H : Hp} {v : V} {lo : List (Int × Int × Int)} {G : VK} (hv : σ[3]? = some (some v)) (hL : LongsIn K H v lo)
    (k : ∀ a xs H', Same H H' → SqX K H' a xs → DpAll K H' xs (lo.map dL) → G (.ref a) H') :
    tIf (tTest (tOp (fun x y H Q => y = V.non ∧ Q (V.bl (decide (x = V.non))) H) (tVar 3) (tC V.non))) (tTup tNil) (tVar 3) σ H G := by
  refine ⟨v, hv, rfl, _, rfl, ?_⟩
  rcases hL with ⟨rfl, rfl⟩ | ⟨a, xs, rfl, h1, h2⟩
  · refine iteT ⟨Nat.zero_le _, fun p hp => ?_⟩
    exact k p [] _ (same_alloc hp) (.inr (SqT.of upd_same)) .nil
  · have e : decide (V.ref a = V.non) = false := decide_eq_false (by simp)
    rw [e]
    exact iteF ⟨_, hv, k a xs H (Same.refl H) h1 h2⟩
theorem tup_read {σ : L2.St} {H : Hp} {i : Nat} {a : Addr} {xs : List V} {G : VK} (hv : σ[i]? = some (some (.ref a))) (h : SqX K H a xs) (k : ∀ p H', Same H H' → SqT K H' p xs → G (.ref p) H') :
    tCB (fun xs H Q => ∃ p ys, xs = [V.ref p] ∧ ((SqL K H p ys ∧ ∀ l, H l = none → Q (.ref l) (upd H l (.tup ys))) ∨ (SqT K H p ys ∧ Q (.ref p) H))) (tCons (tVar i) tNil) σ H G := by
  refine ⟨_, hv, a, xs, rfl, ?_⟩
  rcases h with h | h
  · exact .inl ⟨h, fun l hl => k l _ (same_alloc hl) (SqT.of upd_same)⟩
  · exact .inr ⟨h, k a H (Same.refl H) h⟩
theorem fld_read {D : Ends} {σ : L2.St} {H : Hp} {i : Nat} {a x C dx : Addr} {xs : List V} {f : Str} {fs : List (Str × V)} (h0 : σ[0]? = some (some (.ref x))) (hv : σ[i]? = some (some (.ref a))) (hx : H x = some (.ins C dx fs)) (c : Cls K C) (n : NoAttr K C f) (l : fs.length < 1000)
    (h : SqX K H a xs) (k : ∀ p H', Same H H' → SqT K H' p xs → D.nx σ (upd H' x (.ins C dx (putF f (.ref p) fs)))) :
    sFld K (tVar 0) (tCB (fun xs H Q => ∃ p ys, xs = [V.ref p] ∧ ((SqL K H p ys ∧ ∀ l, H l = none → Q (.ref l) (upd H l (.tup ys))) ∨ (SqT K H p ys ∧ Q (.ref p) H))) (tCons (tVar i) tNil)) f D σ H :=
  tup_read hv h fun p H' s hp => ⟨_, h0, x, C, dx, fs, rfl, s _ _ hx, c, n, l, k p H' s hp⟩
theorem LongsIn.ls {H H' : Hp} {v : V} {lo : List (Int × Int × Int)} (e : Ls H H') (h : LongsIn K H v lo) : LongsIn K H' v lo := by
  rcases h with ⟨rfl, rfl⟩ | ⟨a, xs, rfl, h1, h2⟩
  · exact .inl ⟨rfl, rfl⟩
  · exact .inr ⟨a, xs, rfl, e.seqX h1, dpAll_ls e h2⟩
theorem ok_init {f fP fS fL C Pt : Addr} {fd fdP fdS fdL : FuncData} (F : FunV K "__init__" "Line.__init__" s_init f fd) (T : Txt mg) (TC : ClsT K C)
    (Ncheck_places : Fn K mg "_check_places" s_check_places ["places"] fP fdP) (Gcheck_places : FnOk P w K mg base CX0 4 fP fdP ["places"] (spCheckPlaces K Pt))
    (Ncheck_stretches : Fn K mg "_check_stretches" s_check_stretches ["stretches", "many"] fS fdS) (Gcheck_stretches : FnOk P w K mg base CX0 3 fS fdS ["stretches", "many"] (spCheckStretches K))
    (Ncheck_longs : Fn K mg "_check_longs" s_check_longs ["longs", "top"] fL fdL) (Gcheck_longs : FnOk P w K mg base CX0 3 fL fdL ["longs", "top"] (spCheckLongs K)) :
    FnOk P w K mg base CX0 5 f fd ["self", "places", "stretches", "longs"] (spInit K C Pt) := by
  refine F.ok sc_init (fun vs H Q E h => ?_) (fun cdv A outer s H vs Q E hr h => ?_)
  · obtain ⟨x, dx, a1, a2, v3, xs1, xs2, wd, rfl, _⟩ := h
    rfl
  · obtain ⟨x, dx, a1, a2, v3, xs1, xs2, wd, rfl, hx, hX1, hd1, hX2, hd2, hX3, ok, tb, k⟩ := h
    have nxP : x ≠ Pt := ne_tab tb hx (by simp)
    have ok' := ok
    have l1 : xs1.length = wd.ps.length := by rw [dpAll_len hd1, List.length_map]
    rcases id hX1 with hL | hT
    · skip
      refine ⟨_, pss_cons (ps_expr (pe_call Gcheck_places (hr.mono (by decide)) (by rfl) Ncheck_places.g Ncheck_places.kp Ncheck_places.b .nil pass0 (pa_cons (pv 1) pa_nil)))
      (pss_cons (ps_set (i := 4) sc_init.nd rfl (Or.inl rfl) (pe_op op_sub (pe_callB call_len_seq (by rfl) T.len_ PySem.boot_len (pa_cons (pv 1) pa_nil)) pe_int))
      (pss_cons (ps_expr (pe_call Gcheck_stretches (hr.mono (by decide)) (by rfl) Ncheck_stretches.g Ncheck_stretches.kp Ncheck_stretches.b .nil pass0 (pa_cons (pv 2) (pa_cons (pv 4) pa_nil))))
      (pss_cons (ps_set (i := 5) sc_init.nd rfl (Or.inl rfl) (pe_ifExp (pt_cmpR op_isN (pv 3) pe_non (nomark _)) (pe_tup pa_nil) (pv 3)))
      (pss_cons (ps_expr (pe_call Gcheck_longs (hr.mono (by decide)) (by rfl) Ncheck_longs.g Ncheck_longs.kp Ncheck_longs.b .nil pass0 (pa_cons (pv 5) (pa_cons (pv 4) pa_nil))))
      (pss_cons (ps_fld (pv 0) (pe_callTy call_tuple_of (by rfl) T.tuple_ (by decide +kernel) (pa_cons (pv 1) pa_nil)) rfl)
      (pss_cons (ps_fld (pv 0) (pe_callTy call_tuple_of (by rfl) T.tuple_ (by decide +kernel) (pa_cons (pv 2) pa_nil)) rfl)
      (pss_cons (ps_fld (pv 0) (pe_callTy call_tuple_of (by rfl) T.tuple_ (by decide +kernel) (pa_cons (pv 5) pa_nil)) rfl)
      (pss_one (ps_fld (pv 0) (pe_dc (own := [("number", 6), ("name", 7), ("_", 8)]) (g := gTup K 2 (gCons (gName 6) (gCons (gTup K 2 (gCons (gName 7) (gCons (gName 8) gNil))) gNil))) (tt := tYes) rfl sc_init.nd (pi_enum (by rfl) T.enumerate_ (pa_cons (pv 1) pa_nil)) (blkOk_by (own := [("number", 6), ("name", 7), ("_", 8)]) (N := ["self", "places", "stretches", "longs", "top", "rows", "number", "name", "_"]) (sc := defScope s_init) (by decide +kernel)) (fun _ _ _ _ _ => (pg_tup (by rfl) (pgs_cons (pg_name (i := 6) sc_init.nd rfl (Or.inl rfl)) (pgs_cons (pg_tup (by rfl) (pgs_cons (pg_name (i := 7) sc_init.nd rfl (Or.inl rfl)) (pgs_cons (pg_name (i := 8) sc_init.nd rfl (Or.inl rfl)) pgs_nil))) pgs_nil)))) (fun _ _ _ _ _ => pts_nil) (fun _ _ _ _ _ => pv 7) (fun _ _ _ _ _ => pv 6)) rfl))))))))), ?_⟩
      refine ⟨_, rfl, a1, xs1, wd.ps, rfl, hX1, hd1, ok.p2, ok.p6, ok.nm, ok.nd, tb, fun H1 k1 => ?_⟩
      have i1 : KI x Pt H H1 := KI.of k1
      have e1 := i1.ls hx tb
      have hx1 := KT.nt tb k1 x _ (by simp) hx
      refine ⟨_, rfl, a1, xs1, rfl, e1.seqX hX1, _, _, rfl, rfl, ?_⟩
      refine ⟨_, rfl, _, rfl, a2, _, xs2, wd.st, rfl, e1.seqX hX2, dpAll_ls e1 hd2, (by have := ok.sl; omega), ok.st, fun H2 s2 => ?_⟩
      have i2 := i1.trans (KI.same (x := x) i1.tab s2)
      have e2 := i2.ls hx tb
      refine rows_read (σ := _) rfl (hX3.ls e2) (fun a3 xs3 H3 s3 hX3' hd3' => ?_)
      have i3 := i2.trans (KI.same (x := x) i2.tab s3)
      refine ⟨_, rfl, _, rfl, a3, _, xs3, wd.lo, rfl, hX3', hd3', ok.ll, (by have q := ok.lo; rw [show ((xs1.length : Int) - 1) = ((wd.ps.length - 1 : Nat) : Int) by have := ok.p2; omega]; exact q), fun H4 s4 => ?_⟩
      have i4 := i3.trans (KI.same (x := x) i3.tab s4)
      have e4 := i4.ls hx tb
      have hx4 := s4 _ _ (s3 _ _ (s2 _ _ hx1))
      refine fld_read (i := 1) rfl rfl hx4 TC.cl TC.n1 (by decide) (e4.seqX hX1) (fun p1 H5 s5 hp1 => ?_)
      have j5 := i4.trans (KI.same (x := x) i4.tab s5)
      have i6 := j5.trans (KI.put (o := .ins C dx (putF "_places" (.ref p1) [])) j5.tab nxP)
      have hx6 : (upd H5 x (.ins C dx (putF "_places" (.ref p1) []))) x = some (.ins C dx (putF "_places" (.ref p1) [])) := upd_same
      have u6 : Ls H5 (upd H5 x (.ins C dx (putF "_places" (.ref p1) []))) := (KI.put j5.tab nxP).ls (s5 _ _ hx4) j5.tab
      generalize upd H5 x (.ins C dx (putF "_places" (.ref p1) [])) = H6 at i6 hx6 u6 ⊢
      have e6 := i6.ls hx tb
      refine fld_read (i := 2) rfl rfl hx6 TC.cl TC.n2 (Nat.lt_of_le_of_lt (length_putF _ _ _) (by decide)) (e6.seqX hX2) (fun p2 H7 s7 hp2 => ?_)
      have j7 := i6.trans (KI.same (x := x) i6.tab s7)
      have i8 := j7.trans (KI.put (o := .ins C dx (putF "_stretches" (.ref p2) (putF "_places" (.ref p1) []))) j7.tab nxP)
      have hx8 : (upd H7 x (.ins C dx (putF "_stretches" (.ref p2) (putF "_places" (.ref p1) [])))) x = some (.ins C dx (putF "_stretches" (.ref p2) (putF "_places" (.ref p1) []))) := upd_same
      have u8 : Ls H7 (upd H7 x (.ins C dx (putF "_stretches" (.ref p2) (putF "_places" (.ref p1) [])))) := (KI.put j7.tab nxP).ls (s7 _ _ hx6) j7.tab
      generalize upd H7 x (.ins C dx (putF "_stretches" (.ref p2) (putF "_places" (.ref p1) []))) = H8 at i8 hx8 u8 ⊢
      have e8 := i8.ls hx tb
      have lf8 : (putF "_stretches" (.ref p2) (putF "_places" (.ref p1) [])).length ≤ 2 := Nat.le_trans (length_putF _ _ _) (Nat.succ_le_succ (length_putF _ _ _))
      have e34 : Ls H3 H8 := (((((same_ls s4).trans (same_ls s5)).trans u6).trans (same_ls s7)).trans u8)
      refine fld_read (i := 5) rfl rfl hx8 TC.cl TC.n3 (Nat.lt_of_le_of_lt lf8 (by decide)) (e34.seqX hX3') (fun p3 H9 s9 hp3 => ?_)
      have j9 := i8.trans (KI.same (x := x) i8.tab s9)
      have iA := j9.trans (KI.put (o := .ins C dx (putF "_longs" (.ref p3) (putF "_stretches" (.ref p2) (putF "_places" (.ref p1) [])))) j9.tab nxP)
      have hxA : (upd H9 x (.ins C dx (putF "_longs" (.ref p3) (putF "_stretches" (.ref p2) (putF "_places" (.ref p1) []))))) x = some (.ins C dx (putF "_longs" (.ref p3) (putF "_stretches" (.ref p2) (putF "_places" (.ref p1) [])))) := upd_same
      have uA : Ls H9 (upd H9 x (.ins C dx (putF "_longs" (.ref p3) (putF "_stretches" (.ref p2) (putF "_places" (.ref p1) []))))) := (KI.put j9.tab nxP).ls (s9 _ _ hx8) j9.tab
      generalize upd H9 x (.ins C dx (putF "_longs" (.ref p3) (putF "_stretches" (.ref p2) (putF "_places" (.ref p1) [])))) = HA at iA hxA uA ⊢
      have eA := iA.ls hx tb
      have hp1A : SqT K HA p1 xs1 := uA.seqT ((same_ls s9).seqT (u8.seqT ((same_ls s7).seqT (u6.seqT hp1))))
      have hp2A : SqT K HA p2 xs2 := uA.seqT ((same_ls s9).seqT (u8.seqT hp2))
      have hp3A : SqT K HA p3 xs3 := uA.seqT hp3
      have hd3A := dpAll_ls (e34.trans ((same_ls s9).trans uA)) hd3'
      have hd1A := dpAll_ls eA hd1
      have hd2A := dpAll_ls eA hd2
      refine ⟨_, rfl, a1, xs1, rfl, eA.seq hL, fun D hD => dc_it (walk_enum (K := K) (xs := xs1)) (fun i H' => KB D HA H' ∧ ∃ kvs : List (Key × V), H' D = some (.dK kvs) ∧ kvs.length ≤ i ∧ ∀ z, valV kvs (Sum.inr z) = (posOf (wd.ps.take i) z).map fun j => V.int (j : Nat)) ?_ ?_ ?_ ?_⟩
      · exact ⟨KB.alloc hD, [], upd_same, Nat.zero_le _, fun z => rfl⟩
      · rintro i H' hi ⟨kb, _⟩
        exact (KB.seq' hD kb).seq (eA.seq hL)
      · rintro i v H' H'' hi ⟨kb, kvs, hk1, hk2, hk3⟩ ⟨T1, X, Y, rfl, hT1, rfl, q1, q2⟩
        obtain rfl := Option.some.inj q1
        obtain ⟨d, hg1, hg2⟩ := dpAll_get hd1A q2
        obtain ⟨p, hp, rfl⟩ := get_map hg1
        obtain ⟨t, x1, x2, rfl, ht, r1, r2⟩ := dp_two hg2
        obtain rfl := dp_str r1
        obtain rfl := dp_int r2
        have nD : D ≠ T1 := fun e => by rw [← e, hk1] at hT1; cases hT1
        have ht1 : SqT K (upd H' T1 (.tup [.int (i : Nat), .ref t])) t [.str p.1, .int p.2] := (same_ls (same_alloc hT1)).seqT ((KB.seq' hD kb).seqT ht)
        refine ⟨T1, _, rfl, SqT.of upd_same, rfl, _, _, rfl, _, _, rfl, t, _, rfl, ht1, rfl, _, _, rfl, _, _, rfl, rfl, rfl, rfl, ?_⟩
        refine lcY ⟨_, rfl, _, rfl, kvs, Sum.inr p.1, rfl, by rw [upd_ne nD]; exact hk1, (by show kvs.length < sizeLine; have := ok.p6; exact Nat.lt_of_le_of_lt hk2 (Nat.lt_trans (Nat.lt_of_lt_of_le hi (by omega : xs1.length ≤ 6)) (by decide))), ?_⟩
        refine ⟨fun c o n h => by rw [upd_ne n]; exact (same_alloc hT1) _ _ (kb c o n h), _, upd_same, Nat.le_trans (length_putK _ _ _) (Nat.succ_le_succ hk2), fun z => ?_⟩
        rw [valV_put, take_at hp, posOf_snoc _ _ _ (fresh_name ok.nd hp)]
        have li : (wd.ps.take i).length = i := by rw [List.length_take]; have := (List.getElem?_eq_some_iff.mp hp).1; omega
        by_cases ez : p.1 = z
        · rw [if_pos ez, if_pos (by rw [ez]), li]
          rfl
        · rw [if_neg ez, if_neg (fun e => ez (Sum.inr.inj e).symm)]
          exact hk3 z
      · rintro H' ⟨kb, kvs, hk1, hk2, hk3⟩
        have nxD : x ≠ D := fun e => by rw [← e, hxA] at hD; cases hD
        have sB : Same HA H' := fun c o h => kb c o (fun e => by rw [e, hD] at h; cases h) h
        have jB := iA.trans (KI.same (x := x) iA.tab sB)
        have iB := jB.trans (KI.put (o := .ins C dx (lf p1 p2 p3 D)) jB.tab nxP)
        have uB : Ls H' (upd H' x (.ins C dx (lf p1 p2 p3 D))) := (KI.put jB.tab nxP).ls (sB _ _ hxA) jB.tab
        have eB := (same_ls sB).trans uB
        refine ⟨_, rfl, x, C, dx, _, rfl, sB _ _ hxA, TC.cl, TC.n4, (Nat.lt_of_le_of_lt (Nat.le_trans (length_putF _ _ _) (Nat.succ_le_succ lf8)) (by decide)), k _ iB ⟨dx, p1, p2, p3, D, xs1, xs2, xs3, upd_same, eB.seqT hp1A, dpAll_ls eB hd1A, eB.seqT hp2A, dpAll_ls eB hd2A, eB.seqT hp3A, dpAll_ls eB hd3A, kvs, ?_, ?_, fun z => ?_⟩⟩
        · rw [upd_ne nxD.symm]
          exact hk1
        · omega
        · rw [hk3 z, List.take_of_length_le (by omega)]
    · skip
      refine ⟨_, pss_cons (ps_expr (pe_call Gcheck_places (hr.mono (by decide)) (by rfl) Ncheck_places.g Ncheck_places.kp Ncheck_places.b .nil pass0 (pa_cons (pv 1) pa_nil)))
      (pss_cons (ps_set (i := 4) sc_init.nd rfl (Or.inl rfl) (pe_op op_sub (pe_callB call_len_seq (by rfl) T.len_ PySem.boot_len (pa_cons (pv 1) pa_nil)) pe_int))
      (pss_cons (ps_expr (pe_call Gcheck_stretches (hr.mono (by decide)) (by rfl) Ncheck_stretches.g Ncheck_stretches.kp Ncheck_stretches.b .nil pass0 (pa_cons (pv 2) (pa_cons (pv 4) pa_nil))))
      (pss_cons (ps_set (i := 5) sc_init.nd rfl (Or.inl rfl) (pe_ifExp (pt_cmpR op_isN (pv 3) pe_non (nomark _)) (pe_tup pa_nil) (pv 3)))
      (pss_cons (ps_expr (pe_call Gcheck_longs (hr.mono (by decide)) (by rfl) Ncheck_longs.g Ncheck_longs.kp Ncheck_longs.b .nil pass0 (pa_cons (pv 5) (pa_cons (pv 4) pa_nil))))
      (pss_cons (ps_fld (pv 0) (pe_callTy call_tuple_of (by rfl) T.tuple_ (by decide +kernel) (pa_cons (pv 1) pa_nil)) rfl)
      (pss_cons (ps_fld (pv 0) (pe_callTy call_tuple_of (by rfl) T.tuple_ (by decide +kernel) (pa_cons (pv 2) pa_nil)) rfl)
      (pss_cons (ps_fld (pv 0) (pe_callTy call_tuple_of (by rfl) T.tuple_ (by decide +kernel) (pa_cons (pv 5) pa_nil)) rfl)
      (pss_one (ps_fld (pv 0) (pe_dc (own := [("number", 6), ("name", 7), ("_", 8)]) (g := gTup K 2 (gCons (gName 6) (gCons (gTup K 2 (gCons (gName 7) (gCons (gName 8) gNil))) gNil))) (tt := tYes) rfl sc_init.nd (pi_enumT (by rfl) T.enumerate_ (pa_cons (pv 1) pa_nil)) (blkOk_by (own := [("number", 6), ("name", 7), ("_", 8)]) (N := ["self", "places", "stretches", "longs", "top", "rows", "number", "name", "_"]) (sc := defScope s_init) (by decide +kernel)) (fun _ _ _ _ _ => (pg_tup (by rfl) (pgs_cons (pg_name (i := 6) sc_init.nd rfl (Or.inl rfl)) (pgs_cons (pg_tup (by rfl) (pgs_cons (pg_name (i := 7) sc_init.nd rfl (Or.inl rfl)) (pgs_cons (pg_name (i := 8) sc_init.nd rfl (Or.inl rfl)) pgs_nil))) pgs_nil)))) (fun _ _ _ _ _ => pts_nil) (fun _ _ _ _ _ => pv 7) (fun _ _ _ _ _ => pv 6)) rfl))))))))), ?_⟩
      refine ⟨_, rfl, a1, xs1, wd.ps, rfl, hX1, hd1, ok.p2, ok.p6, ok.nm, ok.nd, tb, fun H1 k1 => ?_⟩
      have i1 : KI x Pt H H1 := KI.of k1
      have e1 := i1.ls hx tb
      have hx1 := KT.nt tb k1 x _ (by simp) hx
      refine ⟨_, rfl, a1, xs1, rfl, e1.seqX hX1, _, _, rfl, rfl, ?_⟩
      refine ⟨_, rfl, _, rfl, a2, _, xs2, wd.st, rfl, e1.seqX hX2, dpAll_ls e1 hd2, (by have := ok.sl; omega), ok.st, fun H2 s2 => ?_⟩
      have i2 := i1.trans (KI.same (x := x) i1.tab s2)
      have e2 := i2.ls hx tb
      refine rows_read (σ := _) rfl (hX3.ls e2) (fun a3 xs3 H3 s3 hX3' hd3' => ?_)
      have i3 := i2.trans (KI.same (x := x) i2.tab s3)
      refine ⟨_, rfl, _, rfl, a3, _, xs3, wd.lo, rfl, hX3', hd3', ok.ll, (by have q := ok.lo; rw [show ((xs1.length : Int) - 1) = ((wd.ps.length - 1 : Nat) : Int) by have := ok.p2; omega]; exact q), fun H4 s4 => ?_⟩
      have i4 := i3.trans (KI.same (x := x) i3.tab s4)
      have e4 := i4.ls hx tb
      have hx4 := s4 _ _ (s3 _ _ (s2 _ _ hx1))
      refine fld_read (i := 1) rfl rfl hx4 TC.cl TC.n1 (by decide) (e4.seqX hX1) (fun p1 H5 s5 hp1 => ?_)
      have j5 := i4.trans (KI.same (x := x) i4.tab s5)
      have i6 := j5.trans (KI.put (o := .ins C dx (putF "_places" (.ref p1) [])) j5.tab nxP)
      have hx6 : (upd H5 x (.ins C dx (putF "_places" (.ref p1) []))) x = some (.ins C dx (putF "_places" (.ref p1) [])) := upd_same
      have u6 : Ls H5 (upd H5 x (.ins C dx (putF "_places" (.ref p1) []))) := (KI.put j5.tab nxP).ls (s5 _ _ hx4) j5.tab
      generalize upd H5 x (.ins C dx (putF "_places" (.ref p1) [])) = H6 at i6 hx6 u6 ⊢
      have e6 := i6.ls hx tb
      refine fld_read (i := 2) rfl rfl hx6 TC.cl TC.n2 (Nat.lt_of_le_of_lt (length_putF _ _ _) (by decide)) (e6.seqX hX2) (fun p2 H7 s7 hp2 => ?_)
      have j7 := i6.trans (KI.same (x := x) i6.tab s7)
      have i8 := j7.trans (KI.put (o := .ins C dx (putF "_stretches" (.ref p2) (putF "_places" (.ref p1) []))) j7.tab nxP)
      have hx8 : (upd H7 x (.ins C dx (putF "_stretches" (.ref p2) (putF "_places" (.ref p1) [])))) x = some (.ins C dx (putF "_stretches" (.ref p2) (putF "_places" (.ref p1) []))) := upd_same
      have u8 : Ls H7 (upd H7 x (.ins C dx (putF "_stretches" (.ref p2) (putF "_places" (.ref p1) [])))) := (KI.put j7.tab nxP).ls (s7 _ _ hx6) j7.tab
      generalize upd H7 x (.ins C dx (putF "_stretches" (.ref p2) (putF "_places" (.ref p1) []))) = H8 at i8 hx8 u8 ⊢
      have e8 := i8.ls hx tb
      have lf8 : (putF "_stretches" (.ref p2) (putF "_places" (.ref p1) [])).length ≤ 2 := Nat.le_trans (length_putF _ _ _) (Nat.succ_le_succ (length_putF _ _ _))
      have e34 : Ls H3 H8 := (((((same_ls s4).trans (same_ls s5)).trans u6).trans (same_ls s7)).trans u8)
      refine fld_read (i := 5) rfl rfl hx8 TC.cl TC.n3 (Nat.lt_of_le_of_lt lf8 (by decide)) (e34.seqX hX3') (fun p3 H9 s9 hp3 => ?_)
      have j9 := i8.trans (KI.same (x := x) i8.tab s9)
      have iA := j9.trans (KI.put (o := .ins C dx (putF "_longs" (.ref p3) (putF "_stretches" (.ref p2) (putF "_places" (.ref p1) [])))) j9.tab nxP)
      have hxA : (upd H9 x (.ins C dx (putF "_longs" (.ref p3) (putF "_stretches" (.ref p2) (putF "_places" (.ref p1) []))))) x = some (.ins C dx (putF "_longs" (.ref p3) (putF "_stretches" (.ref p2) (putF "_places" (.ref p1) [])))) := upd_same
      have uA : Ls H9 (upd H9 x (.ins C dx (putF "_longs" (.ref p3) (putF "_stretches" (.ref p2) (putF "_places" (.ref p1) []))))) := (KI.put j9.tab nxP).ls (s9 _ _ hx8) j9.tab
      generalize upd H9 x (.ins C dx (putF "_longs" (.ref p3) (putF "_stretches" (.ref p2) (putF "_places" (.ref p1) [])))) = HA at iA hxA uA ⊢
      have eA := iA.ls hx tb
      have hp1A : SqT K HA p1 xs1 := uA.seqT ((same_ls s9).seqT (u8.seqT ((same_ls s7).seqT (u6.seqT hp1))))
      have hp2A : SqT K HA p2 xs2 := uA.seqT ((same_ls s9).seqT (u8.seqT hp2))
      have hp3A : SqT K HA p3 xs3 := uA.seqT hp3
      have hd3A := dpAll_ls (e34.trans ((same_ls s9).trans uA)) hd3'
      have hd1A := dpAll_ls eA hd1
      have hd2A := dpAll_ls eA hd2
      refine ⟨_, rfl, a1, xs1, rfl, eA.seqT hT, fun D hD => dc_it (walk_enumT (K := K) (xs := xs1)) (fun i H' => KB D HA H' ∧ ∃ kvs : List (Key × V), H' D = some (.dK kvs) ∧ kvs.length ≤ i ∧ ∀ z, valV kvs (Sum.inr z) = (posOf (wd.ps.take i) z).map fun j => V.int (j : Nat)) ?_ ?_ ?_ ?_⟩
      · exact ⟨KB.alloc hD, [], upd_same, Nat.zero_le _, fun z => rfl⟩
      · rintro i H' hi ⟨kb, _⟩
        exact (KB.seq' hD kb).seqT (eA.seqT hT)
      · rintro i v H' H'' hi ⟨kb, kvs, hk1, hk2, hk3⟩ ⟨T1, X, Y, rfl, hT1, rfl, q1, q2⟩
        obtain rfl := Option.some.inj q1
        obtain ⟨d, hg1, hg2⟩ := dpAll_get hd1A q2
        obtain ⟨p, hp, rfl⟩ := get_map hg1
        obtain ⟨t, x1, x2, rfl, ht, r1, r2⟩ := dp_two hg2
        obtain rfl := dp_str r1
        obtain rfl := dp_int r2
        have nD : D ≠ T1 := fun e => by rw [← e, hk1] at hT1; cases hT1
        have ht1 : SqT K (upd H' T1 (.tup [.int (i : Nat), .ref t])) t [.str p.1, .int p.2] := (same_ls (same_alloc hT1)).seqT ((KB.seq' hD kb).seqT ht)
        refine ⟨T1, _, rfl, SqT.of upd_same, rfl, _, _, rfl, _, _, rfl, t, _, rfl, ht1, rfl, _, _, rfl, _, _, rfl, rfl, rfl, rfl, ?_⟩
        refine lcY ⟨_, rfl, _, rfl, kvs, Sum.inr p.1, rfl, by rw [upd_ne nD]; exact hk1, (by show kvs.length < sizeLine; have := ok.p6; exact Nat.lt_of_le_of_lt hk2 (Nat.lt_trans (Nat.lt_of_lt_of_le hi (by omega : xs1.length ≤ 6)) (by decide))), ?_⟩
        refine ⟨fun c o n h => by rw [upd_ne n]; exact (same_alloc hT1) _ _ (kb c o n h), _, upd_same, Nat.le_trans (length_putK _ _ _) (Nat.succ_le_succ hk2), fun z => ?_⟩
        rw [valV_put, take_at hp, posOf_snoc _ _ _ (fresh_name ok.nd hp)]
        have li : (wd.ps.take i).length = i := by rw [List.length_take]; have := (List.getElem?_eq_some_iff.mp hp).1; omega
        by_cases ez : p.1 = z
        · rw [if_pos ez, if_pos (by rw [ez]), li]
          rfl
        · rw [if_neg ez, if_neg (fun e => ez (Sum.inr.inj e).symm)]
          exact hk3 z
      · rintro H' ⟨kb, kvs, hk1, hk2, hk3⟩
        have nxD : x ≠ D := fun e => by rw [← e, hxA] at hD; cases hD
        have sB : Same HA H' := fun c o h => kb c o (fun e => by rw [e, hD] at h; cases h) h
        have jB := iA.trans (KI.same (x := x) iA.tab sB)
        have iB := jB.trans (KI.put (o := .ins C dx (lf p1 p2 p3 D)) jB.tab nxP)
        have uB : Ls H' (upd H' x (.ins C dx (lf p1 p2 p3 D))) := (KI.put jB.tab nxP).ls (sB _ _ hxA) jB.tab
        have eB := (same_ls sB).trans uB
        refine ⟨_, rfl, x, C, dx, _, rfl, sB _ _ hxA, TC.cl, TC.n4, (Nat.lt_of_le_of_lt (Nat.le_trans (length_putF _ _ _) (Nat.succ_le_succ lf8)) (by decide)), k _ iB ⟨dx, p1, p2, p3, D, xs1, xs2, xs3, upd_same, eB.seqT hp1A, dpAll_ls eB hd1A, eB.seqT hp2A, dpAll_ls eB hd2A, eB.seqT hp3A, dpAll_ls eB hd3A, kvs, ?_, ?_, fun z => ?_⟩⟩
        · rw [upd_ne nxD.symm]
          exact hk1
        · omega
        · rw [hk3 z, List.take_of_length_le (by omega)]
end
end T9

set_option maxRecDepth 100000
set_option maxHeartbeats 4000000
namespace T9
open PySem PySem.Spec PyProof.Rows L2 GxR Gd TL My
structure Mt (K : PySem.W.Frag) (C : Addr) (m q : Str) (st : Stmt) (ps : List Str) (f : Addr) (fd : FuncData) : Prop where
  fn : Fun K m q st f fd
  m : Meth K C m f
  b : Binds K fd ps []
def betw (i j : Nat) : V := if j = i + 1 then .int (i : Nat) else if i = j + 1 then .int (j : Nat) else .non
def lbt (lo : List (Int × Int × Int)) (a b : Int) : V := match lo.findIdx? fun p => decide (p.1 = a) && decide (p.2.1 = b) with
  | some j => .int (j : Nat)
  | none => .non
theorem lf_numbers (p1 p2 p3 d : Addr) : (lf p1 p2 p3 d).lookup (Str.ofString "_numbers") = some (V.ref d) := by rw [lf_get, if_pos rfl]
theorem lf_longs (p1 p2 p3 d : Addr) : (lf p1 p2 p3 d).lookup (Str.ofString "_longs") = some (V.ref p3) := by rw [lf_get, if_neg (by decide +kernel), if_pos rfl]
theorem lf_no (p1 p2 p3 d : Addr) {m : Str} (h : (decide (m = "_numbers") || decide (m = "_longs") || decide (m = "_stretches") || decide (m = "_places")) = false) : (lf p1 p2 p3 d).lookup m = none := by
  rw [lf_get]
  rw [Bool.or_eq_false_iff, Bool.or_eq_false_iff, Bool.or_eq_false_iff, decide_eq_false_iff_not, decide_eq_false_iff_not, decide_eq_false_iff_not, decide_eq_false_iff_not] at h
  obtain ⟨⟨⟨h1, h2⟩, h3⟩, h4⟩ := h
  rw [if_neg h1, if_neg h2, if_neg h3, if_neg h4]
section
variable {P : Program} {w : World} {K : PySem.W.Frag} {mg : Str → Option Value} {base : Heap}
abbrev s_number_of : Stmt := inClass (top 34) 3
theorem sc_number_of : FnScope ["self", "name"] ["self", "name"] (defScope s_number_of) := ⟨rfl, rfl, rfl, by decide +kernel, rfl, by decide +kernel, by decide +kernel⟩
def spNum (K : PySem.W.Frag) (C : Addr) : Sp := fun vs H Q _ => ∃ (x : Addr) (z : Str) (wd : Wd) (j : Nat), vs = [.ref x, .str z] ∧ LineAt K C wd H x ∧ posOf wd.ps z = some j ∧ Q (.int j) H
theorem ok_num {f C : Addr} {fd : FuncData} (F : Fun K "number_of" "Line.number_of" s_number_of f fd) (T : Txt mg) (TC : ClsT K C) : FnOk P w K mg base CX0 1 f fd ["self", "name"] (spNum K C) := by
  refine F.ok sc_number_of (fun vs H Q E h => ?_) (fun cdv A outer s H vs Q E hr h => ?_)
  · obtain ⟨x, z, wd, j, rfl, _⟩ := h
    rfl
  · obtain ⟨x, z, wd, j, rfl, ⟨dx, p1, p2, p3, d, xs1, xs2, xs3, hx, _, _, _, _, _, _, kvs, hk, hl, hv⟩, hj, k⟩ := h
    have hu := hr.units
    have hu1 := Nat.lt_of_le_of_lt (Nat.add_le_add_left (by decide : 1 ≤ 64) _) hu
    refine ⟨_, pss_cons (ps_if (PW.pt (pw_or (pt_not (pt_val (pe_callB call_isi (by rfl) T.isinstance_ (by decide +kernel) (pa_cons (pv 1) (pa_cons (pe_bltn (v := .ty "str") (by rfl) T.str_ (by decide +kernel) rfl) pa_nil))))) (pw_or1 (pt_cmp (pc_dnotin (hu_of hr) (pv 1) (pe_fld (pv 0) rfl)))))) (pss_one ps_never) pss_nil)
      (pss_one (ps_ret (pe_dget (hu_of hr) (pe_fld (pv 0) rfl) (pv 1) (fun _ _ => rfl)))), ?_⟩
    have e := hv z
    rw [hj] at e
    refine ⟨_, rfl, _, _, _, _, true, rfl, .ty "str", .base (.str z), (by rfl), _, rfl, iteF ?_⟩
    refine ⟨_, rfl, _, rfl, x, C, dx, _, _, rfl, hx, TC.cl, TC.n4, lf_numbers _ _ _ _, d, some (.int j), rfl, .inl ⟨kvs, Sum.inr z, Rd.of hk, rfl, e.symm⟩, _, rfl, iteF ?_⟩
    exact ⟨_, rfl, x, C, dx, _, _, rfl, hx, TC.cl, TC.n4, lf_numbers _ _ _ _, _, rfl, d, .int j, rfl, .inl ⟨kvs, Sum.inr z, Rd.of hk, rfl, e.symm⟩, k⟩
end
end T9

set_option maxRecDepth 100000
set_option maxHeartbeats 4000000
/-! the names that a law draws: three ways, all good, all apart -/
namespace My
open PySem PySem.Spec PyProof.Rows L2 GxR Gd TL
theorem tl_inj {a b : Str} (h : tl a = tl b) : a = b := by
  obtain ⟨⟨x⟩⟩ := a
  obtain ⟨⟨y⟩⟩ := b
  have e : x = y := h
  rw [e]
theorem name_of {z : Str} (h1 : 1 ≤ (tl z).length) (h2 : (tl z).length ≤ 6) (h3 : ∀ c ∈ tl z, lc c = true) : NameOk z := by
  rw [tl_len] at h1 h2
  exact ⟨h1, h2, List.all_eq_true.mpr h3⟩
theorem tl_to {z : Str} {j : Nat} (h : j ≤ (tl z).length) : tl (cutS z none (some (j : Int))) = (tl z).take j := by
  show (((tl z).drop (HT.sIx z.length 0 none)).take (HT.sIx z.length z.length (some (j : Int)) - HT.sIx z.length 0 none)) = _
  rw [HT.sIx_none, HT.sIx_nat, ← tl_len, Nat.min_eq_left h]
  simp
theorem tl_cut {z : Str} {a b : Nat} (h : b ≤ (tl z).length) (ha : a ≤ b) : tl (cutS z (some (a : Int)) (some (b : Int))) = ((tl z).drop a).take (b - a) := by
  show (((tl z).drop (HT.sIx z.length 0 (some (a : Int)))).take (HT.sIx z.length z.length (some (b : Int)) - HT.sIx z.length 0 (some (a : Int)))) = _
  rw [HT.sIx_nat, HT.sIx_nat, ← tl_len, Nat.min_eq_left h, Nat.min_eq_left (Nat.le_trans ha h)]
theorem joinL_ones : ∀ cs : List Nat, joinL [] (cs.map fun c => [c]) = cs
  | [] => rfl
  | [c] => rfl
  | c :: d :: r => by
    have ih := joinL_ones (d :: r)
    show [c] ++ ([] ++ joinL [] ((d :: r).map fun c => [c])) = _
    rw [ih]
    rfl
theorem tl_ones (cs : List Nat) : tl (Txt.join (Str.ofString "") (cs.map fun c => ⟨#[c]⟩)) = cs := by
  rw [join_eq, tl_join, List.map_map]
  have e : tl (Str.ofString "") = [] := by decide +kernel
  rw [e]
  exact joinL_ones cs
/-- all good, all apart -/
structure Nms (ns : List Str) : Prop where
  ok : ∀ z ∈ ns, NameOk z
  nd : ns.Nodup
theorem nms_of {f : Nat → Str} {n : Nat} (ok : ∀ k, k < n → NameOk (f k)) (ap : ∀ j k, j < k → k < n → f j ≠ f k) : Nms ((List.range n).map f) := by
  refine ⟨fun z hz => ?_, ?_⟩
  · obtain ⟨k, hk, rfl⟩ := List.mem_map.mp hz
    exact ok k (List.mem_range.mp hk)
  · show ((List.range n).map f).Pairwise (· ≠ ·)
    rw [List.pairwise_map]
    have p : (List.range n).Pairwise (fun a b => a < b) := List.pairwise_lt_range
    refine List.Pairwise.imp_of_mem ?_ p
    intro a b ha hb hab
    exact ap a b hab (List.mem_range.mp hb)
/-! the first way -/
def wds : List Str := ["place", "staff", "ticket", "low", "high", "long", "pilot", "train", "at", "to", "in", "get", "a"]
theorem wds_ok : ∀ z ∈ wds, NameOk z := by
  intro z hz
  have h : (wds.all fun z => decide (1 ≤ (tl z).length) && decide ((tl z).length ≤ 6) && (tl z).all lc) = true := by decide +kernel
  have q := List.all_eq_true.mp h z hz
  rw [Bool.and_eq_true, Bool.and_eq_true, decide_eq_true_eq, decide_eq_true_eq] at q
  exact name_of q.1.1 q.1.2 (List.all_eq_true.mp q.2)
theorem wds_nd : wds.Nodup := by decide +kernel
def nm0 (a : Int) (k : Nat) : Str := (wds[((a + 5 * (k : Int)) % 13).toNat]?).getD ⟨#[]⟩
theorem nm0_at (a : Int) (k : Nat) : atI wds ((a + 5 * (k : Int)) % 13) = some (nm0 a k) := by
  have h0 := Int.emod_nonneg (a + 5 * (k : Int)) (by decide : (13 : Int) ≠ 0)
  have h1 := Int.emod_lt_of_pos (a + 5 * (k : Int)) (by decide : (0 : Int) < 13)
  have hl : wds.length = 13 := by decide +kernel
  generalize e : (a + 5 * (k : Int)) % 13 = m at h0 h1
  obtain ⟨j, rfl⟩ := Int.eq_ofNat_of_zero_le h0
  have hj : j < wds.length := by omega
  unfold nm0
  rw [e, Int.toNat_natCast, List.getElem?_eq_getElem hj]
  exact atI_nat (List.getElem?_eq_getElem hj)
theorem nm0_ok (a : Int) (n : Nat) (hn : n ≤ 7) : Nms ((List.range n).map (nm0 a)) := by
  have hl : wds.length = 13 := by decide +kernel
  have key : ∀ k : Nat, ∃ j : Nat, ((j : Nat) : Int) = (a + 5 * (k : Int)) % 13 ∧ ∃ h : j < wds.length, nm0 a k = wds[j] := fun k => by
    have h0 := Int.emod_nonneg (a + 5 * (k : Int)) (by decide : (13 : Int) ≠ 0)
    have h1 := Int.emod_lt_of_pos (a + 5 * (k : Int)) (by decide : (0 : Int) < 13)
    unfold nm0
    generalize (a + 5 * (k : Int)) % 13 = m at h0 h1
    obtain ⟨j, rfl⟩ := Int.eq_ofNat_of_zero_le h0
    have hj : j < wds.length := by omega
    exact ⟨j, rfl, hj, by rw [Int.toNat_natCast, List.getElem?_eq_getElem hj]; rfl⟩
  refine nms_of (fun k hk => ?_) (fun j k hjk hk e => ?_)
  · obtain ⟨j, _, hj, e⟩ := key k
    rw [e]
    exact wds_ok _ (List.getElem_mem hj)
  · obtain ⟨j1, a1, b1, c1⟩ := key j
    obtain ⟨j2, a2, b2, c2⟩ := key k
    rw [c1, c2] at e
    have nd : wds.Pairwise (· ≠ ·) := wds_nd
    rcases Nat.lt_trichotomy j1 j2 with h | h | h
    · exact List.pairwise_iff_getElem.mp nd j1 j2 b1 b2 h e
    · omega
    · exact List.pairwise_iff_getElem.mp nd j2 j1 b2 b1 h e.symm
/-! the second way -/
structure Stem (z : Str) : Prop where
  len : (tl z).length = 6
  ok : ∀ c ∈ tl z, lc c = true
def nm1 (z : Str) (a : Int) (k : Nat) : Str := cutS z none (some (1 + (a + 5 * (k : Int)) % 6))
theorem nm1_ok {z : Str} (h : Stem z) (a : Int) (n : Nat) (hn : n < 7) : Nms ((List.range n).map (nm1 z a)) := by
  have key : ∀ k : Nat, ∃ j : Nat, ((j : Nat) : Int) = 1 + (a + 5 * (k : Int)) % 6 ∧ 1 ≤ j ∧ j ≤ 6 ∧ tl (nm1 z a k) = (tl z).take j := fun k => by
    have h0 := Int.emod_nonneg (a + 5 * (k : Int)) (by decide : (6 : Int) ≠ 0)
    have h1 := Int.emod_lt_of_pos (a + 5 * (k : Int)) (by decide : (0 : Int) < 6)
    unfold nm1
    generalize (a + 5 * (k : Int)) % 6 = m at h0 h1
    obtain ⟨j, rfl⟩ := Int.eq_ofNat_of_zero_le h0
    refine ⟨1 + j, by omega, by omega, by omega, ?_⟩
    have e : (1 + (j : Int)) = ((1 + j : Nat) : Int) := by omega
    rw [e]
    exact tl_to (by rw [h.len]; omega)
  refine nms_of (fun k hk => ?_) (fun j k hjk hk e => ?_)
  · obtain ⟨j, _, j1, j6, e⟩ := key k
    have hl := h.len
    refine name_of ?_ ?_ (fun c hc => h.ok c (by rw [e] at hc; exact List.mem_of_mem_take hc)) <;> rw [e, List.length_take] <;> omega
  · obtain ⟨j1, a1, _, b1, c1⟩ := key j
    obtain ⟨j2, a2, _, b2, c2⟩ := key k
    have l := congrArg (fun z => (tl z).length) e
    have hl := h.len
    simp only [c1, c2, List.length_take] at l
    omega
/-! the third way -/
def abc : Str := "abcdefghijklmnopqrstuvwxyz"
def lt1 (a : Int) (k : Nat) : Nat := 97 + ((a + 7 * (k : Int)) % 26).toNat
theorem abc_at {i : Int} (h0 : 0 ≤ i) (h1 : i < 26) : atI abc.cps.toList i = some (97 + i.toNat) := by
  obtain ⟨j, rfl⟩ := Int.eq_ofNat_of_zero_le h0
  have h : ∀ j : Fin 26, abc.cps.toList[j.1]? = some (97 + j.1) := by decide +kernel
  rw [Int.toNat_natCast]
  exact atI_nat (h ⟨j, by omega⟩)
theorem lt1_at (a : Int) (k : Nat) : atI abc.cps.toList ((a + 7 * (k : Int)) % 26) = some (lt1 a k) := abc_at (Int.emod_nonneg _ (by decide)) (Int.emod_lt_of_pos _ (by decide))
theorem lt1_lc (a : Int) (k : Nat) : lc (lt1 a k) = true := by
  have h0 := Int.emod_nonneg (a + 7 * (k : Int)) (by decide : (26 : Int) ≠ 0)
  have h1 := Int.emod_lt_of_pos (a + 7 * (k : Int)) (by decide : (0 : Int) < 26)
  unfold lt1 lc
  rw [Bool.and_eq_true, decide_eq_true_eq, decide_eq_true_eq]
  omega
def nm2 (z : Str) (a t : Int) (k : Nat) : Str := cutS z none (some t) ++ ⟨#[lt1 a k]⟩ ++ cutS z (some t) (some (t + (a + (k : Int)) % (6 - t)))
theorem nm2_ok {z : Str} (h : Stem z) (a t : Int) (t0 : 0 ≤ t) (t6 : t < 6) (n : Nat) (hn : n ≤ 7) : Nms ((List.range n).map (nm2 z a t)) := by
  obtain ⟨t, rfl⟩ := Int.eq_ofNat_of_zero_le t0
  have hl := h.len
  have key : ∀ k : Nat, ∃ m : Nat, t + m < 6 ∧ tl (nm2 z a t k) = (tl z).take t ++ ([lt1 a k] ++ ((tl z).drop t).take m) := fun k => by
    have h0 := Int.emod_nonneg (a + (k : Int)) (show (6 - (t : Int)) ≠ 0 by omega)
    have h1 := Int.emod_lt_of_pos (a + (k : Int)) (show (0 : Int) < 6 - (t : Int) by omega)
    unfold nm2
    generalize (a + (k : Int)) % (6 - (t : Int)) = m at h0 h1
    obtain ⟨m, rfl⟩ := Int.eq_ofNat_of_zero_le h0
    refine ⟨m, by omega, ?_⟩
    rw [tl_append, tl_append, tl_to (by omega), show ((t : Int) + (m : Int)) = ((t + m : Nat) : Int) by omega, tl_cut (by omega) (by omega), show t + m - t = m by omega, List.append_assoc]
  refine nms_of (fun k hk => ?_) (fun j k hjk hk e => ?_)
  · obtain ⟨m, hm, e⟩ := key k
    refine name_of ?_ ?_ (fun c hc => ?_)
    · rw [e, List.length_append, List.length_append]
      simp
      omega
    · rw [e, List.length_append, List.length_append, List.length_take, List.length_take, List.length_drop]
      simp
      omega
    · rw [e] at hc
      rcases List.mem_append.mp hc with q | q
      · exact h.ok c (List.mem_of_mem_take q)
      · rcases List.mem_append.mp q with q | q
        · rw [List.mem_singleton.mp q]
          exact lt1_lc a k
        · exact h.ok c (List.mem_of_mem_drop (List.mem_of_mem_take q))
  · obtain ⟨m1, hm1, c1⟩ := key j
    obtain ⟨m2, hm2, c2⟩ := key k
    have l := congrArg (fun z => (tl z)[t]?) e
    simp only [c1, c2] at l
    have lt : ((tl z).take t).length = t := by rw [List.length_take]; omega
    have g : ∀ (c : Nat) (r : List Nat), ((tl z).take t ++ ([c] ++ r))[t]? = some c := fun c r => by
      rw [List.getElem?_append_right (by omega), lt, Nat.sub_self]
      rfl
    rw [g, g] at l
    have l := Option.some.inj l
    unfold lt1 at l
    have h0 := Int.emod_nonneg (a + 7 * (j : Int)) (by decide : (26 : Int) ≠ 0)
    have h1 := Int.emod_nonneg (a + 7 * (k : Int)) (by decide : (26 : Int) ≠ 0)
    omega
end My

set_option maxRecDepth 100000
set_option maxHeartbeats 4000000
namespace T9
open PySem PySem.Spec PyProof.Rows L2 GxR Gd TL My
theorem range_snoc (f : Nat → Str) (i : Nat) : ((List.range (i + 1)).map f).map V.str = ((List.range i).map f).map V.str ++ [V.str (f i)] := by
  rw [List.range_succ, List.map_append, List.map_append]
  rfl
theorem ixL {X : Cx} {K : PySem.W.Frag} (h : X.K = K) : IxR X (rIxL K) := h ▸ ix_list
theorem cmul {m : Nat} (i : Nat) (h : i < m) (hm : m ≤ 7) : CMul 5 (0 + (i : Int)) := .inl ⟨by decide, by decide⟩
theorem cmul7 (i : Nat) : CMul 7 (0 + (i : Int)) := .inl ⟨by decide, by decide⟩
theorem atI_map {α β : Type} {f : α → β} {xs : List α} {i : Int} {v : α} (h : atI xs i = some v) : atI (xs.map f) i = some (f v) := by
  unfold atI at h ⊢
  rw [List.length_map]
  cases e : ixN xs.length i with
  | none => rw [e] at h; cases h
  | some j =>
    rw [e] at h
    show (xs.map f)[j]? = _
    rw [List.getElem?_map, show xs[j]? = some v from h]
    rfl
theorem lt_line (i : Nat) (h : i ≤ 100) : i < sizeLine := Nat.lt_of_le_of_lt h (by decide)
section
variable {P : Program} {w : World} {K : PySem.W.Frag} {mg : Str → Option Value} {base : Heap}
abbrev s_law_names : Stmt := top 39
theorem sc_law_names : FnScope ["_law_box_here", "_law_many", "_law_letters", "_law_words", "_law_way", "_law_first", "_law_stem", "_law_at", "_law_k"] ["_law_box_here", "_law_many"] (defScope s_law_names) := ⟨rfl, rfl, rfl, by decide +kernel, rfl, by decide +kernel, by decide +kernel⟩
def spNames : Sp := fun vs H Q _ => ∃ (b : Addr) (m : Nat) (n : Int), vs = [.ref b, .int (m : Nat)] ∧ Bx b n H ∧ n ≤ 90000 ∧ m ≤ 7 ∧
  ∀ (ns : List Str) (a : Addr) (H' : Hp), KB b H H' → Bx b (n + 20) H' → H' a = some (.lst (ns.map V.str)) → ns.length = m → Nms ns → Q (.ref a) H'
theorem ok_names {f fT : Addr} {fd fdT : FuncData} (F : Fun K "_law_names" "_law_names" s_law_names f fd) (T : Txt mg)
    (Nlaw_take : Fn K mg "_law_take" sTake ["_law_box_here", "_law_many"] fT fdT) (Glaw_take : FnOk P w K mg base CX0 1 fT fdT ["_law_box_here", "_law_many"] spTake) :
    FnOk P w K mg base CX0 2 f fd ["_law_box_here", "_law_many"] spNames := by
  refine F.ok sc_law_names (fun vs H Q E h => ?_) (fun cdv A outer s H vs Q E hr h => ?_)
  · obtain ⟨b, m, n, rfl, _⟩ := h
    rfl
  · obtain ⟨b, m, n, rfl, hB, hn, hm, k⟩ := h
    refine ⟨_, pss_cons (ps_set (i := 2) sc_law_names.nd rfl (Or.inr rfl) pe_str)
      (pss_cons (ps_set (i := 3) sc_law_names.nd rfl (Or.inr rfl) (pe_lst (pa_cons pe_str (pa_cons pe_str (pa_cons pe_str (pa_cons pe_str (pa_cons pe_str (pa_cons pe_str (pa_cons pe_str (pa_cons pe_str (pa_cons pe_str (pa_cons pe_str (pa_cons pe_str (pa_cons pe_str (pa_cons pe_str pa_nil)))))))))))))))
      (pss_cons (ps_set (i := 4) sc_law_names.nd rfl (Or.inl rfl) (pe_call Glaw_take (hr.mono (by decide)) (by rfl) Nlaw_take.g Nlaw_take.kp Nlaw_take.b .nil pass0 (pa_cons (pv 0) (pa_cons pe_int pa_nil))))
      (pss_cons (ps_set (i := 5) sc_law_names.nd rfl (Or.inr rfl) (pe_call Glaw_take (hr.mono (by decide)) (by rfl) Nlaw_take.g Nlaw_take.kp Nlaw_take.b .nil pass0 (pa_cons (pv 0) (pa_cons pe_int pa_nil))))
      (pss_cons (ps_if (pt_cmpR op_eq (pv 4) pe_int (nomark _)) (pss_one (ps_ret (pe_lc (own := [("_law_k", 8)]) (g := gName 8) (tt := tYes) rfl sc_law_names.nd (pi_range1 (by rfl) T.range_ (pa_cons (pv 1) pa_nil)) (blkOk_by (own := [("_law_k", 8)]) (N := ["_law_box_here", "_law_many", "_law_letters", "_law_words", "_law_way", "_law_first", "_law_stem", "_law_at", "_law_k"]) (sc := defScope s_law_names) (by decide +kernel)) (fun _ _ _ _ _ => (pg_name (i := 8) sc_law_names.nd rfl (Or.inl rfl))) (fun _ _ _ _ _ => pts_nil) (fun _ _ _ _ _ => (pe_ix (ixL (K := K) rfl) (pv 3) (pe_op op_mod (pe_op op_add (pv 5) (pe_op op_mul pe_int (pv 8))) pe_int) (fun _ _ => rfl)))))) pss_nil)
      (pss_cons (ps_set (i := 6) sc_law_names.nd rfl (Or.inr rfl) (pe_join pe_str (pe_lc (own := [("_law_k", 8)]) (g := gName 8) (tt := tYes) rfl sc_law_names.nd (pi_range1 (by rfl) T.range_ (pa_cons pe_int pa_nil)) (blkOk_by (own := [("_law_k", 8)]) (N := ["_law_box_here", "_law_many", "_law_letters", "_law_words", "_law_way", "_law_first", "_law_stem", "_law_at", "_law_k"]) (sc := defScope s_law_names) (by decide +kernel)) (fun _ _ _ _ _ => (pg_name (i := 8) sc_law_names.nd rfl (Or.inl rfl))) (fun _ _ _ _ _ => pts_nil) (fun _ _ _ _ _ => (pe_ix ix_str (pv 2) (pe_call Glaw_take (hr.mono (by decide)) (by rfl) Nlaw_take.g Nlaw_take.kp Nlaw_take.b .nil pass0 (pa_cons (pv 0) (pa_cons pe_int pa_nil))) (fun _ _ => rfl))))))
      (pss_cons (ps_if (PW.pt (pw_and (pt_cmpR op_eq (pv 4) pe_int (nomark _)) (pw_and1 (pt_cmpR op_lt (pv 1) pe_int (nomark _))))) (pss_one (ps_ret (pe_lc (own := [("_law_k", 8)]) (g := gName 8) (tt := tYes) rfl sc_law_names.nd (pi_range1 (by rfl) T.range_ (pa_cons (pv 1) pa_nil)) (blkOk_by (own := [("_law_k", 8)]) (N := ["_law_box_here", "_law_many", "_law_letters", "_law_words", "_law_way", "_law_first", "_law_stem", "_law_at", "_law_k"]) (sc := defScope s_law_names) (by decide +kernel)) (fun _ _ _ _ _ => (pg_name (i := 8) sc_law_names.nd rfl (Or.inl rfl))) (fun _ _ _ _ _ => pts_nil) (fun _ _ _ _ _ => (pe_slice sl_str (pv 6) po_none (po_some (pe_op op_add pe_int (pe_op op_mod (pe_op op_add (pv 5) (pe_op op_mul pe_int (pv 8))) pe_int)))))))) pss_nil)
      (pss_cons (ps_set (i := 7) sc_law_names.nd rfl (Or.inr rfl) (pe_call Glaw_take (hr.mono (by decide)) (by rfl) Nlaw_take.g Nlaw_take.kp Nlaw_take.b .nil pass0 (pa_cons (pv 0) (pa_cons pe_int pa_nil))))
      (pss_one (ps_ret (pe_lc (own := [("_law_k", 8)]) (g := gName 8) (tt := tYes) rfl sc_law_names.nd (pi_range1 (by rfl) T.range_ (pa_cons (pv 1) pa_nil)) (blkOk_by (own := [("_law_k", 8)]) (N := ["_law_box_here", "_law_many", "_law_letters", "_law_words", "_law_way", "_law_first", "_law_stem", "_law_at", "_law_k"]) (sc := defScope s_law_names) (by decide +kernel)) (fun _ _ _ _ _ => (pg_name (i := 8) sc_law_names.nd rfl (Or.inl rfl))) (fun _ _ _ _ _ => pts_nil) (fun _ _ _ _ _ => (pe_op op_add_str (pe_op op_add_str (pe_slice sl_str (pv 6) po_none (po_some (pv 7))) (pe_ix ix_str (pv 2) (pe_op op_mod (pe_op op_add (pv 5) (pe_op op_mul pe_int (pv 8))) pe_int) (fun _ _ => rfl))) (pe_slice sl_str (pv 6) (po_some (pv 7)) (po_some (pe_op op_add (pv 7) (pe_op op_mod (pe_op op_add (pv 5) (pv 8)) (pe_op op_sub pe_int (pv 7)))))))))))))))))), ?_⟩
    refine ⟨(by show 13 ≤ sizeLine; decide), fun L hL => ?_⟩
    have k0 : KB b H _ := KB.alloc (o := .lst [.str "place", .str "staff", .str "ticket", .str "low", .str "high", .str "long", .str "pilot", .str "train", .str "at", .str "to", .str "in", .str "get", .str "a"]) hL
    have B0 := hB.alloc (o := .lst [.str "place", .str "staff", .str "ticket", .str "low", .str "high", .str "long", .str "pilot", .str "train", .str "at", .str "to", .str "in", .str "get", .str "a"]) hL
    have nLb : L ≠ b := hB.fresh hL
    have hW : (upd H L (.lst [.str "place", .str "staff", .str "ticket", .str "low", .str "high", .str "long", .str "pilot", .str "train", .str "at", .str "to", .str "in", .str "get", .str "a"])) L = some (.lst (wds.map V.str)) := upd_same
    generalize upd H L (.lst [.str "place", .str "staff", .str "ticket", .str "low", .str "high", .str "long", .str "pilot", .str "train", .str "at", .str "to", .str "in", .str "get", .str "a"]) = H0 at k0 B0 hW ⊢
    refine ⟨_, rfl, b, 4, n, rfl, B0, by omega, by decide, by decide, fun way H1 w0 w1 off1 B1 => ?_⟩
    refine ⟨_, rfl, b, 26, n + 1, rfl, B1, by omega, by decide, by decide, fun a H2 a0 a1 off2 B2 => ?_⟩
    have k2 : KB b H H2 := (k0.trans (KB.off off1)).trans (KB.off off2)
    have hW2 : H2 L = some (.lst (wds.map V.str)) := by rw [off2 L nLb, off1 L nLb]; exact hW
    clear hW k0 B0 B1 off1 off2
    refine ⟨_, rfl, rfl, _, rfl, ite2 (fun c => ?_) (fun c => ?_)⟩
    · refine ⟨_, rfl, m, rfl, by omega, by omega, fun D hD => ?_⟩
      have nD : L ≠ D := ne_of_none hW2 hD
      refine lc_range (lo := 0) (n := m) (fun i H' => H' = upd H2 D (.lst (((List.range i).map (nm0 a)).map V.str))) rfl ?_ ?_
      · rintro i H' hi rfl
        refine ⟨rfl, lcY ?_⟩
        refine ⟨_, rfl, _, rfl, _, rfl, _, _, rfl, rfl, cmul i hi hm, _, _, rfl, rfl, _, _, rfl, rfl, (by show (0 : Int) < 13; decide), L, wds.map V.str, _, .str (nm0 a i), rfl, rfl, SqL.of (by rw [upd_ne nD]; exact hW2), ?_, _, upd_same, ?_, ?_⟩
        · rw [Int.zero_add]
          exact atI_map (nm0_at a i)
        · rw [List.length_map, List.length_map, List.length_range]
          exact lt_line i (by omega)
        · rw [upd_upd, range_snoc]
      · rintro H' rfl
        exact k _ D _ (k2.trans (KB.alloc hD)) ((B2.alloc hD).mono (by omega)) upd_same (by simp) (nm0_ok a m hm)
    · clear c
      refine ⟨⟨_, rfl⟩, 6, rfl, by decide, by decide, fun D hD => ?_⟩
      have nDb : D ≠ b := B2.fresh hD
      refine lc_range (lo := 0) (n := 6) (fun i H' => ∃ cs : List Nat, H' D = some (.lst ((cs.map fun c => (⟨#[c]⟩ : Str)).map V.str)) ∧ cs.length = i ∧ (∀ c ∈ cs, lc c = true) ∧ KB b H2 H' ∧ Bx b (n + 2 + i) H')
        ⟨[], upd_same, rfl, by simp, KB.alloc hD, (B2.alloc hD).mono (by simp; omega)⟩ ?_ ?_
      · rintro i H3 hi ⟨cs, hz, hl, h1, k3, B3⟩
        refine ⟨rfl, lcY ?_⟩
        refine ⟨_, rfl, _, rfl, b, 26, n + 2 + i, rfl, B3, by omega, by decide, by decide, fun d' H4 e0 e1 off4 B4 => ?_⟩
        have hz4 : H4 D = some (.lst ((cs.map fun c => (⟨#[c]⟩ : Str)).map V.str)) := by rw [off4 D nDb]; exact hz
        refine ⟨_, d', 97 + d'.toNat, rfl, rfl, by decide +kernel, abc_at e0 e1, _, hz4, ?_, cs ++ [97 + d'.toNat], ?_, ?_, ?_, ?_, ?_⟩
        · rw [List.length_map, List.length_map, hl]
          exact lt_line i (by omega)
        · rw [upd_same, List.map_append, List.map_append]
          rfl
        · rw [List.length_append, hl]
          rfl
        · intro z hz
          rcases List.mem_append.mp hz with q | q
          · exact h1 z q
          · rw [List.mem_singleton.mp q]
            unfold lc
            rw [Bool.and_eq_true, decide_eq_true_eq, decide_eq_true_eq]
            omega
        · intro c o nc e
          rw [upd_ne (ne_of_none e hD)]
          exact (k3.trans (KB.off off4)) c o nc e
        · exact (B4.put nDb).mono (by push_cast; omega)
      · rintro H3 ⟨cs, hz, hl, h1, k3, B3⟩
        have et := tl_ones cs
        have jl : (Txt.join (Str.ofString "") (cs.map fun c => (⟨#[c]⟩ : Str))).length = 6 := by rw [← tl_len, et, hl]
        have hS : Stem (Txt.join (Str.ofString "") (cs.map fun c => (⟨#[c]⟩ : Str))) := ⟨by rw [et, hl], by rw [et]; exact h1⟩
        refine ⟨_, D, _, rfl, rfl, .inl (SqL.of hz), ?_, ?_⟩
        · have e0 : (Str.ofString "").length = 0 := by decide +kernel
          have hs := sum_ones (cs.map fun c => (⟨#[c]⟩ : Str)) (fun z hz => by obtain ⟨c, _, rfl⟩ := List.mem_map.mp hz; exact Nat.le_refl 1)
          rw [List.length_map] at hs
          rw [e0]
          omega
        generalize Txt.join (Str.ofString "") (cs.map fun c => (⟨#[c]⟩ : Str)) = st at hS jl ⊢
        have hW3 : H3 L = some (.lst (wds.map V.str)) := k3 L _ nLb hW2
        have kH := k2.trans k3
        clear hz et h1 k3
        have w2 : ∀ t : Int, 0 ≤ t → t < 6 → ∀ H4, (∀ a, a ≠ b → H4 a = H3 a) → Bx b (n + 2 + 6 + 1) H4 → tRet (tLc (iRng1 (tCons (tVar 1) tNil)) (gName 8) tYes
            (tOp (fun x y H Q => ∃ i j, x = V.str i ∧ y = V.str j ∧ i.length + j.length ≤ sizeLine ∧ Q (V.str (i ++ j)) H)
              (tOp (fun x y H Q => ∃ i j, x = V.str i ∧ y = V.str j ∧ i.length + j.length ≤ sizeLine ∧ Q (V.str (i ++ j)) H) (tSl rSlS (tVar 6) tNoPart (tPart (tVar 7)))
                (tOp rIxS (tVar 2) (tOp (rI (fun x j => 0 < j) fun i j => V.int (i % j)) (tOp (rI0 fun i j => V.int (i + j)) (tVar 5) (tOp (rI CMul fun i j => V.int (i * j)) (tC (V.int 7)) (tVar 8))) (tC (V.int 26)))))
              (tSl rSlS (tVar 6) (tPart (tVar 7)) (tPart (tOp (rI0 fun i j => V.int (i + j)) (tVar 7) (tOp (rI (fun x j => 0 < j) fun i j => V.int (i % j)) (tOp (rI0 fun i j => V.int (i + j)) (tVar 5) (tVar 8)) (tOp (rI0 fun i j => V.int (i - j)) (tC (V.int 6)) (tVar 7)))))))
            [8]) { nx := fun x H' => Q V.non H', rt := Q } [some (.ref b), some (.int (m : Nat)), some (.str abc), some (.ref L), some (.int way), some (.int a), some (.str st), some (.int t), none] H4 := by
          intro t t0 t6 H4 off4 B4
          refine ⟨_, rfl, m, rfl, by omega, by omega, fun D2 hD2 => ?_⟩
          refine lc_range (lo := 0) (n := m) (fun i H' => H' = upd H4 D2 (.lst (((List.range i).map (nm2 st a t)).map V.str))) rfl ?_ ?_
          · rintro i H' hi rfl
            refine ⟨rfl, lcY ?_⟩
            refine ⟨_, rfl, _, rfl, _, rfl, st, rfl, (by rw [jl]; decide), _, rfl, _, rfl, _, rfl, _, _, rfl, rfl, cmul7 i, _, _, rfl, rfl, _, _, rfl, rfl, (by show (0 : Int) < 26; decide), abc, _, lt1 a i, rfl, rfl, by decide +kernel, ?_, _, _, rfl, rfl, ?_,
              _, rfl, _, rfl, _, rfl, _, rfl, _, rfl, _, rfl, _, _, rfl, rfl, _, rfl, _, _, rfl, rfl, _, _, rfl, rfl, (by show (0 : Int) < 6 - t; omega), _, _, rfl, rfl, _, rfl, st, rfl, (by rw [jl]; decide), _, _, rfl, rfl, ?_, _, upd_same, ?_, ?_⟩
            · rw [Int.zero_add]
              exact lt1_at a i
            · have := cutS_length st none (some t)
              rw [jl] at this
              exact Nat.le_trans (Nat.add_le_add this (Nat.le_refl 1)) (by decide)
            · have q1 := cutS_length st none (some t)
              have q2 := cutS_length st (some t) (some (t + (a + (0 + (i : Int))) % (6 - t)))
              rw [jl] at q1 q2
              rw [← tl_len, tl_append, List.length_append, tl_len]
              exact Nat.le_trans (Nat.add_le_add (Nat.add_le_add q1 (Nat.le_refl 1)) q2) (by decide)
            · rw [List.length_map, List.length_map, List.length_range]
              exact lt_line i (by omega)
            · rw [upd_upd, range_snoc]
              unfold nm2
              rw [Int.zero_add]
          · rintro H' rfl
            exact k _ D2 _ ((kH.trans (KB.off off4)).trans (KB.alloc hD2)) ((B4.alloc hD2).mono (by omega)) upd_same (by simp) (nm2_ok hS a t t0 t6 m hm)
        refine ⟨_, rfl, rfl, _, rfl, ite2 (fun c1 => ⟨_, rfl, _, _, rfl, rfl, _, rfl, ite2 (fun c2 => ?_) (fun c2 => ?_)⟩) (fun c1 => iteF ?_)⟩
        · have c2' : (m : Int) < 7 := of_decide_eq_true c2
          refine ⟨_, rfl, m, rfl, by omega, by omega, fun D2 hD2 => ?_⟩
          refine lc_range (lo := 0) (n := m) (fun i H' => H' = upd H3 D2 (.lst (((List.range i).map (nm1 st a)).map V.str))) rfl ?_ ?_
          · rintro i H' hi rfl
            refine ⟨rfl, lcY ?_⟩
            refine ⟨_, rfl, _, rfl, _, rfl, _, _, rfl, rfl, cmul i hi hm, _, _, rfl, rfl, _, _, rfl, rfl, (by show (0 : Int) < 6; decide), _, _, rfl, rfl, _, rfl, st, rfl, (by rw [jl]; decide), _, upd_same, ?_, ?_⟩
            · rw [List.length_map, List.length_map, List.length_range]
              exact lt_line i (by omega)
            · rw [upd_upd, range_snoc]
              unfold nm1
              rw [Int.zero_add]
          · rintro H' rfl
            exact k _ D2 _ (kH.trans (KB.alloc hD2)) ((B3.alloc hD2).mono (by omega)) upd_same (by simp) (nm1_ok hS a m (by omega))
        · exact ⟨_, rfl, b, 6, n + 2 + 6, rfl, B3, by omega, by decide, by decide, fun t H4 t0 t6 off4 B4 => w2 t t0 t6 H4 off4 B4⟩
        · exact ⟨_, rfl, b, 6, n + 2 + 6, rfl, B3, by omega, by decide, by decide, fun t H4 t0 t6 off4 B4 => w2 t t0 t6 H4 off4 B4⟩
end
end T9

set_option maxRecDepth 100000
set_option maxHeartbeats 4000000
namespace T9
open PySem PySem.Spec PyProof.Rows L2 GxR Gd TL My
theorem hide_mono {D : Addr} {A B : Hp} (e : Nt A B) : Nt (hide D A) (hide D B) := fun c o n h => by
  obtain ⟨q, h⟩ := hide_some h
  rw [hide_ne q]
  exact e c o n h
/-- what is new in H since H0 -/
def nw (H0 H : Hp) : Hp := fun c => match H0 c with
  | none => H c
  | some _ => none
theorem nw_none {H0 H : Hp} {c : Addr} (h : H0 c = none) : nw H0 H c = H c := by unfold nw; rw [h]
theorem nw_some {H0 H : Hp} {c : Addr} {o : HO} (h : nw H0 H c = some o) : H0 c = none ∧ H c = some o := by
  unfold nw at h
  cases e : H0 c with
  | none => rw [e] at h; exact ⟨rfl, h⟩
  | some _ => rw [e] at h; cases h
theorem nw_mono {H0 A B : Hp} {b : Addr} (hb : H0 b ≠ none) (k : KB b A B) : Nt (nw H0 A) (nw H0 B) := fun c o _ h => by
  obtain ⟨h1, h2⟩ := nw_some h
  rw [nw_none h1]
  exact k c o (fun e => hb (e ▸ h1)) h2
theorem nw_put {D : Addr} {H0 H : Hp} {o : HO} : Nt (hide D (nw H0 H)) (hide D (nw H0 (upd H D o))) := fun c u n h => by
  obtain ⟨q, h⟩ := hide_some h
  obtain ⟨h1, h2⟩ := nw_some h
  rw [hide_ne q, nw_none h1, upd_ne q]
  exact h2
theorem nw_new {K : PySem.W.Frag} {p D : Addr} {H0 H : Hp} {xs : List V} (h1 : p ≠ D) (h2 : H0 p = none) : SqT K (hide D (nw H0 (upd H p (.tup xs)))) p xs := SqT.of (by rw [hide_ne h1, nw_none h2]; exact upd_same)
theorem fresh0 {H A : Hp} {b p : Addr} (k : KB b H A) (n : p ≠ b) (h : A p = none) : H p = none := by
  cases e : H p with
  | none => rfl
  | some o => rw [k p o n e] at h; cases h
theorem hide_put {D b : Addr} {H : Hp} {o : HO} : Nt (hide D (hide b H)) (hide D (hide b (upd H D o))) := fun c u n h => by
  obtain ⟨q, h⟩ := hide_some h
  obtain ⟨q2, h⟩ := hide_some h
  rw [hide_ne q, hide_ne q2, upd_ne q]
  exact h
theorem dp_new {K : PySem.W.Frag} {p D b : Addr} {H : Hp} {xs : List V} (h1 : p ≠ D) (h2 : p ≠ b) : SqT K (hide D (hide b (upd H p (.tup xs)))) p xs := SqT.of (by rw [hide_ne h1, hide_ne h2]; exact upd_same)
theorem cut_last {xs : List V} : cutV xs none (some (-1)) = xs.dropLast := by
  unfold cutV
  rw [List.dropLast_eq_take, HT.sIx_none, List.drop_zero]
  have e : HT.sIx xs.length xs.length (some (-1)) = ((-1 : Int) + (xs.length : Int)).toNat := rfl
  rw [e]
  congr 1
  omega
def lastL (l0 : Int) (lo : List (Int × Int × Int)) : Int := (lo.getLast?.map fun q => q.2.1).getD l0
theorem longsOk_snoc {top : Int} : ∀ {l0 : Int} {lo : List (Int × Int × Int)} {f l h : Int}, longsOk top l0 lo → lastL l0 lo ≤ f → f + 2 ≤ l → l ≤ top → 0 ≤ h → h ≤ 1 → longsOk top l0 (lo ++ [(f, l, h)])
  | l0, [], f, l, h, _, a, b, c, d, e => ⟨a, b, c, d, e, True.intro⟩
  | l0, (f0, x, h0) :: r, f, l, h, q, a, b, c, d, e => by
    obtain ⟨q1, q2, q3, q4, q5, q6⟩ := q
    refine ⟨q1, q2, q3, q4, q5, longsOk_snoc q6 ?_ b c d e⟩
    unfold lastL at a ⊢
    rw [List.getLast?_cons] at a
    cases z : r.getLast? with
    | none => rw [z] at a; simpa using a
    | some y => rw [z] at a; simpa using a
theorem lastL_snoc (l0 : Int) (lo : List (Int × Int × Int)) (p : Int × Int × Int) : lastL l0 (lo ++ [p]) = p.2.1 := by
  unfold lastL
  rw [List.getLast?_append]
  simp
theorem last_at {xs : List V} {v : V} (h : xs.getLast? = some v) : atI xs (-1) = some v := by
  unfold atI
  have hp : 0 < xs.length := by
    cases xs with
    | nil => simp at h
    | cons a r => simp
  have e : ixN xs.length (-1) = some (xs.length - 1) := by
    unfold ixN
    rw [if_neg (by decide)]
    split
    · congr 1
      omega
    · omega
  rw [e]
  rw [List.getLast?_eq_getElem?] at h
  exact h
section
variable {P : Program} {w : World} {K : PySem.W.Frag} {mg : Str → Option Value} {base : Heap}
abbrev s_law_world : Stmt := top 40
theorem sc_law_world : FnScope ["_law_box_here", "_law_many", "_law_names_here", "_law_places", "_law_stretches", "_law_longs", "_law_low", "_law_turn", "_law_first", "_law_last", "_law_name", "_law_k"] ["_law_box_here"] (defScope s_law_world) := ⟨rfl, rfl, rfl, by decide +kernel, rfl, by decide +kernel, by decide +kernel⟩
def spWorld (K : PySem.W.Frag) : Sp := fun vs H Q _ => ∃ (b : Addr) (n : Int), vs = [.ref b] ∧ Bx b n H ∧ n ≤ 1000 ∧
  ∀ (wd : Wd) (v : V) (H' : Hp), wd.Ok → KB b H H' → Dp K (nw H H') v wd.data → Bx b (n + 100) H' → Q v H'
theorem ok_world {f fT fN : Addr} {fd fdT fdN : FuncData} (F : Fun K "_law_world" "_law_world" s_law_world f fd) (T : Txt mg)
    (Nlaw_take : Fn K mg "_law_take" sTake ["_law_box_here", "_law_many"] fT fdT) (Glaw_take : FnOk P w K mg base CX0 1 fT fdT ["_law_box_here", "_law_many"] spTake)
    (Nlaw_names : Fn K mg "_law_names" s_law_names ["_law_box_here", "_law_many"] fN fdN) (Glaw_names : FnOk P w K mg base CX0 2 fN fdN ["_law_box_here", "_law_many"] spNames) :
    FnOk P w K mg base CX0 3 f fd ["_law_box_here"] (spWorld K) := by
  refine F.ok sc_law_world (fun vs H Q E h => ?_) (fun cdv A outer s H vs Q E hr h => ?_)
  · obtain ⟨b, n, rfl, _⟩ := h
    rfl
  · obtain ⟨b, n, rfl, hB, hn, k⟩ := h
    have hbn : H b ≠ none := by
      obtain ⟨_, _, _, h, _⟩ := hB
      rw [h]
      simp
    refine ⟨_, pss_cons (ps_set (i := 1) sc_law_world.nd rfl (Or.inl rfl) (pe_op op_add pe_int (pe_call Glaw_take (hr.mono (by decide)) (by rfl) Nlaw_take.g Nlaw_take.kp Nlaw_take.b .nil pass0 (pa_cons (pv 0) (pa_cons pe_int pa_nil)))))
      (pss_cons (ps_set (i := 2) sc_law_world.nd rfl (Or.inl rfl) (pe_call Glaw_names (hr.mono (by decide)) (by rfl) Nlaw_names.g Nlaw_names.kp Nlaw_names.b .nil pass0 (pa_cons (pv 0) (pa_cons (pe_op op_add (pv 1) pe_int) pa_nil))))
      (pss_cons (ps_setLc (i := 3) (own := [("_law_name", 10)]) (g := gName 10) (tt := tYes) rfl sc_law_world.nd rfl rfl (sw_true rfl rfl rfl (by decide +kernel)) (pi_list (pe_slice sl_list (pv 2) po_none (po_some (pe_un un_neg pe_int)))) (blkOk_by (own := [("_law_name", 10)]) (N := ["_law_box_here", "_law_many", "_law_names_here", "_law_places", "_law_stretches", "_law_longs", "_law_low", "_law_turn", "_law_first", "_law_last", "_law_name", "_law_k"]) (sc := defScope s_law_world) (by decide +kernel)) (fun _ _ _ _ _ => (pg_name (i := 10) sc_law_world.nd rfl (Or.inl rfl))) (fun _ _ _ _ _ => pts_nil) (fun _ _ _ _ _ => (pe_tup (pa_cons (pv 10) (pa_cons (pe_op op_add pe_int (pe_call Glaw_take (hr.mono (by decide)) (by rfl) Nlaw_take.g Nlaw_take.kp Nlaw_take.b .nil pass0 (pa_cons (pv 0) (pa_cons pe_int pa_nil)))) pa_nil)))))
      (pss_cons (ps_setLc (i := 4) (own := [("_law_k", 11)]) (g := gName 11) (tt := tYes) rfl sc_law_world.nd rfl rfl (sw_true rfl rfl rfl (by decide +kernel)) (pi_range1 (by rfl) T.range_ (pa_cons (pe_op op_sub (pv 1) pe_int) pa_nil)) (blkOk_by (own := [("_law_k", 11)]) (N := ["_law_box_here", "_law_many", "_law_names_here", "_law_places", "_law_stretches", "_law_longs", "_law_low", "_law_turn", "_law_first", "_law_last", "_law_name", "_law_k"]) (sc := defScope s_law_world) (by decide +kernel)) (fun _ _ _ _ _ => (pg_name (i := 11) sc_law_world.nd rfl (Or.inl rfl))) (fun _ _ _ _ _ => pts_nil) (fun _ _ _ _ _ => (pe_tup (pa_cons (pe_ix (ixL (K := K) rfl) (pe_lst (pa_cons pe_str (pa_cons pe_str pa_nil))) (pe_call Glaw_take (hr.mono (by decide)) (by rfl) Nlaw_take.g Nlaw_take.kp Nlaw_take.b .nil pass0 (pa_cons (pv 0) (pa_cons pe_int pa_nil))) (fun _ _ => rfl)) (pa_cons (pe_call Glaw_take (hr.mono (by decide)) (by rfl) Nlaw_take.g Nlaw_take.kp Nlaw_take.b .nil pass0 (pa_cons (pv 0) (pa_cons pe_int pa_nil))) pa_nil)))))
      (pss_cons (ps_set (i := 5) sc_law_world.nd rfl (Or.inl rfl) (pe_lst pa_nil))
      (pss_cons (ps_set (i := 6) sc_law_world.nd rfl (Or.inl rfl) pe_int)
      (pss_cons (ps_for PassesOwn.never rfl (pi_range1 (by rfl) T.range_ (pa_cons (pe_call Glaw_take (hr.mono (by decide)) (by rfl) Nlaw_take.g Nlaw_take.kp Nlaw_take.b .nil pass0 (pa_cons (pv 0) (pa_cons pe_int pa_nil))) pa_nil)) (pg_name (i := 7) sc_law_world.nd rfl (Or.inl rfl)) (pss_one (ps_if (pt_cmpR op_lt (pe_op op_add (pv 6) pe_int) (pv 1) (nomark _)) (pss_cons (ps_set (i := 8) sc_law_world.nd rfl (Or.inl rfl) (pe_op op_add (pv 6) (pe_call Glaw_take (hr.mono (by decide)) (by rfl) Nlaw_take.g Nlaw_take.kp Nlaw_take.b .nil pass0 (pa_cons (pv 0) (pa_cons (pe_op op_sub (pe_op op_sub (pv 1) pe_int) (pv 6)) pa_nil)))))
              (pss_cons (ps_set (i := 9) sc_law_world.nd rfl (Or.inl rfl) (pe_op op_add (pe_op op_add (pv 8) pe_int) (pe_call Glaw_take (hr.mono (by decide)) (by rfl) Nlaw_take.g Nlaw_take.kp Nlaw_take.b .nil pass0 (pa_cons (pv 0) (pa_cons (pe_op op_sub (pe_op op_sub (pv 1) pe_int) (pv 8)) pa_nil)))))
              (pss_cons (ps_expr (pe_bm PySem.F.plainAttrs_list PySem.F.slot_list_append PySem.F.type_list_append mt_append (pv 5) (pa_cons (pe_tup (pa_cons (pv 8) (pa_cons (pv 9) (pa_cons (pe_call Glaw_take (hr.mono (by decide)) (by rfl) Nlaw_take.g Nlaw_take.kp Nlaw_take.b .nil pass0 (pa_cons (pv 0) (pa_cons pe_int pa_nil))) pa_nil)))) pa_nil)))
              (pss_one (ps_set (i := 6) sc_law_world.nd rfl (Or.inl rfl) (pv 9)))))) pss_nil)))
      (pss_one (ps_ret (pe_lst (pa_cons (pv 3) (pa_cons (pv 4) (pa_cons (pv 5) (pa_cons (pe_ix ix_list (pv 2) (pe_un un_neg pe_int) (fun _ _ => rfl)) pa_nil))))))))))))), ?_⟩
    refine ⟨_, rfl, b, 5, n, rfl, hB, by omega, by decide, by decide, fun d H1 d0 d1 off1 B1 => ?_⟩
    obtain ⟨d, rfl⟩ := Int.eq_ofNat_of_zero_le d0
    refine ⟨_, _, rfl, rfl, ?_⟩
    have em : (2 + (d : Int)) = ((2 + d : Nat) : Int) := by omega
    have hm7 : 2 + d + 1 ≤ 7 := by omega
    have hm2 : 2 ≤ 2 + d := by omega
    show tSeq _ _ _ (List.set _ 1 (some (.int (2 + (d : Int))))) H1
    rw [em]
    generalize 2 + d = m at hm7 hm2
    refine ⟨_, rfl, _, rfl, _, _, rfl, rfl, b, m + 1, n + 1, rfl, B1, by omega, hm7, fun ns La H2 k2 B2 hLa hl hns => ?_⟩
    obtain ⟨nm, sp, rfl⟩ : ∃ nm sp, ns = nm ++ [sp] := by
      rcases List.eq_nil_or_concat ns with e | ⟨nm, sp, e⟩
      · rw [e] at hl
        cases hl
      · exact ⟨nm, sp, by rw [e, List.concat_eq_append]⟩
    have hlm : nm.length = m := by rw [List.length_append] at hl; exact Nat.succ.inj hl
    have hnd := List.nodup_append.mp hns.nd
    have hsp : sp ∉ nm := fun h => hnd.2.2 sp h sp (List.mem_singleton.mpr rfl) rfl
    have ecut : cutV ((nm ++ [sp]).map V.str) none (some (-1)) = nm.map V.str := by
      rw [cut_last, List.map_append]
      exact List.dropLast_concat
    have nLb : La ≠ b := fun e => by
      obtain ⟨_, _, _, h, _⟩ := B1
      obtain ⟨_, _, _, h2, _⟩ := B2
      rw [e, h2] at hLa
      cases nm with
      | nil => simp at hLa
      | cons a r => simp at hLa
    have k02 : KB b H H2 := (KB.off off1).trans k2
    refine ⟨_, rfl, _, rfl, _, rfl, La, _, rfl, SqL.of hLa, fun p1 hp1 => ⟨p1, rfl, ⟨_, SqL.of upd_same⟩, fun D hD => ?_⟩⟩
    have n1b : p1 ≠ b := B2.fresh hp1
    have hp1' : (upd H2 p1 (.lst (cutV ((nm ++ [sp]).map V.str) none (some (-1))))) p1 = some (.lst (nm.map V.str)) := by rw [upd_same, ecut]
    have k03 : KB b H2 (upd H2 p1 (.lst (cutV ((nm ++ [sp]).map V.str) none (some (-1))))) := KB.alloc hp1
    have B3 := B2.alloc (o := .lst (cutV ((nm ++ [sp]).map V.str) none (some (-1)))) hp1
    generalize upd H2 p1 (.lst (cutV ((nm ++ [sp]).map V.str) none (some (-1)))) = H3 at hp1' k03 B3 hD ⊢
    have nDb : D ≠ b := B3.fresh hD
    have nD0 : H D = none := fresh0 (k02.trans k03) nDb hD
    refine lc_it (walk_list (K := K) (xs := nm.map V.str)) (fun i H' => ∃ (ps : List (Str × Int)) (xs : List V), ps.map (·.1) = nm.take i ∧ (∀ p ∈ ps, 1 ≤ p.2 ∧ p.2 ≤ 3) ∧ H' D = some (.lst xs) ∧ DpAll K (hide D (nw H H')) xs (ps.map dP) ∧ KB b H3 H' ∧ Bx b (n + 21 + i) H')
      ⟨[], [], by simp, by simp, upd_same, .nil, KB.alloc hD, (B3.alloc hD).mono (by simp; omega)⟩ ?_ ?_ ?_
    · rintro i H' hi ⟨ps, xs, _, _, _, _, kb, _⟩
      exact SqL.of (kb _ _ n1b hp1')
    · rintro i x H' H'' hi ⟨ps, xs, e1, e2, e3, e4, kb, B'⟩ ⟨rfl, hx⟩
      obtain ⟨z, hz, rfl⟩ := get_map hx
      rw [List.length_map] at hi
      have lx : xs.length = i := by
        rw [dpAll_len e4, List.length_map, ← List.length_map (f := (·.1)), e1, List.length_take]
        omega
      refine ⟨rfl, lcY ?_⟩
      refine ⟨_, rfl, _, rfl, b, 3, _, rfl, B', by omega, by decide, by decide, fun r H4 r0 r1 off4 B4 => ⟨_, _, rfl, rfl, (by show 2 ≤ sizeLine; decide), fun p hp => ?_⟩⟩
      have e34 : H4 D = some (.lst xs) := by rw [off4 D nDb]; exact e3
      have npD : D ≠ p := ne_of_none e34 hp
      have npb : p ≠ b := B4.fresh hp
      have np0 : H p = none := fresh0 (((k02.trans k03).trans kb).trans (KB.off off4)) npb hp
      have eN := (hide_mono (D := D) (nw_mono hbn ((KB.off off4).trans (KB.alloc (o := .tup [.str z, .int (1 + r)]) hp)))).trans (nw_put (o := .lst (xs ++ [.ref p])))
      refine ⟨xs, by rw [upd_ne npD]; exact e34, by rw [lx]; exact lt_line i (by omega), ps ++ [(z, 1 + r)], xs ++ [.ref p], ?_, ?_, upd_same, ?_, ?_, ?_⟩
      · rw [List.map_append, e1, take_at hz]
        rfl
      · intro q hq
        rcases List.mem_append.mp hq with h | h
        · exact e2 q h
        · rw [List.mem_singleton.mp h]
          exact ⟨by show 1 ≤ 1 + r; omega, by show 1 + r ≤ 3; omega⟩
      · rw [List.map_append]
        exact dpAll_app (dpAll_nt eN e4) (.cons (.tup (nw_put.seqT (nw_new npD.symm np0)) (.cons (.str _) (.cons (.int _) .nil))) .nil)
      · intro c o nc e
        rw [upd_ne (ne_of_none e hD)]
        exact ((kb.trans (KB.off off4)).trans (KB.alloc hp)) c o nc e
      · exact ((B4.alloc hp).put nDb).mono (by push_cast; omega)
    · rintro H4 ⟨ps, xsP, e1, e2, e3, e4, kb4, B4⟩
      rw [List.length_map, List.take_of_length_le (Nat.le_refl _)] at e1
      rw [List.length_map, hlm] at B4
      have dpP := dpAll_nt (hide_nt D _) e4
      have lps : ps.length = m := by rw [← List.length_map (f := (·.1)), e1, hlm]
      have k04 := (k02.trans k03).trans kb4
      have hLa4 := (k03.trans kb4) _ _ nLb hLa
      clear e4 k02 k03 kb4 hp1' hD hLa k2 B3 B2 B1 hB
      have em1 : ((m : Int) - 1) = ((m - 1 : Nat) : Int) := by omega
      refine ⟨_, rfl, _, _, rfl, rfl, ((m - 1 : Nat) : Int), (by show [V.int ((m : Int) - 1)] = _; rw [em1]), by omega, by omega, fun D2 hD2 => ?_⟩
      have nD2b : D2 ≠ b := B4.fresh hD2
      have nD20 : H D2 = none := fresh0 k04 nD2b hD2
      refine lc_range (lo := 0) (n := m - 1) (fun i H' => ∃ (st : List (Str × Int)) (xs : List V), st.length = i ∧ (∀ p ∈ st, (p.1 = "staff" ∨ p.1 = "ticket") ∧ 0 ≤ p.2 ∧ p.2 ≤ 1) ∧ H' D2 = some (.lst xs) ∧ DpAll K (hide D2 (nw H H')) xs (st.map dP) ∧ KB b H4 H' ∧ Bx b (n + 40 + 2 * i) H')
        ⟨[], [], rfl, by simp, upd_same, .nil, KB.alloc hD2, (B4.alloc hD2).mono (by omega)⟩ ?_ ?_
      · rintro i H' hi ⟨st, xs, e1, e2, e3, e4, kb, B'⟩
        have lx : xs.length = i := by rw [dpAll_len e4, List.length_map, e1]
        refine ⟨rfl, lcY ?_⟩
        refine ⟨(by show 2 ≤ sizeLine; decide), fun L hL => ⟨_, rfl, b, 2, _, rfl, B'.alloc hL, by omega, by decide, by decide, fun i1 H5 i0 i2 off5 B5 => ?_⟩⟩
        have hL5 : H5 L = some (.lst [.str "staff", .str "ticket"]) := by rw [off5 L (B'.fresh hL)]; exact upd_same
        have hz : ∃ z : Str, atI [V.str "staff", V.str "ticket"] i1 = some (.str z) ∧ (z = "staff" ∨ z = "ticket") := by
          rcases (by omega : i1 = 0 ∨ i1 = 1) with rfl | rfl
          · exact ⟨_, rfl, .inl rfl⟩
          · exact ⟨_, rfl, .inr rfl⟩
        obtain ⟨z, hz1, hz2⟩ := hz
        refine ⟨L, _, i1, .str z, rfl, rfl, SqL.of hL5, hz1, _, rfl, b, 2, _, rfl, B5, by omega, by decide, by decide, fun h6 H6 h0 h1 off6 B6 => ⟨(by show 2 ≤ sizeLine; decide), fun p hp => ?_⟩⟩
        have k5 : KB b H' H6 := ((KB.alloc (o := .lst [.str "staff", .str "ticket"]) hL).trans (KB.off off5)).trans (KB.off off6)
        have e36 : H6 D2 = some (.lst xs) := k5 _ _ nD2b e3
        have npD : D2 ≠ p := ne_of_none e36 hp
        have npb : p ≠ b := B6.fresh hp
        have np0 : H p = none := fresh0 ((k04.trans kb).trans k5) npb hp
        have eN := (hide_mono (D := D2) (nw_mono hbn (k5.trans (KB.alloc (o := .tup [.str z, .int h6]) hp)))).trans (nw_put (o := .lst (xs ++ [.ref p])))
        refine ⟨xs, by rw [upd_ne npD]; exact e36, by rw [lx]; exact lt_line i (by omega), st ++ [(z, h6)], xs ++ [.ref p], ?_, ?_, upd_same, ?_, ?_, ?_⟩
        · rw [List.length_append, e1]
          rfl
        · intro q hq
          rcases List.mem_append.mp hq with h | h
          · exact e2 q h
          · rw [List.mem_singleton.mp h]
            exact ⟨hz2, h0, by show h6 ≤ 1; omega⟩
        · rw [List.map_append]
          exact dpAll_app (dpAll_nt eN e4) (.cons (.tup (nw_put.seqT (nw_new npD.symm np0)) (.cons (.str _) (.cons (.int _) .nil))) .nil)
        · intro c o nc e
          rw [upd_ne (ne_of_none e hD2)]
          exact ((kb.trans k5).trans (KB.alloc hp)) c o nc e
        · exact ((B6.alloc hp).put nD2b).mono (by push_cast; omega)
      · rintro H5 ⟨st, xsS, f1, f2, f3, f4, kb5, B5⟩
        have dpS := dpAll_nt (hide_nt D2 _) f4
        have dpP5 := dpAll_nt (nw_mono hbn kb5) dpP
        have e35 := kb5 _ _ nDb e3
        have hLa5 := kb5 _ _ nLb hLa4
        have k05 := k04.trans kb5
        clear f4 dpP e3 hLa4 k04 kb5 B4 hD2
        refine ⟨Nat.zero_le _, fun L5 h5 => ?_⟩
        have nL5b : L5 ≠ b := B5.fresh h5
        have nL50 : H L5 = none := fresh0 k05 nL5b h5
        have kA : KB b H5 (upd H5 L5 (.lst [])) := KB.alloc h5
        have hL5' : (upd H5 L5 (.lst [])) L5 = some (.lst []) := upd_same
        have BA := B5.alloc (o := .lst []) h5
        have nhL5 : ∀ c o, H5 c = some o → c ≠ L5 := fun c o h => ne_of_none h h5
        generalize upd H5 L5 (.lst []) = HA at kA hL5' BA ⊢
        refine ⟨_, rfl, b, 3, _, rfl, BA, by omega, by decide, by decide, fun tn H6 t0 t3 off6 B6 => ?_⟩
        have kA6 := kA.trans (KB.off off6)
        have hL56 : H6 L5 = some (.lst []) := by rw [off6 L5 nL5b]; exact hL5'
        refine ⟨tn, rfl, by omega, by omega, for_it (walk_range (lo := 0) (n := tn.toNat)) (fun i σ H' => ∃ (v7 v8 v9 v10 v11 : Option V) (lo : List (Int × Int × Int)) (xs : List V), σ = [some (.ref b), some (.int (m : Nat)), some (.ref La), some (.ref D), some (.ref D2), some (.ref L5), some (.int (lastL 0 lo)), v7, v8, v9, v10, v11] ∧
          H' L5 = some (.lst xs) ∧ DpAll K (hide L5 (nw H H')) xs (lo.map dL) ∧ lo.length ≤ i ∧ longsOk ((m - 1 : Nat) : Int) 0 lo ∧ 0 ≤ lastL 0 lo ∧ lastL 0 lo ≤ ((m - 1 : Nat) : Int) ∧ (∀ c o, c ≠ L5 → c ≠ b → H6 c = some o → H' c = some o) ∧ Bx b (n + 60 + 3 * i) H') ?_ ?_ ?_ ?_⟩
        · refine ⟨_, _, _, _, _, [], [], rfl, hL56, .nil, Nat.zero_le _, True.intro, Int.le_refl 0, ?_, fun c o _ _ h => h, B6.mono (by omega)⟩
          show (0 : Int) ≤ _
          omega
        · intros; trivial
        · rintro i x σ H' H'' hi ⟨v7, v8, v9, v10, v11, lo, xs, rfl, e1, e2, e3, e4, e5, e6, e7, B'⟩ ⟨rfl, rfl⟩
          have lx : xs.length = lo.length := by rw [dpAll_len e2, List.length_map]
          refine ⟨_, rfl, _, _, rfl, rfl, _, rfl, _, _, rfl, rfl, _, rfl, ite2 (fun c => ?_) (fun c => ?_)⟩
          · have c' : lastL 0 lo + 2 < (m : Int) := of_decide_eq_true c
            generalize hlow : lastL 0 lo = low at e5 e6 c' ⊢
            refine ⟨_, rfl, _, rfl, _, rfl, _, _, rfl, rfl, _, rfl, _, _, rfl, rfl, b, (m : Int) - 2 - low, _, rfl, B', by omega, by omega, dec9000 (by omega) (by omega), fun r1 H7 r10 r11 off7 B7 => ⟨_, _, rfl, rfl, ?_⟩⟩
            refine ⟨_, rfl, _, _, rfl, rfl, _, rfl, _, rfl, _, _, rfl, rfl, _, rfl, _, _, rfl, rfl, b, (m : Int) - 2 - (low + r1), _, rfl, B7, by omega, by omega, dec9000 (by omega) (by omega), fun r2 H8 r20 r21 off8 B8 => ⟨_, _, rfl, rfl, ?_⟩⟩
            have e18 : H8 L5 = some (.lst xs) := by rw [off8 L5 nL5b, off7 L5 nL5b]; exact e1
            refine ⟨_, rfl, .inl ⟨rfl, _, SqL.of e18⟩, _, rfl, _, rfl, _, rfl, b, 2, _, rfl, B8, by omega, by decide, by decide, fun h H9 h0 h1 off9 B9 => ⟨(by show 3 ≤ sizeLine; decide), fun p hp => ?_⟩⟩
            have e19 : H9 L5 = some (.lst xs) := by rw [off9 L5 nL5b]; exact e18
            have npL : L5 ≠ p := ne_of_none e19 hp
            have npb : p ≠ b := B9.fresh hp
            have k9 : KB b _ H9 := ((KB.off off7).trans (KB.off off8)).trans (KB.off off9)
            have np0 : H p = none := by
              cases e : H p with
              | none => rfl
              | some o =>
                have z5 := k05 _ _ npb e
                have z9 := k9 _ _ npb (e7 _ _ (nhL5 _ _ z5) npb (kA6 _ _ npb z5))
                rw [z9] at hp
                cases hp
            have eN := (hide_mono (D := L5) (nw_mono hbn (k9.trans (KB.alloc (o := .tup [.int (low + r1), .int (low + r1 + 2 + r2), .int h]) hp)))).trans (nw_put (o := .lst (xs ++ [.ref p])))
            refine ⟨L5, xs, .ref p, rfl, rfl, by rw [upd_ne npL]; exact e19, by rw [lx]; exact lt_line _ (by omega), ?_⟩
            refine ⟨_, rfl, some (.int (0 + (i : Nat))), some (.int (low + r1)), some (.int (low + r1 + 2 + r2)), v10, v11, lo ++ [(low + r1, low + r1 + 2 + r2, h)], xs ++ [.ref p], ?_, upd_same, ?_, ?_, ?_, ?_, ?_, ?_, ?_⟩
            · rw [lastL_snoc]
              rfl
            · rw [List.map_append]
              exact dpAll_app (dpAll_nt eN e2) (.cons (.tup (nw_put.seqT (nw_new npL.symm np0)) (.cons (.int _) (.cons (.int _) (.cons (.int _) .nil)))) .nil)
            · rw [List.length_append]
              exact Nat.succ_le_succ e3
            · refine longsOk_snoc e4 (by rw [hlow]; omega) (by omega) (by omega) h0 (by omega)
            · rw [lastL_snoc]
              show 0 ≤ low + r1 + 2 + r2
              omega
            · rw [lastL_snoc]
              show low + r1 + 2 + r2 ≤ _
              omega
            · intro c o nc nb e
              rw [upd_ne nc]
              have z := k9 _ _ nb (e7 c o nc nb e)
              rw [upd_ne (ne_of_none z hp)]
              exact z
            · exact ((B9.alloc hp).put nL5b).mono (by push_cast; omega)
          · exact ⟨_, _, _, _, _, lo, xs, rfl, e1, e2, Nat.le_succ_of_le e3, e4, e5, e6, e7, B'.mono (by push_cast; omega)⟩
        · rintro σ H7 ⟨v7, v8, v9, v10, v11, lo, xsL, rfl, g1, g2, g3, g4, g5, g6, g7, B7⟩
          have k57 : KB b H5 H7 := fun c o nc h => g7 c o (nhL5 c o h) nc (kA6 c o nc h)
          have dpL := dpAll_nt (hide_nt L5 _) g2
          have dpP7 := dpAll_nt (nw_mono hbn k57) dpP5
          have dpS7 := dpAll_nt (nw_mono hbn k57) dpS
          have e37 := k57 _ _ nDb e35
          have f37 := k57 _ _ nD2b f3
          have hLa7 := k57 _ _ nLb hLa5
          refine ⟨_, rfl, _, rfl, _, rfl, _, rfl, _, rfl, La, _, _, .str sp, rfl, rfl, SqL.of hLa7, last_at (by rw [List.map_append]; simp), (by show 4 ≤ sizeLine; decide), fun R hR => ?_⟩
          have eR := nw_mono hbn (KB.alloc (b := b) (o := .lst [.ref D, .ref D2, .ref L5, .str sp]) hR)
          have nR0 : H R = none := fresh0 (k05.trans k57) (B7.fresh hR) hR
          refine k ⟨ps, st, lo, sp⟩ _ _ ?_ ((k05.trans k57).trans (KB.alloc hR)) (.lst (SqL.of (by rw [nw_none nR0]; exact upd_same)) (.cons (.lst (eR.seq (SqL.of (by rw [nw_none nD0]; exact e37))) (dpAll_nt eR dpP7)) (.cons (.lst (eR.seq (SqL.of (by rw [nw_none nD20]; exact f37))) (dpAll_nt eR dpS7)) (.cons (.lst (eR.seq (SqL.of (by rw [nw_none nL50]; exact g1))) (dpAll_nt eR dpL)) (.cons (.str _) .nil))))) ((B7.alloc hR).mono (by omega))
          refine ⟨?_, ?_, ?_, ?_, ?_, f2, ?_, ?_, hns.ok sp (by simp), ?_⟩
          · show 2 ≤ ps.length
            omega
          · show ps.length ≤ 6
            omega
          · intro p hp
            refine ⟨hns.ok p.1 (List.mem_append_left _ ?_), e2 p hp⟩
            rw [← e1]
            exact List.mem_map.mpr ⟨p, hp, rfl⟩
          · show (ps.map (·.1)).Nodup
            rw [e1]
            exact hnd.1
          · show st.length + 1 = ps.length
            omega
          · show lo.length ≤ 2
            omega
          · show longsOk ((ps.length - 1 : Nat) : Int) 0 lo
            rw [lps]
            exact g4
          · show sp ∉ ps.map (·.1)
            rw [e1]
            exact hsp
end
end T9

set_option maxRecDepth 100000
set_option maxHeartbeats 400000
namespace T9
open PySem PySem.Spec PyProof.Rows L2 GxR Gd TL My
theorem lf_places (p1 p2 p3 d : Addr) : (lf p1 p2 p3 d).lookup (Str.ofString "_places") = some (V.ref p1) := by rw [lf_get, if_neg (by decide +kernel), if_neg (by decide +kernel), if_neg (by decide +kernel), if_pos rfl]
theorem lf_stretches (p1 p2 p3 d : Addr) : (lf p1 p2 p3 d).lookup (Str.ofString "_stretches") = some (V.ref p2) := by rw [lf_get, if_neg (by decide +kernel), if_neg (by decide +kernel), if_pos rfl]
theorem pair_at {K : PySem.W.Frag} {H : Hp} {xs : List V} {ps : List (Str × Int)} (h : DpAll K H xs (ps.map dP)) {i : Nat} {p : Str × Int} (e : ps[i]? = some p) : ∃ t, xs[i]? = some (.ref t) ∧ SqT K H t [.str p.1, .int p.2] := by
  obtain ⟨x, h1, h2⟩ := dpAll_at h (i := i) (d := dP p) (by rw [List.getElem?_map, e]; rfl)
  obtain ⟨t, y1, y2, rfl, ht, q1, q2⟩ := dp_two h2
  obtain rfl := dp_str q1
  obtain rfl := dp_int q2
  exact ⟨t, h1, ht⟩
theorem long_at {K : PySem.W.Frag} {H : Hp} {xs : List V} {lo : List (Int × Int × Int)} (h : DpAll K H xs (lo.map dL)) {i : Nat} {p : Int × Int × Int} (e : lo[i]? = some p) : ∃ t, xs[i]? = some (.ref t) ∧ SqT K H t [.int p.1, .int p.2.1, .int p.2.2] := by
  obtain ⟨x, h1, h2⟩ := dpAll_at h (i := i) (d := dL p) (by rw [List.getElem?_map, e]; rfl)
  obtain ⟨t, y1, y2, y3, rfl, ht, q1, q2, q3⟩ := dp_three h2
  obtain rfl := dp_int q1
  obtain rfl := dp_int q2
  obtain rfl := dp_int q3
  exact ⟨t, h1, ht⟩
section
variable {P : Program} {w : World} {K : PySem.W.Frag} {mg : Str → Option Value} {base : Heap}
abbrev s_check_stretch : Stmt := inClass (top 34) 8
theorem sc_check_stretch : FnScope ["self", "k"] ["self", "k"] (defScope s_check_stretch) := ⟨rfl, rfl, rfl, by decide +kernel, rfl, by decide +kernel, by decide +kernel⟩
abbrev s_ends : Stmt := inClass (top 34) 5
theorem sc_ends : FnScope ["self", "k"] ["self", "k"] (defScope s_ends) := ⟨rfl, rfl, rfl, by decide +kernel, rfl, by decide +kernel, by decide +kernel⟩
abbrev s_roads : Stmt := inClass (top 34) 2
theorem sc_roads : FnScope ["self", "name"] ["self", "name"] (defScope s_roads) := ⟨rfl, rfl, rfl, by decide +kernel, rfl, by decide +kernel, by decide +kernel⟩
def spCheckStretch (K : PySem.W.Frag) (C : Addr) : Sp := fun vs H Q _ => ∃ (x : Addr) (wd : Wd) (i : Nat), vs = [.ref x, .int (i : Nat)] ∧ LineAt K C wd H x ∧ i < wd.st.length ∧ Q .non H
theorem ok_check_stretch {f fW C : Addr} {fd fdW : FuncData} (F : Fun K "_check_stretch" "Line._check_stretch" s_check_stretch f fd) (T : Txt mg) (TC : ClsT K C)
    (Nis_whole : Fn K mg "is_whole" sWhole ["thing", "low", "high"] fW fdW) (Gis_whole : FnOk P w K mg base CX0 1 fW fdW ["thing", "low", "high"] spWhole) : FnOk P w K mg base CX0 2 f fd ["self", "k"] (spCheckStretch K C) := by
  refine F.ok sc_check_stretch (fun vs H Q E h => ?_) (fun cdv A outer s H vs Q E hr h => ?_)
  · obtain ⟨x, wd, i, rfl, _⟩ := h
    rfl
  · obtain ⟨x, wd, i, rfl, ⟨dx, p1, p2, p3, d, xs1, xs2, xs3, hx, hp1, hd1, hp2, hd2, hp3, hd3, hN⟩, hi, k⟩ := h
    have l2 : xs2.length = wd.st.length := by rw [dpAll_len hd2, List.length_map]
    refine ⟨_, pss_one (ps_if (pt_not (pt_val (pe_call Gis_whole (hr.mono (by decide)) (by rfl) Nis_whole.g Nis_whole.kp Nis_whole.b .nil pass0 (pa_cons (pv 1) (pa_cons pe_int (pa_cons (pe_op op_sub (pe_callB call_len_seq (by rfl) T.len_ PySem.boot_len (pa_cons (pe_fld (pv 0) rfl) pa_nil)) pe_int) pa_nil)))))) (pss_one ps_never) pss_nil), ?_⟩
    refine ⟨_, rfl, _, rfl, x, C, dx, _, _, rfl, hx, TC.cl, TC.n2, lf_stretches _ _ _ _, p2, xs2, rfl, .inr hp2, _, _, rfl, rfl, .int (i : Nat), 0, (xs2.length : Int) - 1, rfl, .int _, ?_⟩
    rw [show wh 0 ((xs2.length : Int) - 1) (.int (i : Nat)) = true by simp [wh]; omega]
    exact ⟨_, rfl, iteF k⟩
def spEnds (K : PySem.W.Frag) (C : Addr) : Sp := fun vs H Q _ => ∃ (x : Addr) (wd : Wd) (i : Nat) (p q : Str × Int), vs = [.ref x, .int (i : Nat)] ∧ LineAt K C wd H x ∧ i < wd.st.length ∧ wd.ps[i]? = some p ∧ wd.ps[i + 1]? = some q ∧
  ∀ t H', Same H H' → H' t = some (.tup [.str p.1, .str q.1]) → Q (.ref t) H'
theorem ok_ends {f fC C : Addr} {fd fdC : FuncData} (F : Fun K "ends" "Line.ends" s_ends f fd) (T : Txt mg) (TC : ClsT K C)
    (Mcheck_stretch : Mt K C "_check_stretch" "Line._check_stretch" s_check_stretch ["self", "k"] fC fdC) (Gcheck_stretch : FnOk P w K mg base CX0 2 fC fdC ["self", "k"] (spCheckStretch K C)) : FnOk P w K mg base CX0 3 f fd ["self", "k"] (spEnds K C) := by
  refine F.ok sc_ends (fun vs H Q E h => ?_) (fun cdv A outer s H vs Q E hr h => ?_)
  · obtain ⟨x, wd, i, p, q, rfl, _⟩ := h
    rfl
  · obtain ⟨x, wd, i, p, q, rfl, hL, hi, ep, eq, k⟩ := h
    obtain ⟨dx, p1, p2, p3, d, xs1, xs2, xs3, hx, hp1, hd1, hp2, hd2, hp3, hd3, hN⟩ := id hL
    obtain ⟨t, a1, a2⟩ := pair_at hd1 ep
    obtain ⟨u, c1, c2⟩ := pair_at hd1 eq
    refine ⟨_, pss_cons (ps_expr (pe_meth (pv 0) TC.cl Mcheck_stretch.m Gcheck_stretch (hr.mono (by decide)) Mcheck_stretch.b .nil pass0 (pa_cons (pv 1) pa_nil)))
      (pss_one (ps_ret (pe_tup (pa_cons (pe_ix ix_tup (pe_ix ix_tup (pe_fld (pv 0) rfl) (pv 1) (fun _ _ => rfl)) pe_int (fun _ _ => rfl)) (pa_cons (pe_ix ix_tup (pe_ix ix_tup (pe_fld (pv 0) rfl) (pe_op op_add (pv 1) pe_int) (fun _ _ => rfl)) pe_int (fun _ _ => rfl)) pa_nil))))), ?_⟩
    refine ⟨_, rfl, x, dx, _, rfl, hx, lf_no _ _ _ _ (by decide +kernel), _, rfl, x, wd, i, rfl, hL, hi, ?_⟩
    refine ⟨_, rfl, x, C, dx, _, _, rfl, hx, TC.cl, TC.n1, lf_places _ _ _ _, _, rfl, p1, xs1, _, .ref t, rfl, rfl, hp1, atI_nat a1, t, _, 0, _, rfl, rfl, a2, rfl, ?_⟩
    refine ⟨_, rfl, x, C, dx, _, _, rfl, hx, TC.cl, TC.n1, lf_places _ _ _ _, _, rfl, _, _, rfl, rfl, p1, xs1, ((i + 1 : Nat) : Int), .ref u, rfl, (by show V.int ((i : Int) + 1) = _; rw [show ((i : Int) + 1) = ((i + 1 : Nat) : Int) by omega]), hp1, atI_nat c1, u, _, 0, _, rfl, rfl, c2, rfl, ?_⟩
    exact ⟨(by show 2 ≤ sizeLine; decide), fun z hz => k z _ (same_alloc hz) upd_same⟩
def spRoads (K : PySem.W.Frag) (C : Addr) : Sp := fun vs H Q _ => ∃ (x : Addr) (wd : Wd) (z : Str) (i : Nat) (p : Str × Int), vs = [.ref x, .str z] ∧ LineAt K C wd H x ∧ posOf wd.ps z = some i ∧ wd.ps[i]? = some p ∧ Q (.int p.2) H
theorem ok_roads {f fN C : Addr} {fd fdN : FuncData} (F : Fun K "roads" "Line.roads" s_roads f fd) (T : Txt mg) (TC : ClsT K C)
    (Mnumber_of : Mt K C "number_of" "Line.number_of" s_number_of ["self", "name"] fN fdN) (Gnumber_of : FnOk P w K mg base CX0 1 fN fdN ["self", "name"] (spNum K C)) : FnOk P w K mg base CX0 2 f fd ["self", "name"] (spRoads K C) := by
  refine F.ok sc_roads (fun vs H Q E h => ?_) (fun cdv A outer s H vs Q E hr h => ?_)
  · obtain ⟨x, wd, z, i, p, rfl, _⟩ := h
    rfl
  · obtain ⟨x, wd, z, i, p, rfl, hL, hz, ep, k⟩ := h
    obtain ⟨dx, p1, p2, p3, d, xs1, xs2, xs3, hx, hp1, hd1, hp2, hd2, hp3, hd3, hN⟩ := id hL
    obtain ⟨t, a1, a2⟩ := pair_at hd1 ep
    refine ⟨_, pss_one (ps_ret (pe_ix ix_tup (pe_ix ix_tup (pe_fld (pv 0) rfl) (pe_meth (pv 0) TC.cl Mnumber_of.m Gnumber_of (hr.mono (by decide)) Mnumber_of.b .nil pass0 (pa_cons (pv 1) pa_nil)) (fun _ _ => rfl)) pe_int (fun _ _ => rfl))), ?_⟩
    refine ⟨_, rfl, x, C, dx, _, _, rfl, hx, TC.cl, TC.n1, lf_places _ _ _ _, _, rfl, x, dx, _, rfl, hx, lf_no _ _ _ _ (by decide +kernel), _, rfl, x, z, wd, i, rfl, hL, hz, ?_⟩
    exact ⟨p1, xs1, _, .ref t, rfl, rfl, hp1, atI_nat a1, t, _, 1, _, rfl, rfl, a2, rfl, k⟩
end
end T9

set_option maxRecDepth 100000
set_option maxHeartbeats 400000
namespace T9
open PySem PySem.Spec PyProof.Rows L2 GxR Gd TL My
section
variable {P : Program} {w : World} {K : PySem.W.Frag} {mg : Str → Option Value} {base : Heap}
abbrev s_home : Stmt := inClass (top 34) 7
theorem sc_home : FnScope ["self", "k"] ["self", "k"] (defScope s_home) := ⟨rfl, rfl, rfl, by decide +kernel, rfl, by decide +kernel, by decide +kernel⟩
def pick (h : Int) (a b : Str) : Str := if h = 0 then a else b
theorem pick_at {h : Int} (h0 : 0 ≤ h) (h1 : h ≤ 1) (a b : Str) : atI [V.str a, V.str b] h = some (.str (pick h a b)) := by
  rcases (by omega : h = 0 ∨ h = 1) with rfl | rfl <;> rfl
def spHome (K : PySem.W.Frag) (C : Addr) : Sp := fun vs H Q _ => ∃ (x : Addr) (wd : Wd) (i : Nat) (r p q : Str × Int), vs = [.ref x, .int (i : Nat)] ∧ LineAt K C wd H x ∧ wd.st[i]? = some r ∧ 0 ≤ r.2 ∧ r.2 ≤ 1 ∧ wd.ps[i]? = some p ∧ wd.ps[i + 1]? = some q ∧
  ∀ H', Same H H' → Q (.str (pick r.2 p.1 q.1)) H'
theorem ok_home {f fE C : Addr} {fd fdE : FuncData} (F : Fun K "home" "Line.home" s_home f fd) (T : Txt mg) (TC : ClsT K C)
    (Mends : Mt K C "ends" "Line.ends" s_ends ["self", "k"] fE fdE) (Gends : FnOk P w K mg base CX0 3 fE fdE ["self", "k"] (spEnds K C)) : FnOk P w K mg base CX0 4 f fd ["self", "k"] (spHome K C) := by
  refine F.ok sc_home (fun vs H Q E h => ?_) (fun cdv A outer s H vs Q E hr h => ?_)
  · obtain ⟨x, wd, i, r, p, q, rfl, _⟩ := h
    rfl
  · obtain ⟨x, wd, i, r, p, q, rfl, hL, hi, r0, r1, ep, eq, k⟩ := h
    obtain ⟨dx, p1, p2, p3, d, xs1, xs2, xs3, hx, hp1, hd1, hp2, hd2, hp3, hd3, hN⟩ := id hL
    obtain ⟨t, a1, a2⟩ := pair_at hd2 hi
    refine ⟨_, pss_one (ps_ret (pe_ix ix_tup (pe_meth (pv 0) TC.cl Mends.m Gends (hr.mono (by decide)) Mends.b .nil pass0 (pa_cons (pv 1) pa_nil)) (pe_ix ix_tup (pe_ix ix_tup (pe_fld (pv 0) rfl) (pv 1) (fun _ _ => rfl)) pe_int (fun _ _ => rfl)) (fun _ _ => rfl))), ?_⟩
    refine ⟨_, rfl, x, dx, _, rfl, hx, lf_no _ _ _ _ (by decide +kernel), _, rfl, x, wd, i, p, q, rfl, hL, (List.getElem?_eq_some_iff.mp hi).1, ep, eq, fun u H' s hu => ?_⟩
    exact ⟨_, rfl, x, C, dx, _, _, rfl, s _ _ hx, TC.cl, TC.n2, lf_stretches _ _ _ _, _, rfl, p2, xs2, _, .ref t, rfl, rfl, (same_nt s).seqT hp2, atI_nat a1, t, _, 1, _, rfl, rfl, (same_nt s).seqT a2, rfl, u, _, r.2, _, rfl, rfl, SqT.of hu, pick_at r0 r1 _ _, k _ s⟩
end
end T9

set_option maxRecDepth 100000
set_option maxHeartbeats 1000000
/-! Refusals: a try with clauses, named or not, in any order; a class's def called by the class; isinstance of what was caught. -/
namespace My
open PySem PySem.Spec PyProof.Rows L2 GxR
/-! ### a try with clauses, named or not -/
abbrev Cl := Value × Option Nat × (Addr → Value → Option Addr → TS)
/-- what follows is the same by two ways: I holds there -/
theorem cutR {A : Prop} {G : Hp → Prop} (I : Hp → Prop) (main : (∀ H, I H → G H) → A) (last : ∀ H, I H → G H) : A := main last
def endsOff (i : Nat) (D : Ends) : Ends :=
  { nx := fun τ G => D.nx (τ.set i none) G, rt := D.rt, bk := fun τ G => D.bk (τ.set i none) G, ct := fun τ G => D.ct (τ.set i none) G }
def suiteOf (i : Option Nat) (t : TS) (a : Addr) (D : Ends) (σ : L2.St) (H : Hp) : Prop :=
  match i with
  | none => t D σ H
  | some i => t (endsOff i D) (σ.set i (some (.ref a))) H
/-- what the clauses wish, one behind the other -/
def wCl (K : PySem.W.Frag) (Wout : WX) (D : Ends) : List Cl → WX
  | [] => Wout
  | p :: l => fun cls d σ H => ∃ b, PySem.W.exmOne K cls p.1 = some b ∧
      (b = true → ∀ a, H a = none → suiteOf p.2.1 (p.2.2 a cls d) a D σ H) ∧ (b = false → wCl K Wout D l cls d σ H)
def SuiteOk (X : Cx) (ss : List Stmt) (ts : Addr → Value → Option Addr → TS) : Prop :=
  ∀ (a : Addr) (oe : Obj) (cls : Value) (d : Option Addr) (pn : List (Addr × Obj)), Zc cls d oe → (∃ fv, oe.data = .fields fv) → PSs (X.suite a ((a, oe) :: pn)) ss (ts a cls d)
inductive Clauses (X : Cx) : List ExceptHandler → List Cl → Prop
  | nil : Clauses X [] []
  | plain {x : Str} {c : Value} {ts : Addr → Value → Option Addr → TS} {st : Stmt} {ss : List Stmt} {p q : Pos} {hds : List ExceptHandler} {l : List Cl}
      (hc : Names X x c) (hsu : SuiteOk X (st :: ss) ts) (r : Clauses X hds l) : Clauses X (.ExceptHandler (some (.Name x p)) none (st :: ss) q :: hds) ((c, none, ts) :: l)
  | named {x n : Str} {i : Nat} {c : Value} {ts : Addr → Value → Option Addr → TS} {st : Stmt} {ss : List Stmt} {p q : Pos} {hds : List ExceptHandler} {l : List Cl}
      (hc : Names X x c) (hi : X.N[i]? = some n) (hn : X.env.kindOf n = some .local) (hsu : SuiteOk X (st :: ss) ts) (r : Clauses X hds l) :
      Clauses X (.ExceptHandler (some (.Name x p)) (some n) (st :: ss) q :: hds) ((c, some i, ts) :: l)
/-- an exception in hand -/
structure InHand (X : Cx) (pins : List (Addr × Obj)) (σ : L2.St) (H : Hp) (cls : Value) (d : Option Addr) (a : Addr) (B : Heap) (sI s : Shared) : Prop where
  inv : Inv X pins σ H sI
  grd : ∀ b o, sI.heap.get? b = some o → b ∉ frs X.stack → B.get? b = some o
  up : sI.heap.UpToSlots s.heap
  fly : HandSPX.FlyingZ B (X.env :: X.outer) a (Zc cls d) s.heap
  new : H a = none
  os : s.os = sI.os
  ag : AllBare s.gens
section
variable {X : Cx} {pins : List (Addr × Obj)} {σ : L2.St} {H : Hp} {cls : Value} {d : Option Addr} {a : Addr} {B : Heap} {sI s : Shared}
theorem InHand.now (h : InHand X pins σ H cls d a B sI s) : Inv X pins σ H s := h.inv.landed h.grd h.fly.1 h.up h.os h.ag
theorem InHand.move (h : InHand X pins σ H cls d a B sI s) {g : Heap} (f : HandSPX.FlyingZ B (X.env :: X.outer) a (Zc cls d) g) (u : s.heap.UpToSlots g) :
    InHand X pins σ H cls d a B sI { s with heap := g } := ⟨h.inv, h.grd, h.up.trans u, f, h.new, h.os, h.ag⟩
theorem InHand.seen (h : InHand X pins σ H cls d a B sI s) (hf : X.env.frame = some X.env.locals) :
    ∃ oe fv, s.heap.get? a = some oe ∧ Zc cls d oe ∧ oe.data = .fields fv ∧ a ≠ X.env.locals ∧ a ∉ X.fs := by
  obtain ⟨oe, fv, e1, e2, e3⟩ := h.fly.there
  have off : a ∉ frs (X.env :: X.outer) := by
    intro m
    obtain ⟨_, o2, e4, no⟩ := h.fly.2.2.1.mem m
    rw [e1] at e4
    obtain rfl := Option.some.inj e4
    exact no _ e3
  refine ⟨oe, fv, e1, e2, e3, fun z => off ?_, fun z => off ?_⟩
  · rw [z]
    exact List.mem_filterMap.mpr ⟨X.env, by simp, hf⟩
  · obtain ⟨v, hv, q⟩ := List.mem_filterMap.mp z
    exact List.mem_filterMap.mpr ⟨v, by simp [hv], q⟩
/-- the suite of a clause behind the try's own end -/
theorem InHand.leave (ok : X.Ok) {oe : Obj} {D : Ends} {f : Flow} {s2 : Shared} (h : SP (X.suite a ((a, oe) :: (X.pn ++ pins))) [] D f s2) : SP X pins D f s2 := by
  cases f with
  | ret u => obtain ⟨v, τ, G, J, r, q⟩ := h; exact ⟨v, τ, G, J.unsuite ok, r, q⟩
  | next => obtain ⟨τ, G, J, q⟩ := h; exact ⟨τ, G, J.unsuite ok, q⟩
  | brk => obtain ⟨τ, G, J, q⟩ := h; exact ⟨τ, G, J.unsuite ok, q⟩
  | cont => obtain ⟨τ, G, J, q⟩ := h; exact ⟨τ, G, J.unsuite ok, q⟩
/-- no clause took it -/
theorem InHand.out (hs : X.stack = X.env :: X.outer) (hf : X.env.frame = some X.env.locals) {Wout : WX} (tk : Takes X Wout) (h : InHand X pins σ H cls d a B sI s) (w : Wout cls d σ H) {Q : Flow → Shared → Prop} :
    wpAny (model X.prog X.w) X.A (handleBy (.ref a) X.env []) Q X.xe s := by
  have fly := h.fly
  refine wpAny_handleBy_nil ?_
  obtain ⟨_, _, _, oe, fv, T, _, _, e1, _, e2, e3, _⟩ := id h.fly
  unfold PySem.passOn
  refine wpAny_bind (wpAny_field e1 e2 e3 ?_)
  rw [if_neg (by simp)]
  have last : wpAny (model X.prog X.w) X.A (setFlight (.ref a) X.env.frame) (fun _ z => wpAny (model X.prog X.w) X.A (throw (.ref a) : Sem Flow) Q X.xe z) X.xe s := by
    rw [hf]
    refine HandSPX.setFlight_upZ fly fun g held up => wpAny_throw (tk _ _ ⟨a, B, sI, pins, σ, H, cls, d, rfl, h.inv, h.grd, h.up.trans up, .inr (.inr ?_), h.new, h.os, h.ag, w⟩)
    rw [hs]
    exact held
  first
    | exact wpAny_bind last
    | exact wpAny_bind (wpAny_pure (wpAny_bind last))
/-- the class that a clause names, told -/
theorem InHand.named (h : InHand X pins σ H cls d a B sI s) (hf : X.env.frame = some X.env.locals) {x : Str} {c : Value} {p : Pos} (hc : Names X x c) {Q : Value → Shared → Prop} {E : Value → Shared → Prop} (q : Q c s) :
    wpAny (model X.prog X.w) (X.A.mark (some (.ref a))) (eval (.Name x p) X.env) Q E s := by
  obtain ⟨oe, fv, e1, _, e3, n1, n2⟩ := h.seen hf
  have S := h.now.suite e1 e3 h.new n1 n2
  obtain ⟨hg, hd, hm | ⟨hm, hv, hn⟩⟩ := hc
  · exact ld_glob (X := X.suite a ((a, oe) :: (X.pn ++ pins))) S hg hm q hd
  · exact ld_blt (X := X.suite a ((a, oe) :: (X.pn ++ pins))) S hg hm hv q hn hd
theorem InHand.through (hs : X.stack = X.env :: X.outer) (hf : X.env.frame = some X.env.locals) (hN : X.N.Nodup) {Wout : WX} (tk : Takes X Wout) {D : Ends} {hds : List ExceptHandler} {l : List Cl}
    (ck : Clauses X hds l) : ∀ {s : Shared}, InHand X pins σ H cls d a B sI s → wCl X.K Wout D l cls d σ H → wpAny (model X.prog X.w) X.A (handleBy (.ref a) X.env hds) (SP X pins D) X.xe s := by
  induction ck with
  | nil => exact fun h w => h.out hs hf tk w
  | @plain x c ts st ss p q hds l hc hsu r ih =>
    rintro s h ⟨b, hb, yes, no⟩
    have fly := h.fly
    obtain ⟨oe, fv, e1, e2, _⟩ := h.seen hf
    have own : PySem.W.Looks (model X.prog X.w) s.heap (typeOf (.ref a)) cls := fun _ _ _ z k q => wpAny_typeOf_ref (k _ _ e1) (by rw [e2.1]; exact q)
    refine wpAny_handleBy_cons (codeAny_handlers_test (h.named hf hc ((PySem.W.exm_one h.now.kIn own hb).here ?_))) (fun z => by cases z)
    cases b with
    | false => exact ih h (no rfl)
    | true =>
      refine codeAny_handlers_suite (HandSPX.lands_againZ fly fun g f2 u2 => ?_)
      have h2 := h.move f2 u2
      obtain ⟨oe2, fv2, i1, i2, i3, i4, i5⟩ := h2.seen hf
      exact wpAny_mono ((hsu a oe2 cls d (X.pn ++ pins) i2 ⟨_, i3⟩).run [] _ _ _ _ (h2.now.suite i1 i3 h.new i4 i5) (yes rfl a h.new)) (fun f z y => InHand.leave h.inv.ok y) fun _ _ z => z.elim
  | @named x n i c ts st ss p q hds l hc hi hn hsu r ih =>
    rintro s h ⟨b, hb, yes, no⟩
    have fly := h.fly
    obtain ⟨oe, fv, e1, e2, _⟩ := h.seen hf
    have own : PySem.W.Looks (model X.prog X.w) s.heap (typeOf (.ref a)) cls := fun _ _ _ z k q => wpAny_typeOf_ref (k _ _ e1) (by rw [e2.1]; exact q)
    refine wpAny_handleBy_cons (codeAny_handlers_test (h.named hf hc ((PySem.W.exm_one h.now.kIn own hb).here ?_))) (fun z => by cases z)
    cases b with
    | false => exact ih h (no rfl)
    | true =>
      refine codeAny_handlers_suite_as (HandSPX.lands_againZ fly fun g f2 u2 => ?_)
      have h2 := h.move f2 u2
      obtain ⟨oe2, fv2, i1, i2, i3, i4, i5⟩ := h2.seen hf
      refine store_ok (X := X.suite a ((a, oe2) :: (X.pn ++ pins))) (v := .ref a) (h2.now.suite i1 i3 h.new i4 i5) hN hi (.inl hn) rfl (fun z J => ?_) (.inr hn)
      refine wpAny_mono ((hsu a oe2 cls d (X.pn ++ pins) i2 ⟨_, i3⟩).run [] z _ _ _ J (yes rfl a h.new)) (fun f y k => ?_) fun _ _ z => z.elim
      have k' := InHand.leave h.inv.ok k
      cases f with
      | next => obtain ⟨τ, G, J2, q2⟩ := k'; exact gone_ok J2 hN hi hn fun _ J3 => ⟨_, _, J3, q2⟩
      | brk => obtain ⟨τ, G, J2, q2⟩ := k'; exact gone_ok J2 hN hi hn fun _ J3 => ⟨_, _, J3, q2⟩
      | cont => obtain ⟨τ, G, J2, q2⟩ := k'; exact gone_ok J2 hN hi hn fun _ J3 => ⟨_, _, J3, q2⟩
      | ret u => obtain ⟨v, τ, G, J2, r2, q2⟩ := k'; exact gone_ok J2 hN hi hn fun _ J3 => ⟨_, _, _, J3, r2, q2⟩
end
/-- try: body, any clauses -/
theorem ps_try_cl {X : Cx} {body : List Stmt} {hd : ExceptHandler} {hds : List ExceptHandler} {l : List Cl} {pos : Pos} {tb : WX → TS} {Wout : WX} (hs : X.stack = X.env :: X.outer) (hf : X.env.frame = some X.env.locals) (hN : X.N.Nodup)
    (tk : Takes X Wout) (ck : Clauses X (hd :: hds) l)
    (hb : ∀ (W : WX) (pn : List (Addr × Obj)) (xe : Value → Shared → Prop), Takes (X.tr pn xe) W → PassesOwn (model X.prog X.w) X.A X.env xe → PSs (X.tr pn xe) body (tb W)) :
    PS X (.Try body (hd :: hds) [] [] pos) (fun D σ H => tb (wCl X.K Wout D l) D σ H) := by
  refine ⟨fun pins s σ H D I h => wpAny_Try_except ?_⟩
  have ok := I.ok
  have fr : X.A.frames = some (X.env :: X.outer) := by rw [ok.frames, hs]
  let xe : Value → Shared → Prop := fun e z => wpAny (model X.prog X.w) X.A (noteFrame e X.env) (fun _ z2 => wpAny (model X.prog X.w) X.A (setFlight e none)
    (fun _ z3 => wpAny (model X.prog X.w) X.A (handleBy e X.env (hd :: hds)) (SP X pins D) X.xe z3) X.xe z2) X.xe z
  have take : Takes (X.tr (X.pn ++ pins) xe) (wCl X.K Wout D l) := by
    rintro _ z ⟨a, B, sI, pn, τ, G, cls, d, rfl, J, grd, up, sky, new, os, ag, w⟩
    rw [show (X.tr (X.pn ++ pins) xe).stack = X.env :: X.outer from hs] at sky
    refine Sky.land Zc.steady fr hf sky fun g fly u => ?_
    exact InHand.through hs hf hN tk ck (s := { z with heap := g }) ⟨J.ofTry ok, grd, up.trans u, fly, new, os, ag⟩ w
  refine wpAny_mono ((hb _ _ xe take PassesOwn.looking).run [] s σ H D (I.toTry _) h) (fun f z k => ?_) fun _ _ z => z
  cases f with
  | next => obtain ⟨τ, G, J, q⟩ := k; exact wpAny_execs_nil ⟨τ, G, J.ofTry ok, q⟩
  | brk => obtain ⟨τ, G, J, q⟩ := k; exact ⟨τ, G, J.ofTry ok, q⟩
  | cont => obtain ⟨τ, G, J, q⟩ := k; exact ⟨τ, G, J.ofTry ok, q⟩
  | ret u => obtain ⟨v, τ, G, J, r, q⟩ := k; exact ⟨v, τ, G, J.ofTry ok, r, q⟩
/-! ### C.m(e, ..), C a class of the program -/
/-- what the written part says of a def f that a class at C tells by its name -/
structure ClsDef (K : PySem.W.Frag) (C f : Addr) (n : Str) : Prop where
  ga : PySem.W.specialIn K (.ref C) "__getattribute__" = some (some (.builtin "type.__getattribute__"))
  rd : PySem.W.readsIn K C (.type "type") = true
  at_ : PySem.W.findCls K (.ref C) (.type "type") n = some (.val (.ref f))
section
variable {X : Cx} {CX : CXT} {k : Nat} {C f : Addr} {fd : FuncData} {ps : List Str} {sp : Sp} {dvs : List V} {ds : List Value} {E : XK} {x n : Str} {p1 p2 pos : Pos} {e : Expr} {es : List Expr} {t : TA}
theorem pe_ccall {pl : Sem Bool} (T : ClsDef X.K C f n) (F : FnOk X.prog X.w X.K X.mg X.base CX k f fd ps sp) (hr : Room k X.A) (hg : Gl X x) (hm : X.mg x = some (.ref C)) (hk : PySem.W.keepIn X.K (.ref f) = true)
    (hb : Binds X.K fd ps ds) (hd : Vals dvs ds) (hx : Passes CX X E) (ha : PA X (e :: es) t) (hdb : (x == ("__debug__" : Str)) = false := by decide)
    (hc : eval (.Call (.Attribute (.Name x p1) n p2) (e :: es) [] pos) X.env = (do
      let ov ← eval (.Name x p1) X.env
      standAt p2.atName
      let (f, first) ← holding [ov] (getMethod ov n pl)
      callWith pos f first (backTo pos (starEach (e :: es) X.env)) (backToKw pos (keywordEach [] X.env))) := by rfl)
    (he : starEach (e :: es) X.env = (false, eval e X.env) :: starEach es X.env := by rfl) (hpl : (backTo pos (starEach es X.env)).any (·.1) = false := by rfl) :
    PE X (.Call (.Attribute (.Name x p1) n p2) (e :: es) [] pos) (tCall sp dvs E t) := by
  refine ⟨fun pins s σ H Q I h => PySem.W.methodCall_KW (ld_glob I hg hm ?_ hdb) hc⟩
  refine PySem.W.method_cls I.kIn T.ga (PySem.W.cls_value I.kIn T.rd T.at_ rfl ?_)
  refine PySem.W.callWith_K (h₀ := X.base) I.ok.mod.kin hk (thn (ha.run pos pins _ σ H _ (I.tok _) h) ?_) he hpl
  rintro us s1 ⟨vs, H1, I1, r, q⟩
  refine ⟨I1.kIn, ?_⟩
  have both := r.append hd
  have len : (us ++ ds).length = ps.length := (both.length).symm.trans (F.len _ _ _ _ q)
  refine wpAny_call (codeAny_mono (F.run X.A X.stack s1 H1 ⟨us, []⟩ (us ++ ds) (vs ++ dvs) Q E hr I1.env0 (hb s1 us I1.kIn len) both q) ?_)
  intro res z hz
  match res, hz with
  | .ok (.ret u), hz => exact I1.after hz
  | .error e, hz => exact hx pins σ H1 s1 e z I1 hz
  | .ok .next, hz => exact hz.elim
  | .ok .brk, hz => exact hz.elim
  | .ok .cont, hz => exact hz.elim
end
/-! ### o.m(e, ..) in a try's body -/
section
variable {X : Cx} {CX : CXT} {k : Nat} {C f : Addr} {fd : FuncData} {ps : List Str} {sp : Sp} {E : L2.St → XK} {m : Str} {pos apos : Pos} {e o : Expr} {es : List Expr} {ta : TE} {t : TA}
def tMethX (C : Addr) (m : Str) (sp : Sp) (E : L2.St → XK) (ta : TE) (t : TA) : TE := fun σ H Q => ta σ H fun x G => ∃ a dx fs, x = .ref a ∧ G a = some (.ins C dx fs) ∧ fs.lookup m = none ∧
  t σ G fun vs G2 => sp (x :: vs) G2 Q (E σ)
theorem pe_methX {pl : Sem Bool} (he : PE X o ta) (c : Cls X.K C) (hm : Meth X.K C m f) (F : FnOk X.prog X.w X.K X.mg X.base CX k f fd ps sp) (hr : Room k X.A) (hb : Binds X.K fd ps []) (hx : ∀ σ, PassesAt CX X σ (E σ)) (ha : PA X (e :: es) t)
    (hst : starEach (e :: es) X.env = (false, eval e X.env) :: starEach es X.env := by rfl) (hpl : (backTo pos (starEach es X.env)).any (·.1) = false := by rfl)
    (ht : eval (.Call (.Attribute o m apos) (e :: es) [] pos) X.env = (do
      let ov ← eval o X.env
      standAt apos.atName
      let (f, first) ← holding [ov] (getMethod ov m pl)
      callWith pos f first (backTo pos (starEach (e :: es) X.env)) (backToKw pos (keywordEach [] X.env))) := by rfl) :
    PE X (.Call (.Attribute o m apos) (e :: es) [] pos) (tMethX C m sp E ta t) := by
  refine ⟨fun pins s σ H Q I h => PySem.W.methodCall_KW (pl := pl) (thn (he.run pins s σ H _ I h) ?_) ht⟩
  rintro u z ⟨x, G, J, rx, a, dx, fs, rfl, ea, l, q⟩
  obtain rfl : u = Value.ref a := rx
  refine getmeth_ok J ea c hm l (PySem.W.callWith_K (first := [.ref a]) (h₀ := X.base) I.ok.mod.kin hm.kp (thn (ha.run pos pins z σ G _ J q) ?_) hst hpl)
  rintro us y ⟨vs, G2, J2, r, q2⟩
  exact ⟨J2.kIn, run_fnS (us := .ref a :: us) (vs := .ref a :: vs) F hr hb (hx σ) J2 (.cons rfl r) q2⟩
end
/-! ### the family: an __init__ over another class's, one field -/
/-- StaffError.__init__(self, text) and the like -/
def spUp (K : PySem.W.Frag) : Sp := fun vs H Q _ => ∃ (a C : Addr) (z : Str), vs = [.ref a, .str z] ∧ OexC K C ∧ H a = some (exo a C none) ∧ Q .non H
/-- C.__init__(self, x), its one field f -/
def spOne (K : PySem.W.Frag) (C : Addr) (f : Str) : Sp := fun vs H Q _ => ∃ (a : Addr) (v : V), vs = [.ref a, v] ∧ H a = some (exo a C none) ∧
  ∀ dx, H dx = none → dx ≠ a → Q .non (upd (upd H dx (exd dx [(f, v)])) a (exo a C (some dx)))
/-- what is left of a made exception: its dict alone -/
theorem made_eq {H : Hp} {a d C : Addr} {fs : List (Str × V)} (n : H a = none) (ne : d ≠ a) :
    upd (del (upd (upd (upd H a (exo a C none)) d (exd d fs)) a (exo a C (some d))) a) d (.xd fs) = upd H d (.xd fs) := by
  funext b
  by_cases hd : b = d
  · rw [hd, upd_same, upd_same]
  · rw [upd_ne hd, upd_ne hd]
    by_cases ha : b = a
    · rw [ha, del_same, n]
    · rw [del_ne ha, upd_ne ha, upd_ne hd, upd_ne ha]
/-- raise C(x): what is to be shown -/
theorem made_one {K : PySem.W.Frag} {C : Addr} {f : Str} {v : V} {H : Hp} {W : Value → Option Addr → Hp → Prop} (k : ∀ d, H d = none → W (.ref C) (some d) (upd H d (.xd [(f, v)]))) :
    ([v] : List V).length ≤ 1000 ∧ ∀ a, H a = none → spOne K C f (.ref a :: ([v] ++ [])) (upd H a (exo a C none))
      (fun u H2 => u = .non ∧ ∃ (d : Addr) (fs : List (Str × V)), H2 a = some (exo a C (some d)) ∧ H2 d = some (exd d fs) ∧ H d = none ∧ W (.ref C) (some d) (upd (del H2 a) d (.xd fs))) (fun _ _ _ => False) := by
  refine ⟨by simp, fun a n => ⟨a, v, rfl, upd_same, fun dx hdx ne => ⟨rfl, dx, [(f, v)], upd_same, ?_, ?_, ?_⟩⟩⟩
  · rw [upd_ne ne, upd_same]
  · rw [upd_ne ne] at hdx
    exact hdx
  · rw [made_eq n ne]
    rw [upd_ne ne] at hdx
    exact k dx hdx
/-- a class is its own -/
theorem sub_self {K : PySem.W.Frag} {C : Addr} {cd : ClassData} {r : List Value} (h : PySem.W.clsIn K C = some cd) (e : cd.mro = .ref C :: r) : PySem.W.subIn K (.ref C) (.ref C) = some true := by
  show PySem.W.mroIn K C (.ref C) = some true
  unfold PySem.W.mroIn
  rw [h]
  simp [e]
/-! ### isinstance of what was caught -/
structure CauC (K : PySem.W.Frag) (D : Addr) : Prop where
  cl : (PySem.W.clsIn K D).isSome = true
  ga : PySem.W.findIn K (.ref D) "__getattribute__" = some (some (.builtin "BaseException.__getattribute__"))
  gg : PySem.W.findIn K (.ref D) "__getattr__" = some none
  sub : PySem.W.subIn K (.ref D) (.type "BaseException") = some true
  co : PySem.W.findIn K (.ref D) "__class__" = some (some (.builtin "object.__class__"))
  cg : PySem.W.specialIn K (.builtin "object.__class__") "__get__" = some (some (.builtin "getset_descriptor.__get__"))
  ct : PySem.W.takesIn K (.builtin "object.__class__") = some true
  mo : PySem.W.mroIn K D (.type "object") = some true
/-- isinstance(e, c), e what the suite holds (cls its class, d its dict) -/
def rIsD (K : PySem.W.Frag) (D a : Addr) (cls : Value) (d : Option Addr) : List V → Hp → VK → Prop := fun xs H Q => ∃ (c : V) (cv : Value) (b : Bool) (dd : Addr) (fs : List (Str × V)),
  xs = [.ref a, c] ∧ (∀ u, RelV c u → u = cv) ∧ PySem.W.kitOne K (.ref D) cv = some b ∧ cls = .ref D ∧ d = some dd ∧ H dd = some (.xd fs) ∧ Q (.bl b) H
theorem call_isD {X : Cx} {a D : Addr} {cls : Value} {d : Option Addr} {oe : Obj} {pn : List (Addr × Obj)} (T : CauC X.K D) (hz : Zc cls d oe) (hf : ∃ fv, oe.data = .fields fv) :
    CallR (X.suite a ((a, oe) :: pn)) (.builtin "isinstance") (rIsD X.K D a cls d) := by
  rintro pins s σ H xs us Q I r ⟨c, cv, b, dd, fs, rfl, hcv, e, rfl, rfl, ed, q⟩
  cases r with
  | cons rx rr =>
    cases rr with
    | cons rt rr =>
      cases rr
      cases rx
      obtain rfl := hcv _ rt
      obtain ⟨hget, _⟩ := I.pin (a, oe) (by simp)
      obtain ⟨fv, hv⟩ := hf
      have hx : ObjOk X.prog X.w H s.heap dd (.xd fs) := I.hok dd _ ed
      obtain ⟨mA, hns, _⟩ := hx
      obtain ⟨od, ho, _⟩ := lookIn_ns hns
      have J : PySem.W.InstAt s.heap a oe D (some od) := ⟨hget, hz.1, by unfold PySem.W.notCls; rw [hv] <;> rfl, by rw [hz.2]; exact ho⟩
      exact PySem.W.kia_one (PySem.W.kitx_exc T.cl T.ga T.gg T.sub T.co T.cg T.ct T.mo) I.kIn J e (fun z => nomatch z) fun tk => ⟨.bl b, H, I.tok _, rfl, q⟩
/-- a call of a def that may raise, where it does not -/
theorem pass_no {X : Cx} : Passes (L2.CX X.prog X.w) X E0 := fun _ _ _ _ _ _ _ ⟨_, _, _, _, _, _, _, _, _, _, _, _, z⟩ => z.elim
theorem takes_never {X : Cx} : Takes X (fun _ _ _ _ => False) := fun _ _ ⟨_, _, _, _, _, _, _, _, _, _, _, _, _, _, _, _, z⟩ => z.elim
end My

set_option maxRecDepth 100000
set_option maxHeartbeats 400000
/-! Several refusals of one family: what the written part says of each. -/
namespace My
open PySem PySem.Spec PyProof.Rows L2 GxR Gd TL
/-- the class above them -/
structure SeT (K : PySem.W.Frag) (mg : Str → Option Value) (CS fS : Addr) (fdS : FuncData) (st : Stmt) : Prop where
  ve : mg "ValueError" = none
  vi : PySem.W.findCls K (.type "ValueError") (.type "type") "__init__" = some (.val (.builtin "ValueError.__init__"))
  g : mg "StaffError" = some (.ref CS)
  c : ClsDef K CS fS "__init__"
  k : PySem.W.keepIn K (.ref fS) = true
  F : Fun K "__init__" "StaffError.__init__" st fS fdS
  b : Binds K fdS ["self", "text"] []
/-- one of them -/
structure ExC (K : PySem.W.Frag) (mg : Str → Option Value) (x q : Str) (st : Stmt) (C f : Addr) (fd : FuncData) : Prop where
  g : mg x = some (.ref C)
  F : Fun K "__init__" q st f fd
  b : Binds K fd ["self", "found"] []
  o : OexC K C
  i : PySem.W.findIn K (.ref C) "__init__" = some (some (.ref f))
  t : PySem.W.typeIn K (.ref f) = some (.type "function")
  n : PySem.W.findIn K (.ref C) "found" = some none
  e : PySem.W.exmOne K (.ref C) (.ref C) = some true
  x : XfC K C
  u : CauC K C
section
variable {X : Cx} {CX : CXT} {k : Nat} {C f : Addr} {fd : FuncData} {ps : List Str} {sp : Sp} {E : L2.St → XK} {m : Str} {pos apos : Pos} {o : Expr} {ta : TE}
def tMethX0 (C : Addr) (m : Str) (sp : Sp) (E : L2.St → XK) (ta : TE) : TE := fun σ H Q => ta σ H fun x G => ∃ a dx fs, x = .ref a ∧ G a = some (.ins C dx fs) ∧ fs.lookup m = none ∧ sp [x] G Q (E σ)
/-- o.m() in a try's body -/
theorem pe_methX0 {pl : Sem Bool} (he : PE X o ta) (c : Cls X.K C) (hm : Meth X.K C m f) (F : FnOk X.prog X.w X.K X.mg X.base CX k f fd ps sp) (hr : Room k X.A) (hb : Binds X.K fd ps []) (hx : ∀ σ, PassesAt CX X σ (E σ))
    (ht : eval (.Call (.Attribute o m apos) [] [] pos) X.env = (do
      let who ← eval o X.env
      standAt apos.atName
      let (g, ahead) ← holding [who] (getMethod who m pl)
      callWith pos g ahead (backTo pos (starEach [] X.env)) (backToKw pos (keywordEach [] X.env))) := by rfl) :
    PE X (.Call (.Attribute o m apos) [] [] pos) (tMethX0 C m sp E ta) := by
  refine ⟨fun pins s σ H Q I h => PySem.W.methodCall_KW (pl := pl) (thn (he.run pins s σ H _ I h) ?_) ht⟩
  rintro u z ⟨x, G, J, rx, a, dx, fs, rfl, ea, l, q⟩
  obtain rfl := show u = Value.ref a from rx
  refine getmeth_ok J ea c hm l ?_
  exact PySem.W.callWith_K0 (first := [.ref a]) J.kIn hm.kp (run_fnS (us := [.ref a]) (vs := [.ref a]) F hr hb (hx σ) J (.cons rfl .nil) q)
end
end My

set_option maxRecDepth 100000
set_option maxHeartbeats 400000
namespace T9
open PySem PySem.Spec PyProof.Rows L2 GxR Gd TL My
theorem fn_or {P : Program} {w : World} {K : PySem.W.Frag} {mg : Str → Option Value} {base : Heap} {CX : CXT} {j k : Nat} {f : Addr} {fd : FuncData} {ps : List Str} {sp1 sp2 : Sp} (A : FnOk P w K mg base CX0 j f fd ps sp1) (B : FnOk P w K mg base CX k f fd ps sp2) (h : j ≤ k) :
    FnOk P w K mg base CX k f fd ps (fun vs H Q E => sp1 vs H Q E ∨ sp2 vs H Q E) := by
  refine ⟨fun vs H Q E h => h.elim (A.len vs H Q E) (B.len vs H Q E), fun Ar out s H ar us vs Q E hr e0 hb r hsp => ?_⟩
  rcases hsp with hsp | hsp
  · refine codeAny_mono (A.run Ar out s H ar us vs Q E (hr.mono h) e0 hb r hsp) fun x s' q => ?_
    match x, q with
    | .error e, q => exact False.elim q
    | .ok (.ret u), q => exact q
    | .ok .next, q => exact q
    | .ok .brk, q => exact q
    | .ok .cont, q => exact q
  · exact B.run Ar out s H ar us vs Q E hr e0 hb r hsp
theorem ixT {X : Cx} {K : PySem.W.Frag} (h : X.K = K) : IxR X (rIxT K) := h ▸ ix_tup
/-! ### the refusals -/
abbrev sSE : Stmt := inClass (top 2) 0
theorem scSE : FnScope ["self", "text"] ["self", "text"] (defScope sSE) := ⟨rfl, rfl, rfl, by decide +kernel, rfl, by decide +kernel, by decide +kernel⟩
abbrev sNoName : Stmt := inClass (top 3) 0
theorem scNoName : FnScope ["self", "found"] ["self", "found"] (defScope sNoName) := ⟨rfl, rfl, rfl, by decide +kernel, rfl, by decide +kernel, by decide +kernel⟩
abbrev sNoPlace : Stmt := inClass (top 4) 0
theorem scNoPlace : FnScope ["self", "found"] ["self", "found"] (defScope sNoPlace) := ⟨rfl, rfl, rfl, by decide +kernel, rfl, by decide +kernel, by decide +kernel⟩
abbrev sNoTrains : Stmt := inClass (top 5) 0
theorem scNoTrains : FnScope ["self", "found"] ["self", "found"] (defScope sNoTrains) := ⟨rfl, rfl, rfl, by decide +kernel, rfl, by decide +kernel, by decide +kernel⟩
abbrev sNoEnds : Stmt := inClass (top 6) 0
theorem scNoEnds : FnScope ["self", "found"] ["self", "found"] (defScope sNoEnds) := ⟨rfl, rfl, rfl, by decide +kernel, rfl, by decide +kernel, by decide +kernel⟩
abbrev sTwice : Stmt := inClass (top 12) 0
theorem scTwice : FnScope ["self", "found"] ["self", "found"] (defScope sTwice) := ⟨rfl, rfl, rfl, by decide +kernel, rfl, by decide +kernel, by decide +kernel⟩
abbrev sFull : Stmt := inClass (top 13) 0
theorem scFull : FnScope ["self", "found"] ["self", "found"] (defScope sFull) := ⟨rfl, rfl, rfl, by decide +kernel, rfl, by decide +kernel, by decide +kernel⟩
section
variable {P : Program} {w : World} {K : PySem.W.Frag} {mg : Str → Option Value} {base : Heap} {CS fS C fN : Addr} {fdS fdN : FuncData}
theorem ok_SE (T : SeT K mg CS fS fdS sSE) {CX : CXT} : FnOk P w K mg base CX0 1 fS fdS ["self", "text"] (spUp K) := by
  refine T.F.ok scSE (fun vs H Q E h => ?_) (fun cdv A outer s H vs Q E hr h => ?_)
  · obtain ⟨a, C, z, rfl, _⟩ := h
    rfl
  · obtain ⟨a, C, z, rfl, o, e, k⟩ := h
    refine ⟨_, pss_one (ps_expr (pe_veinit (by rfl) T.ve T.vi (pa_cons (pv 0) (pa_cons (pv 1) pa_nil)))), ?_⟩
    exact ⟨_, rfl, _, rfl, a, C, _, rfl, by simp, o, e, k⟩
theorem ok_NoName (S : SeT K mg CS fS fdS sSE) (T : ExC K mg "NoName" "NoName.__init__" sNoName C fN fdN) : FnOk P w K mg base CX0 2 fN fdN ["self", "found"] (spOne K C "found") := by
  refine T.F.ok scNoName (fun vs H Q E h => ?_) (fun cdv A outer s H vs Q E hr h => ?_)
  · obtain ⟨a, v, rfl, _⟩ := h
    rfl
  · obtain ⟨a, v, rfl, e, k⟩ := h
    refine ⟨_, pss_cons (ps_expr (pe_ccall S.c (ok_SE (CX := CX0) S) hr (by rfl) S.g S.k S.b .nil pass0 (pa_cons (pv 0) (pa_cons pe_str pa_nil))))
      (pss_one (ps_ost (pv 0) (pv 1))), ?_⟩
    refine ⟨_, rfl, a, C, _, rfl, T.o, e, ?_⟩
    exact ⟨_, rfl, _, rfl, a, C, rfl, T.o, T.n, .inl ⟨e, fun dx h1 h2 => k dx h1 h2⟩⟩
theorem ok_NoPlace (S : SeT K mg CS fS fdS sSE) (T : ExC K mg "NoPlace" "NoPlace.__init__" sNoPlace C fN fdN) : FnOk P w K mg base CX0 2 fN fdN ["self", "found"] (spOne K C "found") := by
  refine T.F.ok scNoPlace (fun vs H Q E h => ?_) (fun cdv A outer s H vs Q E hr h => ?_)
  · obtain ⟨a, v, rfl, _⟩ := h
    rfl
  · obtain ⟨a, v, rfl, e, k⟩ := h
    refine ⟨_, pss_cons (ps_expr (pe_ccall S.c (ok_SE (CX := CX0) S) hr (by rfl) S.g S.k S.b .nil pass0 (pa_cons (pv 0) (pa_cons pe_str pa_nil))))
      (pss_one (ps_ost (pv 0) (pv 1))), ?_⟩
    refine ⟨_, rfl, a, C, _, rfl, T.o, e, ?_⟩
    exact ⟨_, rfl, _, rfl, a, C, rfl, T.o, T.n, .inl ⟨e, fun dx h1 h2 => k dx h1 h2⟩⟩
theorem ok_NoTrains (S : SeT K mg CS fS fdS sSE) (T : ExC K mg "NoTrains" "NoTrains.__init__" sNoTrains C fN fdN) : FnOk P w K mg base CX0 2 fN fdN ["self", "found"] (spOne K C "found") := by
  refine T.F.ok scNoTrains (fun vs H Q E h => ?_) (fun cdv A outer s H vs Q E hr h => ?_)
  · obtain ⟨a, v, rfl, _⟩ := h
    rfl
  · obtain ⟨a, v, rfl, e, k⟩ := h
    refine ⟨_, pss_cons (ps_expr (pe_ccall S.c (ok_SE (CX := CX0) S) hr (by rfl) S.g S.k S.b .nil pass0 (pa_cons (pv 0) (pa_cons pe_str pa_nil))))
      (pss_one (ps_ost (pv 0) (pv 1))), ?_⟩
    refine ⟨_, rfl, a, C, _, rfl, T.o, e, ?_⟩
    exact ⟨_, rfl, _, rfl, a, C, rfl, T.o, T.n, .inl ⟨e, fun dx h1 h2 => k dx h1 h2⟩⟩
theorem ok_NoEnds (S : SeT K mg CS fS fdS sSE) (T : ExC K mg "NoEnds" "NoEnds.__init__" sNoEnds C fN fdN) : FnOk P w K mg base CX0 2 fN fdN ["self", "found"] (spOne K C "found") := by
  refine T.F.ok scNoEnds (fun vs H Q E h => ?_) (fun cdv A outer s H vs Q E hr h => ?_)
  · obtain ⟨a, v, rfl, _⟩ := h
    rfl
  · obtain ⟨a, v, rfl, e, k⟩ := h
    refine ⟨_, pss_cons (ps_expr (pe_ccall S.c (ok_SE (CX := CX0) S) hr (by rfl) S.g S.k S.b .nil pass0 (pa_cons (pv 0) (pa_cons pe_str pa_nil))))
      (pss_one (ps_ost (pv 0) (pv 1))), ?_⟩
    refine ⟨_, rfl, a, C, _, rfl, T.o, e, ?_⟩
    exact ⟨_, rfl, _, rfl, a, C, rfl, T.o, T.n, .inl ⟨e, fun dx h1 h2 => k dx h1 h2⟩⟩
theorem ok_Twice (S : SeT K mg CS fS fdS sSE) (T : ExC K mg "Twice" "Twice.__init__" sTwice C fN fdN) : FnOk P w K mg base CX0 2 fN fdN ["self", "found"] (spOne K C "found") := by
  refine T.F.ok scTwice (fun vs H Q E h => ?_) (fun cdv A outer s H vs Q E hr h => ?_)
  · obtain ⟨a, v, rfl, _⟩ := h
    rfl
  · obtain ⟨a, v, rfl, e, k⟩ := h
    refine ⟨_, pss_cons (ps_expr (pe_ccall S.c (ok_SE (CX := CX0) S) hr (by rfl) S.g S.k S.b .nil pass0 (pa_cons (pv 0) (pa_cons pe_str pa_nil))))
      (pss_one (ps_ost (pv 0) (pv 1))), ?_⟩
    refine ⟨_, rfl, a, C, _, rfl, T.o, e, ?_⟩
    exact ⟨_, rfl, _, rfl, a, C, rfl, T.o, T.n, .inl ⟨e, fun dx h1 h2 => k dx h1 h2⟩⟩
theorem ok_Full (S : SeT K mg CS fS fdS sSE) (T : ExC K mg "Full" "Full.__init__" sFull C fN fdN) : FnOk P w K mg base CX0 2 fN fdN ["self", "found"] (spOne K C "found") := by
  refine T.F.ok scFull (fun vs H Q E h => ?_) (fun cdv A outer s H vs Q E hr h => ?_)
  · obtain ⟨a, v, rfl, _⟩ := h
    rfl
  · obtain ⟨a, v, rfl, e, k⟩ := h
    refine ⟨_, pss_cons (ps_expr (pe_ccall S.c (ok_SE (CX := CX0) S) hr (by rfl) S.g S.k S.b .nil pass0 (pa_cons (pv 0) (pa_cons pe_str pa_nil))))
      (pss_one (ps_ost (pv 0) (pv 1))), ?_⟩
    refine ⟨_, rfl, a, C, _, rfl, T.o, e, ?_⟩
    exact ⟨_, rfl, _, rfl, a, C, rfl, T.o, T.n, .inl ⟨e, fun dx h1 h2 => k dx h1 h2⟩⟩
end
def badN (wd : Wd) (v : V) : Prop := ∀ z, v = .str z → posOf wd.ps z = none
def badS (wd : Wd) (v : V) : Prop := ∀ i : Nat, v = .int i → ¬ i < wd.st.length
def badL (wd : Wd) (v : V) : Prop := ∀ i : Nat, v = .int i → ¬ i < wd.lo.length
theorem bad_wh {n : Nat} {v : V} (h : ∀ i : Nat, v = .int i → ¬ i < n) : wh 0 ((n : Int) - 1) v = false := by
  cases v with
  | int i =>
    unfold wh
    by_cases h0 : 0 ≤ i
    · obtain ⟨j, rfl⟩ := Int.eq_ofNat_of_zero_le h0
      have := h j rfl
      simp
      omega
    · simp [h0]
  | _ => rfl
def spBad (K : PySem.W.Frag) (C CE : Addr) (bad : Wd → V → Prop) : Sp := fun vs H _ E => ∃ (x : Addr) (v : V) (wd : Wd), vs = [.ref x, v] ∧ LineAt K C wd H x ∧ Th H v ∧ bad wd v ∧ ∀ e, H e = none → E (.ref CE) (some e) (upd H e (.xd [("found", v)]))
abbrev orS (a b : Sp) : Sp := fun vs H Q E => a vs H Q E ∨ b vs H Q E
section
variable {P : Program} {w : World} {K : PySem.W.Frag} {mg : Str → Option Value} {base : Heap} {C CE CS fS fE f1 f2 : Addr} {fdS fdE fd1 fd2 : FuncData}
theorem ok_numB {f : Addr} {fd : FuncData} (F : Fun K "number_of" "Line.number_of" s_number_of f fd) (T : Txt mg) (TC : ClsT K C) (ES : SeT K mg CS fS fdS sSE) (ENoPlace : ExC K mg "NoPlace" "NoPlace.__init__" sNoPlace CE fE fdE) :
    FnOk P w K mg base (CX P w) 4 f fd ["self", "name"] (spBad K C CE badN) := by
  refine F.okX sc_number_of (fun vs H Q E h => ?_) (fun cdv A outer s H vs Q E hr h => ?_)
  · obtain ⟨x, v, wd, rfl, _⟩ := h
    rfl
  · obtain ⟨x, v, wd, rfl, ⟨dx, p1, p2, p3, d, xs1, xs2, xs3, hx, _, _, _, _, _, _, kvs, hk, hl, hv⟩, th, bad, k⟩ := h
    refine ⟨_, pss_cons (ps_if (PW.pt (pw_or (pt_not (pt_val (pe_callB call_isi (by rfl) T.isinstance_ (by decide +kernel) (pa_cons (pv 1) (pa_cons (pe_bltn (v := .ty "str") (by rfl) T.str_ (by decide +kernel) rfl) pa_nil))))) (pw_or1 (pt_cmp (pc_dnotin (hu_of hr) (pv 1) (pe_fld (pv 0) rfl)))))) (pss_one (ps_raise rfl (takes_of rfl rfl rfl rfl) (pmk_oex ENoPlace.o ENoPlace.i ENoPlace.t (ok_NoPlace ES ENoPlace) (hr.mono (by decide)) ENoPlace.b .nil pass0 (by rfl) ENoPlace.g (pa_cons (pv 1) pa_nil)))) pss_nil)
      (pss_one (ps_ret (pe_dget (hu_of hr) (pe_fld (pv 0) rfl) (pv 1) (fun _ _ => rfl)))), ?_⟩
    obtain ⟨t, ty, cs⟩ := th.ty (K := K)
    rcases cs with ⟨i, rfl, rfl⟩ | ⟨b, rfl, rfl⟩ | ⟨z, rfl, _, rfl⟩ | ⟨n1, n2, n3, ht⟩
    · exact ⟨_, rfl, _, _, _, _, false, rfl, .ty "str", ty, (by rfl), _, rfl, iteT (iteT ⟨_, rfl, made_one k⟩)⟩
    · exact ⟨_, rfl, _, _, _, _, false, rfl, .ty "str", ty, (by rfl), _, rfl, iteT (iteT ⟨_, rfl, made_one k⟩)⟩
    · have e := hv z
      rw [bad z rfl] at e
      refine ⟨_, rfl, _, _, _, _, true, rfl, .ty "str", ty, (by rfl), _, rfl, iteF ?_⟩
      exact ⟨_, rfl, _, rfl, x, C, dx, _, _, rfl, hx, TC.cl, TC.n4, lf_numbers _ _ _ _, d, none, rfl, .inl ⟨kvs, Sum.inr z, Rd.of hk, rfl, e.symm⟩, _, rfl, iteT ⟨_, rfl, made_one k⟩⟩
    · rcases ht with rfl | rfl | rfl | rfl
      · exact ⟨_, rfl, _, _, _, _, false, rfl, .ty "str", ty, (by rfl), _, rfl, iteT (iteT ⟨_, rfl, made_one k⟩)⟩
      · exact ⟨_, rfl, _, _, _, _, false, rfl, .ty "str", ty, (by rfl), _, rfl, iteT (iteT ⟨_, rfl, made_one k⟩)⟩
      · exact ⟨_, rfl, _, _, _, _, false, rfl, .ty "str", ty, (by rfl), _, rfl, iteT (iteT ⟨_, rfl, made_one k⟩)⟩
      · exact ⟨_, rfl, _, _, _, _, false, rfl, .ty "str", ty, (by rfl), _, rfl, iteT (iteT ⟨_, rfl, made_one k⟩)⟩
theorem ok_roadsB {f : Addr} {fd : FuncData} (F : Fun K "roads" "Line.roads" s_roads f fd) (T : Txt mg) (TC : ClsT K C)
    (Mnumber_of : Mt K C "number_of" "Line.number_of" s_number_of ["self", "name"] f1 fd1) (GnumX : FnOk P w K mg base (CX P w) 4 f1 fd1 ["self", "name"] (orS (spNum K C) (spBad K C CE badN))) :
    FnOk P w K mg base (CX P w) 5 f fd ["self", "name"] (spBad K C CE badN) := by
  refine F.okX sc_roads (fun vs H Q E h => ?_) (fun cdv A outer s H vs Q E hr h => ?_)
  · obtain ⟨x, v, wd, rfl, _⟩ := h
    rfl
  · obtain ⟨x, v, wd, rfl, hL, th, bad, k⟩ := h
    obtain ⟨dx, p1, p2, p3, d, xs1, xs2, xs3, hx, hp1, hd1, hp2, hd2, hp3, hd3, hN⟩ := id hL
    refine ⟨_, pss_one (ps_ret (pe_ix (ixT (K := K) rfl) (pe_ix (ixT (K := K) rfl) (pe_fld (pv 0) rfl) (pe_meth (pv 0) TC.cl Mnumber_of.m GnumX (hr.mono (by decide)) Mnumber_of.b .nil (passes_call (takes_of rfl rfl rfl rfl) (fun _ _ _ _ h => h)) (pa_cons (pv 1) pa_nil)) (fun _ _ => rfl)) pe_int (fun _ _ => rfl))), ?_⟩
    exact ⟨_, rfl, x, C, dx, _, _, rfl, hx, TC.cl, TC.n1, lf_places _ _ _ _, _, rfl, x, dx, _, rfl, hx, lf_no _ _ _ _ (by decide +kernel), _, rfl, .inr ⟨x, v, wd, rfl, hL, th, bad, k⟩⟩
end
end T9

set_option maxRecDepth 100000
set_option maxHeartbeats 1000000
/-! The end of a law whose own def shows dicts: the module table is tracked, so that no new thing is it. For laws without tables. -/
namespace Gd
open PySem PySem.Spec PyProof.Rows L2 GxR
/-- the module table: it is there -/
def smU : HO := .ext fun h => ∃ o, h.get? sysModules = some o
def SmAt (H : Hp) : Prop := ∃ o, H sysModules = some (.frz o smU)
theorem SmAt.same {H H' : Hp} (h : SmAt H) (s : Same H H') : SmAt H' := let ⟨o, e⟩ := h; ⟨o, s _ _ e⟩
theorem smU_ne {u : HO} (n : ∀ φ, u ≠ .ext φ) : smU ≠ u := fun z => n _ z.symm
open Classical in
noncomputable def hs0 (K : PySem.W.Frag) (a : Addr) (vs : List Value) (ns : List Int) (o1 : Obj) : Hp := fun b =>
  if b = sysModules then some (.frz o1 smU) else if b = a ∧ K.lookup a = none then some (.frz (scriptO vs) (.lst (ns.map V.int))) else none
theorem hs0_inv {K : PySem.W.Frag} {a b : Addr} {vs : List Value} {ns : List Int} {o1 : Obj} {u : HO} (h : hs0 K a vs ns o1 b = some u) :
    (b = sysModules ∧ u = .frz o1 smU) ∨ (b = a ∧ K.lookup a = none ∧ u = .frz (scriptO vs) (.lst (ns.map V.int))) := by
  unfold hs0 at h
  split at h
  · rename_i c
    exact .inl ⟨c, (Option.some.inj h).symm⟩
  · split at h
    · rename_i c
      exact .inr ⟨c.1, c.2, (Option.some.inj h).symm⟩
    · cases h
section
variable {P : Program} {w : World} {K : PySem.W.Frag} {mg mb : Str → Option Value} {CX : CXT} {k : Nat} {fa a : Addr} {fd : FuncData} {x : Str} {sp : Sp} {s1 : Shared} {vs : List Value} {ns : List Int}
theorem law_scall (KX : K.In s1.heap) (nsG : s1.heap.Ns mainGlobals mg) (nsB : s1.heap.Ns builtinsNs mb) (isB : ∀ x : Str, x ≠ "__name__" → mb x = bootBuiltins x) (lim : s1.heap.NoLimit) (gens : s1.gens = #[])
    (hsm : ∃ o, s1.heap.get? sysModules = some o) (k1 : K.lookup sysModules = none) (na : a ≠ sysModules) (ha : s1.heap.get? a = some (scriptO vs)) (hi : IntsAre vs ns) (hl : ns.length ≤ sizeLine) (hr : Room k callerA)
    (F : ∀ base : Heap, K.In base → base.Ns mainGlobals mg → GOk P w K mg base CX k fa fd [x] sp) (hbind : ∀ (s : Shared) (u : Value), BindsTo s fd ⟨[u], []⟩ [(x, u)])
    (hsp : ∀ H : Hp, SmAt H → SqL K H a (ns.map V.int) → sp [.ref a] H (fun v _ => v = .bl true) fun _ _ _ => False) (hCX : ∀ H e s', CX [] H s1 (fun _ _ _ => False) e s' → False) :
    codeAny (model P w) callerA (.call (.ref fa) ⟨[.ref a], []⟩) (fun r s' => r = .ok (.ret (.bool true)) ∧ OldK s1.heap s'.heap ∧ s'.os = s1.os ∧ AllBare s'.gens) s1 := by
  have rv := vals_ints hi
  have hlen := hi.length
  obtain ⟨o1, ho1⟩ := hsm
  let H := hs0 K a vs ns o1
  have off : ∀ {b : Addr}, b ≠ sysModules → b ≠ a → H b = none := fun {b} n1 n2 => by
    cases q : H b with
    | none => rfl
    | some u =>
      rcases hs0_inv q with ⟨e, _⟩ | ⟨e, _⟩
      · exact absurd e n1
      · exact absurd e n2
  have dic : ∀ {b : Addr} {m : Str → Option Value}, b ≠ sysModules → s1.heap.Ns b m → (hidT s1.heap H).Ns b m := by
    rintro b m n1 ⟨o, es, ep, e, d, rest⟩
    refine ⟨o, es, ep, hidT_get e (off n1 ?_), d, rest⟩
    rintro rfl
    rw [ha] at e
    obtain rfl := Option.some.inj e
    cases d
  have KH : K.In (hidT s1.heap H) := by
    intro b o e
    refine hidT_get (KX b o e) ?_
    cases q : H b with
    | none => rfl
    | some u =>
      rcases hs0_inv q with ⟨rfl, _⟩ | ⟨rfl, z, _⟩
      · rw [k1] at e
        cases e
      · rw [z] at e
        cases e
  have limH : (hidT s1.heap H).NoLimit := let ⟨mc, h1, h2⟩ := lim; ⟨mc, dic (by decide) h1, h2⟩
  have M : L2.Mod K mg (hidT s1.heap H) := ⟨KH, dic (by decide) nsG, ⟨mb, dic (by decide) nsB, isB⟩, limH⟩
  have hS : SqL K H a (ns.map V.int) := by
    cases q : K.lookup a with
    | none => exact .inl (.inr ⟨scriptO vs, (if_neg na).trans (if_pos ⟨rfl, q⟩)⟩)
    | some o =>
      have e := KX a o q
      rw [ha] at e
      obtain rfl := Option.some.inj e
      exact .inr ⟨_, vs.toArray, _, q, rfl, rfl, rfl, by rw [List.size_toArray, hlen]; exact hl, by simpa using rv⟩
  have hok : HOk P w H s1.heap := by
    intro b u q
    rcases hs0_inv q with ⟨rfl, rfl⟩ | ⟨rfl, _, rfl⟩
    · exact ⟨ho1, ⟨_, ho1⟩, ⟨_, ho1⟩, fun h1 h2 ⟨o, z⟩ k => ⟨o, k _ z⟩⟩
    · exact ⟨ha, by rw [List.length_map]; exact hl, vs, _, rv, ha⟩
  have e0 : Env0 P w K mg (hidT s1.heap H) callerA [] s1 H :=
    ⟨rfl, M, fun b o e => of_hidT e, Nat.le_of_eq (hidT_size _ _), trivial, (fun b hb => by cases (show b ∈ ([] : List Addr) from hb)), hok, .of_eq gens⟩
  refine codeAny_mono ((F _ KH (dic (by decide) nsG)).go callerA [] s1 H ⟨[.ref a], []⟩ [.ref a] [.ref a] (fun v _ => v = .bl true) (fun _ _ _ => False) rfl hr e0 (hbind s1 (.ref a)) (.cons rfl .nil) (hsp H ⟨o1, if_pos rfl⟩ hS)) ?_
  intro r z h
  match r, h with
  | .ok .next, h => exact h.elim
  | .ok .brk, h => exact h.elim
  | .ok .cont, h => exact h.elim
  | .error e, h => exact (hCX H e z h).elim
  | .ok (.ret u), h =>
    obtain ⟨v, G, os, bare, un, hokG, rv', q⟩ := h
    obtain rfl : v = .bl true := q
    obtain rfl : u = Value.bool true := rv'
    have plain : ∀ b o, s1.heap.get? b = some o → z.heap.get? b = some o := by
      intro b o e
      cases q : H b with
      | none => exact un.keep b o e q (fun y => by cases (show b ∈ ([] : List Addr) from y)) (by simp)
      | some y =>
        rcases hs0_inv q with ⟨rfl, rfl⟩ | ⟨rfl, _, rfl⟩
        · obtain ⟨e2, _⟩ := hokG sysModules _ (un.frzs _ _ _ q)
          rw [ho1] at e
          exact Option.some.inj e ▸ e2
        · obtain ⟨e2, _⟩ := hokG b _ (un.frzs b _ _ q)
          rw [ha] at e
          exact Option.some.inj e ▸ e2
    exact ⟨rfl, ⟨fun b o e => .inl (plain b o e), fun b o e => ⟨o, plain b o e⟩⟩, os, bare⟩
end
/-- what is to be known of such a law -/
def GLawS (l : PySem.W.OpenLaw) (w : World) (K : PySem.W.Frag) (CX : CXT) (k n : Nat) (x : Str) (mg : Str → Option Value) (fa : Addr) : Prop :=
  ∃ (fd : FuncData) (sp : Sp), K.lookup sysModules = none ∧ (∀ (s : Shared) (u : Value), BindsTo s fd ⟨[u], []⟩ [(x, u)]) ∧
    (∀ (H : Hp) (a : Addr) (ns : List Int), ns.length ≤ n → SmAt H → SqL K H a (ns.map V.int) → sp [.ref a] H (fun v _ => v = .bl true) fun _ _ _ => False) ∧
    ∀ base : Heap, K.In base → base.Ns mainGlobals mg → GOk l.prog w K mg base CX k fa fd [x] sp
open PySem.W in
theorem walk_s {l : PySem.W.OpenLaw} {n k : Nat} {q : Program} {loose : List Str} {XP : (Str → Option Value) → Heap → Prop} {YP : World → Heap → Prop} {d : DefRec} {K : Params → PySem.W.Frag} {CX : World → CXT} {x : Str}
    (no : importsNone q = true) (hn : l.most = some n) (small : n ≤ sizeLine) (hdf : d.params.defaults = []) (hr : Room k callerA) (hY : ∀ (w : World) (h : Heap), YP w h → (K w.params).In h)
    (F : ∀ (w : World) (mg : Str → Option Value) (fa : Addr) (h : Heap), YP w h → (K w.params).In h → h.Ns mainGlobals mg → mg d.name = some (.ref fa) → GLawS l w (K w.params) (CX w) k n x mg fa)
    (hCX : ∀ (w : World) (H : Hp) (s : Shared) (e : Value) (s' : Shared), CX w [] H s (fun _ _ _ => False) e s' → False) :
    PySem.W.WalkO q loose XP YP l.row.toRowW d [] (fun f vs => PySem.call f vs) := by
  intro w s0 s1 mg mb G Y fa o pm cd doc dV kV ho hd hcd hD hmg hg args vals as pre lay rd well low
  obtain ⟨a, vs, ns, rfl, rfl, hobj, hints, hlen⟩ := Att.script_of hn pre well
  have na : a ≠ sysModules := by
    cases rd with
    | cons r1 r2 =>
      cases r1 with
      | list _ _ _ _ => exact beq_eq_false_iff_ne.mp (low a (by simp))
  have KX := hY w _ Y
  obtain ⟨fd, sp, k1, hb, hsp, hF⟩ := F w mg fa _ Y KX G.T.g hmg
  have run := law_scall KX G.T.g G.T.b G.T.builtins G.T.nolimit hg (let ⟨_, ⟨o, _, _, e, _⟩, _⟩ := (G.T.seer no).mods; ⟨o, e⟩) k1 na hobj hints (Nat.le_trans hlen small) hr hF hb (fun H a1 a2 => hsp H a ns hlen a1 a2) (fun H e s' => hCX w H s1 e s')
  refine enter_call (codeAny_mono run ?_)
  rintro r z ⟨rfl, old, os, bare⟩
  exact ⟨.inl ⟨.bool true, .bool true, [], rfl, fun _ => rfl, .bool true, Att.post_true l _, fun _ => ⟨List.Pairwise.nil, fun _ m => (nomatch m)⟩⟩, old, os, bare⟩
end Gd

set_option maxRecDepth 100000
set_option maxHeartbeats 1000000
/-! Data with dicts: what repr asks of them. -/
namespace My
open PySem PySem.Spec PyProof.Rows L2 GxR Gd TL
theorem same_new {H : Hp} {p : Addr} {o : HO} (n : H p = none) : Same H (upd H p o) := fun b u e => by rw [upd_ne (ne_of_none e n)]; exact e
theorem sameT {K : PySem.W.Frag} {H H' : Hp} {a : Addr} {xs : List V} (s : Same H H') (h : SqT K H a xs) : SqT K H' a xs := by
  rcases h with (h | ⟨o, h⟩) | h
  · exact .inl (.inl (s _ _ h))
  · exact .inl (.inr ⟨o, s _ _ h⟩)
  · exact .inr h
def keyD : Key → PyData
  | .inl i => .int i
  | .inr x => .str x
mutual
/-- v is the data d, dicts too -/
inductive Dq (K : PySem.W.Frag) (H : Hp) : V → PyData → Prop
  | non : Dq K H .non .none
  | bl (b : Bool) : Dq K H (.bl b) (.bool b)
  | int (i : Int) : Dq K H (.int i) (.int i)
  | str (z : Str) : Dq K H (.str z) (.str z)
  | lst {a : Addr} {xs : List V} {ds : List PyData} (e : SqL K H a xs) (h : DqAll K H xs ds) : Dq K H (.ref a) (.list ds)
  | tup {a : Addr} {xs : List V} {ds : List PyData} (e : SqT K H a xs) (h : DqAll K H xs ds) : Dq K H (.ref a) (.tuple ds)
  | dic {a : Addr} {kvs : List (Key × V)} {ds : List (PyData × PyData)} (e : H a = some (.dK kvs)) (h : DqKv K H kvs ds) : Dq K H (.ref a) (.dict ds)
inductive DqAll (K : PySem.W.Frag) (H : Hp) : List V → List PyData → Prop
  | nil : DqAll K H [] []
  | cons {v : V} {vs : List V} {d : PyData} {ds : List PyData} (h : Dq K H v d) (t : DqAll K H vs ds) : DqAll K H (v :: vs) (d :: ds)
inductive DqKv (K : PySem.W.Frag) (H : Hp) : List (Key × V) → List (PyData × PyData) → Prop
  | nil : DqKv K H [] []
  | cons {k : Key} {v : V} {r : List (Key × V)} {d : PyData} {ds : List (PyData × PyData)} (h : Dq K H v d) (t : DqKv K H r ds) : DqKv K H ((k, v) :: r) ((keyD k, d) :: ds)
end
mutual
theorem Dq.of {K : PySem.W.Frag} {H : Hp} : ∀ {v : V} {d : PyData}, Dp K H v d → Dq K H v d
  | _, _, .non => .non
  | _, _, .bl b => .bl b
  | _, _, .int i => .int i
  | _, _, .str z => .str z
  | _, _, .lst e h => .lst e (DqAll.of h)
  | _, _, .tup e h => .tup e (DqAll.of h)
theorem DqAll.of {K : PySem.W.Frag} {H : Hp} : ∀ {vs : List V} {ds : List PyData}, DpAll K H vs ds → DqAll K H vs ds
  | _, _, .nil => .nil
  | _, _, .cons h t => .cons (Dq.of h) (DqAll.of t)
end
mutual
theorem Dq.same {K : PySem.W.Frag} {H H' : Hp} (s : Same H H') : ∀ {v : V} {d : PyData}, Dq K H v d → Dq K H' v d
  | _, _, .non => .non
  | _, _, .bl b => .bl b
  | _, _, .int i => .int i
  | _, _, .str z => .str z
  | _, _, .lst e h => .lst (s.seq e) (DqAll.same s h)
  | _, _, .tup e h => .tup (sameT s e) (DqAll.same s h)
  | _, _, .dic e h => .dic (s _ _ e) (DqKv.same s h)
theorem DqAll.same {K : PySem.W.Frag} {H H' : Hp} (s : Same H H') : ∀ {vs : List V} {ds : List PyData}, DqAll K H vs ds → DqAll K H' vs ds
  | _, _, .nil => .nil
  | _, _, .cons h t => .cons (Dq.same s h) (DqAll.same s t)
theorem DqKv.same {K : PySem.W.Frag} {H H' : Hp} (s : Same H H') : ∀ {kvs : List (Key × V)} {ds : List (PyData × PyData)}, DqKv K H kvs ds → DqKv K H' kvs ds
  | _, _, .nil => .nil
  | _, _, .cons h t => .cons (Dq.same s h) (DqKv.same s t)
end
theorem keyD_reads {h : Heap} {k : Key} {v : Value} (e : keyIs k v = true) : Reads h v (keyD k) [] := by
  rcases keyIs_shape e with ⟨i, t, rfl, rfl⟩ | ⟨x, t, rfl, rfl⟩
  · exact .int i t
  · exact .str x t
section
variable {X : Cx} {pins : List (Addr × Obj)} {σ : L2.St} {H : Hp} {s : Shared}
theorem ne_sm {K : PySem.W.Frag} {H : Hp} {a : Addr} {xs : List V} (n : K.lookup sysModules = none) (sm : SmAt H) (h : SqL K H a xs) : a ≠ sysModules := by
  rintro rfl
  obtain ⟨o, e⟩ := sm
  rcases h with (h | ⟨u, h⟩) | ⟨u, _, _, h, _⟩
  · rw [e] at h
    cases h
  · rw [e] at h
    cases h
  · rw [n] at h
    cases h
mutual
theorem Dq.reads (n : X.K.lookup sysModules = none) (sm : SmAt H) (I : Inv X pins σ H s) : ∀ (d : PyData) (v : V) (u : Value), Dq X.K H v d → RelV v u → ∃ as, Reads s.heap u d as ∧ sysModules ∉ as
  | .none, _, _, h, r => by
    cases h
    cases r
    exact ⟨_, .none, by simp⟩
  | .bool b, _, _, h, r => by
    cases h
    cases r
    exact ⟨_, .bool b, by simp⟩
  | .int i, _, _, h, r => by
    cases h
    obtain ⟨t, rfl⟩ := r
    exact ⟨_, .int i t, by simp⟩
  | .str z, _, _, h, r => by
    cases h
    obtain ⟨t, rfl⟩ := r
    exact ⟨_, .str z t, by simp⟩
  | .list ds, _, _, h, r => by
    cases h with
    | lst hs ha =>
      cases r
      obtain ⟨its, rv, ⟨o, m, ho, hc, _, hd⟩, _⟩ := I.list hs
      obtain ⟨as, hr, no⟩ := Dq.readsAll n sm I ds _ its ha rv
      exact ⟨_, .list ho hc hd hr, fun m => (List.mem_cons.mp m).elim (ne_sm n sm hs).symm no⟩
  | .tuple ds, _, _, h, r => by
    cases h with
    | tup hs ha =>
      cases r
      obtain ⟨its, rv, ⟨o, ho, hc, m, hd⟩, _⟩ := I.tuple hs
      obtain ⟨as, hr, no⟩ := Dq.readsAll n sm I ds _ its ha rv
      exact ⟨_, .tuple ho hc hd hr, no⟩
  | .dict ds, _, _, h, r => by
    cases h with
    | dic e hk =>
      cases r
      obtain ⟨_, ne, vs, rel, o, es, ep, ho, hx, hd, _, hp, _⟩ := dk_of I.hok e
      obtain ⟨as, bs, h1, h2, n1, n2⟩ := Dq.readsKv n sm I ds _ vs es.toList hk rel hp
      refine ⟨_, .dict ho hx.1 hd h1 h2, fun m => ?_⟩
      rw [List.cons_append] at m
      rcases List.mem_cons.mp m with m | m
      · exact (beq_eq_false_iff_ne.mp ne) m.symm
      · exact (List.mem_append.mp m).elim n1 n2
theorem Dq.readsAll (n : X.K.lookup sysModules = none) (sm : SmAt H) (I : Inv X pins σ H s) : ∀ (ds : List PyData) (vs : List V) (us : List Value), DqAll X.K H vs ds → Vals vs us → ∃ as, ReadsAll s.heap us ds as ∧ sysModules ∉ as
  | [], _, _, h, r => by
    cases h
    cases r
    exact ⟨_, .nil, by simp⟩
  | d :: ds, _, _, h, r => by
    cases h with
    | cons h1 h2 =>
      cases r with
      | cons r1 r2 =>
        obtain ⟨as, q1, n1⟩ := Dq.reads n sm I d _ _ h1 r1
        obtain ⟨bs, q2, n2⟩ := Dq.readsAll n sm I ds _ _ h2 r2
        exact ⟨_, .cons q1 q2, fun m => (List.mem_append.mp m).elim n1 n2⟩
theorem Dq.readsKv (n : X.K.lookup sysModules = none) (sm : SmAt H) (I : Inv X pins σ H s) : ∀ (ds : List (PyData × PyData)) (kvs : List (Key × V)) (vs : List (Key × Value)) (es : List DictEntry), DqKv X.K H kvs ds → KV kvs vs → Pairs (mixKind X.prog X.w) es vs →
    ∃ as bs, ReadsAll s.heap (es.map (·.key)) (ds.map (·.1)) as ∧ ReadsAll s.heap (es.map (·.val)) (ds.map (·.2)) bs ∧ sysModules ∉ as ∧ sysModules ∉ bs
  | [], _, _, _, h, r, p => by
    cases h
    cases r
    cases p
    exact ⟨_, _, .nil, .nil, by simp, by simp⟩
  | (_, d) :: ds, _, _, _, h, r, p => by
    cases h with
    | cons h1 h2 =>
      cases r with
      | cons r1 r2 =>
        cases p with
        | cons p1 p2 p3 =>
          obtain ⟨as, q1, n1⟩ := Dq.reads n sm I d _ _ h1 r1.2
          obtain ⟨bs, cs, q2, q3, n2, n3⟩ := Dq.readsKv n sm I ds _ _ _ h2 r2 p3
          refine ⟨_, _, .cons (keyD_reads ?_) q2, .cons ?_ q3, by simpa using n2, fun m => (List.mem_append.mp m).elim n1 n3⟩
          · have e := r1.1
            dsimp only at e ⊢
            rw [e]
            exact p1
          · dsimp only
            rw [p2]
            exact q1
end
end
/-- repr(v), v data with dicts -/
def rReprQ (K : PySem.W.Frag) : List V → Hp → VK → Prop := fun xs H Q => ∃ v d, xs = [v] ∧ SmAt H ∧ Dq K H v d ∧ d.showable = true ∧ d.depth ≤ 100 ∧ d.shown.length ≤ sizeLine ∧ Q (.str d.shown) H
theorem call_reprQ {X : Cx} {k : Nat} (n : X.K.lookup sysModules = none) (gd : X.A.guards = some []) (hr : Room k X.A) : CallR X (.builtin "repr") (rReprQ X.K) := by
  rintro pins s σ H xs us Q I r ⟨v, d, rfl, sm, dq, hs, hdep, hsz, q⟩
  have whole : ∀ {a : Addr} {as : List Addr}, Reads s.heap (.ref a) d as → sysModules ∉ as → wpAny (model X.prog X.w) X.A (call (.builtin "repr") [.ref a]) (EP X pins σ Q) X.xe s := by
    intro a as rd no
    have hun := hr.un
    exact repr_of_reads' rd hs (fun _ => no) gd (by omega) (fun _ _ z => z) (fun h' u tk hk => ⟨.str _, H, I.kept hk, ⟨_, rfl⟩, q⟩) hsz
  cases dq with
  | non => exact call_repr gd hr pins s σ H _ us Q I r ⟨_, _, rfl, .non, hs, hdep, hsz, q⟩
  | bl b => exact call_repr gd hr pins s σ H _ us Q I r ⟨_, _, rfl, .bl b, hs, hdep, hsz, q⟩
  | int i => exact call_repr gd hr pins s σ H _ us Q I r ⟨_, _, rfl, .int i, hs, hdep, hsz, q⟩
  | str z => exact call_repr gd hr pins s σ H _ us Q I r ⟨_, _, rfl, .str z, hs, hdep, hsz, q⟩
  | lst e h =>
    obtain ⟨as, rd, no⟩ := Dq.reads n sm I _ _ us.head! (.lst e h) (by cases r with | cons a b => cases b; exact a)
    cases r with
    | cons a b => cases b; cases a; exact whole rd no
  | tup e h =>
    obtain ⟨as, rd, no⟩ := Dq.reads n sm I _ _ us.head! (.tup e h) (by cases r with | cons a b => cases b; exact a)
    cases r with
    | cons a b => cases b; cases a; exact whole rd no
  | dic e h =>
    obtain ⟨as, rd, no⟩ := Dq.reads n sm I _ _ us.head! (.dic e h) (by cases r with | cons a b => cases b; exact a)
    cases r with
    | cons a b => cases b; cases a; exact whole rd no
end My

set_option maxRecDepth 100000
set_option maxHeartbeats 1000000
/-! x in texts, x any thing -/
namespace My
open PySem PySem.Spec PyProof.Rows L2 GxR Gd TL
open PySem.SeqAt PySem.MeetsSeq in
theorem str_eq_dict (b : Str) (u : Tok) (l : Addr) (c : Value) (es : Array DictEntry) (n : Nat) (dd : Option Addr) (sl : Array (Option Value)) :
    Meets (Builtin.«str.__eq__» ⟨[.str b u, .ref l], []⟩) (fun _ R s => s.heap.get? l = some { cls := c, dict := dd, data := .dict es n, slots := sl } ∧ R (.ok (.ret .notImplemented)) s) :=
  .of_wp fun prog w A R s h => by obtain ⟨hp, g, d, tk, os⟩ := s; obtain ⟨hl, h⟩ := h; wp_walk using wpAny_loadPart hl, wpAny_load hl; exact ⟨_, rfl, h⟩
end My
namespace My
open PySem PySem.Spec PyProof.Rows L2 GxR Gd TL
open PySem.SeqAt PySem.MeetsSeq in
theorem rcAt_str_dict {A : Around} {s : Shared} {l : Addr} {o : Obj} {es : Array DictEntry} {n : Nat} (b : Str) (u : Tok) (ho : s.heap.get? l = some o) (hc : o.cls = .type "dict") (hd : o.data = .dict es n) (hu : A.units < cLine) : RcAt A s (.str b u) (.ref l) false := fun prog w E Q h => by
  obtain ⟨cls, dd, data, sl⟩ := o
  simp only at hc hd
  subst hc hd
  have ty : s.TypeIs (.ref l) "dict" := ⟨_, ho, rfl⟩
  refine rc_eq_decline_or (k := false) (typeIs_str s b u) ty (by decide) PySem.F.sub_dict_str PySem.F.slot_str_eq PySem.F.slot_dict_eq_refl
    (fun _ hq => call_meets PySem.F.slot_str_eq (typeIs_str s b u) PySem.F.entry_str_eq (PySem.F.args_str_eq_2 _ _) (str_eq_dict b u l (.type "dict") es n dd sl) ⟨ho, hq⟩)
    (fun _ hq => ?_)
    (fun _ hq => wpAny_of_eq (rfl : isSame (.str b u) (.ref l) = pure false) hq) (.inr hu) h
  refine wpAny_call_entry PySem.F.slot_dict_eq_refl ty PySem.F.entry_dict_eq ?_ (PySem.F.args_dict_eq_2 _ _)
  show wpAny _ _ (Builtin.Dict.dictSlotArgs "__eq__" ⟨[.ref l, .str b u], []⟩ >>= _) _ _ s
  refine wpAny_bind ?_
  unfold Builtin.Dict.dictSlotArgs
  refine wpAny_bind (wpAny_notOrdered_dict ty ?_)
  show wpAny _ _ (pure (Value.ref l, Value.str b u)) _ _ s
  refine wpAny_pure ?_
  refine wpAny_bind (wpAny_isInstance (T := "str") (typeIs_str s b u) PySem.F.sub_str_dict ?_)
  simp only [Bool.not_false, if_true]
  refine wpAny_bind (wpAny_rule (wpAny_pure ⟨_, rfl, hq⟩))
open PySem.SeqAt PySem.MeetsSeq in
theorem eqAt_str_dict {A : Around} {s : Shared} {l : Addr} {o : Obj} {es : Array DictEntry} {n : Nat} (b : Str) (u : Tok) (ho : s.heap.get? l = some o) (hc : o.cls = .type "dict") (hd : o.data = .dict es n) (hu : A.units < cLine) : EqAt A s (.str b u) (.ref l) false := fun prog w E Q h => by
  unfold eqBool
  refine wpAny_holding ?_
  refine wpAny_ite_split (fun hab => absurd (eq_of_beq hab) nofun) (fun _ => ?_)
  exact wpAny_bind (rcAt_str_dict b u ho hc hd hu prog w E _ (wpAny_truthy_bool h))
/-- any thing in a list of texts -/
def rInT (K : PySem.W.Frag) : R2 := fun x y H Q => ∃ (p : Addr) (zs : List Str), y = .ref p ∧ SqL K H p (zs.map V.str) ∧
  ((flatV x = true ∧ Q (.bl (inV x (zs.map V.str))) H) ∨ ((∃ a, x = .ref a ∧ ((∃ xs, SqL K H a xs) ∨ (∃ xs, SqT K H a xs) ∨ ∃ kvs, H a = some (.dK kvs))) ∧ Q (.bl false) H))
theorem any_false {α : Type} : ∀ xs : List α, (xs.any fun _ => false) = false
  | [] => rfl
  | _ :: r => by rw [List.any_cons, any_false r]; rfl
theorem op_inT {X : Cx} (hu : X.A.units + 2 < cLine) : OpR X (compareOp .In) (rInT X.K) := by
  rintro pins s σ H x y v u Q I rx ry ⟨p, zs, rfl, hp, cs⟩
  rcases cs with ⟨fx, q⟩ | ⟨⟨a, rfl, ha⟩, q⟩
  · refine op_in_seq pins s σ H x _ v u Q I rx ry ⟨p, _, rfl, .inl hp, fx, ?_, q⟩
    rw [List.all_map]
    exact List.all_eq_true.mpr fun _ _ => rfl
  · cases ry
    cases rx
    obtain ⟨its, r, pl, hz⟩ := I.list hp
    refine SeqAt.in_listAt (fun _ => false) pl.isList (fun w hw => ?_) ⟨.bl _, H, I, rfl, ?_⟩
    · obtain ⟨z, hz, rz⟩ : ∃ z : Str, z ∈ zs ∧ RelV (.str z) w := by
        have hw2 : w ∈ its := by simpa using hw
        clear pl hz hp hw
        induction zs generalizing its with
        | nil => cases r; cases hw2
        | cons z zs ih =>
          cases r with
          | cons r1 r2 =>
            rcases List.mem_cons.mp hw2 with rfl | hw
            · exact ⟨z, List.mem_cons_self, r1⟩
            · obtain ⟨z', h1, h2⟩ := ih _ r2 hw
              exact ⟨z', List.mem_cons_of_mem _ h1, h2⟩
      obtain ⟨t, rfl⟩ := rz
      have hu2 : X.A.in1.units < cLine := by show X.A.units + 1 < cLine; omega
      rcases ha with ⟨xs, h⟩ | ⟨xs, h⟩ | ⟨kvs, h⟩
      · obtain ⟨its2, _, pl2, _⟩ := I.list h
        exact SeqAt.EqAt.str_list z t pl2.isList hu2
      · obtain ⟨its2, _, pl2, _⟩ := I.tuple h
        exact SeqAt.EqAt.str_tuple z t pl2 hu2
      · obtain ⟨_, _, vs, _, o, es, ep, h1, h2, h3, _⟩ := dk_of I.hok h
        exact eqAt_str_dict z t h1 h2.1 h3 hu2
    · rw [← Array.any_toList, any_false]
      exact q
def rInTt (K : PySem.W.Frag) : R2 := fun x y H Q => ∃ (p : Addr) (zs : List Str), y = .ref p ∧ SqT K H p (zs.map V.str) ∧
  ((flatV x = true ∧ Q (.bl (inV x (zs.map V.str))) H) ∨ ((∃ a, x = .ref a ∧ ((∃ xs, SqL K H a xs) ∨ (∃ xs, SqT K H a xs) ∨ ∃ kvs, H a = some (.dK kvs))) ∧ Q (.bl false) H))
theorem op_inTt {X : Cx} (hu : X.A.units + 2 < cLine) : OpR X (compareOp .In) (rInTt X.K) := by
  rintro pins s σ H x y v u Q I rx ry ⟨p, zs, rfl, hp, cs⟩
  rcases cs with ⟨fx, q⟩ | ⟨⟨a, rfl, ha⟩, q⟩
  · refine op_in_seq pins s σ H x _ v u Q I rx ry ⟨p, _, rfl, .inr hp, fx, ?_, q⟩
    rw [List.all_map]
    exact List.all_eq_true.mpr fun _ _ => rfl
  · cases ry
    cases rx
    obtain ⟨its, r, pl, hz⟩ := I.tuple hp
    refine SeqAt.in_tupleAt (fun _ => false) pl (fun w hw => ?_) ⟨.bl _, H, I, rfl, ?_⟩
    · obtain ⟨z, hz, rz⟩ : ∃ z : Str, z ∈ zs ∧ RelV (.str z) w := by
        have hw2 : w ∈ its := by simpa using hw
        clear pl hz hp hw
        induction zs generalizing its with
        | nil => cases r; cases hw2
        | cons z zs ih =>
          cases r with
          | cons r1 r2 =>
            rcases List.mem_cons.mp hw2 with rfl | hw
            · exact ⟨z, List.mem_cons_self, r1⟩
            · obtain ⟨z', h1, h2⟩ := ih _ r2 hw
              exact ⟨z', List.mem_cons_of_mem _ h1, h2⟩
      obtain ⟨t, rfl⟩ := rz
      have hu2 : X.A.in1.units < cLine := by show X.A.units + 1 < cLine; omega
      rcases ha with ⟨xs, h⟩ | ⟨xs, h⟩ | ⟨kvs, h⟩
      · obtain ⟨its2, _, pl2, _⟩ := I.list h
        exact SeqAt.EqAt.str_list z t pl2.isList hu2
      · obtain ⟨its2, _, pl2, _⟩ := I.tuple h
        exact SeqAt.EqAt.str_tuple z t pl2 hu2
      · obtain ⟨_, _, vs, _, o, es, ep, h1, h2, h3, _⟩ := dk_of I.hok h
        exact eqAt_str_dict z t h1 h2.1 h3 hu2
    · rw [← Array.any_toList, any_false]
      exact q
end My

set_option maxRecDepth 100000
set_option maxHeartbeats 400000
/-! small data: what repr asks of them -/
namespace My
open PySem PySem.Spec PyProof.Rows L2 GxR Gd TL
structure Sm (d : PyData) (k m : Nat) : Prop where
  lay : d.canLay0 = true
  dep : d.depth ≤ k
  wt : d.weight ≤ m
  ish : d.intsShort 13 = true
  sh : d.showable = true
theorem Sm.rep {d : PyData} {k m : Nat} (h : Sm d k m) (hk : k ≤ 64) (hm : m ≤ 2 ^ 20) : d.showable = true ∧ d.depth ≤ 100 ∧ d.shown.length ≤ sizeLine := by
  refine ⟨h.sh, Nat.le_trans h.dep (by omega), Nat.le_trans (shown_le13 ?_ h.ish) (by rw [sizeLine_eq]; decide)⟩
  unfold PyData.layable0
  rw [Bool.and_eq_true, Bool.and_eq_true, decide_eq_true_eq, decide_eq_true_eq]
  exact ⟨⟨h.lay, Nat.le_trans h.dep hk⟩, Nat.le_trans h.wt hm⟩
theorem Sm.mono {d : PyData} {k m k' m' : Nat} (h : Sm d k m) (hk : k ≤ k') (hm : m ≤ m') : Sm d k' m' := ⟨h.lay, Nat.le_trans h.dep hk, Nat.le_trans h.wt hm, h.ish, h.sh⟩
theorem sm_none : Sm .none 0 0 := ⟨rfl, Nat.le_refl 0, Nat.le_refl 0, rfl, rfl⟩
theorem sm_bool (b : Bool) : Sm (.bool b) 0 0 := ⟨rfl, Nat.le_refl 0, Nat.le_refl 0, rfl, rfl⟩
theorem sm_int {i : Int} (h : i.natAbs ≤ 1000) : Sm (.int i) 0 20 := by
  have hl : i.natAbs.log2 ≤ 10 := by
    by_cases z : i.natAbs = 0
    · rw [z]; decide
    · have : i.natAbs.log2 < 11 := (Nat.log2_lt z).mpr (by omega)
      omega
  refine ⟨rfl, Nat.le_refl 0, ?_, ?_, ?_⟩
  · unfold PyData.weight
    split
    · omega
    · omega
  · exact intsShort_of_noneOrIn (lo := -2000) (hi := 2000) (by decide) (by decide) (.int i) (by simp [noneOrIn]; omega)
  · unfold PyData.showable
    rw [decide_eq_true_eq]
    omega
theorem sm_str {z : Str} (g : Good z) (h : z.length ≤ 6) : Sm (.str z) 0 6 := by
  refine ⟨?_, Nat.le_refl 0, h, rfl, rfl⟩
  unfold PyData.canLay0
  unfold PyData.strOk
  rw [Array.all_eq_true_iff_forall_mem]
  intro c hc
  exact decide_eq_true (g c (Array.mem_toList_iff.mpr hc))
theorem sm_all {k m : Nat} : ∀ {ds : List PyData}, (∀ d ∈ ds, Sm d k m) → PyData.canLayAll0 ds = true ∧ PyData.depthAll ds ≤ k ∧ PyData.weightAll ds ≤ ds.length * (m + 1) ∧ PyData.intsShortAll 13 ds = true ∧ PyData.showableAll ds = true
  | [], _ => ⟨rfl, Nat.zero_le _, Nat.zero_le _, rfl, rfl⟩
  | d :: r, h => by
    obtain ⟨a1, a2, a3, a4, a5⟩ := sm_all (ds := r) fun x hx => h x (List.mem_cons_of_mem _ hx)
    have b := h d List.mem_cons_self
    refine ⟨?_, ?_, ?_, ?_, ?_⟩
    · unfold PyData.canLayAll0; rw [b.lay, a1]; rfl
    · unfold PyData.depthAll; exact Nat.max_le.mpr ⟨b.dep, a2⟩
    · unfold PyData.weightAll
      have := b.wt
      rw [List.length_cons, Nat.succ_mul]
      omega
    · unfold PyData.intsShortAll; rw [b.ish, a4]; rfl
    · unfold PyData.showableAll; rw [b.sh, a5]; rfl
theorem sm_list {k m : Nat} {ds : List PyData} (h : ∀ d ∈ ds, Sm d k m) : Sm (.list ds) (k + 1) (ds.length * (m + 1)) := by
  obtain ⟨a1, a2, a3, a4, a5⟩ := sm_all h
  exact ⟨by unfold PyData.canLay0; exact a1, by unfold PyData.depth; omega, by unfold PyData.weight; exact a3, by unfold PyData.intsShort; exact a4, by unfold PyData.showable; exact a5⟩
theorem sm_tuple {k m : Nat} {ds : List PyData} (h : ∀ d ∈ ds, Sm d k m) : Sm (.tuple ds) (k + 1) (ds.length * (m + 1)) := by
  obtain ⟨a1, a2, a3, a4, a5⟩ := sm_all h
  exact ⟨by unfold PyData.canLay0; exact a1, by unfold PyData.depth; omega, by unfold PyData.weight; exact a3, by unfold PyData.intsShort; exact a4, by unfold PyData.showable; exact a5⟩
theorem sm_dP {p : Str × Int} (g : Good p.1) (h : p.1.length ≤ 6) (hr : p.2.natAbs ≤ 1000) : Sm (dP p) 1 42 :=
  sm_tuple (k := 0) (m := 20) (ds := [.str p.1, .int p.2]) fun d hd => by
    simp only [List.mem_cons, List.not_mem_nil, or_false] at hd
    rcases hd with rfl | rfl
    · exact (sm_str g h).mono (Nat.le_refl 0) (by decide)
    · exact sm_int hr
theorem sm_names {a b : Str} (ha : NameOk a) (hb : NameOk b) : Sm (.tuple [.str a, .str b]) 1 14 :=
  sm_tuple (k := 0) (m := 6) (ds := [.str a, .str b]) fun d hd => by
    simp only [List.mem_cons, List.not_mem_nil, or_false] at hd
    rcases hd with rfl | rfl
    · exact sm_str ha.good ha.2.1
    · exact sm_str hb.good hb.2.1
end My

set_option maxRecDepth 100000
set_option maxHeartbeats 400000
/-! data with longer texts and numbers: what repr asks of them -/
namespace My
open PySem PySem.Spec PyProof.Rows L2 GxR Gd TL
structure Sb (d : PyData) (k m : Nat) : Prop where
  lv : d.leavesShort 40 = true
  dep : d.depth ≤ k
  wt : d.weight ≤ m
  sh : d.showable = true
theorem Sb.rep {d : PyData} {k m : Nat} (h : Sb d k m) (hk : k ≤ 100) (hm : m ≤ 390000) : d.showable = true ∧ d.depth ≤ 100 ∧ d.shown.length ≤ sizeLine := by
  refine ⟨h.sh, Nat.le_trans h.dep hk, ?_⟩
  have h1 := PyData.shown_le 40 (by decide) d h.lv
  have h2 := h.wt
  refine Nat.le_trans h1 (Nat.le_trans (m := 42 * 390000 + 40) (by omega) (by rw [sizeLine_eq]; decide))
theorem Sb.mono {d : PyData} {k m k' m' : Nat} (h : Sb d k m) (hk : k ≤ k') (hm : m ≤ m') : Sb d k' m' := ⟨h.lv, Nat.le_trans h.dep hk, Nat.le_trans h.wt hm, h.sh⟩
theorem sb_none : Sb .none 0 0 := ⟨rfl, Nat.le_refl 0, Nat.le_refl 0, rfl⟩
theorem sb_bool (b : Bool) : Sb (.bool b) 0 0 := ⟨rfl, Nat.le_refl 0, Nat.le_refl 0, rfl⟩
theorem text_int {i : Int} (h : i.natAbs < 10 ^ 31) : (Str.ofString (toString i)).length ≤ 32 := by
  have e := int_text_length_le10 (k := 31) (by decide) h
  rw [PySem.ofString_length]
  exact e
theorem sb_int {i : Int} (h : i.natAbs < 10 ^ 31) : Sb (.int i) 0 110 := by
  have hl : i.natAbs.log2 ≤ 109 := by
    by_cases z : i.natAbs = 0
    · rw [z]; decide
    · have : i.natAbs.log2 < 110 := (Nat.log2_lt z).mpr (Nat.lt_of_lt_of_le h (by decide))
      omega
  refine ⟨?_, Nat.le_refl 0, ?_, ?_⟩
  · unfold PyData.leavesShort
    rw [decide_eq_true_eq]
    exact Nat.le_trans (text_int h) (by decide)
  · unfold PyData.weight
    split <;> omega
  · unfold PyData.showable
    rw [decide_eq_true_eq]
    omega
theorem sb_str {z : Str} {m : Nat} (g : Good z) (h : z.length ≤ m) : Sb (.str z) 0 m := by
  refine ⟨?_, Nat.le_refl 0, h, rfl⟩
  unfold PyData.leavesShort
  rw [List.all_eq_true]
  intro c hc
  have := g c hc
  rw [decide_eq_true_eq]
  exact Nat.lt_trans this (by decide)
theorem sb_all {k m : Nat} : ∀ {ds : List PyData}, (∀ d ∈ ds, Sb d k m) → PyData.leavesShortAll 40 ds = true ∧ PyData.depthAll ds ≤ k ∧ PyData.weightAll ds ≤ ds.length * (m + 1) ∧ PyData.showableAll ds = true
  | [], _ => ⟨rfl, Nat.zero_le _, Nat.zero_le _, rfl⟩
  | d :: r, h => by
    obtain ⟨a1, a2, a3, a4⟩ := sb_all (ds := r) fun x hx => h x (List.mem_cons_of_mem _ hx)
    have b := h d List.mem_cons_self
    refine ⟨?_, ?_, ?_, ?_⟩
    · unfold PyData.leavesShortAll; rw [b.lv, a1]; rfl
    · unfold PyData.depthAll; exact Nat.max_le.mpr ⟨b.dep, a2⟩
    · unfold PyData.weightAll
      have := b.wt
      rw [List.length_cons, Nat.succ_mul]
      omega
    · unfold PyData.showableAll; rw [b.sh, a4]; rfl
theorem sb_list {k m : Nat} {ds : List PyData} (h : ∀ d ∈ ds, Sb d k m) : Sb (.list ds) (k + 1) (ds.length * (m + 1)) := by
  obtain ⟨a1, a2, a3, a4⟩ := sb_all h
  exact ⟨by unfold PyData.leavesShort; exact a1, by unfold PyData.depth; omega, by unfold PyData.weight; exact a3, by unfold PyData.showable; exact a4⟩
theorem sb_tuple {k m : Nat} {ds : List PyData} (h : ∀ d ∈ ds, Sb d k m) : Sb (.tuple ds) (k + 1) (ds.length * (m + 1)) := by
  obtain ⟨a1, a2, a3, a4⟩ := sb_all h
  exact ⟨by unfold PyData.leavesShort; exact a1, by unfold PyData.depth; omega, by unfold PyData.weight; exact a3, by unfold PyData.showable; exact a4⟩
theorem good_int (i : Int) : Good (Str.ofString (toString i)) := good_of _
end My

set_option maxRecDepth 100000
set_option maxHeartbeats 1000000
/-! A text == any thing. -/
namespace My
open PySem PySem.Spec PyProof.Rows L2 GxR Gd TL
def rEqSA (K : PySem.W.Frag) : R2 := fun x y H Q => ∃ z : Str, x = .str z ∧ Th H y ∧ Q (.bl (decide (V.str z = y))) H
theorem op_eqSA {X : Cx} (hu : X.A.units < cLine) : OpR X (compareOp .Eq) (rEqSA X.K) := by
  rintro pins s σ H x y v u Q I rx ry ⟨z, rfl, th, q⟩
  have no : ∀ {d : Bool}, d = false → Q (.bl d) H → EP X pins σ Q (.bool false) s := fun e q => ⟨.bl false, H, I, rfl, e ▸ q⟩
  obtain ⟨t, rfl⟩ := id rx
  cases th with
  | non => exact op_eq pins s σ H _ _ _ u Q I rx ry ⟨rfl, q⟩
  | bl b => exact op_eq pins s σ H _ _ _ u Q I rx ry ⟨rfl, q⟩
  | int i => exact op_eq pins s σ H _ _ _ u Q I rx ry ⟨rfl, q⟩
  | str y _ _ => exact op_eq pins s σ H _ _ _ u Q I rx ry ⟨rfl, q⟩
  | lst a xs h =>
    cases ry
    obtain ⟨its2, _, pl2, _⟩ := I.list (SqL.of h)
    exact SeqAt.RcAt.str_list z t pl2.isList hu _ _ _ _ (no (decide_eq_false (by simp)) q)
  | tup a xs h =>
    cases ry
    obtain ⟨its2, _, pl2, _⟩ := I.tuple (SqT.of h)
    exact SeqAt.RcAt.str_tuple z t pl2 hu _ _ _ _ (no (decide_eq_false (by simp)) q)
  | dic a h =>
    cases ry
    obtain ⟨_, _, vs, _, o, es, ep, h1, h2, h3, _⟩ := dk_of I.hok h
    exact rcAt_str_dict z t h1 h2.1 h3 hu _ _ _ _ (no (decide_eq_false (by simp)) q)
theorem eqSAK {X : Cx} {K : PySem.W.Frag} (h : X.K = K) (hu : X.A.units < cLine) : OpR X (compareOp .Eq) (rEqSA K) := h ▸ op_eqSA hu
end My

set_option maxRecDepth 100000
set_option maxHeartbeats 800000
namespace My
open PySem PySem.Spec PyProof.Rows L2 GxR Gd TL
/-! ### several tables -/
def Tabs (T : List Addr) (H : Hp) : Prop := ∀ p ∈ T, TabG H p
/-- H' is H with more, but for the tables -/
structure KM (T : List Addr) (H H' : Hp) : Prop where
  keep : ∀ c o, c ∉ T → H c = some o → H' c = some o
  tab : Tabs T H'
theorem KM.refl {T : List Addr} {H : Hp} (t : Tabs T H) : KM T H H := ⟨fun _ _ _ h => h, t⟩
theorem KM.trans {T : List Addr} {H H1 H2 : Hp} (a : KM T H H1) (b : KM T H1 H2) : KM T H H2 := ⟨fun c o n h => b.keep c o n (a.keep c o n h), b.tab⟩
theorem tabs_same {T : List Addr} {H H' : Hp} (t : Tabs T H) (s : Same H H') : Tabs T H' := fun p hp => by
  obtain ⟨ps, e, q⟩ := t p hp
  exact ⟨ps, s _ _ e, q⟩
theorem KM.same {T : List Addr} {H H' : Hp} (t : Tabs T H) (s : Same H H') : KM T H H' := ⟨fun c o _ h => s c o h, tabs_same t s⟩
theorem KM.kt {T : List Addr} {p : Addr} {H H' : Hp} (t : Tabs T H) (hp : p ∈ T) (k : KT p H H') : KM T H H' := by
  refine ⟨fun c o n h => k.keep c o (fun e => n (e ▸ hp)) h, fun q hq => ?_⟩
  by_cases e : q = p
  · rw [e]; exact k.tab
  · obtain ⟨ps, e1, r⟩ := t q hq
    exact ⟨ps, k.keep _ _ e e1, r⟩
theorem KM.tabbed {T : List Addr} {p : Addr} {H H' : Hp} (t : Tabs T H) (hp : p ∈ T) (k : Tabbed p H H') : KM T H H' := KM.kt t hp (KT.of k)
theorem tabs_ne {T : List Addr} {H : Hp} {c : Addr} {o : HO} (t : Tabs T H) (h : H c = some o) (n : ∀ ps, o ≠ .tbl ps) : c ∉ T := fun hm => by
  obtain ⟨ps, e, _⟩ := t c hm
  rw [h] at e
  exact n ps (Option.some.inj e)
theorem KM.nt {T : List Addr} {H H' : Hp} (t : Tabs T H) (k : KM T H H') : Nt H H' := fun c o n h => k.keep c o (tabs_ne t h n) h
theorem KM.alloc {T : List Addr} {H : Hp} {a : Addr} {o : HO} (t : Tabs T H) (h : H a = none) : KM T H (upd H a o) := KM.same t fun c u e => by rw [upd_ne (ne_of_none e h)]; exact e
theorem KM.put {T : List Addr} {L : Addr} {H H' : Hp} {o : HO} (t : Tabs T H) (k : KM T H H') (n : H L = none) : KM T H (upd H' L o) := by
  have nL : L ∉ T := fun hm => by
    obtain ⟨ps, e, _⟩ := t L hm
    rw [n] at e; cases e
  refine ⟨fun c u q h => ?_, fun p hp => ?_⟩
  · rw [upd_ne (fun e => by rw [e, n] at h; cases h)]
    exact k.keep c u q h
  · obtain ⟨ps, e, r⟩ := k.tab p hp
    exact ⟨ps, by rw [upd_ne (fun z : p = L => nL (by rw [← z]; exact hp))]; exact e, r⟩
theorem KM.none {T : List Addr} {H H' : Hp} {c : Addr} (k : KM T H H') (hc : c ∉ T) (h : H' c = none) : H c = none := by
  cases e : H c with
  | none => rfl
  | some o => rw [k.keep c o hc e] at h; cases h
theorem KM.lst {T : List Addr} {H H' : Hp} {c : Addr} {xs : List V} (t : Tabs T H) (k : KM T H H') (h : H c = some (.lst xs)) : H' c = some (.lst xs) := KM.nt t k _ _ (by simp) h
theorem KM.fresh {T : List Addr} {H H' : Hp} {c : Addr} (k : KM T H H') (h : H' c = Option.none) : H c = Option.none := by
  refine k.none (fun hm => ?_) h
  obtain ⟨ps, e, _⟩ := k.tab c hm
  rw [h] at e
  cases e
/-- H' is H with more, but for the tables and the box -/
structure KX (T : List Addr) (b : Addr) (H H' : Hp) : Prop where
  keep : ∀ c o, c ∉ T → c ≠ b → H c = some o → H' c = some o
  tab : Tabs T H'
theorem KX.refl {T : List Addr} {b : Addr} {H : Hp} (t : Tabs T H) : KX T b H H := ⟨fun _ _ _ _ h => h, t⟩
theorem KX.trans {T : List Addr} {b : Addr} {H H1 H2 : Hp} (a : KX T b H H1) (c : KX T b H1 H2) : KX T b H H2 := ⟨fun x o n m h => c.keep x o n m (a.keep x o n m h), c.tab⟩
theorem KX.km {T : List Addr} {b : Addr} {H H' : Hp} (k : KM T H H') : KX T b H H' := ⟨fun x o n _ h => k.keep x o n h, k.tab⟩
theorem KX.kb {T : List Addr} {b : Addr} {n : Int} {H H' : Hp} (t : Tabs T H) (B : Bx b n H) (k : KB b H H') : KX T b H H' := by
  refine ⟨fun c o _ nb h => k c o nb h, fun p hp => ?_⟩
  obtain ⟨ps, e, r⟩ := t p hp
  refine ⟨ps, k _ _ (fun z => ?_) e, r⟩
  subst z
  obtain ⟨x, y, z, h1, _⟩ := B
  rw [e] at h1; cases h1
theorem KX.at {T : List Addr} {b : Addr} {H H' : Hp} (t : Tabs T H) (k : KX T b H H') {c : Addr} {o : HO} (h : H c = some o) (n : ∀ ps, o ≠ .tbl ps) (nb : c ≠ b) : H' c = some o := k.keep c o (tabs_ne t h n) nb h
theorem Bx.ne {b c : Addr} {n : Int} {H : Hp} {o : HO} (B : Bx b n H) (h : H c = some o) (no : ∀ xs, o ≠ .lst xs) : c ≠ b := fun z => by
  subst z
  obtain ⟨x, y, z, h1, _⟩ := B
  rw [h] at h1
  exact no _ (Option.some.inj h1)
theorem Bx.km {T : List Addr} {b : Addr} {n : Int} {H H' : Hp} (t : Tabs T H) (k : KM T H H') (B : Bx b n H) : Bx b n H' := by
  obtain ⟨x, y, z, h1, r⟩ := B
  exact ⟨x, y, z, KM.nt t k _ _ (by simp) h1, r⟩
theorem KX.tup {T : List Addr} {b c : Addr} {n : Int} {H H' : Hp} {xs : List V} (t : Tabs T H) (k : KX T b H H') (B : Bx b n H) (h : H c = some (.tup xs)) : H' c = some (.tup xs) := k.at t h (by simp) (B.ne h (by simp))
theorem KX.sm {T : List Addr} {b : Addr} {n : Int} {H H' : Hp} (t : Tabs T H) (k : KX T b H H') (B : Bx b n H) (s : SmAt H) : SmAt H' := by
  obtain ⟨o, e⟩ := s
  exact ⟨o, k.at t e (by simp) (B.ne e (by simp))⟩
theorem KX.put {T : List Addr} {b : Addr} {H H' : Hp} {c : Addr} {o : HO} (t : Tabs T H) (k : KX T b H H') (h : H c = none) : KX T b H (upd H' c o) := by
  have nT : c ∉ T := fun hm => by
    obtain ⟨ps, e, _⟩ := t c hm
    rw [h] at e; cases e
  refine ⟨fun x u n m e => ?_, fun p hp => ?_⟩
  · rw [upd_ne (fun z => by rw [z, h] at e; cases e)]
    exact k.keep x u n m e
  · obtain ⟨ps, e, r⟩ := k.tab p hp
    exact ⟨ps, by rw [upd_ne (fun z : p = c => nT (by rw [← z]; exact hp))]; exact e, r⟩
theorem KX.fresh {T : List Addr} {b c : Addr} {n : Int} {H H' : Hp} (k : KX T b H H') (B : Bx b n H') (h : H' c = Option.none) : H c = Option.none := by
  cases e : H c with
  | none => rfl
  | some o =>
    have nT : c ∉ T := fun hm => by
      obtain ⟨ps, q, _⟩ := k.tab c hm
      rw [h] at q; cases q
    have nb : c ≠ b := B.fresh h
    rw [k.keep c o nT nb e] at h
    cases h
end My

set_option maxRecDepth 100000
set_option maxHeartbeats 1600000
namespace T9
open PySem PySem.Spec PyProof.Rows L2 GxR Gd TL My
/-! ### what is due -/
def seqOf (H : Hp) : V → Option (List V)
  | .ref a => match H a with
    | some (.lst xs) => some xs
    | some (.tup xs) => some xs
    | _ => none
  | _ => none
def tupOf (H : Hp) : V → Option (List V)
  | .ref a => match H a with
    | some (.tup xs) => some xs
    | _ => none
  | _ => none
theorem tup_some {H : Hp} {v : V} {xs : List V} (h : tupOf H v = some xs) : ∃ a, v = .ref a ∧ H a = some (.tup xs) := by
  unfold tupOf at h
  split at h
  · split at h
    · rename_i e
      exact ⟨_, rfl, by rw [e, Option.some.inj h]⟩
    · cases h
  · cases h
theorem seq_some {H : Hp} {v : V} {xs : List V} (h : seqOf H v = some xs) : ∃ a, v = .ref a ∧ (H a = some (.lst xs) ∨ H a = some (.tup xs)) := by
  unfold seqOf at h
  split at h
  · split at h
    · rename_i e
      exact ⟨_, rfl, .inl (by rw [e, Option.some.inj h])⟩
    · rename_i e
      exact ⟨_, rfl, .inr (by rw [e, Option.some.inj h])⟩
    · cases h
  · cases h
theorem seq_lst {H : Hp} {a : Addr} {xs : List V} (h : H a = some (.lst xs)) : seqOf H (.ref a) = some xs := by
  show (match H a with | some (.lst xs) => some xs | some (.tup xs) => some xs | _ => none) = _
  rw [h]
theorem seq_tup {H : Hp} {a : Addr} {xs : List V} (h : H a = some (.tup xs)) : seqOf H (.ref a) = some xs := by
  show (match H a with | some (.lst xs) => some xs | some (.tup xs) => some xs | _ => none) = _
  rw [h]
theorem tup_tup {H : Hp} {a : Addr} {xs : List V} (h : H a = some (.tup xs)) : tupOf H (.ref a) = some xs := by
  show (match H a with | some (.tup xs) => some xs | _ => none) = _
  rw [h]
theorem tup_lst {H : Hp} {a : Addr} {xs : List V} (h : H a = some (.lst xs)) : tupOf H (.ref a) = none := by
  show (match H a with | some (.tup xs) => some xs | _ => none) = _
  rw [h]
theorem tup_dic {H : Hp} {a : Addr} {xs : List (Key × V)} (h : H a = some (.dK xs)) : tupOf H (.ref a) = none := by
  show (match H a with | some (.tup xs) => some xs | _ => none) = _
  rw [h]
theorem seq_dic {H : Hp} {a : Addr} {xs : List (Key × V)} (h : H a = some (.dK xs)) : seqOf H (.ref a) = none := by
  show (match H a with | some (.lst xs) => some xs | some (.tup xs) => some xs | _ => none) = _
  rw [h]
theorem tup_nt {H H' : Hp} (e : Nt H H') {v : V} (th : Th H v) : tupOf H' v = tupOf H v := by
  cases th with
  | non => rfl
  | bl b => rfl
  | int i => rfl
  | str z h g => rfl
  | lst a xs h => rw [tup_lst h, tup_lst (e _ _ (by simp) h)]
  | tup a xs h => rw [tup_tup h, tup_tup (e _ _ (by simp) h)]
  | dic a h => rw [tup_dic h, tup_dic (e _ _ (by simp) h)]
theorem seq_nt {H H' : Hp} (e : Nt H H') {v : V} (th : Th H v) : seqOf H' v = seqOf H v := by
  cases th with
  | non => rfl
  | bl b => rfl
  | int i => rfl
  | str z h g => rfl
  | lst a xs h => rw [seq_lst h, seq_lst (e _ _ (by simp) h)]
  | tup a xs h => rw [seq_tup h, seq_tup (e _ _ (by simp) h)]
  | dic a h => rw [seq_dic h, seq_dic (e _ _ (by simp) h)]
theorem th_nt {H H' : Hp} (e : Nt H H') {v : V} (th : Th H v) : Th H' v := by
  cases th with
  | non => exact .non
  | bl b => exact .bl b
  | int i => exact .int i
  | str z h g => exact .str z h g
  | lst a xs h => exact .lst a xs (e _ _ (by simp) h)
  | tup a xs h => exact .tup a xs (e _ _ (by simp) h)
  | dic a h => exact .dic a (e _ _ (by simp) h)
inductive Tag
  | trains | name | twice | place | full | ends
def Tag.s : Tag → String
  | .trains => "trains"
  | .name => "name"
  | .twice => "twice"
  | .place => "place"
  | .full => "full"
  | .ends => "ends"
abbrev Due := Option (Tag × V)
def isl (H : Hp) (lo hi : Int) (v : V) : Bool := match seqOf H v with
  | some xs => decide (lo ≤ (xs.length : Int)) && decide ((xs.length : Int) ≤ hi)
  | none => false
def ist (H : Hp) (n : Int) (v : V) : Bool := match tupOf H v with
  | some xs => decide ((xs.length : Int) = n)
  | none => false
/-- what a tuple holds -/
def Kids (H : Hp) (v : V) : Prop := ∀ xs, seqOf H v = some xs → ∀ x ∈ xs, Th H x
theorem Kids.nt {H H' : Hp} (e : Nt H H') {v : V} (th : Th H v) (k : Kids H v) : Kids H' v := fun xs hs x hx => th_nt e (k xs (by rw [← seq_nt e th]; exact hs) x hx)
theorem seq_of_tup {H : Hp} {v : V} {xs : List V} (h : tupOf H v = some xs) : seqOf H v = some xs := by
  obtain ⟨a, rfl, e⟩ := tup_some h
  exact seq_tup e
theorem ist_true {H : Hp} {n : Nat} {v : V} (h : ist H n v = true) : ∃ xs, tupOf H v = some xs ∧ xs.length = n := by
  unfold ist at h
  split at h
  · rename_i xs e
    exact ⟨xs, e, by have := of_decide_eq_true h; omega⟩
  · cases h
theorem nm_str {v : V} (h : nm v = true) : ∃ z, v = .str z ∧ NameOk z := by
  cases v with
  | str z =>
    refine ⟨z, rfl, ?_⟩
    unfold nm at h
    simp only [Bool.and_eq_true, decide_eq_true_eq] at h
    exact ⟨h.1.1, h.1.2, h.2⟩
  | _ => cases h
theorem inV_mem {z : Str} {as : List Str} : inV (.str z) (as.map V.str) = decide (V.str z ∈ as.map V.str) := by
  rw [Bool.eq_iff_iff]
  unfold inV
  rw [List.any_map, List.any_eq_true, decide_eq_true_eq, List.mem_map]
  constructor
  · rintro ⟨y, hy, e⟩
    have e' : (y == z) = true := e
    exact ⟨y, hy, by rw [eq_of_beq e']⟩
  · rintro ⟨y, hy, e⟩
    refine ⟨y, hy, ?_⟩
    rw [V.str.inj e]
    show (z == z) = true
    simp
section
variable {P : Program} {w : World} {K : PySem.W.Frag} {mg : Str → Option Value} {base : Heap}
def spIsListG : Sp := fun vs H Q _ => ∃ (v : V) (lo hi : Int), vs = [v, .int lo, .int hi] ∧ Th H v ∧ ∀ H', Same H H' → Q (.bl (isl H lo hi v)) H'
theorem ok_is_listG {f : Addr} {fd : FuncData} (F : Fun K "is_list" "is_list" s_is_list f fd) (T : Txt mg) : FnOk P w K mg base CX0 1 f fd ["thing", "low", "high"] spIsListG := by
  refine F.ok sc_is_list (fun vs H Q E h => ?_) (fun cdv A outer s H vs Q E hr h => ?_)
  · obtain ⟨v, lo, hi, rfl, _⟩ := h
    rfl
  · obtain ⟨v, lo, hi, rfl, th, k⟩ := h
    refine ⟨_, pss_one (ps_ret (pe_and (pe_callB call_isiT (by rfl) T.isinstance_ (by decide +kernel) (pa_cons (pv 0) (pa_cons (pe_tup (pa_cons (pe_bltn (v := .ty "list") (by rfl) T.list_ (by decide +kernel) rfl) (pa_cons (pe_bltn (v := .ty "tuple") (by rfl) T.tuple_ (by decide +kernel) rfl) pa_nil))) pa_nil))) (pe_one (pe_chain op_le op_le (pv 1) (pe_callB call_len_seq (by rfl) T.len_ PySem.boot_len (pa_cons (pv 0) pa_nil)) (pv 2))))), ?_⟩
    refine ⟨_, rfl, (by show 2 ≤ sizeLine; decide), fun t ht => ?_⟩
    have e := same_alloc (o := .tup [.ty "list", .ty "tuple"]) ht
    have no : isl H lo hi v = false → Q (.bl false) (upd H t (.tup [.ty "list", .ty "tuple"])) := fun h => by
      have := k _ e
      rw [h] at this
      exact this
    cases th with
    | non => exact ⟨_, t, _, _, [.type "list", .type "tuple"], false, rfl, upd_same, .cons (.ty _) (.cons (.ty _) .nil), .base .non, (by rfl), _, rfl, iteF (no rfl)⟩
    | bl b => exact ⟨_, t, _, _, [.type "list", .type "tuple"], false, rfl, upd_same, .cons (.ty _) (.cons (.ty _) .nil), .base (.bl b), (by rfl), _, rfl, iteF (no rfl)⟩
    | int i => exact ⟨_, t, _, _, [.type "list", .type "tuple"], false, rfl, upd_same, .cons (.ty _) (.cons (.ty _) .nil), .base (.int i), (by rfl), _, rfl, iteF (no rfl)⟩
    | str z h g => exact ⟨_, t, _, _, [.type "list", .type "tuple"], false, rfl, upd_same, .cons (.ty _) (.cons (.ty _) .nil), .base (.str z), (by rfl), _, rfl, iteF (no rfl)⟩
    | dic a h => exact ⟨_, t, _, _, [.type "list", .type "tuple"], false, rfl, upd_same, .cons (.ty _) (.cons (.ty _) .nil), .base (.dK (e _ _ h)), (by rfl), _, rfl, iteF (no (by unfold isl; rw [seq_dic h]))⟩
    | lst a xs h =>
      have q := k _ e
      have ei : isl H lo hi (.ref a) = (decide (lo ≤ (xs.length : Int)) && decide ((xs.length : Int) ≤ hi)) := by unfold isl; rw [seq_lst h]
      rw [ei] at q
      refine ⟨_, t, _, _, [.type "list", .type "tuple"], true, rfl, upd_same, .cons (.ty _) (.cons (.ty _) .nil), .base (.lst (e _ _ h)), (by rfl), _, rfl, iteT ?_⟩
      refine ⟨_, rfl, _, rfl, a, xs, rfl, .inl (SqL.of (e _ _ h)), _, _, rfl, rfl, _, rfl, ite2 (fun c => ?_) (fun c => ?_)⟩
      · refine ⟨_, rfl, _, _, rfl, rfl, ?_⟩
        rw [c, Bool.true_and] at q
        exact q
      · rw [show decide (lo ≤ (xs.length : Int)) = false by simpa using c, Bool.false_and] at q
        exact q
    | tup a xs h =>
      have q := k _ e
      have ei : isl H lo hi (.ref a) = (decide (lo ≤ (xs.length : Int)) && decide ((xs.length : Int) ≤ hi)) := by unfold isl; rw [seq_tup h]
      rw [ei] at q
      refine ⟨_, t, _, _, [.type "list", .type "tuple"], true, rfl, upd_same, .cons (.ty _) (.cons (.ty _) .nil), .base (.tup (e _ _ h)), (by rfl), _, rfl, iteT ?_⟩
      refine ⟨_, rfl, _, rfl, a, xs, rfl, .inr (SqT.of (e _ _ h)), _, _, rfl, rfl, _, rfl, ite2 (fun c => ?_) (fun c => ?_)⟩
      · refine ⟨_, rfl, _, _, rfl, rfl, ?_⟩
        rw [c, Bool.true_and] at q
        exact q
      · rw [show decide (lo ≤ (xs.length : Int)) = false by simpa using c, Bool.false_and] at q
        exact q
def spIsTupleG : Sp := fun vs H Q _ => ∃ (v : V) (n : Int), vs = [v, .int n] ∧ Th H v ∧ Q (.bl (ist H n v)) H
theorem ok_is_tupleG {f : Addr} {fd : FuncData} (F : Fun K "is_tuple" "is_tuple" s_is_tuple f fd) (T : Txt mg) : FnOk P w K mg base CX0 1 f fd ["thing", "many"] spIsTupleG := by
  refine F.ok sc_is_tuple (fun vs H Q E h => ?_) (fun cdv A outer s H vs Q E hr h => ?_)
  · obtain ⟨v, n, rfl, _⟩ := h
    rfl
  · obtain ⟨v, n, rfl, th, k⟩ := h
    refine ⟨_, pss_one (ps_ret (pe_and (pe_callB call_isi (by rfl) T.isinstance_ (by decide +kernel) (pa_cons (pv 0) (pa_cons (pe_bltn (v := .ty "tuple") (by rfl) T.tuple_ (by decide +kernel) rfl) pa_nil))) (pe_one (pe_cmpR op_eq (pe_callB call_len_seq (by rfl) T.len_ PySem.boot_len (pa_cons (pv 0) pa_nil)) (pv 1) (nomark _))))), ?_⟩
    have no : ist H n v = false → Q (.bl false) H := fun h => by rw [h] at k; exact k
    cases th with
    | non => exact ⟨_, rfl, _, _, _, _, false, rfl, .ty "tuple", .base .non, (by rfl), _, rfl, iteF (no rfl)⟩
    | bl b => exact ⟨_, rfl, _, _, _, _, false, rfl, .ty "tuple", .base (.bl b), (by rfl), _, rfl, iteF (no rfl)⟩
    | int i => exact ⟨_, rfl, _, _, _, _, false, rfl, .ty "tuple", .base (.int i), (by rfl), _, rfl, iteF (no rfl)⟩
    | str z h g => exact ⟨_, rfl, _, _, _, _, false, rfl, .ty "tuple", .base (.str z), (by rfl), _, rfl, iteF (no rfl)⟩
    | dic a h => exact ⟨_, rfl, _, _, _, _, false, rfl, .ty "tuple", .base (.dK h), (by rfl), _, rfl, iteF (no (by unfold ist; rw [tup_dic h]))⟩
    | lst a xs h => exact ⟨_, rfl, _, _, _, _, false, rfl, .ty "tuple", .base (.lst h), (by rfl), _, rfl, iteF (no (by unfold ist; rw [tup_lst h]))⟩
    | tup a xs h =>
      have ei : ist H n (.ref a) = decide ((xs.length : Int) = n) := by unfold ist; rw [tup_tup h]
      rw [ei] at k
      refine ⟨_, rfl, _, _, _, _, true, rfl, .ty "tuple", .base (.tup h), (by rfl), _, rfl, iteT ?_⟩
      refine ⟨_, rfl, a, xs, rfl, .inr (SqT.of h), _, rfl, rfl, ?_⟩
      have e : decide (V.int (xs.length : Int) = V.int n) = decide ((xs.length : Int) = n) := by simp
      show Q (.bl (decide (V.int (xs.length : Int) = V.int n))) H
      rw [e]
      exact k
/-- what is wished of a check: nothing, or the refusal that is due -/
def Wish (cl : Tag → Addr) (J : Hp → Prop) (d : Due) (Q : VK) (E : XK) : Prop := match d with
  | none => ∀ H', J H' → Q .non H'
  | some (t, u) => ∀ H' e, J H' → H' e = none → E (.ref (cl t)) (some e) (upd H' e (.xd [("found", u)]))
/-- is_name, several tables told -/
def spNameM (T : List Addr) : Sp := fun vs H Q _ => ∃ (v : V), vs = [v] ∧ Th H v ∧ Tabs T H ∧ ∀ H', KM T H H' → Q (.bl (nm v)) H'
theorem nameM {T0 : List Addr} {Pt f : Addr} {fd : FuncData} (hp : Pt ∈ T0) (F : FnOk P w K mg base CX0 2 f fd ["thing"] (spName Pt)) : FnOk P w K mg base CX0 2 f fd ["thing"] (spNameM T0) :=
  F.imp fun vs H Q E h => by
    obtain ⟨v, rfl, th, tb, k⟩ := h
    exact ⟨v, rfl, th, tb Pt hp, fun H' kt => k H' (KM.kt tb hp kt)⟩
end
end T9

set_option maxRecDepth 100000
set_option maxHeartbeats 400000
/-! Names wiped behind a comprehension. -/
namespace My
open PySem PySem.Spec PyProof.Rows L2 GxR Gd TL
theorem wipe_set_out {σ : L2.St} {i : Nat} {x : Option V} : ∀ {vs : List Nat}, i ∉ vs → wipe (σ.set i x) vs = (wipe σ vs).set i x
  | [], _ => rfl
  | v :: vs, h => by
    simp only [List.mem_cons, not_or] at h
    show (wipe (σ.set i x) vs).set v none = ((wipe σ vs).set v none).set i x
    rw [wipe_set_out h.2, List.set_comm _ _ h.1]
theorem wipe_set {σ : L2.St} {i : Nat} {x : Option V} : ∀ {vs : List Nat}, i ∈ vs → wipe (σ.set i x) vs = wipe σ vs
  | [], h => by cases h
  | v :: vs, h => by
    show (wipe (σ.set i x) vs).set v none = (wipe σ vs).set v none
    by_cases q : i ∈ vs
    · rw [wipe_set q]
    · have e : i = v := by
        rcases List.mem_cons.mp h with e | e
        · exact e
        · exact absurd e q
      subst e
      rw [wipe_set_out q, List.set_set]
theorem wipe_wipe {σ : L2.St} : ∀ {us vs : List Nat}, (∀ u ∈ us, u ∈ vs) → wipe (wipe σ us) vs = wipe σ vs
  | [], _, _ => rfl
  | u :: us, vs, h => by
    show wipe ((wipe σ us).set u none) vs = _
    rw [wipe_set (h u (by simp)), wipe_wipe fun x hx => h x (by simp [hx])]
theorem wipe1 {σ : L2.St} {vs : List Nat} {i : Nat} {a : Option V} (hi : i ∈ vs) : wipe ((wipe σ vs).set i a) vs = wipe σ vs := by
  rw [wipe_set hi, wipe_wipe fun _ h => h]
theorem wipe2 {σ : L2.St} {vs : List Nat} {i j : Nat} {a b : Option V} (hi : i ∈ vs) (hj : j ∈ vs) : wipe (((wipe σ vs).set i a).set j b) vs = wipe σ vs := by
  rw [wipe_set hj, wipe_set hi, wipe_wipe fun _ h => h]
theorem wipe3 {σ : L2.St} {vs : List Nat} {i j k : Nat} {a b c : Option V} (hi : i ∈ vs) (hj : j ∈ vs) (hk : k ∈ vs) : wipe ((((wipe σ vs).set i a).set j b).set k c) vs = wipe σ vs := by
  rw [wipe_set hk, wipe_set hj, wipe_set hi, wipe_wipe fun _ h => h]
theorem wipe4 {σ : L2.St} {vs : List Nat} {i j k l : Nat} {a b c d : Option V} (hi : i ∈ vs) (hj : j ∈ vs) (hk : k ∈ vs) (hl : l ∈ vs) : wipe (((((wipe σ vs).set i a).set j b).set k c).set l d) vs = wipe σ vs := by
  rw [wipe_set hl, wipe_set hk, wipe_set hj, wipe_set hi, wipe_wipe fun _ h => h]
end My

set_option maxRecDepth 100000
set_option maxHeartbeats 1600000
namespace T9
open PySem PySem.Spec PyProof.Rows L2 GxR Gd TL My
/-! ### a train -/
def posV (wd : Wd) : V → Option Nat
  | .str z => posOf wd.ps z
  | _ => none
def roadsAt (wd : Wd) (i : Nat) : Int := match wd.ps[i]? with
  | some p => p.2
  | none => 0
/-- what is due of one train, those ahead of it standing at places -/
def tr1 (wd : Wd) (H : Hp) (ah : List (Str × Str)) (v : V) : Due := match tupOf H v with
  | some [n, p] => if nm n = true then (if n ∈ (ah.map (·.1)).map V.str then some (.twice, n) else
      match posV wd p with
      | none => some (.place, p)
      | some i => if roadsAt wd i ≤ (((ah.filterMap fun a => if V.str a.2 = p then some (V.str a.2) else none).length : Nat) : Int) then some (.full, p) else none) else some (.name, n)
  | _ => some (.trains, v)
/-- pairs of texts, in a heap -/
inductive Prs (H : Hp) : List V → List (Str × Str) → Prop
  | nil : Prs H [] []
  | cons {c : Addr} {a : Str × Str} {vs : List V} {l : List (Str × Str)} : H c = some (.tup [.str a.1, .str a.2]) → Prs H vs l → Prs H (.ref c :: vs) (a :: l)
theorem Prs.nt {H H' : Hp} (u : Nt H H') {vs : List V} {l : List (Str × Str)} (h : Prs H vs l) : Prs H' vs l := by
  induction h with
  | nil => exact .nil
  | cons e _ ih => exact .cons (u _ _ (by simp) e) ih
theorem Prs.len {H : Hp} {vs : List V} {l : List (Str × Str)} (h : Prs H vs l) : vs.length = l.length := by
  induction h with
  | nil => rfl
  | cons _ _ ih => rw [List.length_cons, List.length_cons, ih]
theorem Prs.at {H : Hp} {vs : List V} {l : List (Str × Str)} (h : Prs H vs l) : ∀ {i : Nat} {v : V}, vs[i]? = some v → ∃ c a, v = .ref c ∧ l[i]? = some a ∧ H c = some (.tup [.str a.1, .str a.2]) := by
  induction h with
  | nil => intro i v hv; cases hv
  | cons e _ ih =>
    intro i v hv
    match i with
    | 0 => exact ⟨_, _, (Option.some.inj hv).symm, rfl, e⟩
    | i + 1 => exact ih (by simpa using hv)
theorem Prs.snoc {H : Hp} {vs : List V} {l : List (Str × Str)} (h : Prs H vs l) {c : Addr} {a : Str × Str} (e : H c = some (.tup [.str a.1, .str a.2])) : Prs H (vs ++ [.ref c]) (l ++ [a]) := by
  induction h with
  | nil => exact .cons e .nil
  | cons e2 _ ih => exact .cons e2 ih
/-- a comprehension with a filter that picks values, by any walk -/
theorem some_it {α : Type} {J : It} {G : Hp → Prop} {xs : List V} {src : List α} {F : α → Option V} (w : Walk J xs.length G (YAt xs)) {g : TG} {tt : TT} {te : TE} {vs : List Nat} {σ : L2.St} {H : Hp} {D : Addr} {Qd : Hp → Prop} (hl : src.length = xs.length) (h20 : src.length ≤ 100) (hD : H D = none)
    (hG : ∀ H', KB D H H' → G H')
    (hs : ∀ (i : Nat) (v : V) (a : α) (H' : Hp) (C : VK) (B : Hp → Prop), xs[i]? = some v → src[i]? = some a → Same H H' → (∀ z H4, F a = some z → Same H' H4 → C z H4) → (∀ H4, F a = none → Same H' H4 → B H4) →
      g v (wipe σ vs) H' fun σ2 H2 => wipe σ2 vs = wipe σ vs ∧ tt σ2 H2 fun b H3 => if b = true then te σ2 H3 C else B H3)
    (hd : ∀ H', Same H H' → H' D = some (.lst (src.filterMap F)) → Qd H') :
    ∃ W : Nat → Nat → Hp → Prop, (∃ m, W 0 m (upd H D (.lst []))) ∧ ∀ i m H, W i m H →
    (J.stop i H ∧ Qd H) ∨ (J.go i H ∧ ∃ Nx : Hp → Prop, (∀ H', Nx H' → ∃ m', m' < m ∧ W (i + 1) m' H') ∧ ∀ x H', J.yld i H x H' → g x (wipe σ vs) H' fun σ2 H2 => wipe σ2 vs = wipe σ vs ∧ tt σ2 H2 fun b H3 =>
      if b = true then te σ2 H3 fun y H4 => ∃ acc, H4 D = some (.lst acc) ∧ acc.length < sizeLine ∧ Nx (upd H4 D (.lst (acc ++ [y]))) else Nx H3) := by
  have ks : ∀ {H'}, KB D H H' → Same H H' := fun k c o h => k c o (ne_of_none h hD) h
  refine lc_it w (fun i H' => KB D H H' ∧ H' D = some (.lst ((src.take i).filterMap F))) ⟨KB.alloc hD, upd_same⟩ (fun i H' _ h => hG H' h.1) ?_ ?_
  · rintro i v H' H'' hi ⟨kb, e⟩ ⟨rfl, hv⟩
    obtain ⟨a, ha⟩ : ∃ a, src[i]? = some a := ⟨_, List.getElem?_eq_getElem (by omega)⟩
    have e0 : (src.take (i + 1)).filterMap F = (src.take i).filterMap F ++ [a].filterMap F := by rw [take_at ha, List.filterMap_append]
    refine hs i v a H'' _ _ hv ha (ks kb) (fun z H4 hz s => ⟨_, s _ _ e, ?_, fun c o n h => by rw [upd_ne n]; exact s _ _ (kb c o n h), ?_⟩) fun H4 hz s => ⟨fun c o n h => s _ _ (kb c o n h), ?_⟩
    · refine Nat.lt_of_le_of_lt (List.length_filterMap_le _ _) (Nat.lt_of_le_of_lt (m := 100) ?_ (by rw [sizeLine_eq]; decide))
      rw [List.length_take]
      omega
    · rw [e0, show [a].filterMap F = [z] by simp [hz]]
      exact upd_same
    · rw [e0, show [a].filterMap F = [] by simp [hz], List.append_nil]
      exact s _ _ e
  · rintro H' ⟨kb, e⟩
    rw [← hl, List.take_of_length_le (Nat.le_refl _)] at e
    exact hd H' (ks kb) e
theorem posOf_lt {ps : List (Str × Int)} {z : Str} {i : Nat} (h : posOf ps z = some i) : i < ps.length := by
  obtain ⟨h1, _⟩ := List.findIdx?_eq_some_iff_getElem.mp h
  exact h1
section
variable {P : Program} {w : World} {K : PySem.W.Frag} {mg : Str → Option Value} {base : Heap} {cl : Tag → Addr} {C CS fS f1 f2 f3 : Addr} {fdS fd1 fd2 fd3 : FuncData} {g1 g2 g3 g4 : Addr} {gd1 gd2 gd3 gd4 : FuncData}
abbrev s_check_train : Stmt := top 21
theorem sc_check_train : FnScope ["line", "train", "ahead", "name", "place", "other", "_", "at"] ["line", "train", "ahead"] (defScope s_check_train) := ⟨rfl, rfl, rfl, by decide +kernel, rfl, by decide +kernel, by decide +kernel⟩
def spTrainX (K : PySem.W.Frag) (C : Addr) (cl : Tag → Addr) (T0 : List Addr) : Sp := fun vs H Q E => ∃ (x l : Addr) (v : V) (wd : Wd) (xs : List V) (ah : List (Str × Str)), vs = [.ref x, v, .ref l] ∧ LineAt K C wd H x ∧ wd.Ok ∧ Th H v ∧ Kids H v ∧ H l = some (.lst xs) ∧ Prs H xs ah ∧ ah.length ≤ 10 ∧ Tabs T0 H ∧ Wish cl (KM T0 H) (tr1 wd H ah v) Q E
theorem ok_check_train {T0 : List Addr} {f : Addr} {fd : FuncData} (F : Fun K "_check_train" "_check_train" s_check_train f fd) (T : Txt mg) (TC : ClsT K C) (ES : SeT K mg CS fS fdS sSE)
    (ENoTrains : ExC K mg "NoTrains" "NoTrains.__init__" sNoTrains (cl .trains) g1 gd1) (ENoName : ExC K mg "NoName" "NoName.__init__" sNoName (cl .name) g2 gd2) (ETwice : ExC K mg "Twice" "Twice.__init__" sTwice (cl .twice) g3 gd3) (EFull : ExC K mg "Full" "Full.__init__" sFull (cl .full) g4 gd4)
    (Nis_tuple : Fn K mg "is_tuple" s_is_tuple ["thing", "many"] f1 fd1) (Gis_tupleG : FnOk P w K mg base CX0 1 f1 fd1 ["thing", "many"] spIsTupleG)
    (Nis_name : Fn K mg "is_name" sName ["thing"] f2 fd2) (Gis_name : FnOk P w K mg base CX0 2 f2 fd2 ["thing"] (spNameM T0))
    (Mroads : Mt K C "roads" "Line.roads" s_roads ["self", "name"] f3 fd3) (GroadsX : FnOk P w K mg base (CX P w) 5 f3 fd3 ["self", "name"] (orS (spRoads K C) (spBad K C (cl .place) badN))) :
    FnOk P w K mg base (CX P w) 6 f fd ["line", "train", "ahead"] (spTrainX K C cl T0) := by
  refine F.okX sc_check_train (fun vs H Q E h => ?_) (fun cdv A outer s H vs Q E hr h => ?_)
  · obtain ⟨x, l, v, wd, xs, ah, rfl, _⟩ := h
    rfl
  · obtain ⟨x, l, v, wd, xs, ah, rfl, hL, ok, th, kd, hl, pr, l10, tb, k⟩ := h
    have hu := Nat.lt_of_le_of_lt (Nat.le_add_right _ 64) hr.units
    refine ⟨_, pss_cons (ps_if (pt_not (pt_val (pe_call Gis_tupleG (hr.mono (by decide)) (by rfl) Nis_tuple.g Nis_tuple.kp Nis_tuple.b .nil pass0 (pa_cons (pv 1) (pa_cons pe_int pa_nil))))) (pss_one (ps_raise rfl (takes_of rfl rfl rfl rfl) (pmk_oex ENoTrains.o ENoTrains.i ENoTrains.t (ok_NoTrains ES ENoTrains) (hr.mono (by decide)) ENoTrains.b .nil pass0 (by rfl) ENoTrains.g (pa_cons (pv 1) pa_nil)))) pss_nil)
      (pss_cons (ps_asg (pv 1) (pg_tup (by rfl) (pgs_cons (pg_name (i := 3) sc_check_train.nd rfl (Or.inl rfl)) (pgs_cons (pg_name (i := 4) sc_check_train.nd rfl (Or.inr rfl)) pgs_nil))))
      (pss_cons (ps_if (pt_not (pt_val (pe_call Gis_name (hr.mono (by decide)) (by rfl) Nis_name.g Nis_name.kp Nis_name.b .nil pass0 (pa_cons (pv 3) pa_nil)))) (pss_one (ps_raise rfl (takes_of rfl rfl rfl rfl) (pmk_oex ENoName.o ENoName.i ENoName.t (ok_NoName ES ENoName) (hr.mono (by decide)) ENoName.b .nil pass0 (by rfl) ENoName.g (pa_cons (pv 3) pa_nil)))) pss_nil)
      (pss_cons (ps_if (pt_cmpR op_in_seq (pv 3) (pe_lc (own := [("other", 5), ("_", 6)]) (g := gTup K 2 (gCons (gName 5) (gCons (gName 6) gNil))) (tt := tYes) rfl sc_check_train.nd (pi_list (pv 2)) (blkOk_by (own := [("other", 5), ("_", 6)]) (N := ["line", "train", "ahead", "name", "place", "other", "_", "at"]) (sc := defScope s_check_train) (by decide +kernel)) (fun _ _ _ _ _ => (pg_tup (by rfl) (pgs_cons (pg_name (i := 5) sc_check_train.nd rfl (Or.inl rfl)) (pgs_cons (pg_name (i := 6) sc_check_train.nd rfl (Or.inl rfl)) pgs_nil)))) (fun _ _ _ _ _ => pts_nil) (fun _ _ _ _ _ => (pv 5))) rfl) (pss_one (ps_raise rfl (takes_of rfl rfl rfl rfl) (pmk_oex ETwice.o ETwice.i ETwice.t (ok_Twice ES ETwice) (hr.mono (by decide)) ETwice.b .nil pass0 (by rfl) ETwice.g (pa_cons (pv 3) pa_nil)))) pss_nil)
      (pss_one (ps_if (pt_cmpR op_ge (pe_callB call_len_seq (by rfl) T.len_ PySem.boot_len (pa_cons (pe_lc (own := [("_", 6), ("at", 7)]) (g := gTup K 2 (gCons (gName 6) (gCons (gName 7) gNil))) rfl sc_check_train.nd (pi_list (pv 2)) (blkOk_by (own := [("_", 6), ("at", 7)]) (N := ["line", "train", "ahead", "name", "place", "other", "_", "at"]) (sc := defScope s_check_train) (by decide +kernel)) (fun _ _ _ _ _ => (pg_tup (by rfl) (pgs_cons (pg_name (i := 6) sc_check_train.nd rfl (Or.inl rfl)) (pgs_cons (pg_name (i := 7) sc_check_train.nd rfl (Or.inl rfl)) pgs_nil)))) (fun _ _ _ _ _ => pts_one (pt_cmpR (eqSAK (K := K) rfl hu) (pv 7) (pv 4) (nomark _))) (fun _ _ _ _ _ => (pv 7))) pa_nil)) (pe_meth (pv 0) TC.cl Mroads.m GroadsX (hr.mono (by decide)) Mroads.b .nil (passes_call (takes_of rfl rfl rfl rfl) (fun _ _ _ _ h => h)) (pa_cons (pv 4) pa_nil)) (nomark _)) (pss_one (ps_raise rfl (takes_of rfl rfl rfl rfl) (pmk_oex EFull.o EFull.i EFull.t (ok_Full ES EFull) (hr.mono (by decide)) EFull.b .nil pass0 (by rfl) EFull.g (pa_cons (pv 4) pa_nil)))) pss_nil))))), ?_⟩
    generalize hσ : L2.start _ _ = σ0
    obtain rfl : σ0 = [some (.ref x), some v, some (.ref l), none, none, none, none, none] := hσ.symm.trans rfl
    obtain ⟨dx, p1, p2, p3, d, ys1, ys2, ys3, hx, _⟩ := id hL
    have no : (lf p1 p2 p3 d).lookup (Str.ofString "roads") = none := lf_no _ _ _ _ (by decide +kernel)
    refine ⟨_, rfl, v, 2, rfl, th, ?_⟩
    cases hi : ist H 2 v with
    | false =>
      have e : tr1 wd H ah v = some (.trains, v) := by
        unfold tr1
        unfold ist at hi
        split
        · rename_i n q e
          rw [e] at hi
          cases hi
        · rfl
      rw [e] at k
      exact ⟨_, rfl, iteT ⟨_, rfl, made_one fun e he => k H e (KM.refl tb) he⟩⟩
    | true =>
      obtain ⟨xs2, hx2, h2⟩ := ist_true (n := 2) hi
      match xs2, h2 with
      | [n, q], _ =>
        have e : tr1 wd H ah v = if nm n = true then (if n ∈ (ah.map (·.1)).map V.str then some (.twice, n) else
            match posV wd q with
            | none => some (.place, q)
            | some i => if roadsAt wd i ≤ (((ah.filterMap fun a => if V.str a.2 = q then some (V.str a.2) else none).length : Nat) : Int) then some (.full, q) else none) else some (.name, n) := by
          unfold tr1
          rw [hx2]
        rw [e] at k
        clear e
        have thn := kd _ (seq_of_tup hx2) n (by simp)
        have thq := kd _ (seq_of_tup hx2) q (by simp)
        obtain ⟨t, rfl, ht⟩ := tup_some hx2
        refine ⟨_, rfl, iteF ?_⟩
        refine ⟨_, rfl, t, _, rfl, SqT.of ht, rfl, _, _, rfl, _, _, rfl, rfl, ?_⟩
        refine ⟨_, rfl, n, rfl, thn, tb, fun H1 k1 => ?_⟩
        cases hn : nm n with
        | false =>
          rw [hn, if_neg Bool.false_ne_true] at k
          exact ⟨_, rfl, iteT ⟨_, rfl, made_one fun e he => k H1 e k1 he⟩⟩
        | true =>
          rw [hn, if_pos rfl] at k
          refine ⟨_, rfl, iteF ?_⟩
          obtain ⟨z, rfl, hz⟩ := nm_str hn
          have n1 := KM.nt tb k1
          have hl1 := n1 _ _ (by simp) hl
          have pr1 := pr.nt n1
          have lxs := pr.len
          simp only [List.set_cons_succ, List.set_cons_zero]
          refine ⟨_, rfl, _, rfl, l, rfl, ⟨_, SqL.of hl1⟩, fun D hD => some_it (walk_list (K := K) (xs := xs)) (src := ah) (F := fun a => some (V.str a.1)) lxs.symm (by omega) hD (fun H' kb => SqL.of (kb _ _ (ne_of_none hl1 hD) hl1)) ?_ ?_⟩
          · rintro i v a H' C B hv ha s k _
            obtain ⟨c, a', rfl, ha', hc⟩ := pr1.at hv
            obtain rfl := Option.some.inj (ha.symm.trans ha')
            exact ⟨c, _, rfl, SqT.of (s _ _ hc), rfl, _, _, rfl, _, _, rfl, rfl, wipe2 (by simp) (by simp), lcY ⟨_, rfl, k _ _ rfl (Same.refl _)⟩⟩
          · intro H2 s2 eD
            have e2 : ah.filterMap (fun a => some (V.str a.1)) = (ah.map (·.1)).map V.str := by
              rw [List.filterMap_eq_map', List.map_map]
              rfl
            rw [e2] at eD
            have n2 := n1.trans (same_nt s2)
            have k2 : KM T0 H H2 := k1.trans (KM.same k1.tab s2)
            refine ⟨D, _, rfl, .inl (SqL.of eD), rfl, flat_strs _, _, rfl, ?_⟩
            show if inV (.str z) ((ah.map (·.1)).map V.str) = true then _ else _
            rw [inV_mem]
            by_cases hm : V.str z ∈ (ah.map (·.1)).map V.str
            · rw [if_pos hm] at k
              rw [decide_eq_true hm]
              exact iteT ⟨_, rfl, made_one fun e he => k H2 e k2 he⟩
            · rw [if_neg hm] at k
              rw [decide_eq_false hm]
              refine iteF ?_
              have hl2 := n2 _ _ (by simp) hl
              have pr2 := pr.nt n2
              refine ⟨_, rfl, l, rfl, ⟨_, SqL.of hl2⟩, fun D2 hD2 => some_it (walk_list (K := K) (xs := xs)) (src := ah) (F := fun a => if V.str a.2 = q then some (V.str a.2) else none) lxs.symm (by omega) hD2 (fun H' kb => SqL.of (kb _ _ (ne_of_none hl2 hD2) hl2)) ?_ ?_⟩
              · rintro i v a H' C B hv ha s k kB
                obtain ⟨c, a', rfl, ha', hc⟩ := pr2.at hv
                obtain rfl := Option.some.inj (ha.symm.trans ha')
                refine ⟨c, _, rfl, SqT.of (s _ _ hc), rfl, _, _, rfl, _, _, rfl, rfl, wipe2 (by simp) (by simp), ?_⟩
                refine ⟨_, rfl, _, rfl, _, rfl, th_nt (n2.trans (same_nt s)) thq, _, rfl, ?_⟩
                by_cases hq : V.str a.2 = q
                · rw [decide_eq_true hq]
                  exact iteT ⟨_, rfl, k _ _ (if_pos hq) (Same.refl _)⟩
                · rw [decide_eq_false hq]
                  exact iteF (kB _ (if_neg hq) (Same.refl _))
              · intro H3 s3 eD3
                have n3 := n2.trans (same_nt s3)
                have k3 : KM T0 H H3 := k2.trans (KM.same k2.tab s3)
                generalize ah.filterMap (fun a => if V.str a.2 = q then some (V.str a.2) else none) = fs at k eD3
                refine ⟨D2, fs, rfl, .inl (SqL.of eD3), _, rfl, x, dx, _, rfl, n3 _ _ (by simp) hx, no, _, rfl, ?_⟩
                have hL3 := hL.nt n3
                cases hp : posV wd q with
                | none =>
                  rw [hp] at k
                  refine .inr ⟨x, q, wd, rfl, hL3, th_nt n3 thq, fun y hy => ?_, fun e he => k H3 e k3 he⟩
                  subst hy
                  exact hp
                | some i =>
                  rw [hp] at k
                  replace k : Wish cl (KM T0 H) (if roadsAt wd i ≤ ((fs.length : Nat) : Int) then some (.full, q) else none) Q E := k
                  cases q with
                  | str y =>
                    have hp : posOf wd.ps y = some i := hp
                    have hi := posOf_lt hp
                    have ep : wd.ps[i]? = some wd.ps[i] := List.getElem?_eq_getElem hi
                    have er : roadsAt wd i = (wd.ps[i]).2 := by unfold roadsAt; rw [ep]
                    rw [er] at k
                    refine .inl ⟨x, wd, y, i, _, rfl, hL3, hp, ep, _, _, rfl, rfl, _, rfl, ite2 (fun c => ?_) (fun c => ?_)⟩
                    · rw [if_pos (of_decide_eq_true c)] at k
                      exact ⟨_, rfl, made_one fun e he => k H3 e k3 he⟩
                    · rw [if_neg (fun h => c (decide_eq_true h))] at k
                      exact k H3 k3
                  | _ => cases hp
end
end T9

set_option maxRecDepth 100000
set_option maxHeartbeats 1000000
/-! A for over a list or a tuple, one proof for both. -/
namespace My
open PySem PySem.Spec PyProof.Rows L2 GxR Gd TL
def OneOf (K : PySem.W.Frag) (a : Addr) (H : Hp) (J : It) : Prop := (J = Itl K a ∧ ∃ xs, SqL K H a xs) ∨ (J = Itt K a ∧ ∃ xs, SqT K H a xs)
def iSeq (K : PySem.W.Frag) (t : TE) : TI := fun σ H R => t σ H fun v G => ∃ a J, v = .ref a ∧ OneOf K a G J ∧ R J G
theorem pi_seq {X : Cx} {tg l : Expr} {t : TE} (h : PE X l t) : PI X tg l (iSeq X.K t) := by
  constructor
  intro pins s σ H R I q
  apply thn (h.run pins s σ H _ I q)
  rintro v s1 ⟨x, G, IG, r, a, J, rfl, one, q⟩
  have fresh := Nat.le_refl s1.heap.objs.size
  have f0 : ∀ b ∈ [s1.heap.objs.size], s1.heap.objs.size ≤ b ∧ G b = none := fun b m => by
    rw [List.mem_singleton.mp m]
    exact ⟨fresh, IG.hok.fresh fresh⟩
  cases r
  rcases one with ⟨rfl, xs, hx⟩ | ⟨rfl, xs, hx⟩
  · obtain ⟨_, _, p, _⟩ := IG.list hx
    apply wpAny_pyIter_list p.isList
    exact ⟨_, [_], _, _, G, rfl, IG.kept (t' := s1.toks) (fun b o e => Heap.get?_push_of_some _ e), turn_list a _, ⟨_, Heap.get?_push_size _ rfl, rfl, rfl⟩, fun b m => IG.fpOk (f0 b m).1 (f0 b m).2, q⟩
  · obtain ⟨_, _, p, _⟩ := IG.tuple hx
    apply wpAny_pyIter_tuple (show s1.heap.IsTuple a _ from p)
    exact ⟨_, [_], _, _, G, rfl, IG.kept (t' := s1.toks) (fun b o e => Heap.get?_push_of_some _ e), turn_tuple a _, ⟨_, Heap.get?_push_size _ rfl, rfl, rfl⟩, fun b m => IG.fpOk (f0 b m).1 (f0 b m).2, q⟩
theorem walk_seq {K : PySem.W.Frag} {H : Hp} {a : Addr} {xs : List V} (h : H a = some (.lst xs) ∨ H a = some (.tup xs)) : ∃ J, (∀ G : Hp, G a = H a → OneOf K a G J) ∧ Walk J xs.length (fun G => G a = H a) (YAt xs) := by
  rcases h with h | h
  · exact ⟨_, fun G e => .inl ⟨rfl, xs, SqL.of (e.trans h)⟩, (walk_list (K := K) (a := a) (xs := xs)).mono (fun G e => SqL.of (e.trans h)) fun _ _ _ _ _ _ y => y⟩
  · exact ⟨_, fun G e => .inr ⟨rfl, xs, SqT.of (e.trans h)⟩, (walk_tup (K := K) (a := a) (xs := xs)).mono (fun G e => SqT.of (e.trans h)) fun _ _ _ _ _ _ y => y⟩
theorem same_at {H H' : Hp} {a : Addr} {xs : List V} (s : Same H H') (h : H a = some (.lst xs) ∨ H a = some (.tup xs)) : H' a = H a := by
  rcases h with h | h <;> rw [h, s _ _ h]
end My

set_option maxRecDepth 100000
set_option maxHeartbeats 1600000
namespace T9
open PySem PySem.Spec PyProof.Rows L2 GxR Gd TL My
theorem wish_of {cl : Tag → Addr} {J J' : Hp → Prop} {d : Due} {Q Q' : VK} {E : XK} (k : Wish cl J d Q E) (j : ∀ H', J' H' → J H') (n : d = none → ∀ H', J' H' → Q' .non H') : Wish cl J' d Q' E := by
  match d, k with
  | none, k => exact n rfl
  | some (t, u), k => exact fun H' e h he => k H' e (j H' h) he
theorem isl_true {H : Hp} {lo hi : Int} {v : V} (h : isl H lo hi v = true) : ∃ a xs, v = .ref a ∧ seqOf H v = some xs ∧ (H a = some (.lst xs) ∨ H a = some (.tup xs)) ∧ lo ≤ (xs.length : Int) ∧ (xs.length : Int) ≤ hi := by
  unfold isl at h
  split at h
  · rename_i xs e
    obtain ⟨a, rfl, h2⟩ := seq_some e
    simp only [Bool.and_eq_true, decide_eq_true_eq] at h
    exact ⟨a, xs, rfl, e, h2, h.1, h.2⟩
  · cases h
theorem drop_at {xs : List V} {i : Nat} {x : V} (h : xs[i]? = some x) : xs.drop i = x :: xs.drop (i + 1) := by
  obtain ⟨h1, h2⟩ := List.getElem?_eq_some_iff.mp h
  rw [← h2]
  exact (List.getElem_cons_drop ..).symm
/-- things, and what they hold, and what that holds -/
def Deep (H : Hp) (v : V) : Prop := Th H v ∧ ∀ xs, seqOf H v = some xs → ∀ x ∈ xs, Th H x ∧ Kids H x
theorem Deep.kids {H : Hp} {v : V} (d : Deep H v) : Kids H v := fun xs h x hx => (d.2 xs h x hx).1
theorem Deep.nt {H H' : Hp} (e : Nt H H') {v : V} (d : Deep H v) : Deep H' v :=
  ⟨th_nt e d.1, fun xs hs x hx => by
    obtain ⟨a, b⟩ := d.2 xs (by rw [← seq_nt e d.1]; exact hs) x hx
    exact ⟨th_nt e a, b.nt e a⟩⟩
def prOf (H : Hp) (v : V) : Str × Str := match tupOf H v with
  | some [.str n, .str p] => (n, p)
  | _ => (Str.empty, Str.empty)
def trD (wd : Wd) (H : Hp) : List (Str × Str) → List V → Due
  | _, [] => none
  | ah, v :: r => match tr1 wd H ah v with
    | some d => some d
    | none => trD wd H (ah ++ [prOf H v]) r
/-- what is due of the trains handed in -/
def trainsD (wd : Wd) (H : Hp) (v : V) : Due := if isl H 1 4 v = true then trD wd H [] ((seqOf H v).getD []) else some (.trains, v)
theorem tr1_nt {wd : Wd} {H H' : Hp} (e : Nt H H') {v : V} (th : Th H v) (ah : List (Str × Str)) : tr1 wd H' ah v = tr1 wd H ah v := by
  unfold tr1
  rw [tup_nt e th]
theorem tr1_none {wd : Wd} {H : Hp} {ah : List (Str × Str)} {v : V} (h : tr1 wd H ah v = none) : ∃ t n p i, v = .ref t ∧ H t = some (.tup [.str n, .str p]) ∧ prOf H v = (n, p) ∧ NameOk n ∧ posOf wd.ps p = some i := by
  unfold tr1 at h
  split at h
  · rename_i n q e
    split at h
    · rename_i hn
      obtain ⟨z, rfl, hz⟩ := nm_str hn
      split at h
      · cases h
      · split at h
        · cases h
        · rename_i i hp
          cases q with
          | str y =>
            obtain ⟨t, rfl, ht⟩ := tup_some e
            refine ⟨t, z, y, i, rfl, ht, ?_, hz, hp⟩
            unfold prOf
            rw [e]
          | _ => cases hp
    · cases h
  · cases h
theorem tr1_snoc {wd : Wd} {H : Hp} {ah : List (Str × Str)} {v : V} {r : List V} (h : tr1 wd H ah v = none) : trD wd H ah (v :: r) = trD wd H (ah ++ [prOf H v]) r := by
  show (match tr1 wd H ah v with | some d => some d | none => trD wd H (ah ++ [prOf H v]) r) = _
  rw [h]
theorem tr1_stop {wd : Wd} {H : Hp} {ah : List (Str × Str)} {v : V} {r : List V} {d : Tag × V} (h : tr1 wd H ah v = some d) : trD wd H ah (v :: r) = some d := by
  show (match tr1 wd H ah v with | some d => some d | none => trD wd H (ah ++ [prOf H v]) r) = _
  rw [h]
section
variable {P : Program} {w : World} {K : PySem.W.Frag} {mg : Str → Option Value} {base : Heap} {cl : Tag → Addr} {C CS fS f1 f2 f3 : Addr} {fdS fd1 fd2 fd3 : FuncData} {g1 g2 g3 g4 : Addr} {gd1 gd2 gd3 gd4 : FuncData}
abbrev s_check_trains : Stmt := top 20
theorem sc_check_trains : FnScope ["line", "trains", "ahead", "train"] ["line", "trains"] (defScope s_check_trains) := ⟨rfl, rfl, rfl, by decide +kernel, rfl, by decide +kernel, by decide +kernel⟩
def spTrainsX (K : PySem.W.Frag) (C : Addr) (cl : Tag → Addr) (T0 : List Addr) : Sp := fun vs H Q E => ∃ (x : Addr) (v : V) (wd : Wd), vs = [.ref x, v] ∧ LineAt K C wd H x ∧ wd.Ok ∧ Deep H v ∧ Tabs T0 H ∧ Wish cl (KM T0 H) (trainsD wd H v) Q E
theorem ok_check_trains {T0 : List Addr} {f : Addr} {fd : FuncData} (F : Fun K "check_trains" "check_trains" s_check_trains f fd) (T : Txt mg) (ES : SeT K mg CS fS fdS sSE)
    (ENoTrains : ExC K mg "NoTrains" "NoTrains.__init__" sNoTrains (cl .trains) g1 gd1)
    (Nis_list : Fn K mg "is_list" s_is_list ["thing", "low", "high"] f1 fd1) (Gis_listG : FnOk P w K mg base CX0 1 f1 fd1 ["thing", "low", "high"] spIsListG)
    (Ncheck_train : Fn K mg "_check_train" s_check_train ["line", "train", "ahead"] f2 fd2) (GtrX : FnOk P w K mg base (CX P w) 6 f2 fd2 ["line", "train", "ahead"] (spTrainX K C cl T0)) :
    FnOk P w K mg base (CX P w) 7 f fd ["line", "trains"] (spTrainsX K C cl T0) := by
  refine F.okX sc_check_trains (fun vs H Q E h => ?_) (fun cdv A outer s H vs Q E hr h => ?_)
  · obtain ⟨x, v, wd, rfl, _⟩ := h
    rfl
  · obtain ⟨x, v, wd, rfl, hL, ok, dp, tb, k⟩ := h
    refine ⟨_, pss_cons (ps_if (pt_not (pt_val (pe_call Gis_listG (hr.mono (by decide)) (by rfl) Nis_list.g Nis_list.kp Nis_list.b .nil pass0 (pa_cons (pv 1) (pa_cons pe_int (pa_cons pe_int pa_nil)))))) (pss_one (ps_raise rfl (takes_of rfl rfl rfl rfl) (pmk_oex ENoTrains.o ENoTrains.i ENoTrains.t (ok_NoTrains ES ENoTrains) (hr.mono (by decide)) ENoTrains.b .nil pass0 (by rfl) ENoTrains.g (pa_cons (pv 1) pa_nil)))) pss_nil)
      (pss_cons (ps_set (i := 2) sc_check_trains.nd rfl (Or.inl rfl) (pe_lst pa_nil))
      (pss_one (ps_for (passes_of rfl) rfl (pi_seq (pv 1)) (pg_name (i := 3) sc_check_trains.nd rfl (Or.inl rfl)) (pss_cons (ps_expr (pe_call GtrX (hr.mono (by decide)) (by rfl) Ncheck_train.g Ncheck_train.kp Ncheck_train.b .nil (passes_call (takes_of rfl rfl rfl rfl) (fun _ _ _ _ h => h)) (pa_cons (pv 0) (pa_cons (pv 3) (pa_cons (pv 2) pa_nil)))))
          (pss_one (ps_expr (pe_bm PySem.F.plainAttrs_list PySem.F.slot_list_append PySem.F.type_list_append mt_append (pv 2) (pa_cons (pv 3) pa_nil)))))))), ?_⟩
    generalize hσ : L2.start _ _ = σ0
    obtain rfl : σ0 = [some (.ref x), some v, none, none] := hσ.symm.trans rfl
    refine ⟨_, rfl, _, 1, 4, rfl, dp.1, fun H1 s1 => ?_⟩
    cases hi : isl H 1 4 v with
    | false =>
      have e : trainsD wd H v = some (.trains, v) := by
        unfold trainsD
        rw [hi, if_neg Bool.false_ne_true]
      rw [e] at k
      exact ⟨_, rfl, iteT ⟨_, rfl, made_one fun e he => k H1 e (KM.same tb s1) he⟩⟩
    | true =>
      have e : trainsD wd H v = trD wd H [] ((seqOf H v).getD []) := by
        unfold trainsD
        rw [hi, if_pos rfl]
      obtain ⟨a, xs, rfl, hq, ha, l2, l6⟩ := isl_true hi
      rw [e, hq] at k
      replace k : Wish cl (KM T0 H) (trD wd H [] xs) Q E := k
      refine ⟨_, rfl, iteF ?_⟩
      refine ⟨Nat.zero_le _, fun L hL0 => ?_⟩
      have hLn : H L = none := s1.free hL0
      have kA := (KM.same tb s1).trans (KM.alloc (o := .lst []) (KM.same tb s1).tab hL0)
      obtain ⟨J, one, wJ⟩ := walk_seq (K := K) ha
      have keepA : ∀ {H' : Hp}, KM T0 H H' → H' a = H a := fun kt => by
        rcases ha with e | e
        · rw [e]; exact KM.nt tb kt _ _ (by simp) e
        · rw [e]; exact KM.nt tb kt _ _ (by simp) e
      simp only [List.set_cons_succ, List.set_cons_zero]
      dsimp only [gName, List.set_cons_succ, List.set_cons_zero]
      refine ⟨_, rfl, a, J, rfl, one _ (keepA kA), for_it (D := ⟨_, _, fun _ _ => False, fun _ _ => False⟩) wJ (fun i σ H' => ∃ (u3 : Option V) (vs : List V) (ah : List (Str × Str)), σ = [some (.ref x), some (.ref a), some (.ref L), u3] ∧ H' L = some (.lst vs) ∧ Prs H' vs ah ∧ ah.length = i ∧ trD wd H ah (xs.drop i) = trD wd H [] xs ∧ KM T0 H H')
        ⟨_, [], [], rfl, upd_same, .nil, rfl, rfl, kA⟩ (fun i σ H' _ ⟨_, _, _, _, _, _, _, _, q⟩ => keepA q) ?_ ?_⟩
      · rintro i y σ H2 H2' hi ⟨u3, vs, ah, rfl, eL, pr, el, ep, k2⟩ ⟨rfl, hy⟩
        obtain ⟨thx, kx⟩ := dp.2 xs hq y (List.mem_of_getElem? hy)
        rw [drop_at hy] at ep
        have n2 := KM.nt tb k2
        simp only [List.set_cons_succ, List.set_cons_zero]
        refine ⟨_, rfl, _, rfl, _, rfl, x, L, y, wd, vs, ah, rfl, hL.nt n2, ok, th_nt n2 thx, kx.nt n2 thx, eL, pr, by omega, k2.tab, ?_⟩
        rw [tr1_nt n2 thx ah]
        cases hp : tr1 wd H ah y with
        | some d =>
          rw [tr1_stop hp] at ep
          rw [← ep] at k
          exact wish_of k (fun H' h => k2.trans h) nofun
        | none =>
          rw [tr1_snoc hp] at ep
          obtain ⟨t, n, p, j, rfl, ht, en, nz, hj⟩ := tr1_none hp
          refine fun H3 k3 => ?_
          have n3 := KM.nt k2.tab k3
          have eL3 := n3 L _ (by simp) eL
          have ht3 := KM.nt tb (k2.trans k3) _ _ (by simp) ht
          have nLt : t ≠ L := fun z => by rw [z, eL3] at ht3; cases ht3
          refine ⟨_, rfl, .inl ⟨rfl, _, SqL.of eL3⟩, _, rfl, L, _, _, rfl, rfl, eL3, ?_, ?_⟩
          · have := pr.len
            exact Nat.lt_of_le_of_lt (m := 10) (by omega) (by rw [sizeLine_eq]; decide)
          · have up : ∀ {ws : List V} {l : List (Str × Str)}, Prs H3 ws l → Prs (upd H3 L (.lst (vs ++ [.ref t]))) ws l := fun h => by
              induction h with
              | nil => exact .nil
              | cons e _ ih => exact .cons (by rw [upd_ne (fun z => by rw [z, eL3] at e; cases e)]; exact e) ih
            refine ⟨_, vs ++ [.ref t], ah ++ [(n, p)], rfl, upd_same, (up (pr.nt n3)).snoc (by rw [upd_ne nLt]; exact ht3), by rw [List.length_append, el]; rfl, ?_, KM.put tb (k2.trans k3) hLn⟩
            rw [en] at ep
            exact ep
      · rintro σ H2 ⟨u3, vs, ah, rfl, eL, pr, el, ep, k2⟩
        rw [List.drop_length] at ep
        rw [← ep] at k
        exact k H2 k2
end
end T9

set_option maxRecDepth 100000
set_option maxHeartbeats 1000000
/-! enumerate of a list or a tuple, one proof for both. -/
namespace My
open PySem PySem.Spec PyProof.Rows L2 GxR Gd TL
theorem pi_or {X : Cx} {tg l : Expr} {w1 w2 : TI} (h1 : PI X tg l w1) (h2 : PI X tg l w2) : PI X tg l (fun σ H R => w1 σ H R ∨ w2 σ H R) := by
  constructor
  intro pins s σ H R I q
  rcases q with q | q
  · exact h1.run pins s σ H R I q
  · exact h2.run pins s σ H R I q
def iEnumQ (K : PySem.W.Frag) (ta : TA) : TI := fun σ H R => iEnum K ta σ H R ∨ iEnumT K ta σ H R
theorem pi_enumQ {X : Cx} {e : Expr} {ta : TA} {p pos tp : Pos} {elts : List Expr} {kk : Nat} (hg : Gl X "enumerate") (hm : X.mg "enumerate" = none) (ha : PA X [e] ta) (hs : starEach [e] X.env = [(false, eval e X.env)] := by rfl) :
    PI X (.Tuple elts kk tp) (.Call (.Name "enumerate" p) [e] [] pos) (iEnumQ X.K ta) := pi_or (pi_enum hg hm ha hs) (pi_enumT hg hm ha hs)
theorem enumQ_of {K : PySem.W.Frag} {H : Hp} {a : Addr} {xs : List V} (h : H a = some (.lst xs) ∨ H a = some (.tup xs)) : ∃ J, (∀ (ta : TA) (σ : L2.St) (G : Hp) (R : It → Hp → Prop), G a = H a → (∀ C : List V → Hp → Prop, C [.ref a] G → ta σ G C) → R J G → iEnumQ K ta σ G R) ∧
    Walk J xs.length (fun G => G a = H a) (YPair (fun i => some (.int (i : Nat))) (fun i => xs[i]?)) := by
  rcases h with h | h
  · exact ⟨_, fun ta σ G R e k r => .inl (k _ ⟨a, xs, rfl, SqL.of (e.trans h), r⟩), (walk_enum (K := K) (a := a) (xs := xs)).mono (fun G e => SqL.of (e.trans h)) fun _ _ _ _ _ _ y => y⟩
  · exact ⟨_, fun ta σ G R e k r => .inr (k _ ⟨a, xs, rfl, SqT.of (e.trans h), r⟩), (walk_enumT (K := K) (a := a) (xs := xs)).mono (fun G e => SqT.of (e.trans h)) fun _ _ _ _ _ _ y => y⟩
end My

set_option maxRecDepth 100000
set_option maxHeartbeats 1000000
/-! GxA: all(..) of a generator expression whose element calls: the consumer. -/
namespace My
open PySem PySem.Spec PyProof.Rows L2 GenW
/-- amid two turns the consumer changes nothing that stood -/
structure Woke (s s' : Shared) : Prop where
  os : s'.os = s.os
  bare : AllBare s'.gens
  keep : ∀ b o, s.heap.get? b = some o → s'.heap.get? b = some o
/-- a truth is handed out -/
def AY (a : Addr) (g : Nat) (Fw : Bool → Shared → Prop) : Protocol := fun _ _ v s kap =>
  AllBare s.gens ∧ ∃ b : Bool, v = .bool b ∧ (b = false → Fw false s) ∧ (b = true → s.heap.NoLimit ∧ s.heap.IsGen a g ∧ ∀ s', Woke s s' → kap (.send .none) s')
/-- all were true -/
def AR (Fw : Bool → Shared → Prop) : GenEnd := fun _ _ r s => r = .ok .next ∧ AllBare s.gens ∧ Fw true s
section
variable {P : Program} {w : World} {A : Around} {E : Value → Shared → Prop} {Fw : Bool → Shared → Prop} {a : Addr} {g : Nat} {R : Result → Shared → Prop}
theorem all_walk (hh : A.handled = none) (hd : A.depth < recursionLimit) (st : ∀ b s s', Woke s s' → Fw b s → Fw b s') (hR : ∀ b s, Fw b s → R (.ok (.ret (.bool b))) s) :
    ∀ (n : Nat) (s : Shared), s.heap.IsGen a g → s.heap.NoLimit → (∃ gs, s.gens[g]? = some gs ∧ gs.Goes (model P w) A.in1.in1 (AR Fw) (AY a g Fw) n (.send .none) (s.setGen g .running)) →
      codeAny (model P w) A (.builtin "all.loop" ⟨[.ref a], []⟩) R s := by
  intro n
  induction n with
  | zero =>
    intro s hg hl ⟨gs, hgs, hgo⟩
    refine (codeAny_builtin F.entry_all_loop ?_)
    (rw [Around.under_plainId F.plain_all_loop _])
    show (wpAny _ A.in1 (pyNext (.ref a) >>= _) _ _ s)
    refine wpAny_bind (wpAny_pyNext_genexpQ (A := A.in1) (P := fun _ _ s₁ => AllBare s₁.gens ∧ Fw true s₁) hh hl hd hg hgs hgo (fun v s₁ gs' hb hv => ?_) fun s₁ hp h' hk => ?_)
    · obtain ⟨hb1, b, rfl, hf, ht⟩ := hv
      refine wpAny_bind (wpAny_holding (wpAny_truthy_bool (wpAny_bind (wpAny_letGo ?_))))
      cases b with
      | true => exact False.elim ((ht rfl).2.2 s₁ ⟨rfl, hb1, fun _ _ e => e⟩)
      | false =>
        simp only [if_false, Bool.false_eq_true]
        exact wpAny_bind (wpAny_rule (wpAny_pure (hR false _ (st false s₁ _ ⟨rfl, allBare_setGen hb1 hb, fun _ _ e => e⟩ (hf rfl)))))
    · refine wpAny_bind (wpAny_rule (wpAny_pure (hR true _ (st true s₁ _ ⟨rfl, allBare_setGen hp.1 rfl, hk⟩ hp.2))))
  | succ n ih =>
    intro s hg hl ⟨gs, hgs, hgo⟩
    have hgl : (g < s.gens.size) := (Array.getElem?_eq_some_iff.mp hgs).1
    refine (codeAny_builtin F.entry_all_loop ?_)
    (rw [Around.under_plainId F.plain_all_loop _])
    show (wpAny _ A.in1 (pyNext (.ref a) >>= _) _ _ s)
    refine wpAny_bind (wpAny_gsz (n := g + 1) hgl (wpAny_pyNext_genexpQ (A := A.in1) (P := fun _ _ s₁ => AllBare s₁.gens ∧ Fw true s₁) hh hl hd hg hgs hgo (fun v s₁ gs' hb hv => ?_) fun s₁ hp h' hk => ?_))
    · intro hsz
      obtain ⟨hb1, b, rfl, hf, ht⟩ := hv
      refine wpAny_bind (wpAny_holding (wpAny_truthy_bool (wpAny_bind (wpAny_letGo ?_))))
      have hw : Woke s₁ (s₁.setGen g gs') := ⟨rfl, allBare_setGen hb1 hb, fun _ _ e => e⟩
      cases b with
      | true =>
        simp only [if_true]
        obtain ⟨hl1, hg1, hk⟩ := ht rfl
        have hsz1 : (g < s₁.gens.size) := by
          have q : ((s₁.setGen g gs').gens.size = s₁.gens.size) := setGen_size _ _ _
          omega
        refine wpAny_pure ⟨plainId_quiet F.plain_all_loop _, ih _ hg1 hl1 ⟨gs', setGen_at hsz1, ?_⟩⟩
        exact hk _ ⟨rfl, allBare_setGen (allBare_setGen hb1 hb) rfl, fun _ _ e => e⟩
      | false =>
        simp only [if_false, Bool.false_eq_true]
        exact wpAny_bind (wpAny_rule (wpAny_pure (hR false _ (st false s₁ _ hw (hf rfl)))))
    · intro _
      exact wpAny_bind (wpAny_rule (wpAny_pure (hR true _ (st true s₁ _ ⟨rfl, allBare_setGen hp.1 rfl, hk⟩ hp.2))))
/-- all(g), g a generator that has not begun -/
theorem call_all_own {Q : Value → Shared → Prop} {s : Shared} {c : Code} {n : Nat} (hh : A.handled = none) (hd : A.depth < recursionLimit) (st : ∀ b s s', Woke s s' → Fw b s → Fw b s') (hQ : ∀ b s, Fw b s → Q (.bool b) s)
    (hg : s.heap.IsGen a g) (hl : s.heap.NoLimit) (hgs : s.gens[g]? = some (.fresh c)) (hgo : Seg (model P w) A.in1.in1 (AR Fw) (AY a g Fw) n (s.setGen g .running) c ((model P w).den c) [] (s.setGen g .running)) :
    wpAny (model P w) A (call (.builtin "all") [.ref a]) Q E s := by
  refine (call_function_tree F.kind_all F.plain_all F.entry_all (F.args_all1 _) ?_)
  unfold Builtin.«all»
  refine (wpAny_bind (m := oneArg "all" _) (wpAny_pure ?_))
  refine wpAny_bind (wpAny_pyIter_gen hg ?_)
  exact wpAny_pure ⟨plainId_quiet F.plain_all_loop _, all_walk hh hd st hQ n s hg hl ⟨_, hgs, rfl, hgo⟩⟩
end
end My

set_option maxRecDepth 100000
set_option maxHeartbeats 1800000
/-! GxB: a generator expression's code, turn by turn. -/
namespace My
open PySem PySem.Spec PyProof.Rows L2 GenW
abbrev gxLoop (elt tg iter : Expr) (scope : Scope) (pos : Pos) (it : Addr) (env : Env) : Code := .compLoop (.GeneratorExp elt [⟨tg, iter, [], 0⟩] scope pos) 0 (.ref it) .none env
abbrev gxStart (elt tg iter : Expr) (scope : Scope) (pos : Pos) (it : Addr) (env : Env) : Code := .compStart (.GeneratorExp elt [⟨tg, iter, [], 0⟩] scope pos) 0 (.ref it) .none env
/-- what is wanted at each turn -/
def GxT (J : It) (g : TG) (te : TE) (vs : List Nat) (σ : L2.St) (QF : Bool → Hp → Prop) (W : Nat → Nat → Hp → Prop) : Prop :=
  ∀ i m H, W i m H → (J.stop i H ∧ QF true H) ∨ (J.go i H ∧ ∃ Nx : Hp → Prop, (∀ H', Nx H' → ∃ m', m' < m ∧ W (i + 1) m' H') ∧ ∀ x H', J.yld i H x H' → g x σ H' fun σ2 H2 => wipe σ2 vs = σ ∧ te σ2 H2 fun y H3 => ∃ b : Bool, y = .bl b ∧ (b = true → Nx H3) ∧ (b = false → QF false H3))
section
variable {G : Cx} {A : Around} {a it : Addr} {g : Nat} {Fw : Bool → Shared → Prop} {elt tg iter : Expr} {scope : Scope} {pos : Pos} {fp : List Addr} {tn : Nat → Heap → Prop} {J : It} {gt : TG} {te : TE} {vs : List Nat} {σ0 : L2.St} {QF : Bool → Hp → Prop} {W : Nat → Nat → Hp → Prop}
/-- how such code stands -/
structure GxOk (G : Cx) (A : Around) (a : Addr) (g : Nat) (Fw : Bool → Shared → Prop) (elt tg iter : Expr) (scope : Scope) (pos : Pos) (it : Addr) (fp : List Addr) (tn : Nat → Heap → Prop) (J : It) (gt : TG) (te : TE) (vs : List Nat) (σ0 : L2.St) (QF : Bool → Hp → Prop) (W : Nat → Nat → Hp → Prop) : Prop where
  noX : ∀ e s, ¬ G.xe e s
  calm : G.calm = true
  over : A.over (gxLoop elt tg iter scope pos it G.env) [] = G.A
  co : G.env.scope.isCoroutine = false
  ex : G.ex = fp
  pf : ∀ p ∈ G.pn, p.1 ∉ fp
  T : Turn G.prog G.w G.K tg J fp it tn
  pg : PG G tg gt
  pe : PE G elt te
  gen : ∀ pins σ H s, Inv G pins σ H s → s.heap.IsGen a g
  back : ∀ pins σ H s b, Inv G pins σ H s → QF b H → Fw b s
  wide : ∀ σ2 : L2.St, wipe σ2 vs = σ0 → σ2.length = σ0.length
  turn : GxT J gt te vs σ0 QF W
theorem gx_loop (o : GxOk G A a g Fw elt tg iter scope pos it fp tn J gt te vs σ0 QF W) : ∀ (m n i : Nat) (H' : Hp) (s s₀ : Shared), m < n → Inv G [] σ0 H' s → tn i s.heap → (∀ b ∈ fp, H' b = none) → W i m H' →
    Seg (model G.prog G.w) A (AR Fw) (AY a g Fw) n s₀ (gxLoop elt tg iter scope pos it G.env) ((model G.prog G.w).den (gxLoop elt tg iter scope pos it G.env)) [] s := by
  obtain ⟨noX, calm, over, co, ex, pf, T, pg, pe, gen, back, wide, turn⟩ := o
  have nox : ∀ {α : Type} {t : Sem α} {Q Q' : α → Shared → Prop} {E : Value → Shared → Prop} {s : Shared}, wpAny (model G.prog G.w) G.A t Q G.xe s → (∀ a s, Q a s → Q' a s) → wpAny (model G.prog G.w) G.A t Q' E s :=
    fun h k => wpAny_mono h k fun e s z => absurd z (noX e s)
  have stand : ∀ {σ' : L2.St} {H' : Hp} {s' : Shared}, Inv G [] σ' H' s' → (∀ b ∈ fp, H' b = none) → ∀ b ∈ fp, FpOk G [] H' b := fun {σ' H' s'} I' hn b hb => by
    have hb' : b ∈ G.ex := by rw [ex]; exact hb
    exact ⟨hn b hb, (I'.ok.exf b hb').1, I'.ok.exfs b hb', .inl hb', fun x c e => (I'.ok.exf b hb').2 x c e, fun p hp z => by
      rw [List.append_nil] at hp
      exact pf p hp (z ▸ hb)⟩
  intro m
  induction m using Nat.strongRecOn with -- case by case
  | ind m ih =>
    intro n i H1 s s₀ hmn I1 st1 n1 w1
    show Seg _ A _ _ _ s₀ _ ((compTurn (.GeneratorExp elt [⟨tg, iter, [], 0⟩] scope pos) 0 (.ref it) .none G.env).onRaise (leaving G.env)) [] s
    (rw [compTurn_gen, Sem.onRaise_eq_wrap])
    refine (seg_bind_wrap (wpAny_standAt ?_))
    refine seg_bind_wrap ?_
    rw [over]
    rcases turn i m H1 w1 with ⟨ss, qe⟩ | ⟨gg, Nf, gN, stp⟩
    · refine thnF (T.done G rfl rfl rfl calm i [] s _ H1 (fun _ _ => False) I1 (stand I1 n1) st1 ss) fun r s2 ⟨er, I2⟩ => ?_
      subst er
      exact seg_end (.ok .next) ⟨rfl, I2.bare, back _ _ _ _ _ I2 qe⟩
    · refine thnF (T.item G rfl rfl rfl calm i [] s _ H1 (fun _ _ => False) I1 (stand I1 n1) st1 gg) fun r s2 ⟨u, er, h2⟩ => ?_
      subst er
      refine seg_bind_wrap ?_
      rw [over]
      refine thnF h2 fun _ s3 ⟨x, H3, I3, rx, yx, st3, n3⟩ => ?_
      have I3' := I3.pinned (stand I3 n3) (T.obj _ _ st3)
      refine seg_bind_wrap ?_
      rw [over]
      refine nox (pg.run _ s3 _ H3 x u _ I3' rx (stp x H3 yx)) fun _ s4 ⟨σ4, H4, I4, hw4, q4⟩ => ?_
      refine seg_bind_wrap ?_
      rw [over, List.forIn_nil]
      refine wpAny_pure ?_
      simp only [if_true]
      have hy : ∀ v, yieldOut G.env v = yieldValue v := fun v => by simp only [yieldOut, co, Bool.false_eq_true, if_false]
      simp only [hy]
      (rw [Sem.bind_eq_wrap', Sem.bind_eq_wrap', Sem.wrap_wrap, Sem.wrap_wrap])
      refine seg_wrap ?_
      rw [over]
      refine nox (pe.run _ s4 σ4 H4 _ I4 q4) fun z s5 ⟨y, H5, I5, rz, b, eb, bt, bf⟩ => ?_
      subst eb
      have ez : z = .bool b := rz
      subst ez
      obtain ⟨k, rfl⟩ : ∃ k, n = k + 1 := ⟨n - 1, by omega⟩
      refine seg_at (seg_yield rfl rfl rfl ⟨I5.bare, b, rfl, fun hb => back _ _ _ _ _ I5 (bf hb), fun hb => ⟨I5.nolimit, gen _ _ _ _ I5, fun s6 wk => ?_⟩⟩)
      obtain ⟨m', lm, w'⟩ := gN H5 (bt hb)
      have pin' : ∀ b ∈ fp, ∀ o, s3.heap.get? b = some o → s5.heap.get? b = some o ∧ H5 b = none := fun b hb o e =>
        let z := I5.pin (b, o) (List.mem_append_right _ (List.mem_append_right _ (mem_pinsAt hb e)))
        ⟨z.1, z.2.1⟩
      have J5 : Inv G [] σ0 H5 s5 := (I5.unpinned (pins := [])).weak (wide σ4 hw4).symm fun j v e => by
        rw [← hw4] at e
        exact (wipe_some e).1
      have J6 : Inv G [] σ0 H5 s6 := J5.call' (ch := []) wk.os (Un.kept wk.keep) (J5.hok.kept wk.keep) wk.bare fun _ z => nomatch z
      refine seg_again rfl (ih m' lm k (i + 1) H5 s6 s6 (by omega) J6 (T.keep _ _ _ st3 fun b hb o e => wk.keep b o (pin' b hb o e).1) (fun b hb => ?_) w')
      obtain ⟨o, e, _⟩ := T.obj _ _ st3 b hb
      exact (pin' b hb o e).2
theorem gx_start (o : GxOk G A a g Fw elt tg iter scope pos it fp tn J gt te vs σ0 QF W) {m n : Nat} {H' : Hp} {s s₀ : Shared} (hmn : m < n) (I : Inv G [] σ0 H' s) (st : tn 0 s.heap) (n1 : ∀ b ∈ fp, H' b = none) (w1 : W 0 m H') :
    Seg (model G.prog G.w) A (AR Fw) (AY a g Fw) n s₀ (gxStart elt tg iter scope pos it G.env) ((model G.prog G.w).den (gxStart elt tg iter scope pos it G.env)) [] s := by
  have loop := gx_loop o m n 0 H' s s₀ hmn I st n1 w1
  show Seg _ A _ _ _ s₀ _ ((compStart (.GeneratorExp elt [⟨tg, iter, [], 0⟩] scope pos) 0 (.ref it) .none G.env).onRaise (leaving G.env)) [] s
  unfold compStart
  rw [Sem.onRaise_eq_wrap]
  show (Seg _ A _ _ _ s₀ _ ((ask >>= _).wrap _ _ _ _) [] s)
  refine (seg_bind_wrap (wpAny_askSetting ?_))
  split
  · exact seg_again rfl loop
  · refine seg_bind_wrap (wpAny_rule ?_)
    show Seg _ A _ _ _ s₀ _ ((standAt iter.pos >>= _).wrap _ _ _ _) [] s
    exact seg_bind_wrap (wpAny_standAt (seg_bind_wrap (o.T.self _ 0 s _ _ st (seg_again rfl loop))))
end
end My

set_option maxRecDepth 100000
set_option maxHeartbeats 1800000
/-! GxD: where a generator expression's code begins. -/
namespace My
open PySem PySem.Spec PyProof.Rows L2 GenW
/-- the context of a generator expression's code -/
abbrev GxC (X : Cx) (B : Around) (s : Shared) (H : Hp) (scope : Scope) (cenv : Env) (fp : List Addr) (pn : List (Addr × Obj)) : Cx :=
  { X with A := B, s_0 := s, H_0 := H, env := cenv, outer := X.stack, stack := cenv :: X.stack, ex := fp, fn := fun x => scope.names.lookup x == some .cell, pn := pn, xe := fun _ _ => False }
section
variable {X : Cx} {pins : List (Addr × Obj)} {σ : L2.St} {H : Hp} {s s1 : Shared}
theorem gx_begin {B : Around} {scope : Scope} {own : List (Str × Nat)} {fp : List Addr} {C a bi : Addr} {code : Value} {m : Str → Option Value} {go : Obj} (I : Inv X pins σ H s) (ok : BlkOk X.N X.env.scope scope own) (nc : ∀ y ∈ scope.names, y.2 ≠ .cell) (hN : X.N.Nodup)
    (hfp : ∀ b ∈ fp, FpOk X pins H b ∧ b < s.heap.objs.size) (hA : B.handled = none) (hC : C = s.heap.objs.size) (hbi : bi = builtinsNs) (hf : B.frames = some (genEnv scope (cloFrom X.env.cells scope.names []) C code bi X.env :: X.stack))
    (kp : ∀ b o, s.heap.get? b = some o → s1.heap.get? b = some o) (hos : s1.os = s.os) (hb : AllBare s1.gens) (hn : s1.heap.Ns C m) (ha : s1.heap.get? a = some go) (hgo : ∀ v, go.data ≠ .cell v) (haC : C < a) :
    Inv (GxC X B s H scope (genEnv scope (cloFrom X.env.cells scope.names []) C code bi X.env) fp [(a, go)]) [] (wipe σ (own.map (·.2))) H s1 := by
  have hfree : (∀ y ∈ scope.names, y.2 = .free → ∃ c, X.env.cells.lookup y.1 = some c) := fun y hy e => by
    rcases (ok.free y hy e) with k | k
    · exact I.ok.has _ (.inl k)
    · exact I.ok.has _ (.inr k)
  have cm : (∀ {y c}, (y, c) ∈ cloFrom X.env.cells scope.names [] → X.env.cells.lookup y = some c ∧ c < s.heap.objs.size) := fun {y c} hm => by
    rcases (cloFrom_mem hm) with hm | ⟨h1, rfl⟩
    · cases hm
    · obtain ⟨c, hc⟩ := (hfree _ h1 rfl)
      rw [hc]
      obtain ⟨w, z⟩ := (I.cell _ _ hc)
      exact ⟨rfl, z.lt⟩
  have mem : ∀ {y c}, (cloFrom X.env.cells scope.names []).lookup y = some c → X.env.cells.lookup y = some c ∧ c < s.heap.objs.size := fun {y c} e => cm (PySem.mem_of_lookup e)
  have look : ∀ {y}, scope.names.lookup y = some .free → ∃ c, (cloFrom X.env.cells scope.names []).lookup y = some c ∧ X.env.cells.lookup y = some c := fun {y} hl => by
    obtain ⟨c', e'⟩ := mem_lookup (cloFrom_has (cells := X.env.cells) (acc := []) (PySem.mem_of_lookup hl))
    exact ⟨c', e', (mem e').1⟩
  have noCell : ∀ {y}, scope.names.lookup y ≠ some .cell := fun {y} e => nc _ (PySem.mem_of_lookup e) rfl
  have stkLt : ∀ b ∈ frs X.stack, b < s.heap.objs.size := fun b hb => by
    obtain ⟨_, o, e, _⟩ := I.stack.mem hb
    exact Heap.lt_size e
  have okG : (GxC X B s H scope (genEnv scope (cloFrom X.env.cells scope.names []) C code bi X.env) fp [(a, go)]).Ok := by
    refine ⟨I.ok.mod, ok.kind, I.ok.glob, hbi, Nat.le_of_eq hC.symm, fun y z c e1 e2 => I.ok.inj y z c (mem e1).1 (mem e2).1, fun y hy => ?_, fun y c z e => ?_, fun _ => hA, hf, .inr ⟨rfl, rfl⟩,
      fun b hb => ⟨?_, fun y c e z => ?_⟩, I.bs, Nat.le_trans I.ok.bsz I.sz, fun b o e hb => ?_, fun b hb z => ?_, I.stack, I.stkFree⟩
    · rcases hy with hy | hy
      · exact absurd hy noCell
      · obtain ⟨c, h1, _⟩ := look hy
        exact ⟨c, h1⟩
    · have z : ((scope.names.lookup y == some NameKind.cell) = true) := z
      exact absurd (by simpa using z) (noCell (y := y))
    · show b ≠ C
      rw [hC]; exact Nat.ne_of_lt (hfp b hb).2
    · exact (hfp b hb).1.2.2.2.2.1 y c (mem e).1 z
    · rcases ((hfp b hb).1.2.2.2.1) with z | z
      · exact I.ok.noex b o e z
      · exact (absurd (Nat.lt_of_lt_of_le (Heap.lt_size e) (Nat.le_trans I.ok.bsz z)) (Nat.lt_irrefl _))
    · rcases (List.mem_cons.mp (I.stkSub b z)) with z | z
      · exact (hfp b hb).1.2.1 z
      · exact (hfp b hb).1.2.2.1 z
  refine ⟨okG, hos, hb, Un.kept kp, ⟨m, hn, fun i y av e1 e2 e3 => ?_⟩, fun y c e => ?_, ?_, fun y c e => ?_, fun p hp => ?_, I.hok.kept kp, by rw [wipe_length]; exact I.len⟩
  · obtain ⟨e2, hne⟩ := (wipe_some e2)
    have hfr : scope.names.lookup y = some .free := by
      have e3 : Vis scope y := e3
      rcases e3 with k | k | k
      · rcases ok.own _ (PySem.mem_of_lookup k) (.inl rfl) with e' | e'
        · obtain ⟨p, hp, hpy⟩ := (List.mem_map.mp e')
          have e3 := ok.ix p hp
          have : p.1 = y := hpy
          rw [this] at e3
          exact absurd (List.mem_map.mpr ⟨p, hp, nodup_ix hN e3 e1⟩) hne
        · exact absurd (List.mem_of_getElem? e1) e'
      · exact absurd k noCell
      · exact k
    obtain ⟨m', hn', hl⟩ := I.loc
    have hvis : Vis X.env.scope y := (ok.free _ (PySem.mem_of_lookup hfr) rfl).elim (fun k => .inr (.inl k)) (fun k => .inr (.inr k))
    obtain ⟨w, r, q⟩ := (hl i y av e1 e2 hvis)
    refine ⟨w, r, .inr ⟨.inr hfr, ?_⟩⟩
    obtain ⟨c, h1, h2⟩ := look hfr
    rcases (q) with ⟨k, _⟩ | ⟨_, c', e', z⟩
    · have k : (X.env.scope.names.lookup y = some .local) := k
      rcases ok.free _ (PySem.mem_of_lookup hfr) rfl with k' | k' <;> rw [show X.env.scope.names.lookup y = _ from k'] at k <;> cases k
    · rw [h2] at e'; cases e'
      exact ⟨c, h1, z.keeps kp⟩
  · obtain ⟨w, z⟩ := I.cell y c (mem e).1
    exact ⟨w, z.keeps kp⟩
  · show H C = none
    rw [hC]; exact I.hok.fresh (Nat.le_refl _)
  · exact I.freeC y c (mem e).1
  · obtain rfl := List.mem_singleton.mp (show p ∈ [(a, go)] from by simpa using hp)
    refine ⟨ha, I.hok.fresh (Nat.le_of_lt (by rw [← hC]; exact haC)), Nat.ne_of_gt haC, fun hm => ?_, hgo⟩
    have := stkLt a hm
    rw [← hC] at this
    exact absurd (Nat.lt_trans haC this) (Nat.lt_irrefl _)
end
end My

set_option maxRecDepth 100000
set_option maxHeartbeats 1800000
/-! GxE: all(elt for tg in iter), the element any expression that raises nothing: the rule. -/
namespace My
open PySem PySem.Spec PyProof.Rows L2 GenW GxR
/-- the generator expression's own scope -/
structure GxS (scope : Scope) : Prop where
  co : (scope.isCoroutine = false)
  nc : ∀ y ∈ scope.names, y.2 ≠ .cell
  dot : (scope.names.lookup (".0" : Str) = some NameKind.local)
/-- all(..): the def's table may have grown ahead of the first turn -/
def tAllX (P : Addr) (wi : TI) (g : TG) (te : TE) (vs : List Nat) : TE := fun σ H Q => wi σ H fun J H1 => TabG H1 P ∧ ∀ H2, Tabbed P H1 H2 → ∃ W : Nat → Nat → Hp → Prop, (∃ m, W 0 m H2) ∧ GxT J g te vs (wipe σ vs) (fun b H3 => Q (.bl b) H3) W
/-- the around of such code is a deeper one -/
theorem gx_over {A : Around} {elt tg iter : Expr} {scope : Scope} {pos : Pos} {it : Addr} {env : Env} : A.over (gxLoop elt tg iter scope pos it env) [] = A.deeper env := by
  obtain ⟨hd, d, fr, gs, u⟩ := (A)
  cases fr <;> cases gs <;> simp [Around.over, Around.deeper, marksOver, frameCount, unitsOf, envsOf, guardsOf, pushEnvs, pushGuards, Code.envs, Code.env?, Code.isFrame, Code.guards, Code.isGuard, Code.weight, Code.frames, Code.isCreation, Code.isCaller, Code.cUnits]
theorem in2_room {k : Nat} {A : Around} (r : Room (k + 1) A) (env : Env) : Room k (A.in1.in1.deeper env) :=
  ⟨r.hd, by have := r.dp; show A.depth + 1 + 3 * k + 5 < _; omega, by have := r.un; show A.units + 1 + 1 + 3 + 16 * k + 200 < _; omega⟩
theorem in2_frames {A : Around} {env : Env} {l : List Env} (h : A.frames = some l) : (A.in1.in1.deeper env).frames = some (env :: l) := Around.frames_deeper (A := A.in1.in1) h
section
variable {X : Cx} {k : Nat} {c P : Addr} {elt tg iter : Expr} {p pos gpos : Pos} {scope : Scope} {own : List (Str × Nat)} {wi : TI} {g : TG} {te : TE}
theorem pe_allX (hr : Room (k + 1) X.A) (hc : X.calm = true) (hN : X.N.Nodup) (hg : Gl X "all") (hm : X.mg "all" = none) (hb : bootBuiltins "all" = some (.builtin "all")) (TB : TabB X.base X.mg c P) (hcode : X.env.code = .ref c) (S : GxS scope) (ok : BlkOk X.N X.env.scope scope own) (hi : PI X tg iter wi)
    (hpg : ∀ (B : Around) (s : Shared) (H : Hp) (C : Addr) (cd : Value) (fp : List Addr) (pn : List (Addr × Obj)), Room k B → PG (GxC X B s H scope (genEnv scope (cloFrom X.env.cells scope.names []) C cd builtinsNs X.env) fp pn) tg g)
    (hpe : ∀ (B : Around) (s : Shared) (H : Hp) (C : Addr) (cd : Value) (fp : List Addr) (pn : List (Addr × Obj)), Room k B → PE (GxC X B s H scope (genEnv scope (cloFrom X.env.cells scope.names []) C cd builtinsNs X.env) fp pn) elt te)
    (hs : ∀ u, genFold iter X.env u = pure u)
    (he : starEach [.GeneratorExp elt [⟨tg, iter, [], 0⟩] scope gpos] X.env = (false, eval (.GeneratorExp elt [⟨tg, iter, [], 0⟩] scope gpos) X.env) :: starEach [] X.env := by rfl) :
    PE X (.Call (.Name "all" p) [.GeneratorExp elt [⟨tg, iter, [], 0⟩] scope gpos] [] pos) (tAllX P wi g te (own.map (·.2))) := by
  refine (⟨fun pins s σ H Q I h => ?_⟩)
  refine (wpAny_Call_Name_kw (ld_blt I hg hm hb ?_))
  refine (PyProof.Rows.callWith_builtin1 ?_ he (by rfl))
  rw [he]
  show wpAny _ _ (spliced ((false, eval (.GeneratorExp elt [⟨tg, iter, [], 0⟩] scope gpos) X.env) :: backTo pos (starEach [] X.env))) _ _ s
  have hfree : (∀ y ∈ scope.names, y.2 = .free → ∃ c, X.env.cells.lookup y.1 = some c) := fun y hy e => by
    rcases (ok.free y hy e) with k | k
    · exact I.ok.has _ (.inl k)
    · exact I.ok.has _ (.inr k)
  refine Calls.spliced_cons (wpAny_GeneratorExp_make S.co (closure_ok hfree) S.nc S.dot ok.kind (by have := hr.dp; omega) ?_ hs)
  refine thn (hi.run pins s σ H _ I h) fun xv s1 h1 => thn h1 fun itv s2 h2 => ?_
  obtain ⟨it, fp, tn, J, H2, rfl, I2, T, st2, f2, ⟨ps, hP, ht⟩, q⟩ := h2
  have hPs : s2.heap.get? P = some { cls := .none, data := .fields ps } := I2.hok P _ hP
  have cd : PySem.W.CodeHd s2.heap c P := TB.code.keeps I2.bk
  refine ⟨I2.nolimit, ?_⟩
  have cont : ∀ (code : Value) (h3 : Heap) (tk : Nat) (ps' : Array Value), Heap.ExtBut P s2.heap h3 → s2.heap.objs.size ≤ h3.objs.size → h3.get? P = some { cls := .none, data := .fields ps' } → (∃ more, ps' = ps ++ more) → TriplesOk ps'.toList →
      wpAny (model X.prog X.w) X.A (builtinsFor X.env.globals X.env.builtins) (fun bi s4 => ∀ h', h'.Ns s4.heap.objs.size (fun y => if y = ".0" then some (.ref it) else none) → Heap.SameBut s4.heap.objs.size (s4.heap.push { cls := .type "frame", data := .dict #[] }) h' →
        wpAny (model X.prog X.w) X.A (spliced (backTo pos (starEach [] X.env))) (fun us s6 => wpAny (model X.prog X.w) X.A (call (.builtin "all") (Value.ref h'.objs.size :: us)) (EP X pins σ Q) X.xe s6) X.xe { s4 with
          gens := s4.gens.push (.fresh (gxStart elt tg iter scope gpos it (genEnv scope (cloFrom X.env.cells scope.names []) s4.heap.objs.size code bi X.env)))
          toks := s4.toks + 1 + 1 + 1
          heap := h'.push { cls := .type "generator", data := .fields #[.int s4.gens.size 0, .str "<genexpr>" (s4.toks + 1), .str (X.env.qual ++ "<genexpr>") (s4.toks + 1 + 1)] } }) X.xe { s2 with heap := h3, toks := tk } := by
    intro code h3 tk ps'; intro hx hsz hP3 hmore ht3
    obtain ⟨bm, ob, e1, e2, e3, e4, e5, e6, e7, e8⟩ := (TB.bm)
    obtain ⟨more, rfl⟩ := hmore
    have keep3 : ∀ b u, b ≠ P → s2.heap.get? b = some u → h3.get? b = some u := fun b u hb e => hx b u hb e
    have I3 : Inv X pins σ (upd H2 P (.tbl (ps ++ more))) { s2 with heap := h3, toks := tk } := inv_tab (more := more) (h' := h3) (g' := s2.gens) (d' := s2.drawn) (t' := tk) I2 hP keep3 hP3 I2.bare
    have hT : Tabbed P H2 (upd H2 P (.tbl (ps ++ more))) := ⟨⟨ps ++ more, upd_same, ht3⟩, fun b hb => upd_ne hb⟩
    have nP : ∀ b ∈ fp, b ≠ P := fun b hb z => by
      have := (f2 b hb).1
      rw [z, hP] at this; cases this
    have sz : ∀ b ∈ fp, b < h3.objs.size := fun b hb => by
      obtain ⟨o, e, _⟩ := (T.obj _ _ st2 b hb)
      exact Nat.lt_of_lt_of_le (Heap.lt_size e) hsz
    have f3 : ∀ b ∈ fp, FpOk X pins (upd H2 P (.tbl (ps ++ more))) b ∧ b < h3.objs.size := fun b hb =>
      ⟨⟨by rw [upd_ne (nP b hb)]; exact (f2 b hb).1, (f2 b hb).2⟩, sz b hb⟩
    have st3 : tn 0 h3 := T.keep _ _ _ st2 fun b hb o e => keep3 b o (nP b hb) e
    refine wpAny_builtinsFor (m := X.mg) (by rw [I.ok.glob]; exact (I.mod.glob.keeps I2.bk).extBut hx TB.gP) e1 e2 (keep3 _ _ e4 (I2.bk _ _ e5)) e6 e7 e8 ?_
    intro h' hn' hs'
    obtain ⟨W, ⟨m0, w0⟩, turn⟩ := q _ hT
    generalize upd H2 P (.tbl (ps ++ more)) = H4 at I3 f3 w0 turn
    generalize es4 : ({ s2 with heap := h3, toks := tk } : Shared) = s4 at I3 hn' hs' ⊢
    have eh : s4.heap = h3 := by rw [← es4]
    rw [← eh] at f3 st3
    have hsz' : h'.objs.size = s4.heap.objs.size + 1 := by rw [hs'.1, Heap.size_push]
    have kp' : ∀ b o, s4.heap.get? b = some o → h'.get? b = some o := fun b o e => hs'.extBut b o (Nat.ne_of_lt (Heap.lt_size e)) (Heap.get?_push_of_some _ e)
    refine Calls.spliced_nil ?_
    obtain ⟨go, ego⟩ : ∃ go : Obj, go = { cls := .type "generator", data := .fields #[.int s4.gens.size 0, .str "<genexpr>" (s4.toks + 1), .str (X.env.qual ++ "<genexpr>") (s4.toks + 1 + 1)] } := ⟨_, rfl⟩
    rw [← ego]
    have hga : (h'.push go).get? h'.objs.size = some go := by rw [ego]; exact Heap.get?_push_size _ rfl
    have hgen : ∀ h : Heap, h.get? h'.objs.size = some go → h.IsGen h'.objs.size s4.gens.size := fun h e => ⟨go, _, _, e, by rw [ego], by rw [ego], by rw [ego]⟩
    have hgd : ∀ v, go.data ≠ .cell v := fun v => by rw [ego]; exact fun e => by cases e
    have kp5 : ∀ b o, s4.heap.get? b = some o → (h'.push go).get? b = some o := fun b o e => Heap.get?_push_of_some _ (kp' b o e)
    have hbg : AllBare (s4.gens.push (.fresh (gxStart elt tg iter scope gpos it (genEnv scope (cloFrom X.env.cells scope.names []) s4.heap.objs.size code builtinsNs X.env)))) := AllBare.push I3.bare rfl
    have st : ∀ (b : Bool) (s s' : Shared), Woke s s' → (∃ H', Inv X pins σ H' s ∧ Q (.bl b) H') → ∃ H', Inv X pins σ H' s' ∧ Q (.bl b) H' := fun b s s' wk ⟨H', J', q'⟩ =>
      ⟨H', J'.call' (ch := []) wk.os (Un.kept wk.keep) (J'.hok.kept wk.keep) wk.bare fun _ z => (nomatch z), q'⟩
    refine call_all_own (a := h'.objs.size) (g := s4.gens.size) (n := m0 + 1) (Fw := fun b s' => ∃ H', Inv X pins σ H' s' ∧ Q (.bl b) H') hr.hd (by have := hr.dp; omega) st (fun b s' ⟨H', J', q'⟩ => ⟨.bl b, H', J', rfl, q'⟩)
      (hgen _ hga) (I3.nolimit.keeps kp5) (Array.getElem?_push_size ..) ?_
    obtain ⟨ce, ece⟩ : ∃ ce, ce = genEnv scope (cloFrom X.env.cells scope.names []) s4.heap.objs.size code builtinsNs X.env := ⟨_, rfl⟩
    have IG := gx_begin (B := X.A.in1.in1.deeper ce) (C := s4.heap.objs.size) (a := h'.objs.size) (bi := builtinsNs) (code := code) (go := go) (s1 := ({ s4 with gens := s4.gens.push (.fresh (gxStart elt tg iter scope gpos it (genEnv scope (cloFrom X.env.cells scope.names []) s4.heap.objs.size code builtinsNs X.env))), toks := s4.toks + 1 + 1 + 1, heap := h'.push go } : Shared).setGen s4.gens.size .running)
      I3 ok S.nc hN f3 hr.hd rfl rfl (by rw [← ece]; exact in2_frames I3.ok.frames) kp5 rfl (allBare_setGen (s := { s4 with gens := _, toks := _, heap := _ }) hbg rfl) (hn'.push _) hga hgd (Nat.lt_of_lt_of_eq (Nat.lt_succ_self _) hsz'.symm)
    have pgG := hpg (X.A.in1.in1.deeper ce) s4 H4 s4.heap.objs.size code fp [(h'.objs.size, go)] (in2_room hr ce)
    have peG := hpe (X.A.in1.in1.deeper ce) s4 H4 s4.heap.objs.size code fp [(h'.objs.size, go)] (in2_room hr ce)
    rw [← ece] at IG pgG peG ⊢
    have cL : ce.locals = s4.heap.objs.size := by rw [ece]; rfl
    have cS : ce.scope = scope := by rw [ece]; rfl
    have wide : ∀ σ2 : L2.St, wipe σ2 (own.map (·.2)) = wipe σ (own.map (·.2)) → σ2.length = (wipe σ (own.map (·.2))).length := fun σ2 e => by
      have := congrArg List.length e
      rw [wipe_length, wipe_length] at this
      rw [wipe_length]
      exact this
    have bck : ∀ (pins' : List (Addr × Obj)) (σ' : L2.St) (H' : Hp) (s' : Shared) (b : Bool), Inv (GxC X (X.A.in1.in1.deeper ce) s4 H4 scope ce fp [(h'.objs.size, go)]) pins' σ' H' s' → Q (.bl b) H' → ∃ H', Inv X pins σ H' s' ∧ Q (.bl b) H' := fun pins' σ' H' s' b I' q' =>
      ⟨H', I3.call' (ch := fp) I'.os I'.base I'.hok I'.bare fun b hb => ⟨(f3 b hb).1.2.2.2.1, (f3 b hb).1.2.1, (f3 b hb).1.2.2.2.2.1, (f3 b hb).1.2.2.2.2.2⟩, q'⟩
    refine gx_start (G := GxC X (X.A.in1.in1.deeper ce) s4 H4 scope ce fp [(h'.objs.size, go)]) ⟨fun _ _ z => z, hc, gx_over, by show ce.scope.isCoroutine = false; rw [cS]; exact S.co, rfl, fun pp hp hm => ?_, T, pgG, peG,
      fun pins' σ' H' s' I' => hgen _ (I'.pin (h'.objs.size, go) (List.mem_append_left _ (List.mem_singleton.mpr rfl))).1, bck, wide, turn⟩ (Nat.lt_succ_self m0) IG (T.keep _ _ _ st3 fun b _ o e => kp5 b o e) (fun b hb => (f3 b hb).1.1) w0
    obtain rfl := (List.mem_singleton.mp hp)
    have h9 : h'.objs.size < s4.heap.objs.size := (f3 _ hm).2
    rw [hsz'] at h9
    exact absurd h9 (Nat.not_lt.mpr (Nat.le_succ _))
  cases hf : codeAmong gpos ps.toList with -- case by case
  | none =>
    refine wpAny_genexprCodeX hcode (cd.code hPs ht) (cd.tab hPs) hf fun c' h' tk hx hge hlt hco' _ htab' _ => ?_
    obtain ⟨o1, vs, f1, tf, fl, tg', inF, tx, tt, op, _, _, _, _, _, _, _, _, _, htr, _⟩ := hco'
    exact (cont _ h' tk _ hx (Nat.le_trans hge (Nat.le_of_lt hlt)) htab'.2 ⟨_, rfl⟩ htr)
  | some cv =>
    refine wpAny_genexprCode_hit hcode (cd.code hPs ht) hf ?_
    exact cont cv s2.heap s2.toks ps (Heap.ExtBut.refl _ _) (Nat.le_refl _) hPs ⟨#[], by simp⟩ ht
end
end My

set_option maxRecDepth 100000
set_option maxHeartbeats 1600000
/-! ZipM: zip of a list and a tuple. -/
namespace My
open PySem PySem.Spec PyProof.Rows L2 RZ
/-- the list at a and the tuple at b as they stand at each turn -/
def ItzM (K : PySem.W.Frag) (a b : Addr) : It where
  go i H := ∃ (xs ys : List V) (x y : V), SqL K H a xs ∧ SqT K H b ys ∧ xs[i]? = some x ∧ ys[i]? = some y
  yld i H v H' := ∃ T x y, v = .ref T ∧ H T = none ∧ H' = upd H T (.tup [x, y]) ∧ (∀ xs, SqL K H a xs → xs[i]? = some x) ∧ ∀ ys, SqT K H b ys → ys[i]? = some y
  stop i H := ∃ xs ys : List V, SqL K H a xs ∧ SqT K H b ys ∧ xs.length = i ∧ ys.length = i
theorem sep_of {z TI TO i1 i2 a b : Addr} (D : ZipApart z TI TO i1 i2 a b) : ZipSep2 z TI TO i1 i2 [i1, a] [i2, b] where
  TIz := D.TIz
  TOz := D.TOz
  TITO := D.TITO
  TIi1 := D.TIi1
  mem1 := by simp
  zf1 := by simp [D.i1z.symm, D.l1z.symm]
  Tf1 := by simp [D.TOi1, D.l1TO.symm]
  TIi2 := D.TIi2
  mem2 := by simp
  zf2 := by simp [D.i2z.symm, D.l2z.symm]
  Tf2 := by simp [D.TOi2, D.l2TO.symm]
  sep1_2 := by simp [D.i12, D.l2i1.symm]
  sep2_1 := by simp [D.i12.symm, D.l1i2.symm]
theorem turn_zipM {P : Program} {w : World} {K : PySem.W.Frag} {elts : List Expr} {kk : Nat} {tpos : Pos} {a b z TI TO i1 i2 : Addr} (D : ZipApart z TI TO i1 i2 a b) :
    Turn P w K (.Tuple elts kk tpos) (ItzM K a b) [z, TI, TO, i1, i2] z (fun i h => IsZip h z TI TO .none ∧ IsPair h TI (.ref i1) (.ref i2) ∧ (∃ x y, IsPair h TO x y) ∧ h.IsListIter i1 a i ∧ h.IsTupleIter i2 b i) where
  mem := by simp
  obj := fun i h st c hc => by
    obtain ⟨hz, hTI, ⟨x, y, hTO⟩, ⟨o1, e1, _, d1⟩, ⟨o2, e2, _, d2⟩⟩ := (st)
    have cs : c = z ∨ c = TI ∨ c = TO ∨ c = i1 ∨ c = i2 := by simpa using hc
    rcases cs with rfl | rfl | rfl | rfl | rfl
    · exact ⟨_, hz, nofun⟩
    · exact ⟨_, hTI, nofun⟩
    · exact ⟨_, hTO, nofun⟩
    · exact ⟨o1, e1, fun v q => by rw [d1] at q; cases q⟩
    · exact ⟨o2, e2, fun v q => by rw [d2] at q; cases q⟩
  keep := fun i h h' st k => by
    obtain ⟨hz, hTI, ⟨x, y, hTO⟩, h1, h2⟩ := (st)
    exact ⟨k z (by simp) _ hz, k TI (by simp) _ hTI, ⟨x, y, k TO (by simp) _ hTO⟩, h1.at fun o => k i1 (by simp) o, h2.at fun o => k i2 (by simp) o⟩
  item := by
    intro X hP hw hK; intro hc i pins s σ H E I hf st hg
    subst hP hw hK
    obtain ⟨hz, hTI, ⟨x0, y0, hTO⟩, h1, h2⟩ := (st)
    obtain ⟨xs, ys, x, y, hqx, hqy, hx, hy⟩ := (hg)
    obtain ⟨its, rv, p, _⟩ := (I.list hqx)
    obtain ⟨its2, rv2, p2, _⟩ := (I.tuple hqy)
    obtain ⟨u, hu, ru⟩ := (rv.get hx)
    obtain ⟨u2, hu2, ru2⟩ := (rv2.get hy)
    have zlt : z < s.heap.objs.size := Heap.lt_size hz
    have hh : X.A.in1.handled = none := I.ok.hd hc
    have lt1 : i < its.toArray.size := by rw [List.size_toArray]; exact (List.getElem?_eq_some_iff.mp hu).1
    have lt2 : i < its2.toArray.size := by rw [List.size_toArray]; exact (List.getElem?_eq_some_iff.mp hu2).1
    refine wpAny_pyNext_zipD2_item (i := i) (sep_of D) (Draws.list hh i1 a D.l1i1 its.toArray) (Draws.tuple hh i2 b D.l2i2 its2.toArray) hz hTI hTO ⟨h1, p.isList⟩ ⟨h2, p2⟩ lt1 lt2 fun v1 v2 h' tk e1 e2 z' TO' s1 s2 hT hsz hk => ?_
    obtain rfl : u = v1 := by
      have e1 : its.toArray[i]? = some v1 := e1
      rw [List.getElem?_toArray, hu] at e1
      exact Option.some.inj e1
    obtain rfl : u2 = v2 := by
      have e2 : its2.toArray[i]? = some v2 := e2
      rw [List.getElem?_toArray, hu2] at e2
      exact Option.some.inj e2
    refine ⟨_, rfl, wpAny_letOwnedTupleGo_zip (s := { s with heap := h', toks := tk }) z' fun h'' z'' sb => ?_⟩
    have hT2 : h''.get? s.heap.objs.size = some { cls := .type "tuple", data := .seq #[u, u2] } := (sb.2 _ (Nat.ne_of_gt zlt)).trans hT
    have up : ∀ c o, c ∉ [z, TI, TO, i1, i2] → s.heap.get? c = some o → h''.get? c = some o := fun c o hb q => by
      simp only [List.mem_cons, List.not_mem_nil, or_false, not_or] at hb
      exact (sb.2 c hb.1).trans (hk c o hb.1 hb.2.2.1 hb.2.2.2.1 hb.2.2.2.2 q)
    have I1 : Inv X pins σ (upd H s.heap.objs.size (.tup [x, y])) { s with heap := h'', toks := tk } :=
      I.turnedNew (t' := tk) (ch := [z, TI, TO, i1, i2]) up hf (Nat.le_refl _) ⟨by show 2 ≤ sizeLine; decide, [u, u2], .cons ru (.cons ru2 .nil), ⟨_, hT2, rfl, _, rfl⟩⟩
    refine ⟨.ref s.heap.objs.size, _, I1, rfl, ⟨_, x, y, rfl, I.hok.fresh (Nat.le_refl _), rfl, fun l hl => by rw [I.list_inj hl hqx]; exact hx, fun l hl => by rw [I.tuple_inj hl hqy]; exact hy⟩,
      ⟨z'', (sb.2 _ D.TIz).trans (hk _ _ D.TIz D.TITO D.TIi1 D.TIi2 hTI), ⟨u, u2, (sb.2 _ D.TOz).trans TO'⟩, s1.1.at fun o q => (sb.2 _ D.i1z).trans q, s2.1.at fun o q => (sb.2 _ D.i2z).trans q⟩, fun c hcm => ?_⟩
    have hlt : c < s.heap.objs.size := by
      have cs : c = z ∨ c = TI ∨ c = TO ∨ c = i1 ∨ c = i2 := by simpa using hcm
      rcases cs with rfl | rfl | rfl | rfl | rfl
      · exact zlt
      · exact Heap.lt_size hTI
      · exact Heap.lt_size hTO
      · obtain ⟨_, q, _⟩ := h1; exact Heap.lt_size q
      · obtain ⟨_, q, _⟩ := h2; exact Heap.lt_size q
    (rw [upd_ne (Nat.ne_of_lt hlt)])
    exact (hf c hcm).1
  done := by
    intro X hP hw hK; intro hc i pins s σ H E I hf st hg
    subst hP hw hK
    obtain ⟨hz, hTI, ⟨x0, y0, hTO⟩, h1, h2⟩ := (st)
    obtain ⟨xs, ys, hqx, hqy, l1, l2⟩ := hg
    obtain ⟨its, rv, p, _⟩ := (I.list hqx)
    obtain ⟨its2, rv2, p2, _⟩ := (I.tuple hqy)
    have hh : X.A.in1.handled = none := I.ok.hd hc
    have q1 : its.toArray.size = i := by rw [List.size_toArray, ← rv.length]; exact l1
    have q2 : its2.toArray.size = i := by rw [List.size_toArray, ← rv2.length]; exact l2
    refine wpAny_pyNext_zipD2_end (i := i) (sep_of D) (Draws.list hh i1 a D.l1i1 its.toArray) (Draws.tuple hh i2 b D.l2i2 its2.toArray) hz hTI hTO ⟨h1, p.isList⟩ ⟨h2, p2⟩ (Nat.le_of_eq q1.symm) (Nat.le_of_eq q2.symm) (.inl q1.symm) fun h' tk hk => ⟨rfl, ?_⟩
    refine I.turnedL (t' := tk) (ch := [z, TI, TO, i1, i2]) (fun c o hb q => ?_) hf
    simp only [List.mem_cons, List.not_mem_nil, or_false, not_or] at hb
    exact hk c o hb.1 hb.2.2.1 hb.2.2.2.1 hb.2.2.2.2 q
  self := fun A i s Q E st h => (wpAny_pyIter_zip st.1 h)
/-- zip of two lists or of a list and a tuple -/
def iZipM (K : PySem.W.Frag) (ta : TA) : TI := fun σ H R => ta σ H fun vs H1 => ∃ a b xs ys, vs = [.ref a, .ref b] ∧ SqL K H1 a xs ∧ ((SqT K H1 b ys ∧ R (ItzM K a b) H1) ∨ (SqL K H1 b ys ∧ R (Itz K a b) H1))
theorem pi_zipM {X : Cx} {e e2 : Expr} {ta : TA} {p pos tpos : Pos} {elts : List Expr} {kk : Nat} (hg : Gl X "zip") (hm : X.mg "zip" = none) (ha : PA X [e, e2] ta)
    (hs : (starEach [e, e2] X.env = (false, eval e X.env) :: starEach [e2] X.env) := by rfl) (hpl : (backTo pos (starEach [e2] X.env)).any (·.1) = false := by rfl) :
    PI X (.Tuple elts kk tpos) (.Call (.Name "zip" p) [e, e2] [] pos) (iZipM X.K ta) := by
  refine (⟨fun pins s σ H R I h => ?_⟩)
  refine (Call_ (ld_blt I hg hm PyProof.Rows.boot_zip (PyProof.Rows.callWith_type1 (thn (ha.run pos pins s σ H _ I h) fun us s1 ⟨vs, H1, I1, r1, q1⟩ => ?_) hs hpl)))
  obtain ⟨a, b, xs, ys, rfl, hqx, q⟩ := q1
  cases r1 with
  | cons r rr =>
    cases rr with
    | cons r' rr =>
      cases rr
      cases r
      cases r'
      have fresh5 : (∀ c, c ∈ [s1.heap.objs.size + 4, s1.heap.objs.size + 2, s1.heap.objs.size + 3, s1.heap.objs.size, s1.heap.objs.size + 1] → FpOk X pins H1 c) := fun c hcm => by
        have hle : (s1.heap.objs.size ≤ c) := by
          have cs : c = s1.heap.objs.size + 4 ∨ c = s1.heap.objs.size + 2 ∨ c = s1.heap.objs.size + 3 ∨ c = s1.heap.objs.size ∨ c = s1.heap.objs.size + 1 := by simpa using hcm
          rcases cs with rfl | rfl | rfl | rfl | rfl <;> first | exact Nat.le_add_right _ _ | exact Nat.le_refl _
        exact (I1.fpOk hle (I1.hok.fresh hle))
      obtain ⟨its, rv, p1, _⟩ := (I1.list hqx)
      rcases q with ⟨hqy, q⟩ | ⟨hqy, q⟩
      rotate_left
      · obtain ⟨its2, rv2, p2, _⟩ := I1.list hqy
        refine zip_begins2 (begins_list a its.toArray) (begins_list b its2.toArray) p1.isList p2.isList fun h' hz hTI hTO e1 e2 hsz hk => wpAny_pyIter_zip hz ?_
        exact ⟨s1.heap.objs.size + 4, [s1.heap.objs.size + 4, s1.heap.objs.size + 2, s1.heap.objs.size + 3, s1.heap.objs.size, s1.heap.objs.size + 1], _, _, H1, rfl, I1.kept (t' := s1.toks) hk,
          turn_zip (PySem.W.ktu_apart s1.heap.objs.size a b p1.lt p2.lt), ⟨hz, hTI, ⟨_, _, hTO⟩, ⟨_, e1, rfl, rfl⟩, ⟨_, e2, rfl, rfl⟩⟩, fresh5, q⟩
      obtain ⟨its2, rv2, p2, _⟩ := (I1.tuple hqy)
      obtain ⟨o2, ho2, _⟩ := id p2
      refine zip_begins2 (begins_list a its.toArray) (begins_tuple b its2.toArray) p1.isList p2 fun h' hz hTI hTO e1 e2 hsz hk => wpAny_pyIter_zip hz ?_
      exact ⟨s1.heap.objs.size + 4, [s1.heap.objs.size + 4, s1.heap.objs.size + 2, s1.heap.objs.size + 3, s1.heap.objs.size, s1.heap.objs.size + 1], _, _, H1, rfl, I1.kept (t' := s1.toks) hk,
        turn_zipM (PySem.W.ktu_apart s1.heap.objs.size a b p1.lt (Heap.lt_size ho2)), ⟨hz, hTI, ⟨_, _, hTO⟩, ⟨_, e1, rfl, rfl⟩, ⟨_, e2, rfl, rfl⟩⟩, fresh5, q⟩
end My

set_option maxRecDepth 100000
set_option maxHeartbeats 400000
/-! GxW: all(..) over what is walked in a told number of turns. -/
namespace My
open PySem PySem.Spec PyProof.Rows L2
theorem gx_it {J : It} {n : Nat} {G : Hp → Prop} {Y : Nat → Hp → V → Hp → Prop} (w : Walk J n G Y) {g : TG} {te : TE} {vs : List Nat} {σ : L2.St} {QF : Bool → Hp → Prop} {H : Hp} (Pv : Nat → Hp → Prop) (h0 : Pv 0 H) (hG : ∀ i H, i ≤ n → Pv i H → G H)
    (hs : ∀ i x H H', i < n → Pv i H → Y i H x H' → g x σ H' fun σ2 H2 => wipe σ2 vs = σ ∧ te σ2 H2 fun y H3 => ∃ b : Bool, y = .bl b ∧ (b = true → Pv (i + 1) H3) ∧ (b = false → QF false H3)) (hd : ∀ H, Pv n H → QF true H) :
    ∃ W : Nat → Nat → Hp → Prop, (∃ m, W 0 m H) ∧ GxT J g te vs σ QF W := by
  refine (⟨fun i m H => m = n - i ∧ i ≤ n ∧ Pv i H, ⟨n, by simp, Nat.zero_le _, h0⟩, ?_⟩)
  rintro i m H ⟨rfl, hi, p⟩
  have q := hG i H hi p
  by_cases hlt : i < n
  · exact .inr ⟨w.goes i H hlt q, Pv (i + 1), fun H' p' => ⟨n - (i + 1), by omega, rfl, hlt, p'⟩, fun x H' y => hs i x H H' hlt p (w.yields i H x H' hlt q y)⟩
  · obtain rfl : i = n := by omega
    exact (.inl ⟨w.stops H q, hd H p⟩)
theorem walk_zipM {K : PySem.W.Frag} {a b : Addr} {xs ys : List V} (hn : xs.length = ys.length) : Walk (ItzM K a b) xs.length (fun H => SqL K H a xs ∧ SqT K H b ys) (YPair (fun i => xs[i]?) (fun i => ys[i]?)) := by
  refine ⟨fun i H hi q => ?_, fun H q => ⟨xs, ys, q.1, q.2, rfl, hn.symm⟩, fun i H v H' _ q y => ?_⟩
  · exact ⟨xs, ys, xs[i], ys[i]'(hn ▸ hi), q.1, q.2, by simp [hi], List.getElem?_eq_getElem _⟩
  · obtain ⟨T, x, z, h1, h2, h3, h4, h5⟩ := (y)
    exact (⟨T, x, z, h1, h2, h3, h4 xs q.1, h5 ys q.2⟩)
end My

set_option maxRecDepth 100000
set_option maxHeartbeats 1600000
namespace T9
open PySem PySem.Spec PyProof.Rows L2 GxR Gd TL My
/-! ### ends -/
/-- whether a thing is an end of a stretch -/
def endAt (wd : Wd) (k : Nat) (v : V) : Bool := match wd.ps[k]?, wd.ps[k + 1]? with
  | some p, some q => decide (v = .str p.1) || decide (v = .str q.1)
  | _, _ => false
def allEnds (wd : Wd) : Nat → List V → Bool
  | _, [] => true
  | i, v :: r => endAt wd i v && allEnds wd (i + 1) r
def areD (wd : Wd) (H : Hp) (v : V) : Bool := isl H wd.st.length wd.st.length v && allEnds wd 0 ((seqOf H v).getD [])
theorem flat_in2 {k : V} (h : flatV k = true) (a b : Str) : inV k [.str a, .str b] = (decide (k = .str a) || decide (k = .str b)) := by
  unfold inV
  rw [List.any_cons, List.any_cons, List.any_nil, Bool.or_false]
  cases k with
  | str z =>
    show ((a == z) || (b == z)) = _
    rw [Bool.eq_iff_iff]
    simp only [Bool.or_eq_true, beq_iff_eq, decide_eq_true_eq, V.str.injEq]
    constructor
    · rintro (e | e)
      · exact .inl e.symm
      · exact .inr e.symm
    · rintro (e | e)
      · exact .inl e.symm
      · exact .inr e.symm
  | _ => simp [eqV]
theorem th_flat {H : Hp} {v : V} (th : Th H v) : flatV v = true ∨ ∃ a, v = .ref a ∧ ((∃ xs, H a = some (.lst xs)) ∨ (∃ xs, H a = some (.tup xs)) ∨ ∃ kvs, H a = some (.dK kvs)) := by
  cases th with
  | non => exact .inl rfl
  | bl b => exact .inl rfl
  | int i => exact .inl rfl
  | str z h g => exact .inl rfl
  | lst a xs h => exact .inr ⟨a, rfl, .inl ⟨_, h⟩⟩
  | tup a xs h => exact .inr ⟨a, rfl, .inr (.inl ⟨_, h⟩)⟩
  | dic a h => exact .inr ⟨a, rfl, .inr (.inr ⟨_, h⟩)⟩
section
variable {P : Program} {w : World} {K : PySem.W.Frag} {mg : Str → Option Value} {base : Heap} {cl : Tag → Addr} {C CS fS f1 f2 f3 : Addr} {fdS fd1 fd2 fd3 : FuncData} {g1 g2 g3 g4 : Addr} {gd1 gd2 gd3 gd4 : FuncData} {P3 : Addr}
theorem hu_in {k : Nat} {A : Around} (r : Room k A) : A.units + 2 < cLine := by have := r.un; omega
theorem inTtK {X : Cx} {K : PySem.W.Frag} (h : X.K = K) (hu : X.A.units + 2 < cLine) : OpR X (compareOp .In) (rInTt K) := h ▸ op_inTt hu
abbrev s_many_stretches : Stmt := inClass (top 34) 4
theorem sc_many_stretches : FnScope ["self"] ["self"] (defScope s_many_stretches) := ⟨rfl, rfl, rfl, by decide +kernel, rfl, by decide +kernel, by decide +kernel⟩
def spMany (K : PySem.W.Frag) (C : Addr) : Sp := fun vs H Q _ => ∃ (x : Addr) (wd : Wd), vs = [.ref x] ∧ LineAt K C wd H x ∧ Q (.int (wd.st.length : Nat)) H
theorem ok_many_stretches {f : Addr} {fd : FuncData} (F : Fun K "many_stretches" "Line.many_stretches" s_many_stretches f fd) (T : Txt mg) (TC : ClsT K C) : FnOk P w K mg base CX0 1 f fd ["self"] (spMany K C) := by
  refine F.ok sc_many_stretches (fun vs H Q E h => ?_) (fun cdv A outer s H vs Q E hr h => ?_)
  · obtain ⟨x, wd, rfl, _⟩ := h
    rfl
  · obtain ⟨x, wd, rfl, ⟨dx, p1, p2, p3, d, xs1, xs2, xs3, hx, hp1, hd1, hp2, hd2, hp3, hd3, hN⟩, k⟩ := h
    have l2 : xs2.length = wd.st.length := by rw [dpAll_len hd2, List.length_map]
    refine ⟨_, pss_one (ps_ret (pe_callB call_len_seq (by rfl) T.len_ PySem.boot_len (pa_cons (pe_fld (pv 0) rfl) pa_nil))), ?_⟩
    refine ⟨_, rfl, x, C, dx, _, _, rfl, hx, TC.cl, TC.n2, lf_stretches _ _ _ _, p2, xs2, rfl, .inr hp2, ?_⟩
    rw [l2]
    exact k
abbrev s_are_ends : Stmt := top 23
theorem sc_are_ends : FnScope ["line", "ends", "many", "k", "end"] ["line", "ends"] (defScope s_are_ends) := ⟨rfl, rfl, rfl, by decide +kernel, rfl, by decide +kernel, by decide +kernel⟩
def spAreEnds (K : PySem.W.Frag) (C : Addr) (T : List Addr) : Sp := fun vs H Q _ => ∃ (x : Addr) (v : V) (wd : Wd), vs = [.ref x, v] ∧ LineAt K C wd H x ∧ wd.Ok ∧ Th H v ∧ Kids H v ∧ Tabs T H ∧ ∀ H', KM T H H' → Q (.bl (areD wd H v)) H'
theorem ok_are_ends {T0 : List Addr} {f c : Addr} {oc kV doc pm ct : Value} {od an : Option Addr} {osl : Array (Option Value)} (hp : P3 ∈ T0)
    (lk : K.lookup f = some ⟨oc, od, .func (PySem.W.fnOf "_are_ends" "_are_ends" (defArgs s_are_ends) (defBody s_are_ends) (defScope s_are_ends) .none kV doc pm an (.ref c) ct), osl⟩) (hcd : PySem.W.codeIn K (.ref c) "_are_ends" = true)
    (T : Txt mg) (TC : ClsT K C) (TB : TabB base mg c P3)
    (Nis_list : Fn K mg "is_list" s_is_list ["thing", "low", "high"] f1 fd1) (Gis_listG : FnOk P w K mg base CX0 1 f1 fd1 ["thing", "low", "high"] spIsListG)
    (Mmany_stretches : Mt K C "many_stretches" "Line.many_stretches" s_many_stretches ["self"] f2 fd2) (Gmany_stretches : FnOk P w K mg base CX0 1 f2 fd2 ["self"] (spMany K C))
    (Mends : Mt K C "ends" "Line.ends" s_ends ["self", "k"] f3 fd3) (Gends : FnOk P w K mg base CX0 3 f3 fd3 ["self", "k"] (spEnds K C)) :
    FnOk P w K mg base CX0 5 f (PySem.W.fnOf "_are_ends" "_are_ends" (defArgs s_are_ends) (defBody s_are_ends) (defScope s_are_ends) .none kV doc pm an (.ref c) ct) ["line", "ends"] (spAreEnds K C T0) := by
  refine fn_of lk hcd sc_are_ends (fun vs H Q E h => ?_) (fun A outer s H vs Q E hr h => ?_)
  · obtain ⟨x, v, wd, rfl, _⟩ := h
    rfl
  · obtain ⟨x, v, wd, rfl, hL, ok, th, kd, tb, k⟩ := h
    refine ⟨_, pss_cons (ps_set (i := 2) sc_are_ends.nd rfl (Or.inl rfl) (pe_meth0 (pv 0) TC.cl Mmany_stretches.m Gmany_stretches (hr.mono (by decide)) Mmany_stretches.b .nil pass0))
      (pss_one (ps_ret (pe_and (pe_call Gis_listG (hr.mono (by decide)) (by rfl) Nis_list.g Nis_list.kp Nis_list.b .nil pass0 (pa_cons (pv 1) (pa_cons (pv 2) (pa_cons (pv 2) pa_nil)))) (pe_one (pe_allX (k := 3) (g := gTup K 2 (gCons (gName 3) (gCons (gName 4) gNil))) hr rfl sc_are_ends.nd (by rfl) T.all_ (by decide +kernel) TB rfl ⟨rfl, by decide +kernel, by decide +kernel⟩ (blkOk_by (own := [("k", 3), ("end", 4)]) (N := ["line", "ends", "many", "k", "end"]) (sc := defScope s_are_ends) (by decide +kernel)) (pi_enumQ (by rfl) T.enumerate_ (pa_cons (pv 1) pa_nil)) (fun _ _ _ _ _ _ _ _ => (pg_tup (by rfl) (pgs_cons (pg_name (i := 3) sc_are_ends.nd rfl (Or.inl rfl)) (pgs_cons (pg_name (i := 4) sc_are_ends.nd rfl (Or.inl rfl)) pgs_nil)))) (fun _ _ _ _ _ _ _ hB => (pe_cmpR (inTtK (K := K) rfl (hu_in hB)) (pv 4) (pe_meth (pv 0) TC.cl Mends.m Gends hB Mends.b .nil pass0 (pa_cons (pv 3) pa_nil)) rfl)) (fun _ => rfl)))))), ?_⟩
    generalize hσ : L2.start _ _ = σ0
    obtain rfl : σ0 = [some (.ref x), some v, none, none, none] := hσ.symm.trans rfl
    obtain ⟨dx, p1, p2, p3, d, ys1, ys2, ys3, hx, _⟩ := id hL
    have noM : (lf p1 p2 p3 d).lookup (Str.ofString "many_stretches") = none := lf_no _ _ _ _ (by decide +kernel)
    have noE : (lf p1 p2 p3 d).lookup (Str.ofString "ends") = none := lf_no _ _ _ _ (by decide +kernel)
    refine ⟨_, rfl, x, dx, _, rfl, hx, noM, x, wd, rfl, hL, ?_⟩
    simp only [List.set_cons_succ, List.set_cons_zero]
    dsimp only [gName, List.set_cons_succ, List.set_cons_zero]
    refine ⟨_, rfl, _, rfl, _, rfl, v, _, _, rfl, th, fun H1 s1 => ⟨_, rfl, ?_⟩⟩
    have km1 := KM.same tb s1
    have n1 := KM.nt tb km1
    cases hi : isl H wd.st.length wd.st.length v with
    | false =>
      have e : areD wd H v = false := by unfold areD; rw [hi, Bool.false_and]
      rw [e] at k
      exact iteF (k H1 km1)
    | true =>
      obtain ⟨a, xs, rfl, hq, ha, l1, l2⟩ := isl_true hi
      have lx : xs.length = wd.st.length := by omega
      have e : areD wd H (.ref a) = allEnds wd 0 xs := by
        unfold areD
        rw [hi, hq, Bool.true_and]
        rfl
      rw [e] at k
      have ha1 : H1 a = some (.lst xs) ∨ H1 a = some (.tup xs) := ha.imp (s1 _ _) (s1 _ _)
      have keepA : ∀ {H' : Hp}, KM T0 H1 H' → H' a = H1 a := fun kt => by
        rcases ha1 with e | e
        · rw [e]; exact KM.nt km1.tab kt _ _ (by simp) e
        · rw [e]; exact KM.nt km1.tab kt _ _ (by simp) e
      obtain ⟨J, use, wJ⟩ := enumQ_of (K := K) ha1
      refine iteT (use _ _ _ _ rfl (fun C h => ⟨_, rfl, h⟩) ⟨km1.tab P3 hp, fun H2 ht => gx_it wJ (fun i H3 => KM T0 H1 H3 ∧ allEnds wd 0 xs = allEnds wd i (xs.drop i)) ⟨KM.tabbed km1.tab hp ht, rfl⟩ (fun i H3 _ km => keepA km.1) ?_ (fun H3 km => ?_)⟩)
      · rintro i y H3 H4 hi ⟨km, al⟩ ⟨t, u, v, rfl, ht, rfl, h1, h2⟩
        obtain rfl := Option.some.inj h1
        have hv := kd xs hq v (List.mem_of_getElem? h2)
        have km4 : KM T0 H1 (upd H3 t (.tup [.int (i : Nat), v])) := km.trans (KM.alloc km.tab ht)
        have n4 := n1.trans (KM.nt km1.tab km4)
        have iL : i < wd.st.length := by omega
        have ip : i < wd.ps.length := by have := ok.sl; omega
        have iq : i + 1 < wd.ps.length := by have := ok.sl; omega
        have ep : wd.ps[i]? = some wd.ps[i] := List.getElem?_eq_getElem ip
        have eq : wd.ps[i + 1]? = some wd.ps[i + 1] := List.getElem?_eq_getElem iq
        have ea : endAt wd i v = (decide (v = .str (wd.ps[i]).1) || decide (v = .str (wd.ps[i + 1]).1)) := by unfold endAt; rw [ep, eq]
        rw [drop_at h2] at al
        have al : allEnds wd 0 xs = (endAt wd i v && allEnds wd (i + 1) (xs.drop (i + 1))) := al
        refine ⟨t, [.int (i : Nat), v], rfl, SqT.of upd_same, rfl, ?_⟩
        refine ⟨_, _, rfl, _, _, rfl, rfl, rfl, _, rfl, _, rfl, x, dx, _, rfl, n4 _ _ (by simp) hx, noE, _, rfl, x, wd, i, _, _, rfl, hL.nt n4, iL, ep, eq, fun T H5 s5 eT => ?_⟩
        have km5 := km4.trans (KM.same km4.tab s5)
        have fin : ∀ b : Bool, b = endAt wd i v → ∃ b' : Bool, V.bl b = V.bl b' ∧ (b' = true → KM T0 H1 H5 ∧ allEnds wd 0 xs = allEnds wd (i + 1) (xs.drop (i + 1))) ∧ (b' = false → Q (.bl false) H5) := fun b hb => by
          refine ⟨b, rfl, fun e => ⟨km5, by rw [al, ← hb, e, Bool.true_and]⟩, fun e => ?_⟩
          have q := k H5 (km1.trans km5)
          rw [al, ← hb, e, Bool.false_and] at q
          exact q
        refine ⟨T, [(wd.ps[i]).1, (wd.ps[i + 1]).1], rfl, SqT.of eT, ?_⟩
        have hv4 := th_nt (n4.trans (same_nt s5)) hv
        rcases th_flat hv4 with fl | ⟨b, rfl, hb⟩
        · exact .inl ⟨fl, fin _ (by rw [ea]; exact flat_in2 fl _ _)⟩
        · refine .inr ⟨⟨b, rfl, ?_⟩, fin _ (by rw [ea]; simp)⟩
          rcases hb with ⟨zs, h⟩ | ⟨zs, h⟩ | h
          · exact .inl ⟨zs, SqL.of h⟩
          · exact .inr (.inl ⟨zs, SqT.of h⟩)
          · exact .inr (.inr h)
      · have q := k H3 (km1.trans km.1)
        rw [km.2, List.drop_length] at q
        exact q
end
end T9

set_option maxRecDepth 100000
set_option maxHeartbeats 1600000
namespace T9
open PySem PySem.Spec PyProof.Rows L2 GxR Gd TL My
/-- what is due of the ends handed in -/
def endsD (wd : Wd) (H : Hp) (v : V) : Due := if v = .non then none else if areD wd H v = true then none else some (.ends, v)
def homeAt (wd : Wd) (k : Nat) : Str := match wd.st[k]?, wd.ps[k]?, wd.ps[k + 1]? with
  | some r, some p, some q => pick r.2 p.1 q.1
  | _, _, _ => Str.empty
def homesT (wd : Wd) : List V := (List.range wd.st.length).map fun k => V.str (homeAt wd k)
section
variable {P : Program} {w : World} {K : PySem.W.Frag} {mg : Str → Option Value} {base : Heap} {cl : Tag → Addr} {C CS fS f1 f2 f3 : Addr} {fdS fd1 fd2 fd3 : FuncData} {g1 g2 g3 g4 : Addr} {gd1 gd2 gd3 gd4 : FuncData} {P3 : Addr}
abbrev s_check_ends : Stmt := top 22
theorem sc_check_ends : FnScope ["line", "ends"] ["line", "ends"] (defScope s_check_ends) := ⟨rfl, rfl, rfl, by decide +kernel, rfl, by decide +kernel, by decide +kernel⟩
def spEndsX (K : PySem.W.Frag) (C : Addr) (cl : Tag → Addr) (T0 : List Addr) : Sp := fun vs H Q E => ∃ (x : Addr) (v : V) (wd : Wd), vs = [.ref x, v] ∧ LineAt K C wd H x ∧ wd.Ok ∧ Th H v ∧ Kids H v ∧ Tabs T0 H ∧ Wish cl (KM T0 H) (endsD wd H v) Q E
theorem ok_check_ends {T0 : List Addr} {f : Addr} {fd : FuncData} (F : Fun K "check_ends" "check_ends" s_check_ends f fd) (T : Txt mg) (ES : SeT K mg CS fS fdS sSE)
    (ENoEnds : ExC K mg "NoEnds" "NoEnds.__init__" sNoEnds (cl .ends) g1 gd1)
    (Nare_ends : Fn K mg "_are_ends" s_are_ends ["line", "ends"] f1 fd1) (Gare_ends : FnOk P w K mg base CX0 5 f1 fd1 ["line", "ends"] (spAreEnds K C T0)) :
    FnOk P w K mg base (CX P w) 6 f fd ["line", "ends"] (spEndsX K C cl T0) := by
  refine F.okX sc_check_ends (fun vs H Q E h => ?_) (fun cdv A outer s H vs Q E hr h => ?_)
  · obtain ⟨x, v, wd, rfl, _⟩ := h
    rfl
  · obtain ⟨x, v, wd, rfl, hL, ok, th, kd, tb, k⟩ := h
    refine ⟨_, pss_one (ps_if (PW.pt (pw_and (pt_cmpR op_notN (pv 1) pe_non (nomark _)) (pw_and1 (pt_not (pt_val (pe_call Gare_ends (hr.mono (by decide)) (by rfl) Nare_ends.g Nare_ends.kp Nare_ends.b .nil pass0 (pa_cons (pv 0) (pa_cons (pv 1) pa_nil)))))))) (pss_one (ps_raise rfl (takes_of rfl rfl rfl rfl) (pmk_oex ENoEnds.o ENoEnds.i ENoEnds.t (ok_NoEnds ES ENoEnds) (hr.mono (by decide)) ENoEnds.b .nil pass0 (by rfl) ENoEnds.g (pa_cons (pv 1) pa_nil)))) pss_nil), ?_⟩
    refine ⟨_, rfl, rfl, _, rfl, ?_⟩
    by_cases hv : v = .non
    · have e : endsD wd H v = none := if_pos hv
      rw [e] at k
      subst hv
      exact iteF (iteF (k H (KM.refl tb)))
    · rw [decide_eq_false hv]
      refine iteT ⟨_, rfl, _, rfl, x, v, wd, rfl, hL, ok, th, kd, tb, fun H1 km => ⟨_, rfl, ?_⟩⟩
      cases ha : areD wd H v with
      | true =>
        have e : endsD wd H v = none := by unfold endsD; rw [if_neg hv, if_pos ha]
        rw [e] at k
        exact iteF (k H1 km)
      | false =>
        have e : endsD wd H v = some (.ends, v) := by unfold endsD; rw [if_neg hv, if_neg (by rw [ha]; exact Bool.false_ne_true)]
        rw [e] at k
        exact iteT ⟨_, rfl, made_one fun e he => k H1 e km he⟩
abbrev s_staff_ends : Stmt := top 24
theorem sc_staff_ends : FnScope ["line", "ends", "k"] ["line", "ends"] (defScope s_staff_ends) := ⟨rfl, rfl, rfl, by decide +kernel, rfl, by decide +kernel, by decide +kernel⟩
def spStaffEnds (K : PySem.W.Frag) (C : Addr) : Sp := fun vs H Q _ => ∃ (x : Addr) (v : V) (wd : Wd), vs = [.ref x, v] ∧ LineAt K C wd H x ∧ wd.Ok ∧
  ((v = .non ∧ ∀ p H', Same H H' → H' p = some (.lst (homesT wd)) → Q (.ref p) H') ∨ ∃ a xs, v = .ref a ∧ (H a = some (.lst xs) ∨ H a = some (.tup xs)) ∧ ∀ p H', Same H H' → H' p = some (.lst xs) → Q (.ref p) H')
theorem ok_staff_ends {f : Addr} {fd : FuncData} (F : Fun K "staff_ends" "staff_ends" s_staff_ends f fd) (T : Txt mg) (TC : ClsT K C)
    (Mmany_stretches : Mt K C "many_stretches" "Line.many_stretches" s_many_stretches ["self"] f1 fd1) (Gmany_stretches : FnOk P w K mg base CX0 1 f1 fd1 ["self"] (spMany K C))
    (Mhome : Mt K C "home" "Line.home" s_home ["self", "k"] f2 fd2) (Ghome : FnOk P w K mg base CX0 4 f2 fd2 ["self", "k"] (spHome K C)) :
    FnOk P w K mg base CX0 5 f fd ["line", "ends"] (spStaffEnds K C) := by
  refine F.ok sc_staff_ends (fun vs H Q E h => ?_) (fun cdv A outer s H vs Q E hr h => ?_)
  · obtain ⟨x, v, wd, rfl, _⟩ := h
    rfl
  · obtain ⟨x, v, wd, rfl, hL, ok, cs⟩ := h
    refine ⟨_, pss_cons (ps_if (pt_cmpR op_isN (pv 1) pe_non (nomark _)) (pss_one (ps_ret (pe_lc (own := [("k", 2)]) (g := gName 2) (tt := tYes) rfl sc_staff_ends.nd (pi_range1 (by rfl) T.range_ (pa_cons (pe_meth0 (pv 0) TC.cl Mmany_stretches.m Gmany_stretches (hr.mono (by decide)) Mmany_stretches.b .nil pass0) pa_nil)) (blkOk_by (own := [("k", 2)]) (N := ["line", "ends", "k"]) (sc := defScope s_staff_ends) (by decide +kernel)) (fun _ _ _ _ _ => (pg_name (i := 2) sc_staff_ends.nd rfl (Or.inl rfl))) (fun _ _ _ _ _ => pts_nil) (fun _ _ _ _ _ => (pe_meth (pv 0) TC.cl Mhome.m Ghome (hr.mono (by decide)) Mhome.b .nil pass0 (pa_cons (pv 2) pa_nil)))))) pss_nil)
      (pss_one (ps_ret (pe_callTy call_list_of (by rfl) T.list_ (by decide +kernel) (pa_cons (pv 1) pa_nil)))), ?_⟩
    generalize hσ : L2.start _ _ = σ0
    obtain rfl : σ0 = [some (.ref x), some v, none] := hσ.symm.trans rfl
    obtain ⟨dx, p1, p2, p3, d, ys1, ys2, ys3, hx, _⟩ := id hL
    have noM : (lf p1 p2 p3 d).lookup (Str.ofString "many_stretches") = none := lf_no _ _ _ _ (by decide +kernel)
    have noH : (lf p1 p2 p3 d).lookup (Str.ofString "home") = none := lf_no _ _ _ _ (by decide +kernel)
    refine ⟨_, rfl, rfl, _, rfl, ?_⟩
    rcases cs with ⟨rfl, k⟩ | ⟨a, xs, rfl, ha, k⟩
    · refine iteT ?_
      refine ⟨_, rfl, x, dx, _, rfl, hx, noM, x, wd, rfl, hL, ?_⟩
      have l6 := ok.p6
      have sl := ok.sl
      refine ⟨(wd.st.length : Int), rfl, by omega, by omega, fun D hD => ?_⟩
      rw [Int.toNat_natCast]
      refine lc_it (walk_range (lo := 0) (n := wd.st.length)) (fun i H' => KB D H H' ∧ H' D = some (.lst ((List.range i).map fun k => V.str (homeAt wd k)))) ⟨KB.alloc hD, upd_same⟩ (fun _ _ _ _ => trivial) ?_ ?_
      · rintro i y H1 H1' hi ⟨kb, eD⟩ ⟨rfl, rfl⟩
        have s1 : Same H H1' := fun c o e => kb c o (ne_of_none e hD) e
        have ip : i < wd.ps.length := by omega
        have iq : i + 1 < wd.ps.length := by omega
        have er : wd.st[i]? = some wd.st[i] := List.getElem?_eq_getElem hi
        have ep : wd.ps[i]? = some wd.ps[i] := List.getElem?_eq_getElem ip
        have eq : wd.ps[i + 1]? = some wd.ps[i + 1] := List.getElem?_eq_getElem iq
        obtain ⟨_, r0, r1⟩ := ok.st _ (List.getElem_mem hi)
        have eh : homeAt wd i = pick (wd.st[i]).2 (wd.ps[i]).1 (wd.ps[i + 1]).1 := by unfold homeAt; rw [er, ep, eq]
        refine ⟨wipe1 (by simp), lcY ?_⟩
        refine ⟨_, rfl, x, dx, _, rfl, s1 _ _ hx, noH, _, rfl, x, wd, i, _, _, _, by show [V.ref x, V.int (0 + (i : Int))] = _; rw [Int.zero_add], hL.nt (same_nt s1), er, r0, r1, ep, eq, fun H2 s2 => ?_⟩
        refine ⟨_, s2 _ _ eD, ?_, fun c o n e => by rw [upd_ne n]; exact s2 _ _ (kb c o n e), ?_⟩
        · rw [List.length_map, List.length_range]
          exact Nat.lt_of_le_of_lt (m := 10) (by omega) (by rw [sizeLine_eq]; decide)
        · rw [upd_same, List.range_succ, List.map_append, ← eh]
          rfl
      · rintro H1 ⟨kb, eD⟩
        exact k D H1 (fun c o e => kb c o (ne_of_none e hD) e) eD
    · refine iteF ⟨_, rfl, a, xs, rfl, ?_, fun p hp => k p _ (same_alloc hp) upd_same⟩
      exact ha.imp SqL.of SqT.of
end
end T9

set_option maxRecDepth 100000
set_option maxHeartbeats 1600000
namespace T9.St
open PySem PySem.Spec PyProof.Rows L2 GxR Gd TL My
def standD (wd : Wd) (H : Hp) (v1 v2 : V) : Due := match trainsD wd H v1 with
  | some d => some d
  | none => endsD wd H v2
def sf (l u t : Addr) : List (Str × V) := putF "_state" (.ref t) (putF "_trains" (.ref u) (putF "_line" (.ref l) []))
def StandAt (Cs : Addr) (H : Hp) (s : Addr) (ps es : List V) : Prop := ∃ dx l u t t1 t2, H s = some (.ins Cs dx (sf l u t)) ∧ H t = some (.tup [.ref t1, .ref t2]) ∧ H t1 = some (.tup ps) ∧ H t2 = some (.tup es)
def placesT (H : Hp) (v : V) : List V := ((seqOf H v).getD []).map fun y => V.str (prOf H y).2
def endsT (wd : Wd) (H : Hp) (v : V) : List V := if v = .non then homesT wd else (seqOf H v).getD []
theorem putF_le (f : Str) (v : V) : ∀ fs : List (Str × V), (putF f v fs).length ≤ fs.length + 1
  | [] => Nat.le_refl _
  | (g, x) :: r => by
    unfold putF
    split
    · exact Nat.le_succ _
    · exact Nat.succ_le_succ (putF_le f v r)
theorem putS_len1 {x : Addr} : (putF "_line" (.ref x) ([] : List (Str × V))).length < 1000 := Nat.lt_of_le_of_lt (putF_le _ _ _) (by show 1 < 1000; decide)
theorem putS_len2 {x u : Addr} : (putF "_trains" (.ref u) (putF "_line" (.ref x) [])).length < 1000 := Nat.lt_of_le_of_lt (Nat.le_trans (putF_le _ _ _) (Nat.succ_le_succ (putF_le _ _ _))) (by show 2 < 1000; decide)
theorem sf_state (l u t : Addr) : (sf l u t).lookup (Str.ofString "_state") = some (.ref t) := by unfold sf; rw [lookup_putF, if_pos rfl]
theorem tup2_step {ta tb : TE} {σ : L2.St} {H : Hp} {G : VK} (h : ta σ H fun y H1 => tb σ H1 fun z H2 => [y, z].length ≤ sizeLine ∧ ∀ p, H2 p = none → G (.ref p) (upd H2 p (.tup [y, z]))) : tTup (tCons ta (tCons tb tNil)) σ H G := h
structure ClsS (K : PySem.W.Frag) (C : Addr) : Prop where
  cl : Cls K C
  n1 : NoAttr K C "_line"
  n2 : NoAttr K C "_trains"
  n3 : NoAttr K C "_state"
/-- the trains that nothing is due of -/
theorem tr_all {wd : Wd} {H : Hp} : ∀ {xs : List V} {ah : List (Str × Str)}, trD wd H ah xs = none → ∀ y ∈ xs, ∃ t n p, y = .ref t ∧ H t = some (.tup [.str n, .str p]) ∧ prOf H y = (n, p)
  | [], _, _, y, hy => by cases hy
  | v :: r, ah, h, y, hy => by
    cases e : tr1 wd H ah v with
    | some d => rw [tr1_stop e] at h; cases h
    | none =>
      rw [tr1_snoc e] at h
      rcases List.mem_cons.mp hy with rfl | hy
      · obtain ⟨t, n, p, i, rfl, ht, ep, _⟩ := tr1_none e
        exact ⟨t, n, p, rfl, ht, ep⟩
      · exact tr_all h y hy
theorem LineAt.ls {K : PySem.W.Frag} {C : Addr} {w : Wd} {H H' : Hp} {x : Addr} (e : Ls H H') (hx' : H' x = H x) (h : LineAt K C w H x) : LineAt K C w H' x := by
  obtain ⟨dx, p1, p2, p3, d, xs1, xs2, xs3, h1, h2, h3, h4, h5, h6, h7, kvs, h8, h9⟩ := h
  exact ⟨dx, p1, p2, p3, d, xs1, xs2, xs3, hx'.trans h1, e.seqT h2, dpAll_ls e h3, e.seqT h4, dpAll_ls e h5, e.seqT h6, dpAll_ls e h7, kvs, e _ _ (by simp) (by simp) h8, h9⟩
theorem KX.self {T : List Addr} {b : Addr} {H H' : Hp} {o o' : HO} (k : KX T b H H') (h : H' b = some o) (n : ∀ ps, o ≠ .tbl ps) : KX T b H (upd H' b o') := by
  refine ⟨fun c u nT nb e => by rw [upd_ne nb]; exact k.keep c u nT nb e, fun p hp => ?_⟩
  obtain ⟨ps, e, r⟩ := k.tab p hp
  exact ⟨ps, by rw [upd_ne (fun z => by rw [z, h] at e; exact n _ (Option.some.inj e))]; exact e, r⟩
theorem areD_nt {wd : Wd} {H H' : Hp} (e : Nt H H') {v : V} (th : Th H v) : areD wd H' v = areD wd H v := by
  unfold areD isl
  rw [seq_nt e th]
theorem endsD_nt {wd : Wd} {H H' : Hp} (e : Nt H H') {v : V} (th : Th H v) : endsD wd H' v = endsD wd H v := by
  unfold endsD
  rw [areD_nt e th]
section
variable {P : Program} {w : World} {K : PySem.W.Frag} {mg : Str → Option Value} {base : Heap} {cl : Tag → Addr} {C Cs f1 f2 f3 : Addr} {fd1 fd2 fd3 : FuncData}
theorem okXV {x qual : Str} {st : Stmt} {f : Addr} {fd : FuncData} {N ps : List Str} {k : Nat} {sp : Sp} (F : FunV K x qual st f fd) (S : FnScope N ps (defScope st)) (len : ∀ vs H Q E, sp vs H Q E → vs.length = ps.length)
    (hbody : ∀ (cdv : Value) (A : Around) (outer : List Env) (s : Shared) (H : Hp) (vs : List V) (Q : VK) (E : XK), Room k (A.deeper (envOfC qual (defScope st) s.heap.objs.size f cdv)) → sp vs H Q E →
      ∃ t, PSs (cxOf (CX P w) P w K mg base N qual (defScope st) f cdv A outer s H E) (defBody st) t ∧ t { nx := fun _ H' => Q .non H', rt := Q } (start N vs) H) : FnOk P w K mg base (CX P w) (k + 1) f fd ps sp := by
  obtain ⟨oc, od, dV, kV, doc, pm, an, cdv, ct, osl, rfl, lk, hcd⟩ := F.ex
  exact fn_of lk hcd S len fun A outer s H vs Q E hr hsp => hbody cdv A outer s H vs Q E hr hsp
abbrev s_init : Stmt := inClass (top 26) 0
theorem sc_init : FnScope ["self", "line", "trains", "ends", "train", "_", "place"] ["self", "line", "trains", "ends"] (defScope s_init) := ⟨rfl, rfl, rfl, by decide +kernel, rfl, by decide +kernel, by decide +kernel⟩
abbrev s_state : Stmt := inClass (top 26) 5
theorem sc_state : FnScope ["self"] ["self"] (defScope s_state) := ⟨rfl, rfl, rfl, by decide +kernel, rfl, by decide +kernel, by decide +kernel⟩
def spStandX (K : PySem.W.Frag) (C Cs : Addr) (cl : Tag → Addr) (T0 : List Addr) : Sp := fun vs H Q E => ∃ (s x dx : Addr) (v1 v2 : V) (wd : Wd), vs = [.ref s, .ref x, v1, v2] ∧ H s = some (.ins Cs dx []) ∧ LineAt K C wd H x ∧ wd.Ok ∧ Deep H v1 ∧ Th H v2 ∧ Kids H v2 ∧ Tabs T0 H ∧
  (∀ t u, standD wd H v1 v2 = some (t, u) → ∀ H' e, KX T0 s H H' → H' e = none → E (.ref (cl t)) (some e) (upd H' e (.xd [("found", u)]))) ∧
  (standD wd H v1 v2 = none → ∀ H', KX T0 s H H' → StandAt Cs H' s (placesT H v1) (endsT wd H v2) → Q .non H')
theorem ok_init {T0 : List Addr} {f : Addr} {fd : FuncData} (F : FunV K "__init__" "Stand.__init__" s_init f fd) (T : Txt mg) (TS : ClsS K Cs)
    (Ncheck_trains : Fn K mg "check_trains" s_check_trains ["line", "trains"] f1 fd1) (GtrainsX : FnOk P w K mg base (CX P w) 7 f1 fd1 ["line", "trains"] (spTrainsX K C cl T0))
    (Ncheck_ends : Fn K mg "check_ends" s_check_ends ["line", "ends"] f2 fd2) (GendsX : FnOk P w K mg base (CX P w) 6 f2 fd2 ["line", "ends"] (spEndsX K C cl T0))
    (Nstaff_ends : Fn K mg "staff_ends" s_staff_ends ["line", "ends"] f3 fd3) (Gstaff_ends : FnOk P w K mg base CX0 5 f3 fd3 ["line", "ends"] (spStaffEnds K C)) :
    FnOk P w K mg base (CX P w) 8 f fd ["self", "line", "trains", "ends"] (spStandX K C Cs cl T0) := by
  refine okXV F sc_init (fun vs H Q E h => ?_) (fun cdv A outer s H vs Q E hr h => ?_)
  · obtain ⟨s, x, dx, v1, v2, wd, rfl, _⟩ := h
    rfl
  · obtain ⟨s, x, dx, v1, v2, wd, rfl, hs, hL, ok, d1, th2, kd2, tb, kE, kQ⟩ := h
    refine ⟨_, pss_cons (ps_expr (pe_call GtrainsX (hr.mono (by decide)) (by rfl) Ncheck_trains.g Ncheck_trains.kp Ncheck_trains.b .nil (passes_call (takes_of rfl rfl rfl rfl) (fun _ _ _ _ h => h)) (pa_cons (pv 1) (pa_cons (pv 2) pa_nil))))
      (pss_cons (ps_expr (pe_call GendsX (hr.mono (by decide)) (by rfl) Ncheck_ends.g Ncheck_ends.kp Ncheck_ends.b .nil (passes_call (takes_of rfl rfl rfl rfl) (fun _ _ _ _ h => h)) (pa_cons (pv 1) (pa_cons (pv 3) pa_nil))))
      (pss_cons (ps_fld (pv 0) (pv 1) rfl)
      (pss_cons (ps_fld (pv 0) (pe_callTy call_tuple_of (by rfl) T.tuple_ (by decide +kernel) (pa_cons (pe_lc (own := [("train", 4), ("_", 5)]) (g := gTup K 2 (gCons (gName 4) (gCons (gName 5) gNil))) (tt := tYes) rfl sc_init.nd (pi_seq (pv 2)) (blkOk_by (own := [("train", 4), ("_", 5)]) (N := ["self", "line", "trains", "ends", "train", "_", "place"]) (sc := defScope s_init) (by decide +kernel)) (fun _ _ _ _ _ => (pg_tup (by rfl) (pgs_cons (pg_name (i := 4) sc_init.nd rfl (Or.inl rfl)) (pgs_cons (pg_name (i := 5) sc_init.nd rfl (Or.inl rfl)) pgs_nil)))) (fun _ _ _ _ _ => pts_nil) (fun _ _ _ _ _ => (pv 4))) pa_nil)) rfl)
      (pss_one (ps_fld (pv 0) (pe_tup (pa_cons (pe_callTy call_tuple_of (by rfl) T.tuple_ (by decide +kernel) (pa_cons (pe_lc (own := [("_", 5), ("place", 6)]) (g := gTup K 2 (gCons (gName 5) (gCons (gName 6) gNil))) (tt := tYes) rfl sc_init.nd (pi_seq (pv 2)) (blkOk_by (own := [("_", 5), ("place", 6)]) (N := ["self", "line", "trains", "ends", "train", "_", "place"]) (sc := defScope s_init) (by decide +kernel)) (fun _ _ _ _ _ => (pg_tup (by rfl) (pgs_cons (pg_name (i := 5) sc_init.nd rfl (Or.inl rfl)) (pgs_cons (pg_name (i := 6) sc_init.nd rfl (Or.inl rfl)) pgs_nil)))) (fun _ _ _ _ _ => pts_nil) (fun _ _ _ _ _ => (pv 6))) pa_nil)) (pa_cons (pe_callTy call_tuple_of (by rfl) T.tuple_ (by decide +kernel) (pa_cons (pe_call Gstaff_ends (hr.mono (by decide)) (by rfl) Nstaff_ends.g Nstaff_ends.kp Nstaff_ends.b .nil pass0 (pa_cons (pv 1) (pa_cons (pv 3) pa_nil))) pa_nil)) pa_nil))) rfl))))), ?_⟩
    generalize hσ : L2.start _ _ = σ0
    obtain rfl : σ0 = [some (.ref s), some (.ref x), some v1, some v2, none, none, none] := hσ.symm.trans rfl
    refine ⟨_, rfl, _, rfl, x, v1, wd, rfl, hL, ok, d1, tb, ?_⟩
    cases hp : trainsD wd H v1 with
    | some d =>
      obtain ⟨t, u⟩ := d
      exact fun H' e h he => kE t u (by unfold standD; rw [hp]) H' e (KX.km h) he
    | none =>
      have due2 : standD wd H v1 v2 = endsD wd H v2 := by unfold standD; rw [hp]
      rw [due2] at kE kQ
      intro H1 k1
      have n1 := KM.nt tb k1
      refine ⟨_, rfl, _, rfl, x, v2, wd, rfl, hL.nt n1, ok, th_nt n1 th2, kd2.nt n1 th2, k1.tab, ?_⟩
      rw [endsD_nt n1 th2]
      cases he2 : endsD wd H v2 with
      | some d =>
        obtain ⟨t, u⟩ := d
        exact fun H' e h he => kE t u he2 H' e (KX.km (k1.trans h)) he
      | none =>
        have kQ := kQ he2
        intro H2 k2
        have k02 := k1.trans k2
        have n2 := KM.nt tb k02
        have hi : isl H 1 4 v1 = true := by
          cases q : isl H 1 4 v1 with
          | true => rfl
          | false =>
            unfold trainsD at hp
            rw [q, if_neg Bool.false_ne_true] at hp
            cases hp
        obtain ⟨a, xs, rfl, hq, ha, l1, l4⟩ := isl_true hi
        have all := tr_all (wd := wd) (H := H) (xs := xs) (ah := []) (by
          unfold trainsD at hp
          rw [hi, if_pos rfl, hq] at hp
          exact hp)
        have hs2 := n2 _ _ (by simp) hs
        have x02 : KX T0 s H H2 := KX.km k02
        obtain ⟨dL, q1, q2, q3, q4, ys1, ys2, ys3, hx, _⟩ := id hL
        have nxs : x ≠ s := fun z => by
          rw [z, hs] at hx
          have := (HO.ins.inj (Option.some.inj hx)).2.2
          exact absurd (congrArg (fun l => l.lookup (Str.ofString "_numbers")) this) (by rw [lf_numbers]; exact nofun)
        -- what stays, whatever becomes of the object
        have up : ∀ {H' : Hp} {c : Addr} {o : HO}, KX T0 s H H' → H c = some o → (∀ ps, o ≠ .tbl ps) → c ≠ s → H' c = some o := fun kx e no nc => kx.at tb e no nc
        have ls : ∀ {H' : Hp}, KX T0 s H H' → Ls H H' := fun kx c o na nb e => kx.at tb e na (fun z => by rw [z, hs] at e; exact nb _ _ _ (Option.some.inj e).symm)
        refine ⟨_, rfl, _, rfl, s, Cs, dx, _, rfl, hs2, TS.cl, TS.n1, by decide, ?_⟩
        have x03 : KX T0 s H (upd H2 s (.ins Cs dx (putF "_line" (.ref x) []))) := KX.self x02 hs2 (by simp)
        have hs3 : upd H2 s (.ins Cs dx (putF "_line" (.ref x) [])) s = some (.ins Cs dx (putF "_line" (.ref x) [])) := upd_same
        generalize upd H2 s (.ins Cs dx (putF "_line" (.ref x) [])) = H3 at x03 hs3 ⊢
        have ha' : ∀ {H' : Hp}, KX T0 s H H' → H' a = some (.lst xs) ∨ H' a = some (.tup xs) := fun kx => ha.imp (fun e => ls kx _ _ (by simp) (by simp) e) (fun e => ls kx _ _ (by simp) (by simp) e)
        -- a comprehension over the trains, made a tuple
        have comp : ∀ {H3 : Hp} {fs : List (Str × V)} {i j : Nat} {te : TE} {σ : L2.St} {G : VK} (f : Str × Str → Str), σ[2]? = some (some (.ref a)) → KX T0 s H H3 → H3 s = some (.ins Cs dx fs) → i ≠ j → i < σ.length → j < σ.length →
            (∀ n p τ H' C, τ[i]? = some (some (.str n)) → τ[j]? = some (some (.str p)) → C (.str (f (n, p))) H' → te τ H' C) →
            (∀ p H', KX T0 s H H' → H' s = some (.ins Cs dx fs) → H' p = some (.tup (xs.map fun y => V.str (f (prOf H y)))) → p ≠ s → Same H3 H' → G (.ref p) H') →
            tCB (fun xs H_1 Q => ∃ p ys, xs = [V.ref p] ∧ ((SqL K H_1 p ys ∧ ∀ (l : Addr), H_1 l = none → Q (V.ref l) (upd H_1 l (HO.tup ys))) ∨ SqT K H_1 p ys ∧ Q (V.ref p) H_1)) (tCons (tLc (iSeq K (tVar 2)) (gTup K 2 (gCons (gName i) (gCons (gName j) gNil))) tYes te [i, j]) tNil) σ H3 G := by
          intro H3 fs i j te σ G f h2 x03 hs3 hij hiσ hjσ hte k
          have ha3 := ha' x03
          obtain ⟨J, one, wJ⟩ := walk_seq (K := K) ha3
          refine ⟨_, h2, a, J, rfl, one H3 rfl, fun D hD => some_it wJ (src := xs) (F := fun y => some (V.str (f (prOf H y)))) rfl (by omega) hD (fun H' kb => ?_) ?_ ?_⟩
          · rcases ha3 with e | e
            · rw [e]; exact kb _ _ (ne_of_none e hD) e
            · rw [e]; exact kb _ _ (ne_of_none e hD) e
          · rintro m v v' H' C' B hv hv' s3 k3 _
            obtain rfl := Option.some.inj (hv.symm.trans hv')
            obtain ⟨t, n, p, rfl, ht, ep⟩ := all v (List.mem_of_getElem? hv)
            have ht3 : H' t = some (.tup [.str n, .str p]) := s3 _ _ (ls x03 _ _ (by simp) (by simp) ht)
            refine ⟨t, _, rfl, SqT.of ht3, rfl, _, _, rfl, _, _, rfl, rfl, wipe2 (by simp) (by simp), lcY (hte n p _ _ _ ?_ ?_ (k3 _ _ (by rw [ep]) (Same.refl _)))⟩
            · rw [List.getElem?_set_ne hij.symm, List.getElem?_set_self (by rw [wipe_length]; exact hiσ)]
            · rw [List.getElem?_set_self (by rw [List.length_set, wipe_length]; exact hjσ)]
          · intro H4 s4 eD
            rw [show xs.filterMap (fun y => some (V.str (f (prOf H y)))) = xs.map fun y => V.str (f (prOf H y)) from by rw [List.filterMap_eq_map']] at eD
            refine ⟨D, _, rfl, .inl ⟨SqL.of eD, fun p hp => ?_⟩⟩
            have s5 : Same H3 (upd H4 p (.tup (xs.map fun y => V.str (f (prOf H y))))) := s4.trans (same_alloc hp)
            exact k p _ (x03.trans (KX.km (KM.same x03.tab s5))) (s5 _ _ hs3) upd_same (fun z => by rw [z, s4 _ _ hs3] at hp; cases hp) s5
        dsimp only [tSeq, sFld]
        refine comp (i := 4) (j := 5) (fun q => q.1) rfl x03 hs3 (by decide) (by show 4 < 7; decide) (by show 5 < 7; decide) (fun n p τ H' C h1 h2 k => ⟨_, h1, k⟩) fun u H5 x05 hs5 eu nu s35 => ?_
        refine ⟨_, rfl, s, Cs, dx, _, rfl, hs5, TS.cl, TS.n2, ?_, ?_⟩
        · exact putS_len1
        have x06 : KX T0 s H (upd H5 s (.ins Cs dx (putF "_trains" (.ref u) (putF "_line" (.ref x) [])))) := KX.self x05 hs5 (by simp)
        have hs6 : upd H5 s (.ins Cs dx (putF "_trains" (.ref u) (putF "_line" (.ref x) []))) s = some (.ins Cs dx (putF "_trains" (.ref u) (putF "_line" (.ref x) []))) := upd_same
        generalize upd H5 s (.ins Cs dx (putF "_trains" (.ref u) (putF "_line" (.ref x) []))) = H6 at x06 hs6 ⊢
        refine tup2_step ?_
        refine comp (i := 5) (j := 6) (fun q => q.2) rfl x06 hs6 (by decide) (by show 5 < 7; decide) (by show 6 < 7; decide) (fun n p τ H' C h1 h2 k => ⟨_, h2, k⟩) fun t1 H7 x07 hs7 e1 n1s s67 => ?_
        have hL7 : LineAt K C wd H7 x := LineAt.ls (ls x07) ((x07.at tb hx (by simp) nxs).trans hx.symm) hL
        have pe : placesT H (.ref a) = xs.map fun y => V.str (prOf H y).2 := by unfold placesT; rw [hq]; rfl
        have tail : ∀ {p : Addr} {H8 : Hp} {es : List V}, Same H7 H8 → H8 p = some (.lst es) → endsT wd H v2 = es →
            tCB (fun xs H_1 Q => ∃ p ys, xs = [V.ref p] ∧ ((SqL K H_1 p ys ∧ ∀ (l : Addr), H_1 l = none → Q (V.ref l) (upd H_1 l (HO.tup ys))) ∨ SqT K H_1 p ys ∧ Q (V.ref p) H_1)) (fun σ H R => R [V.ref p] H) [some (V.ref s), some (V.ref x), some (V.ref a), some v2, none, none, none] H8 (fun y H9 => [V.ref t1, y].length ≤ sizeLine ∧ ∀ t, H9 t = none → ∃ v0, [some (V.ref s), some (.ref x), some (.ref a), some v2, none, none, none][0]? = some (some v0) ∧ ∃ a C dx fs, v0 = V.ref a ∧ upd H9 t (.tup [V.ref t1, y]) a = some (.ins C dx fs) ∧ Cls K C ∧ NoAttr K C "_state" ∧ fs.length < 1000 ∧ Q .non (upd (upd H9 t (.tup [V.ref t1, y])) a (.ins C dx (putF "_state" (.ref t) fs)))) := by
          intro p H8 es s8 e8 ee
          refine ⟨p, es, rfl, .inl ⟨SqL.of e8, fun t2 h2 => ⟨by show 2 ≤ sizeLine; decide, fun t ht => ?_⟩⟩⟩
          have s9 : Same H7 (upd H8 t2 (.tup es)) := s8.trans (same_alloc h2)
          have e29 : upd H8 t2 (.tup es) t2 = some (.tup es) := upd_same
          generalize upd H8 t2 (.tup es) = H9 at s9 e29 ht ⊢
          have s10 : Same H9 (upd H9 t (.tup [.ref t1, .ref t2])) := same_alloc ht
          have et : upd H9 t (.tup [.ref t1, .ref t2]) t = some (.tup [.ref t1, .ref t2]) := upd_same
          generalize upd H9 t (.tup [.ref t1, .ref t2]) = HA at s10 et ⊢
          have sA := s9.trans s10
          have hsA := sA _ _ hs7
          have xA : KX T0 s H HA := x07.trans (KX.km (KM.same x07.tab sA))
          have ne : ∀ {c : Addr} {zs : List V}, HA c = some (.tup zs) → c ≠ s := fun e z => by rw [z, hsA] at e; cases e
          refine ⟨_, rfl, s, Cs, dx, _, rfl, hsA, TS.cl, TS.n3, putS_len2, kQ _ (KX.self xA hsA (by simp)) ⟨dx, x, u, t, t1, t2, upd_same, ?_, ?_, ?_⟩⟩
          · rw [upd_ne (ne et)]; exact et
          · have e := sA _ _ e1
            rw [upd_ne (ne e), pe]; exact e
          · have e := s10 _ _ e29
            rw [upd_ne (ne e), ee]; exact e
        refine ⟨_, rfl, _, rfl, x, v2, wd, rfl, hL7, ok, ?_⟩
        by_cases hv : v2 = .non
        · exact .inl ⟨hv, fun p H8 s8 e8 => tail s8 e8 (if_pos hv)⟩
        · have ha2 : areD wd H v2 = true := by
            cases q : areD wd H v2 with
            | true => rfl
            | false =>
              unfold endsD at he2
              rw [if_neg hv, q, if_neg Bool.false_ne_true] at he2
              cases he2
          have hi2 : isl H wd.st.length wd.st.length v2 = true := by
            unfold areD at ha2
            exact (Bool.and_eq_true_iff.mp ha2).1
          obtain ⟨a2, xs2, rfl, hq2, hb2, _, _⟩ := isl_true hi2
          refine .inr ⟨a2, xs2, rfl, hb2.imp (fun e => ls x07 _ _ (by simp) (by simp) e) (fun e => ls x07 _ _ (by simp) (by simp) e), fun p H8 s8 e8 => tail s8 e8 ?_⟩
          unfold endsT
          rw [if_neg hv, hq2]
          rfl
def spState (Cs : Addr) : Sp := fun vs H Q _ => ∃ (s : Addr) (ps es : List V), vs = [.ref s] ∧ StandAt Cs H s ps es ∧ ∀ t t1 t2, H t = some (.tup [.ref t1, .ref t2]) → H t1 = some (.tup ps) → H t2 = some (.tup es) → Q (.ref t) H
theorem ok_state {f : Addr} {fd : FuncData} (F : Fun K "state" "Stand.state" s_state f fd) (T : Txt mg) (TS : ClsS K Cs) : FnOk P w K mg base CX0 1 f fd ["self"] (spState Cs) := by
  refine F.ok sc_state (fun vs H Q E h => ?_) (fun cdv A outer s H vs Q E hr h => ?_)
  · obtain ⟨s, ps, es, rfl, _⟩ := h
    rfl
  · obtain ⟨s, ps, es, rfl, ⟨dx, l, u, t, t1, t2, hs, h0, h1, h2⟩, k⟩ := h
    refine ⟨_, pss_one (ps_ret (pe_fld (pv 0) rfl)), ?_⟩
    exact ⟨_, rfl, s, Cs, dx, _, _, rfl, hs, TS.cl, TS.n3, sf_state l u t, k t t1 t2 h0 h1 h2⟩
end
end T9.St

set_option maxRecDepth 100000
set_option maxHeartbeats 900000
/-! xs[lo:] = ys, another list -/
namespace My
open PySem PySem.Spec PyProof.Rows L2 GxR Gd
theorem tail_bounds {a n : Nat} (ha : a ≤ n) : sliceBounds (some (a : Int)) none none n = ((a : Int), (n : Int), 1) := by
  have h1 : ¬ ((a : Int) < 0) := Int.not_lt.mpr (by omega)
  simp only [sliceBounds, Option.getD_none, h1, if_false, show (1 : Int) > 0 by decide, if_true]
  have h2 : max (0 : Int) (min (a : Int) (n : Int)) = a := by omega
  rw [h2]
section
variable {s : Shared} {E : Value → Shared → Prop} {A : Around} {w : World} {prog : Program}
theorem tail_cut (xs ys : List Value) (a : Nat) : xs.toArray.extract 0 a ++ ys.toArray ++ xs.toArray.extract xs.toArray.size xs.toArray.size = (xs.take a ++ ys).toArray := by
  apply Array.toList_inj.mp
  simp
/-- at the store -/
theorem tail_store {l b sl : Addr} {xs ys : Array Value} {n n2 : Nat} {vl vu : Value} {a : Nat} {Q : Unit → Shared → Prop}
    (e : s.heap.get? l = some { cls := .type "list", data := .seq xs n })
    (e2 : s.heap.get? b = some { cls := .type "list", data := .seq ys n2 })
    (lb : l ≠ b) (hs : s.heap.IsSliceOf sl vl vu .none)
    (pl : IsPart vl (some (a : Int))) (pu : IsPart vu none) (ha : a ≤ xs.size) (hz : xs.size + ys.size ≤ sizeLine)
    (k : Q () { s with heap := s.heap.update l (Obj.mapSeq fun zs => zs.extract 0 a ++ ys ++ zs.extract xs.size zs.size) }) :
      wpAny (model prog w) A (setItem (.ref l) (.ref sl) (.ref b)) Q E s  := by
  have il := PySem.IsL.isList e
  have ib := PySem.IsL.isList e2
  obtain ⟨os, o1, o2, o3⟩ := id hs
  have ts : s.TypeIs (.ref sl) "slice" := ⟨os, o1, o2⟩
  have ne : Builtin.List.listSameRef (.ref l) (.ref b) = false := beq_eq_false_iff_ne.mpr lb
  have big : ((fun zs : Array Value => zs.extract 0 a ++ ys ++ zs.extract xs.size zs.size) xs).size ≤ sizeLine + 1 := by
    simp only [Array.size_append, Array.size_extract]; omega
  unfold setItem; (try with_reducible refine wpAny_holding ?_); first | refine wpAny_bind (wpAny_pure ?_) | skip
  refine wpAny_bind (wpAny_sequenceKey il.typeIs (by decide) (wpAny_bind (wpAny_callSpecial?_slot (name := Str.ofString "__setitem__") il.typeIs slot_list_setitem (wpAny_call_entry slot_list_setitem il.typeIs entry_list_setitem ?_ (args_list_setitem _ _ _)))))
  show wpAny _ _ (Builtin.List.listSubscript? (.ref sl) >>= _) _ _ _
  refine wpAny_bind (m := Builtin.List.listSubscript? (.ref sl)) ?_; unfold Builtin.List.listSubscript?
  refine wpAny_bind (wpAny_specialOf ts slice_no_index ?_)
  rw [if_pos (by rfl)]
  refine wpAny_pure ?_
  show wpAny _ _ (typeOf (.ref sl) >>= _) _ _ _
  refine wpAny_bind (wpAny_typeOf ts ?_)
  have two : ¬ ((Value.type "slice" != Value.type "slice") = true) := by decide
  rw [if_neg two, listSliceParts_eq]
  have none0 : ¬ ((rawPart none == rawInt 0) = true) := Bool.false_ne_true
  refine wpAny_bind (wpAny_bind (wpAny_field o1 o3 (x := .none) rfl (wpAny_bind (wpAny_listPart .none (by
    rw [if_neg none0]
    refine wpAny_bind (wpAny_field o1 o3 (x := vl) rfl (wpAny_bind (wpAny_listPart pl (wpAny_bind (wpAny_field o1 o3 (x := vu) rfl (wpAny_bind (wpAny_listPart pu (wpAny_pure ?_))))))))
    dsimp only
    have ne' : ¬ (Builtin.List.listSameRef (.ref l) (.ref b) = true) := by rw [ne]; exact Bool.false_ne_true
    rw [if_neg ne']
    refine wpAny_bind (m := Builtin.List.listAllItems (.ref b) "must assign iterable to extended slice") ?_; unfold Builtin.List.listAllItems
    refine wpAny_bind (wpAny_typeOf ib.typeIs (PySem.W.KFB.if_so (by decide) ?_))
    unfold Builtin.List.listItems
    have rw1 := (sliceIndices_raw (some (a : Int)) none none xs.size (by simp)).trans (congrArg (pure : Int × Int × Int → Sem (Int × Int × Int)) (tail_bounds ha))
    refine wpAny_bind (wpAny_seqItems e2 rfl (wpAny_pure (wpAny_bind (wpAny_bind (wpAny_seqItems e rfl (wpAny_pure (wpAny_bind (wpAny_of_eq rw1 ?_))))))))
    have one : ((1 : Int) == 1) = true := rfl
    refine PySem.W.KFB.if_so one (wpAny_bind (wpAny_rule (PySem.W.KFB.if_not (notLongL hz) ?_)))
    have m1 : (max (a : Int) (xs.size : Int)).toNat = xs.size := by omega
    have cut : (fun zs : Array Value => zs.extract 0 ((a : Int)).toNat ++ ys ++ zs.extract (max (a : Int) (xs.size : Int)).toNat zs.size) = fun zs => zs.extract 0 a ++ ys ++ zs.extract xs.size zs.size := by
      rw [m1, Int.toNat_natCast]
    show wpAny _ _ (updateSeq l (fun zs : Array Value => zs.extract 0 ((a : Int)).toNat ++ ys ++ zs.extract (max (a : Int) (xs.size : Int)).toNat zs.size) >>= _) _ _ s
    rw [cut]
    refine wpAny_bind (wpAny_updateSeq (hz := Nat.le_trans (Nat.le_add_right _ _) hz) (_hz' := big) e rfl (wpAny_bind (wpAny_letGo ?_)))
    exact wpAny_pure ⟨.none, rfl, wpAny_pure k⟩)))))
/-- at a row of the program -/
def gTail (to : TE) (tl th : TO) : TG := fun v σ H Q => to σ H fun o H1 => tl σ H1 fun lo H2 => th σ H2 fun hi H3 =>
  ∃ p b xs ys a, o = .ref p ∧ v = .ref b ∧ lo = some a ∧ hi = none ∧ 0 ≤ a ∧ a ≤ ((xs.length : Nat) : Int) ∧ p ≠ b ∧ H3 p = some (.lst xs) ∧ H3 b = some (.lst ys) ∧ xs.length + ys.length ≤ sizeLine ∧ Q σ (upd H3 p (.lst (xs.take a.toNat ++ ys)))
theorem pg_tail {X : Cx} {o : Expr} {lo hi : Option Expr} {pos p2 : Pos} {to : TE} {tl th : TO} (ho : PE X o to) (hl : PO X lo tl) (hu : PO X hi th)
    (ha : ∀ v, assign (.Subscript o (.Slice lo hi none p2) pos) X.env v = (do
      let ov ← holding [v] (eval o X.env); let iv ← holding [v, ov] (eval (.Slice lo hi none p2) X.env)
      standAt pos; holding [v, ov, iv] (setItem ov iv v)
      release [iv, v, ov] []) := by intro _; rfl) : PG X (.Subscript o (.Slice lo hi none p2) pos) (gTail to tl th) := by
  refine ⟨fun pins s σ H v u Q I r h => ?_⟩; rw [ha]
  refine wpAny_bind (wpAny_holding (thn (ho.run pins s σ H _ I h) fun ov s1 ⟨x, H1, I1, r1, q1⟩ => wpAny_bind (wpAny_holding ?_)))
  refine wpAny_Slice (thn (hl.run pins s1 σ H1 _ I1 q1) fun vl s2 ⟨l, H2, I2, pl, q2⟩ => thn (hu.run pins s2 σ H2 _ I2 q2) fun vu s3 ⟨m, H3, I3, pu, q3⟩ => ?_)
  rw [evalPart_none]
  refine wpAny_pure (wpAny_bind ?_); obtain ⟨p, b, xs, ys, a, rfl, rfl, rfl, rfl, a0, a1, pb, hp, hb, hz, q⟩ := q3
  cases r1
  cases r
  have I4 := I3.kept (h' := s3.heap.push { cls := .type "slice", data := .fields #[vl, vu, .none] }) (t' := s3.toks) fun _ _ g => Heap.get?_push_of_some _ g
  obtain ⟨k, rfl⟩ := Int.eq_ofNat_of_zero_le a0
  obtain ⟨z1, is1, n1, v1, g1, e1⟩ := I4.lstM hp
  obtain ⟨z2, is2, n2, v2, g2, e2⟩ := I4.lstM hb
  refine wpAny_standAt (wpAny_bind (wpAny_holding ?_))
  have ki : k ≤ is1.length := by omega
  refine tail_store (a := k) e1 e2 pb (Heap.IsSliceOf.new ..) pl pu (by rw [List.size_toArray]; exact ki) (by rw [List.size_toArray, List.size_toArray]; omega) ?_
  have I5 := I4.lset (f := fun zs => zs.extract 0 k ++ is2.toArray ++ zs.extract is1.toArray.size zs.size) (ys := xs.take k ++ ys) (its' := is1.take k ++ is2) (t' := s3.toks) hp e1 (tail_cut is1 is2 k) (Vals.append (v1.take _) v2) (by rw [List.length_append, List.length_take]; omega)
  exact wpAny_release ⟨σ, _, I5, q⟩
end
end My

set_option maxRecDepth 100000
set_option maxHeartbeats 400000
namespace T9
open PySem PySem.Spec PyProof.Rows L2 GxR Gd TL My
theorem eqDK {X : Cx} {K : PySem.W.Frag} (h : X.K = K) (hu : X.A.units + 64 < cLine) : OpR X (compareOp .Eq) (rEqD K) := h ▸ op_eqD hu
theorem low_mem (c : Nat) : decide (c ∈ (Str.ofString "abcdefghijklmnopqrstuvwxyz").cps.toList) = lc c := by
  have e : (Str.ofString "abcdefghijklmnopqrstuvwxyz").cps.toList = (List.range 26).map (97 + ·) := by decide +kernel
  rw [e, Bool.eq_iff_iff, decide_eq_true_eq, List.mem_map]
  unfold lc
  simp only [Bool.and_eq_true, decide_eq_true_eq, List.mem_range]
  constructor
  · rintro ⟨a, ha, rfl⟩
    omega
  · rintro ⟨h1, h2⟩
    exact ⟨c - 97, by omega, by omega⟩
theorem all_filter : ∀ l : List Nat, l.all lc = decide (l.filter (fun c => !lc c) = [])
  | [] => rfl
  | c :: r => by
    cases h : lc c with
    | true =>
      rw [List.all_cons, h, Bool.true_and, all_filter r, List.filter_cons_of_neg (by simp [h])]
    | false =>
      rw [List.all_cons, h, Bool.false_and, List.filter_cons_of_pos (by simp [h])]
      simp
theorem sm_shaped {d : PyData} {k m : Nat} (h : Sm d k m) (hk : k ≤ 64) : SeqAt.shaped d = true := by
  unfold SeqAt.shaped
  rw [h.lay, Bool.true_and, decide_eq_true_eq]
  exact Nat.le_trans h.dep hk
theorem chars_dp {K : PySem.W.Frag} {H : Hp} : ∀ l : List Nat, DpAll K H (l.map fun c => V.str ⟨#[c]⟩) (l.map fun c => PyData.str ⟨#[c]⟩)
  | [] => .nil
  | c :: r => .cons (.str _) (chars_dp r)
theorem eqv_nil : ∀ l : List Nat, PyData.eqv (.list (l.map fun c => PyData.str ⟨#[c]⟩)) (.list []) = decide (l = [])
  | [] => rfl
  | c :: r => rfl
theorem nm_len (z : Str) : nm (.str z) = (decide (1 ≤ z.length) && decide (z.length ≤ 6) && z.cps.toList.all lc) := rfl
theorem small_line {n : Nat} (h : n ≤ 1000000) : n ≤ sizeLine := Nat.le_trans h (by rw [sizeLine_eq]; decide)
section
variable {P : Program} {w : World} {K : PySem.W.Frag} {mg : Str → Option Value} {base : Heap}
abbrev s_law_is_name : Stmt := top 44
theorem sc_law_is_name : FnScope ["_law_thing", "_law_letters", "_law_sign"] ["_law_thing"] (defScope s_law_is_name) := ⟨rfl, rfl, rfl, by decide +kernel, rfl, by decide +kernel, by decide +kernel⟩
def spLawName : Sp := fun vs H Q _ => ∃ v, vs = [v] ∧ Th H v ∧ ∀ H', Same H H' → Q (.bl (nm v)) H'
theorem ok_law_is_name {f : Addr} {fd : FuncData} (F : Fun K "_law_is_name" "_law_is_name" s_law_is_name f fd) (T : Txt mg) :
    FnOk P w K mg base CX0 2 f fd ["_law_thing"] spLawName := by
  refine F.ok sc_law_is_name (fun vs H Q E h => ?_) (fun cdv A outer s H vs Q E hr h => ?_)
  · obtain ⟨v, rfl, _⟩ := h
    rfl
  · obtain ⟨v, rfl, th, k⟩ := h
    have hu := hr.units
    refine ⟨_, pss_cons (ps_set (i := 1) sc_law_is_name.nd rfl (Or.inr rfl) pe_str)
      (pss_one (ps_ret (pe_and (pe_callB call_isi (by rfl) T.isinstance_ (by decide +kernel) (pa_cons (pv 0) (pa_cons (pe_bltn (v := .ty "str") (by rfl) T.str_ (by decide +kernel) rfl) pa_nil))) (pe_and (pe_chain op_lt op_lt pe_int (pe_callB call_len_str (by rfl) T.len_ PySem.boot_len (pa_cons (pv 0) pa_nil)) pe_int) (pe_one (pe_cmpR (eqDK (K := K) rfl hu) (pe_lc (own := [("_law_sign", 2)]) (g := gName 2) rfl sc_law_is_name.nd (pi_str (pv 0)) (blkOk_by (own := [("_law_sign", 2)]) (N := ["_law_thing", "_law_letters", "_law_sign"]) (sc := defScope s_law_is_name) (by decide +kernel)) (fun _ _ _ _ _ => (pg_name (i := 2) sc_law_is_name.nd rfl (Or.inl rfl))) (fun _ _ _ _ _ => pts_one (pt_cmpR op_notIn_str (pv 2) (pv 1) rfl)) (fun _ _ _ _ _ => (pv 2))) (pe_lst pa_nil) (nomark _))))))), ?_⟩
    have no : (nm v = false) → Q (.bl false) H := fun e => by
      have := k H (Same.refl H)
      rw [e] at this
      exact this
    obtain ⟨t, ty, cs⟩ := th.ty (K := K)
    rcases cs with ⟨i, rfl, rfl⟩ | ⟨b, rfl, rfl⟩ | ⟨z, rfl, ⟨zl, zg⟩, rfl⟩ | ⟨n1, n2, n3, ht⟩
    · exact ⟨_, rfl, _, _, _, _, false, rfl, .ty "str", ty, (by rfl), _, rfl, iteF (no rfl)⟩
    · exact ⟨_, rfl, _, _, _, _, false, rfl, .ty "str", ty, (by rfl), _, rfl, iteF (no rfl)⟩
    · refine ⟨_, rfl, _, _, _, _, true, rfl, .ty "str", ty, (by rfl), _, rfl, iteT ?_⟩
      refine ⟨_, rfl, z, rfl, small_line zl, _, _, rfl, rfl, ?_⟩
      refine ⟨_, rfl, ite2 (fun c0 => ?_) (fun c0 => ⟨_, rfl, iteF (no (by rw [nm_len]; have : ¬ ((0 : Int) < z.length) := fun h => c0 (decide_eq_true h); rw [decide_eq_false (p := 1 ≤ z.length) (by omega), Bool.false_and, Bool.false_and]))⟩)⟩
      refine ⟨_, _, rfl, rfl, _, rfl, ite2 (fun c1 => ?_) (fun c1 => (no (by rw [nm_len]; have : ¬ ((z.length : Int) < 7) := fun h => c1 (decide_eq_true h); rw [decide_eq_false (p := z.length ≤ 6) (by omega), Bool.and_false, Bool.false_and])))⟩
      have l0 : 1 ≤ z.length := by have := of_decide_eq_true c0; omega
      have l6 : z.length ≤ 6 := by have := of_decide_eq_true c1; omega
      refine ⟨_, rfl, z, rfl, fun D hD => lc_it walk_str (fun i H' => ∃ cs : List Nat, H' D = some (.lst (cs.map fun c => V.str ⟨#[c]⟩)) ∧ cs = (z.cps.toList.take i).filter (fun c => !lc c) ∧ Same H H') ?_ ?_ ?_ ?_⟩
      · exact ⟨[], upd_same, rfl, same_alloc hD⟩
      · intros; trivial
      · rintro i x H1 H2 hi ⟨cs, e1, e2, s1⟩ ⟨rfl, c, hc, rfl⟩
        refine ⟨rfl, _, rfl, _, rfl, _, _, rfl, rfl, _, rfl, ?_⟩
        rw [StrLaws.found_one, low_mem]
        have hc' : z.cps.toList[i]? = some c := by rw [Array.getElem?_toList]; exact hc
        cases hl : lc c with
        | true => exact ⟨cs, e1, by rw [take_at hc', List.filter_append, e2]; simp [hl], s1⟩
        | false =>
          refine ⟨_, rfl, _, e1, ?_, cs ++ [c], ?_, by rw [take_at hc', List.filter_append, e2]; simp [hl], ?_⟩
          · rw [List.length_map, e2]
            have h1 := List.length_filter_le (fun c => !lc c) (z.cps.toList.take i)
            have h2 := List.length_take_le i z.cps.toList
            have h3 : i < z.length := hi
            exact lt_line _ (by omega)
          · rw [upd_same, List.map_append]
            rfl
          · exact fun c o h => by
              rw [upd_ne (ne_of_none h hD)]
              exact s1 _ _ h
      · rintro H1 ⟨cs, e1, e2, s1⟩
        refine ⟨Nat.zero_le _, fun L hL => ?_⟩
        have hc6 : cs.length ≤ 6 := by
          rw [e2]
          refine Nat.le_trans (List.length_filter_le _ _) (Nat.le_trans (List.length_take_le _ _) ?_)
          exact l6
        refine ⟨.list (cs.map fun c => .str ⟨#[c]⟩), .list [], .lst (SqL.of (same_alloc hL _ _ e1)) (chars_dp cs), .lst (SqL.of upd_same) .nil, ?_, rfl, ?_⟩
        · refine sm_shaped (k := 1) (m := 100) ((sm_list (k := 0) (m := 6) fun d hd => ?_).mono (by decide) (by rw [List.length_map]; omega)) (by decide)
          obtain ⟨c, hc, rfl⟩ := List.mem_map.mp hd
          rw [e2] at hc
          have hz := zg c (List.mem_of_mem_take (List.mem_filter.mp hc).1)
          exact sm_str (fun d hd => by
            obtain rfl : d = c := List.mem_singleton.mp hd
            exact hz) (by show 1 ≤ 6; decide)
        · have ek : nm (.str z) = decide (cs = []) := by
            rw [nm_len, decide_eq_true l0, decide_eq_true l6, Bool.true_and, Bool.true_and, e2, List.take_of_length_le (by exact Nat.le_refl _)]
            exact all_filter _
          have q := k (upd H1 L (.lst [])) (s1.trans (same_alloc hL))
          rw [ek] at q
          rw [eqv_nil]
          exact q
    · have e : nm v = false := by
        cases v with
        | str z => exact absurd rfl (n3 z)
        | _ => rfl
      rcases ht with rfl | rfl | rfl | rfl
      · exact ⟨_, rfl, _, _, _, _, false, rfl, .ty "str", ty, (by rfl), _, rfl, iteF (no e)⟩
      · exact ⟨_, rfl, _, _, _, _, false, rfl, .ty "str", ty, (by rfl), _, rfl, iteF (no e)⟩
      · exact ⟨_, rfl, _, _, _, _, false, rfl, .ty "str", ty, (by rfl), _, rfl, iteF (no e)⟩
      · exact ⟨_, rfl, _, _, _, _, false, rfl, .ty "str", ty, (by rfl), _, rfl, iteF (no e)⟩
end
end T9

set_option maxRecDepth 100000
set_option maxHeartbeats 1000000
/-! texts.count(a text) -/
namespace My
open PySem PySem.Spec PyProof.Rows L2 GxR Gd TL
def rCntS (K : PySem.W.Frag) : V → List V → Hp → VK → Prop := fun x xs H Q => ∃ (p : Addr) (zs : List Str) (z : Str), x = .ref p ∧ xs = [.str z] ∧ SqL K H p (zs.map V.str) ∧ Q (.int ((zs.countP fun y => decide (y = z)) : Nat)) H
theorem strs_dp {K : PySem.W.Frag} {H : Hp} : ∀ l : List Str, DpAll K H (l.map V.str) (l.map PyData.str)
  | [] => .nil
  | c :: r => .cons (.str _) (strs_dp r)
theorem strs_plain : ∀ l : List Str, PyData.plainAll (l.map PyData.str) = true
  | [] => rfl
  | c :: r => by
    rw [List.map_cons]
    unfold PyData.plainAll
    rw [strs_plain r]
    rfl
theorem strs_depth : ∀ l : List Str, PyData.depthAll (l.map PyData.str) = 0
  | [] => rfl
  | c :: r => by
    rw [List.map_cons]
    unfold PyData.depthAll
    rw [strs_depth r]
    rfl
theorem strs_count (z : Str) : ∀ l : List Str, ((l.map PyData.str).countP fun y => PyData.eqv y (.str z)) = l.countP fun y => decide (y = z)
  | [] => rfl
  | c :: r => by
    rw [List.map_cons, List.countP_cons, List.countP_cons, strs_count z r]
    have : PyData.eqv (.str c) (.str z) = decide (c = z) := by
      unfold PyData.eqv
      rw [Bool.eq_iff_iff]
      simp
    rw [this]
theorem mt_scount {X : Cx} {K : PySem.W.Frag} (e : X.K = K) (hu : X.A.units + 2 < cLine) : MtR X "list.count" (rCntS K) := by
  subst e
  intro pins s σ H x xs v us Q I rx rxs h
  obtain ⟨p, zs, z, rfl, rfl, hs, q⟩ := h
  cases rx
  obtain ⟨u, rfl, ru⟩ := rxs.one
  obtain ⟨t, rfl⟩ := ru
  obtain ⟨its, rv, pl, hlen⟩ := I.list hs
  obtain ⟨as, rs⟩ := Dp.readsAll I _ _ _ (strs_dp zs) rv
  refine PySem.SeqAt.count_list_data (d := .str z) (bs := []) pl.isList (by simpa using rs) (.str z t) (strs_plain zs) rfl (by rw [strs_depth]; show X.A.units + 1 + min 0 _ < cLine; omega) ?_
  rw [strs_count]
  exact ⟨.int _, H, I.tok _, ⟨_, rfl⟩, q⟩
end My

set_option maxRecDepth 100000
set_option maxHeartbeats 1000000
/-! any thing not in a list of texts -/
namespace My
open PySem PySem.Spec PyProof.Rows L2 GxR Gd TL
def rNiT (K : PySem.W.Frag) : R2 := fun x y H Q => ∃ (p : Addr) (zs : List Str), y = .ref p ∧ SqL K H p (zs.map V.str) ∧
  ((flatV x = true ∧ Q (.bl (!inV x (zs.map V.str))) H) ∨ ((∃ a, x = .ref a ∧ ((∃ xs, SqL K H a xs) ∨ (∃ xs, SqT K H a xs) ∨ ∃ kvs, H a = some (.dK kvs))) ∧ Q (.bl true) H))
theorem op_niT {X : Cx} (hu : X.A.units + 2 < cLine) : OpR X (compareOp .NotIn) (rNiT X.K) := by
  rintro pins s σ H x y v u Q I rx ry ⟨p, zs, rfl, hp, cs⟩
  rcases cs with ⟨fx, q⟩ | ⟨⟨a, rfl, ha⟩, q⟩
  · refine op_notIn_seq pins s σ H x _ v u Q I rx ry ⟨p, _, rfl, .inl hp, fx, ?_, q⟩
    rw [List.all_map]
    exact List.all_eq_true.mpr fun _ _ => rfl
  · cases ry
    cases rx
    obtain ⟨its, r, pl, hz⟩ := I.list hp
    refine SeqAt.notIn_listAt (fun _ => false) pl.isList (fun w hw => ?_) ⟨.bl _, H, I, rfl, ?_⟩
    · obtain ⟨z, hz, rz⟩ : ∃ z : Str, z ∈ zs ∧ RelV (.str z) w := by
        have hw2 : w ∈ its := by simpa using hw
        clear pl hz hp hw
        induction zs generalizing its with
        | nil => cases r; cases hw2
        | cons z zs ih =>
          cases r with
          | cons r1 r2 =>
            rcases List.mem_cons.mp hw2 with rfl | hw
            · exact ⟨z, List.mem_cons_self, r1⟩
            · obtain ⟨z', h1, h2⟩ := ih _ r2 hw
              exact ⟨z', List.mem_cons_of_mem _ h1, h2⟩
      obtain ⟨t, rfl⟩ := rz
      have hu2 : X.A.in1.units < cLine := by show X.A.units + 1 < cLine; omega
      rcases ha with ⟨xs, h⟩ | ⟨xs, h⟩ | ⟨kvs, h⟩
      · obtain ⟨its2, _, pl2, _⟩ := I.list h
        exact SeqAt.EqAt.str_list z t pl2.isList hu2
      · obtain ⟨its2, _, pl2, _⟩ := I.tuple h
        exact SeqAt.EqAt.str_tuple z t pl2 hu2
      · obtain ⟨_, _, vs, _, o, es, ep, h1, h2, h3, _⟩ := dk_of I.hok h
        exact eqAt_str_dict z t h1 h2.1 h3 hu2
    · rw [← Array.any_toList, any_false]
      exact q
end My

set_option maxRecDepth 100000
namespace My
open PySem PySem.Spec PyProof.Rows L2 GxR Gd TL
theorem pe_bmK {X : Cx} {K : PySem.W.Frag} {o e : Expr} {es : List Expr} {to : TE} {t : TA} {name : Str} {apos cpos : Pos} {T id : String} {r : V → List V → Hp → VK → Prop} (h : X.K = K) (pa : PlainAttrs T) (slot : Slot T name id) (hty : typeOf (.builtin id) = pure (.type "method_descriptor")) (hm : MtR X id r) (ho : PE X o to) (ha : PA X (e :: es) t)
    (hbase : attributeBase o name X.env (eval o X.env) = eval o X.env := by rfl)
    (hfew : ((backTo cpos (starEach (e :: es) X.env)).all (fun x => !x.1) && (backToKw cpos (keywordEach [] X.env)).all (fun x => x.1.isSome)
      && decide ((e :: es).length + ([] : List Keyword).length + (if ([] : List Keyword).isEmpty then 0 else 1) < 30)) = true := by rfl)
    (hline : (apos.endLine == cpos.line) = true := by rfl) (hs : starEach (e :: es) X.env = (false, eval e X.env) :: starEach es X.env := by rfl) (hplain : (backTo cpos (starEach es X.env)).any (·.1) = false := by rfl) :
    PE X (.Call (.Attribute o name apos) (e :: es) [] cpos) (tBM K T r to t) := h ▸ pe_bm pa slot hty hm ho ha hbase hfew hline hs hplain
end My

set_option maxRecDepth 100000
set_option maxHeartbeats 1000000
/-! A tuple or a list of any things beside an empty one. -/
namespace My
open PySem PySem.Spec PyProof.Rows L2 GxR Gd TL
def rEqT0 (K : PySem.W.Frag) : R2 := fun x y H Q => ∃ a b xs, x = .ref a ∧ y = .ref b ∧ SqT K H a xs ∧ SqT K H b [] ∧ Q (.bl xs.isEmpty) H
theorem op_eqT0 {X : Cx} (hu : X.A.units < cLine) : OpR X (compareOp .Eq) (rEqT0 X.K) := by
  rintro pins s σ H x y v u Q I rx ry ⟨a, b, xs, rfl, rfl, ha, hb, q⟩
  cases rx
  cases ry
  obtain ⟨us, r1, p1, _⟩ := I.tuple ha
  obtain ⟨ws, r2, p2, _⟩ := I.tuple hb
  cases r2
  refine SeqAt.eq_tupleAt (e := fun _ => true) p1 p2 hu (fun j _ h2 => absurd h2 (Nat.not_lt_zero j)) ⟨.bl _, H, I, ?_, q⟩
  cases r1 with
  | nil => rfl
  | cons _ _ => rfl
def rNeL0 (K : PySem.W.Frag) : R2 := fun x y H Q => ∃ a b xs, x = .ref a ∧ y = .ref b ∧ SqL K H a xs ∧ SqL K H b [] ∧ Q (.bl (!xs.isEmpty)) H
theorem op_neL0 {X : Cx} (hu : X.A.units < cLine) : OpR X (compareOp .NotEq) (rNeL0 X.K) := by
  rintro pins s σ H x y v u Q I rx ry ⟨a, b, xs, rfl, rfl, ha, hb, q⟩
  cases rx
  cases ry
  obtain ⟨us, r1, p1, _⟩ := I.list ha
  obtain ⟨ws, r2, p2, _⟩ := I.list hb
  cases r2
  cases r1 with
  | nil => exact (SeqAt.RcNeAt.lists (e := fun _ => true) p1.isList p2.isList rfl hu (fun j h1 _ => absurd h1 (Nat.not_lt_zero j))) _ _ _ _ ⟨.bl _, H, I, rfl, q⟩
  | cons h t => exact (SeqAt.RcNeAt.lists_lengths p1.isList p2.isList rfl hu) _ _ _ _ ⟨.bl _, H, I, rfl, q⟩
end My

set_option maxRecDepth 100000
set_option maxHeartbeats 3200000
namespace T9
open PySem PySem.Spec PyProof.Rows L2 GxR Gd TL My
def prsK (ps : List (Str × Int)) : List (Key × V) := ps.map fun p => (Sum.inr p.1, V.int p.2)
theorem posOf_cons (p : Str × Int) (r : List (Str × Int)) (z : Str) : posOf (p :: r) z = if p.1 = z then some 0 else (posOf r z).map (· + 1) := by
  unfold posOf
  rw [List.findIdx?_cons]
  by_cases h : p.1 = z
  · rw [if_pos (decide_eq_true h), if_pos h]
  · rw [if_neg (by simpa using h), if_neg h]
theorem posOf_no {ps : List (Str × Int)} {z : Str} (h : z ∉ ps.map (·.1)) : posOf ps z = none := by
  induction ps with
  | nil => rfl
  | cons p r ih =>
    rw [posOf_cons, if_neg (fun e => h (by rw [List.map_cons, e]; exact List.mem_cons_self ..)), ih fun m => h (by rw [List.map_cons]; exact List.mem_cons_of_mem _ m)]
    rfl
theorem posOf_mem {ps : List (Str × Int)} {z : Str} {i : Nat} (h : posOf ps z = some i) : z ∈ ps.map (·.1) := Classical.byContradiction fun n => by rw [posOf_no n] at h; cases h
theorem prs_val {z : Str} : ∀ {ps : List (Str × Int)} {kvs : List (Key × V)}, (ps.map (·.1)).Nodup → valV (mergeK kvs (prsK ps)) (Sum.inr z) = match posOf ps z with | some i => (ps[i]?).map fun p => V.int p.2 | none => valV kvs (Sum.inr z)
  | [], kvs, _ => rfl
  | p :: r, kvs, nd => by
    rw [List.map_cons, List.nodup_cons] at nd
    show valV (mergeK (putK kvs (Sum.inr p.1) (V.int p.2)) (prsK r)) (Sum.inr z) = _
    rw [prs_val (ps := r) nd.2, posOf_cons]
    by_cases h : p.1 = z
    · subst h
      rw [posOf_no nd.1, if_pos rfl]
      show valV (putK kvs (Sum.inr p.1) (V.int p.2)) (Sum.inr p.1) = some (V.int p.2)
      rw [valV_put, if_pos rfl]
    · rw [if_neg h]
      cases e : posOf r z with
      | some i =>
        show _ = ((p :: r)[i + 1]?).map _
        rw [List.getElem?_cons_succ]
      | none =>
        show valV (putK kvs (Sum.inr p.1) (V.int p.2)) (Sum.inr z) = valV kvs (Sum.inr z)
        rw [valV_put, if_neg (fun e => h (Sum.inr.inj e).symm)]
theorem prs_of {K : PySem.W.Frag} {H : Hp} : ∀ {ps : List (Str × Int)} {xs : List V}, DpAll K H xs (ps.map dP) → ∃ as : List Addr, xs = as.map V.ref ∧ Paired (fun p (kv : Key × V) => SqT K H p [kV kv.1, kv.2]) as (prsK ps)
  | [], _, h => by
    cases h
    exact ⟨[], rfl, .nil⟩
  | p :: r, _, h => by
    cases h with
    | cons h1 h2 =>
      obtain ⟨t, y1, y2, rfl, ht, r1, r2⟩ := dp_two h1
      obtain rfl := dp_str r1
      obtain rfl := dp_int r2
      obtain ⟨as, rfl, q⟩ := prs_of h2
      exact ⟨t :: as, rfl, .cons ht q⟩
section
variable {P : Program} {w : World} {K : PySem.W.Frag} {mg : Str → Option Value} {base : Heap} {f1 : Addr} {fd1 : FuncData}
theorem isSeqR {K : PySem.W.Frag} {σ : L2.St} {H : Hp} {i : Nat} {v : V} {Q : VK} (hv : σ[i]? = some (some v)) (th : Th H v) (k : ∀ H' b, Same H H' → (b = true ↔ ∃ a xs, v = .ref a ∧ (H a = some (.lst xs) ∨ H a = some (.tup xs))) → Q (.bl b) H') :
    tCB (rIsiT K) (tCons (tVar i) (tCons (tTup (tCons (tC (V.ty "list")) (tCons (tC (V.ty "tuple")) tNil))) tNil)) σ H Q := by
  refine ⟨_, hv, (by show 2 ≤ sizeLine; decide), fun t ht => ?_⟩
  have e := same_alloc (o := .tup [.ty "list", .ty "tuple"]) ht
  have no : (∀ a xs, v = .ref a → H a ≠ some (.lst xs) ∧ H a ≠ some (.tup xs)) → (false = true ↔ ∃ a xs, v = .ref a ∧ (H a = some (.lst xs) ∨ H a = some (.tup xs))) := fun h => ⟨fun z => Bool.noConfusion z, fun ⟨a, xs, e, q⟩ => q.elim (fun q => absurd q (h a xs e).1) fun q => absurd q (h a xs e).2⟩
  have q := k _ false e
  cases th with
  | non => exact ⟨_, t, _, _, [.type "list", .type "tuple"], false, rfl, upd_same, .cons (.ty _) (.cons (.ty _) .nil), .base .non, (by rfl), q (no fun a xs h => by cases h)⟩
  | bl b => exact ⟨_, t, _, _, [.type "list", .type "tuple"], false, rfl, upd_same, .cons (.ty _) (.cons (.ty _) .nil), .base (.bl b), (by rfl), q (no fun a xs h => by cases h)⟩
  | int i => exact ⟨_, t, _, _, [.type "list", .type "tuple"], false, rfl, upd_same, .cons (.ty _) (.cons (.ty _) .nil), .base (.int i), (by rfl), q (no fun a xs h => by cases h)⟩
  | str z h g => exact ⟨_, t, _, _, [.type "list", .type "tuple"], false, rfl, upd_same, .cons (.ty _) (.cons (.ty _) .nil), .base (.str z), (by rfl), q (no fun a xs h => by cases h)⟩
  | dic a h => exact ⟨_, t, _, _, [.type "list", .type "tuple"], false, rfl, upd_same, .cons (.ty _) (.cons (.ty _) .nil), .base (.dK (e _ _ h)), (by rfl), q (no fun a' xs z => by cases z; rw [h]; exact ⟨by simp, by simp⟩)⟩
  | lst a xs h => exact ⟨_, t, _, _, [.type "list", .type "tuple"], true, rfl, upd_same, .cons (.ty _) (.cons (.ty _) .nil), .base (.lst (e _ _ h)), (by rfl), k _ true e ⟨fun _ => ⟨a, xs, rfl, .inl h⟩, fun _ => rfl⟩⟩
  | tup a xs h => exact ⟨_, t, _, _, [.type "list", .type "tuple"], true, rfl, upd_same, .cons (.ty _) (.cons (.ty _) .nil), .base (.tup (e _ _ h)), (by rfl), k _ true e ⟨fun _ => ⟨a, xs, rfl, .inr h⟩, fun _ => rfl⟩⟩
theorem iteT' {c : Bool} {A B : Prop} (h : c = true) (a : A) : if c = true then A else B := by rw [if_pos h]; exact a
theorem posOf_ne {ps : List (Str × Int)} {z : Str} (h : ∃ p, p ∈ ps ∧ p.1 = z) : posOf ps z ≠ none := fun e => by
  obtain ⟨p, hp, rfl⟩ := h
  have := List.findIdx?_eq_none_iff.mp e p hp
  simp at this
theorem inV_no {v : V} {as : List Str} (h : ∀ z, v ≠ .str z) : inV v (as.map V.str) = false := by
  unfold inV
  rw [List.any_map, List.any_eq_false]
  intro z _
  cases v with
  | str y => exact absurd rfl (h y)
  | _ => exact Bool.false_ne_true
theorem allEnds_snoc (wd : Wd) (v : V) : ∀ (l : List V) (k : Nat), allEnds wd k (l ++ [v]) = (allEnds wd k l && endAt wd (k + l.length) v)
  | [], k => by
    show (endAt wd k v && true) = (true && endAt wd (k + 0) v)
    rw [Bool.and_true, Bool.true_and, Nat.add_zero]
  | x :: r, k => by
    show (endAt wd k x && allEnds wd (k + 1) (r ++ [v])) = ((endAt wd k x && allEnds wd (k + 1) r) && endAt wd (k + (r.length + 1)) v)
    rw [allEnds_snoc wd v r (k + 1), Bool.and_assoc, show k + 1 + r.length = k + (r.length + 1) by omega]
theorem cut2 {ps : List (Str × Int)} {k : Nat} {p q : Str × Int} (hp : ps[k]? = some p) (hq : ps[k + 1]? = some q) : cutV ((ps.map (·.1)).map V.str) (some (k : Int)) (some ((k : Int) + 2)) = [p.1, q.1].map V.str := by
  have hl := (List.getElem?_eq_some_iff.mp hq).1
  have l2 : ((ps.map (·.1)).map V.str).length = ps.length := by rw [List.length_map, List.length_map]
  unfold cutV
  rw [show (k : Int) + 2 = ((k + 2 : Nat) : Int) by omega, HT.sIx_nat, HT.sIx_nat, l2, Nat.min_eq_left (by omega), Nat.min_eq_left (by omega), show k + 2 - k = 2 by omega]
  have e1 : ((ps.map (·.1)).map V.str)[k]? = some (.str p.1) := by rw [List.getElem?_map, List.getElem?_map, hp]; rfl
  have e2 : ((ps.map (·.1)).map V.str)[k + 1]? = some (.str q.1) := by rw [List.getElem?_map, List.getElem?_map, hq]; rfl
  rw [drop_at e1, drop_at e2]
  rfl
theorem isTupR {K : PySem.W.Frag} {σ : L2.St} {H : Hp} {i : Nat} {v : V} {G : VK} (hv : σ[i]? = some (some v)) (th : Th H v) (k : G (.bl (tupOf H v).isSome) H) : tCB (rIsi K) (tCons (tVar i) (tCons (tC (V.ty "tuple")) tNil)) σ H G := by
  cases th with
  | non => exact ⟨_, hv, _, _, _, _, false, rfl, .ty "tuple", .base .non, (by rfl), k⟩
  | bl b => exact ⟨_, hv, _, _, _, _, false, rfl, .ty "tuple", .base (.bl b), (by rfl), k⟩
  | int i => exact ⟨_, hv, _, _, _, _, false, rfl, .ty "tuple", .base (.int i), (by rfl), k⟩
  | str z => exact ⟨_, hv, _, _, _, _, false, rfl, .ty "tuple", .base (.str z), (by rfl), k⟩
  | lst a xs h =>
    rw [tup_lst h] at k
    exact ⟨_, hv, _, _, _, _, false, rfl, .ty "tuple", .base (.lst h), (by rfl), k⟩
  | dic a h =>
    rw [tup_dic h] at k
    exact ⟨_, hv, _, _, _, _, false, rfl, .ty "tuple", .base (.dK h), (by rfl), k⟩
  | tup a xs h =>
    rw [tup_tup h] at k
    exact ⟨_, hv, _, _, _, _, true, rfl, .ty "tuple", .base (.tup h), (by rfl), k⟩
theorem niTK {X : Cx} {K : PySem.W.Frag} (h : X.K = K) (hu : X.A.units + 2 < cLine) : OpR X (compareOp .NotIn) (rNiT K) := h ▸ op_niT hu
theorem slK {X : Cx} {K : PySem.W.Frag} (h : X.K = K) : SlR X (rSlL K) := h ▸ sl_list
abbrev s_law_due : Stmt := top 45
theorem sc_law_due : FnScope ["_law_world_here", "_law_trains", "_law_ends", "_law_roads", "_law_names_here", "_law_seen", "_law_stood", "_law_thing", "_law_name", "_law_many", "_law_k", "_law_place"] ["_law_world_here", "_law_trains", "_law_ends"] (defScope s_law_due) := ⟨rfl, rfl, rfl, by decide +kernel, rfl, by decide +kernel, by decide +kernel⟩
def spDue (K : PySem.W.Frag) : Sp := fun vs H Q _ => ∃ (W : Addr) (v1 v2 : V) (wd : Wd), vs = [.ref W, v1, v2] ∧ Dp K H (.ref W) wd.data ∧ wd.Ok ∧ Deep H v1 ∧ Th H v2 ∧ Kids H v2 ∧
  (St.standD wd H v1 v2 = none → ∀ H', Same H H' → Q .non H') ∧ (∀ t u, St.standD wd H v1 v2 = some (t, u) → ∀ p H', Same H H' → H p = none → H' p = some (.tup [.str t.s, u]) → Q (.ref p) H')
theorem ok_law_due {f : Addr} {fd : FuncData} (F : Fun K "_law_due" "_law_due" s_law_due f fd) (T : Txt mg)
    (Nlaw_is_name : Fn K mg "_law_is_name" s_law_is_name ["_law_thing"] f1 fd1) (Glaw_is_name : FnOk P w K mg base CX0 2 f1 fd1 ["_law_thing"] spLawName) :
    FnOk P w K mg base CX0 3 f fd ["_law_world_here", "_law_trains", "_law_ends"] (spDue K) := by
  refine F.ok sc_law_due (fun vs H Q E h => ?_) (fun cdv A outer s H vs Q E hr h => ?_)
  · obtain ⟨W, v1, v2, wd, rfl, _⟩ := h
    rfl
  · obtain ⟨W, v1, v2, wd, rfl, hD, ok, d1, th2, kd2, kN, kS⟩ := h
    have hu := hr.units
    have hu0 := Nat.lt_of_le_of_lt (Nat.le_add_right _ 64) hr.units
    have hu1 := Nat.lt_of_le_of_lt (Nat.add_le_add_left (by decide : 1 ≤ 64) _) hu
    have hu2 := Nat.lt_of_le_of_lt (Nat.add_le_add_left (by decide : 2 ≤ 64) _) hu
    refine ⟨_, pss_cons (ps_set (i := 3) sc_law_due.nd rfl (Or.inl rfl) (pe_callTy (call_dictP rfl) (by rfl) T.dict_ (by decide +kernel) (pa_cons (pe_ix ix_list (pv 0) pe_int (fun _ _ => rfl)) pa_nil)))
      (pss_cons (ps_set (i := 4) sc_law_due.nd rfl (Or.inr rfl) (pe_lc (own := [("_law_name", 8), ("_law_many", 9)]) (g := gTup K 2 (gCons (gName 8) (gCons (gName 9) gNil))) (tt := tYes) rfl sc_law_due.nd (pi_list (pe_ix ix_list (pv 0) pe_int (fun _ _ => rfl))) (blkOk_by (own := [("_law_name", 8), ("_law_many", 9)]) (N := ["_law_world_here", "_law_trains", "_law_ends", "_law_roads", "_law_names_here", "_law_seen", "_law_stood", "_law_thing", "_law_name", "_law_many", "_law_k", "_law_place"]) (sc := defScope s_law_due) (by decide +kernel)) (fun _ _ _ _ _ => (pg_tup (by rfl) (pgs_cons (pg_name (i := 8) sc_law_due.nd rfl (Or.inl rfl)) (pgs_cons (pg_name (i := 9) sc_law_due.nd rfl (Or.inl rfl)) pgs_nil)))) (fun _ _ _ _ _ => pts_nil) (fun _ _ _ _ _ => (pv 8))))
      (pss_cons (ps_if (PW.pt (pw_or (pt_not (pt_val (pe_callB call_isiT (by rfl) T.isinstance_ (by decide +kernel) (pa_cons (pv 1) (pa_cons (pe_tup (pa_cons (pe_bltn (v := .ty "list") (by rfl) T.list_ (by decide +kernel) rfl) (pa_cons (pe_bltn (v := .ty "tuple") (by rfl) T.tuple_ (by decide +kernel) rfl) pa_nil))) pa_nil))))) (pw_or1 (pt_not (pt_chain op_le op_le pe_int (pe_callB call_len_seq (by rfl) T.len_ PySem.boot_len (pa_cons (pv 1) pa_nil)) pe_int))))) (pss_one (ps_ret (pe_tup (pa_cons pe_str (pa_cons (pv 1) pa_nil))))) pss_nil)
      (pss_cons (ps_set (i := 5) sc_law_due.nd rfl (Or.inl rfl) (pe_lst pa_nil))
      (pss_cons (ps_set (i := 6) sc_law_due.nd rfl (Or.inl rfl) (pe_lst pa_nil))
      (pss_cons (ps_for PassesOwn.never rfl (pi_seq (pv 1)) (pg_name (i := 7) sc_law_due.nd rfl (Or.inl rfl)) (pss_cons (ps_if (PW.pt (pw_or (pt_not (pt_val (pe_callB call_isi (by rfl) T.isinstance_ (by decide +kernel) (pa_cons (pv 7) (pa_cons (pe_bltn (v := .ty "tuple") (by rfl) T.tuple_ (by decide +kernel) rfl) pa_nil))))) (pw_or1 (pt_cmpR op_ne (pe_callB call_len_seq (by rfl) T.len_ PySem.boot_len (pa_cons (pv 7) pa_nil)) pe_int (nomark _))))) (pss_one (ps_ret (pe_tup (pa_cons pe_str (pa_cons (pv 7) pa_nil))))) pss_nil)
          (pss_cons (ps_if (pt_not (pt_val (pe_call Glaw_is_name (hr.mono (by decide)) (by rfl) Nlaw_is_name.g Nlaw_is_name.kp Nlaw_is_name.b .nil pass0 (pa_cons (pe_ix ix_tup (pv 7) pe_int (fun _ _ => rfl)) pa_nil)))) (pss_one (ps_ret (pe_tup (pa_cons pe_str (pa_cons (pe_ix ix_tup (pv 7) pe_int (fun _ _ => rfl)) pa_nil))))) pss_nil)
          (pss_cons (ps_if (pt_cmpR op_in_seq (pe_ix ix_tup (pv 7) pe_int (fun _ _ => rfl)) (pv 5) rfl) (pss_one (ps_ret (pe_tup (pa_cons pe_str (pa_cons (pe_ix ix_tup (pv 7) pe_int (fun _ _ => rfl)) pa_nil))))) pss_nil)
          (pss_cons (ps_if (pt_cmpR (op_niT hu2) (pe_ix ix_tup (pv 7) pe_int (fun _ _ => rfl)) (pv 4) rfl) (pss_one (ps_ret (pe_tup (pa_cons pe_str (pa_cons (pe_ix ix_tup (pv 7) pe_int (fun _ _ => rfl)) pa_nil))))) pss_nil)
          (pss_cons (ps_if (pt_cmpR op_ge (pe_bmK (K := K) rfl PySem.F.plainAttrs_list PySem.F.slot_list_count PySem.F.type_list_count (mt_scount rfl hu2) (pv 6) (pa_cons (pe_ix ix_tup (pv 7) pe_int (fun _ _ => rfl)) pa_nil)) (pe_dget hu1 (pv 3) (pe_ix ix_tup (pv 7) pe_int (fun _ _ => rfl)) (fun _ _ => rfl)) (nomark _)) (pss_one (ps_ret (pe_tup (pa_cons pe_str (pa_cons (pe_ix ix_tup (pv 7) pe_int (fun _ _ => rfl)) pa_nil))))) pss_nil)
          (pss_cons (ps_expr (pe_bm PySem.F.plainAttrs_list PySem.F.slot_list_append PySem.F.type_list_append mt_append (pv 5) (pa_cons (pe_ix ix_tup (pv 7) pe_int (fun _ _ => rfl)) pa_nil)))
          (pss_one (ps_expr (pe_bm PySem.F.plainAttrs_list PySem.F.slot_list_append PySem.F.type_list_append mt_append (pv 6) (pa_cons (pe_ix ix_tup (pv 7) pe_int (fun _ _ => rfl)) pa_nil)))))))))))
      (pss_cons (ps_if (pt_cmpR op_isN (pv 2) pe_non (nomark _)) (pss_one (ps_ret pe_non)) pss_nil)
      (pss_cons (ps_if (PW.pt (pw_or (pt_not (pt_val (pe_callB call_isiT (by rfl) T.isinstance_ (by decide +kernel) (pa_cons (pv 2) (pa_cons (pe_tup (pa_cons (pe_bltn (v := .ty "list") (by rfl) T.list_ (by decide +kernel) rfl) (pa_cons (pe_bltn (v := .ty "tuple") (by rfl) T.tuple_ (by decide +kernel) rfl) pa_nil))) pa_nil))))) (pw_or1 (pt_cmpR op_ne (pe_callB call_len_seq (by rfl) T.len_ PySem.boot_len (pa_cons (pv 2) pa_nil)) (pe_op op_sub (pe_callB call_len_seq (by rfl) T.len_ PySem.boot_len (pa_cons (pv 4) pa_nil)) pe_int) (nomark _))))) (pss_one (ps_ret (pe_tup (pa_cons pe_str (pa_cons (pv 2) pa_nil))))) pss_nil)
      (pss_cons (ps_if (pt_cmpR (op_neL0 hu0) (pe_lc (own := [("_law_k", 10), ("_law_place", 11)]) (g := gTup K 2 (gCons (gName 10) (gCons (gName 11) gNil))) rfl sc_law_due.nd (pi_enumQ (by rfl) T.enumerate_ (pa_cons (pv 2) pa_nil)) (blkOk_by (own := [("_law_k", 10), ("_law_place", 11)]) (N := ["_law_world_here", "_law_trains", "_law_ends", "_law_roads", "_law_names_here", "_law_seen", "_law_stood", "_law_thing", "_law_name", "_law_many", "_law_k", "_law_place"]) (sc := defScope s_law_due) (by decide +kernel)) (fun _ _ _ _ _ => (pg_tup (by rfl) (pgs_cons (pg_name (i := 10) sc_law_due.nd rfl (Or.inl rfl)) (pgs_cons (pg_name (i := 11) sc_law_due.nd rfl (Or.inl rfl)) pgs_nil)))) (fun _ _ _ _ _ => pts_one (pt_cmpR (niTK (K := K) rfl hu2) (pv 11) (pe_slice (slK (K := K) rfl) (pv 4) (po_some (pv 10)) (po_some (pe_op op_add (pv 10) pe_int))) rfl)) (fun _ _ _ _ _ => (pv 10))) (pe_lst pa_nil) (nomark _)) (pss_one (ps_ret (pe_tup (pa_cons pe_str (pa_cons (pv 2) pa_nil))))) pss_nil)
      (pss_one (ps_ret pe_non)))))))))), ?_⟩
    generalize hσ : L2.start _ _ = σ0
    obtain rfl : σ0 = [some (.ref W), some v1, some v2, none, none, none, none, none, none, none, none, none] := hσ.symm.trans rfl
    obtain ⟨vp, vst, vl, vu, hw, hp, _, _, _⟩ : ∃ vp vst vl vu, SqL K H W [vp, vst, vl, vu] ∧ Dp K H vp (.list (wd.ps.map dP)) ∧ True ∧ True ∧ True := by
      obtain ⟨wa, vp, vs_, vl, vu, e, hw, hp, hs, hl, hu⟩ := dp_four hD
      obtain rfl := V.ref.inj e
      exact ⟨vp, vs_, vl, vu, hw, hp, trivial, trivial, trivial⟩
    obtain ⟨ap, xp, rfl, hap, dap⟩ := dp_list hp
    have lp : xp.length = wd.ps.length := by rw [dpAll_len dap, List.length_map]
    have p6 := ok.p6
    have p2 := ok.p2
    have sl := ok.sl
    obtain ⟨as, eas, pas⟩ := prs_of dap
    refine ⟨_, rfl, W, _, 0, .ref ap, rfl, rfl, hw, rfl, ap, as, prsK wd.ps, rfl, by rw [← eas]; exact hap, pas, fun R hR => ?_⟩
    have s1 : Same H (upd H R (.dK (mergeK [] (prsK wd.ps)))) := same_alloc hR
    have eR : upd H R (.dK (mergeK [] (prsK wd.ps))) R = some (.dK (mergeK [] (prsK wd.ps))) := upd_same
    generalize upd H R (.dK (mergeK [] (prsK wd.ps))) = H1 at s1 eR ⊢
    have n1 := same_nt s1
    simp only [List.set_cons_succ, List.set_cons_zero]
    dsimp only [gName, List.set_cons_succ, List.set_cons_zero]
    refine ⟨_, rfl, W, _, 0, .ref ap, rfl, rfl, n1.seq hw, rfl, ap, rfl, ⟨_, n1.seq hap⟩, fun D hD => some_it (walk_list (K := K) (xs := xp)) (src := wd.ps) (F := fun p => some (V.str p.1)) lp.symm (by omega) hD (fun H' kb => (KB.seq' hD kb).seq (n1.seq hap)) ?_ ?_⟩
    · rintro i v a H' C B hv ha s k _
      obtain ⟨d, hd1, hd2⟩ := dpAll_get dap hv
      obtain ⟨p, hp, rfl⟩ := get_map hd1
      obtain rfl := Option.some.inj (ha.symm.trans hp)
      obtain ⟨t, y1, y2, rfl, ht, r1, r2⟩ := dp_two hd2
      obtain rfl := dp_str r1
      obtain rfl := dp_int r2
      exact ⟨t, _, rfl, (same_nt s).seqT (n1.seqT ht), rfl, _, _, rfl, _, _, rfl, rfl, wipe2 (by simp) (by simp), lcY ⟨_, rfl, k _ _ rfl (Same.refl _)⟩⟩
    intro H2 s12 eD
    have e2 : wd.ps.filterMap (fun p => some (V.str p.1)) = (wd.ps.map (·.1)).map V.str := by
      rw [List.filterMap_eq_map', List.map_map]
      rfl
    rw [e2] at eD
    have s2 := s1.trans s12
    have eR2 := s12 _ _ eR
    have n2 := same_nt s2
    clear hD s12 s1 n1 eR hR hw hap dap pas eas e2 hp
    simp only [List.set_cons_succ, List.set_cons_zero]
    dsimp only [gName, List.set_cons_succ, List.set_cons_zero]
    have give : ∀ {H' : Hp} {t : Tag} {u : V}, St.standD wd H v1 v2 = some (t, u) → Same H H' → [V.str (Str.ofString t.s), u].length ≤ sizeLine ∧ ∀ p, H' p = none → Q (.ref p) (upd H' p (.tup [.str (Str.ofString t.s), u])) := fun {H' t u} e s =>
      ⟨by show 2 ≤ sizeLine; decide, fun p hp => kS t u e p _ (s.trans (same_alloc hp)) (s.free hp) upd_same⟩
    refine isSeqR rfl (th_nt n2 d1.1) fun H3 b s23 hb => ?_
    have s3 := s2.trans s23
    have n3 := same_nt s3
    have bad : isl H 1 4 v1 = false → St.standD wd H v1 v2 = some (.trains, v1) := fun hi => by
      unfold St.standD trainsD
      rw [hi, if_neg Bool.false_ne_true]
    cases b with
    | false =>
      refine ⟨_, rfl, iteT (iteT ⟨_, rfl, give (bad ?_) s3⟩)⟩
      cases q : isl H 1 4 v1 with
      | false => rfl
      | true =>
        obtain ⟨a, xs, e, _, ha, _⟩ := isl_true q
        exact absurd (hb.mpr ⟨a, xs, e, ha.imp (s2 _ _) (s2 _ _)⟩) Bool.false_ne_true
    | true =>
      obtain ⟨a, xs, rfl, ha2⟩ := hb.mp rfl
      have hq2 : seqOf H2 (.ref a) = some xs := ha2.elim seq_lst seq_tup
      have hq : seqOf H (.ref a) = some xs := by rw [← seq_nt n2 d1.1]; exact hq2
      have ha : H a = some (.lst xs) ∨ H a = some (.tup xs) := by
        obtain ⟨b, e, q⟩ := seq_some hq
        obtain rfl := V.ref.inj e
        exact q
      have ei : isl H 1 4 (.ref a) = (decide (1 ≤ (xs.length : Int)) && decide ((xs.length : Int) ≤ 4)) := by unfold isl; rw [hq]
      have ha3 : H3 a = some (.lst xs) ∨ H3 a = some (.tup xs) := ha.imp (s3 _ _) (s3 _ _)
      refine ⟨_, rfl, iteF ?_⟩
      refine ⟨_, rfl, a, xs, rfl, ha3.imp SqL.of SqT.of, _, _, rfl, rfl, _, rfl, ?_⟩
      refine ite2 (fun c0 => ?_) (fun c0 => ⟨_, rfl, iteT ⟨_, rfl, give (bad (by rw [ei, show decide (1 ≤ (xs.length : Int)) = false by simpa using c0, Bool.false_and])) s3⟩⟩)
      refine ⟨_, _, rfl, rfl, _, rfl, ?_⟩
      cases c1 : decide ((xs.length : Int) ≤ 4) with
      | false => exact iteT ⟨_, rfl, give (bad (by rw [ei, c1, Bool.and_false])) s3⟩
      | true =>
        have hi : isl H 1 4 (.ref a) = true := by rw [ei, c0, c1]; rfl
        have l4 : xs.length ≤ 4 := by have := of_decide_eq_true c1; omega
        have due1 : St.standD wd H (.ref a) v2 = match trD wd H [] xs with | some d => some d | none => St.standD wd H (.ref a) v2 := by
          cases e : trD wd H [] xs with
          | none => rfl
          | some d =>
            unfold St.standD trainsD
            rw [hi, if_pos rfl, hq]
            show (match trD wd H [] xs with | some d => some d | none => _) = some d
            rw [e]
        refine iteF ⟨Nat.zero_le _, fun L5 hL5 => ?_⟩
        have s4 : Same H3 (upd H3 L5 (.lst [])) := same_alloc hL5
        have e5 : upd H3 L5 (.lst []) L5 = some (.lst []) := upd_same
        generalize upd H3 L5 (.lst []) = H4 at s4 e5 ⊢
        simp only [List.set_cons_succ, List.set_cons_zero]
        refine ⟨Nat.zero_le _, fun L6 hL6 => ?_⟩
        have n56 : L5 ≠ L6 := fun z => by rw [← z, e5] at hL6; cases hL6
        have hL63 : H3 L6 = none := s4.free hL6
        have s5 : Same H3 (upd H4 L6 (.lst [])) := s4.trans (same_alloc hL6)
        have e55 : upd H4 L6 (.lst []) L5 = some (.lst []) := by rw [upd_ne n56]; exact e5
        have e56 : upd H4 L6 (.lst []) L6 = some (.lst []) := upd_same
        generalize upd H4 L6 (.lst []) = H5 at s5 e55 e56 ⊢
        simp only [List.set_cons_succ, List.set_cons_zero]
        dsimp only [gName, List.set_cons_succ, List.set_cons_zero]
        obtain ⟨J, one, wJ⟩ := walk_seq (K := K) ha3
        have at_a : ∀ {H' : Hp}, Same H3 H' → H' a = H3 a := fun s => same_at s ha3
        have eD3 := s23 _ _ eD
        have eR3 := s23 _ _ eR2
        refine ⟨_, rfl, a, J, rfl, one _ (at_a s5), for_it (D := ⟨_, _, _, _⟩) wJ (fun i σ H' => ∃ (u7 : Option V) (ah : List (Str × Str)), σ = [some (.ref W), some (.ref a), some v2, some (.ref R), some (.ref D), some (.ref L5), some (.ref L6), u7, none, none, none, none] ∧ H' L5 = some (.lst ((ah.map (·.1)).map V.str)) ∧ H' L6 = some (.lst ((ah.map (·.2)).map V.str)) ∧ ah.length = i ∧ trD wd H ah (xs.drop i) = trD wd H [] xs ∧ Same H3 H')
          ⟨_, [], rfl, e55, e56, rfl, rfl, s5⟩ (fun i σ H' _ ⟨_, _, _, _, _, _, _, q⟩ => at_a q) ?_ ?_⟩
        · rintro i y σ H6 H6' hi ⟨u7, ah, rfl, a5, a6, el, ep, s6⟩ ⟨rfl, hy⟩
          obtain ⟨thx, kx⟩ := d1.2 xs hq y (List.mem_of_getElem? hy)
          rw [drop_at hy] at ep
          have s06 := s3.trans s6
          have n6 := same_nt s06
          have stop : ∀ {d : Tag × V}, tr1 wd H ah y = some d → St.standD wd H (.ref a) v2 = some d := fun {d} e => by
            rw [tr1_stop e] at ep
            rw [due1, ← ep]
          simp only [List.set_cons_succ, List.set_cons_zero]
          dsimp only [gName, List.set_cons_succ, List.set_cons_zero]
          refine isTupR rfl (th_nt n6 thx) ?_
          rw [tup_nt n6 thx]
          cases etup : tupOf H y with
          | none =>
            have e1 : tr1 wd H ah y = some (.trains, y) := by unfold tr1; rw [etup]
            exact ⟨_, rfl, iteT (iteT ⟨_, rfl, give (stop e1) s06⟩)⟩
          | some ys =>
            obtain ⟨t, rfl, ht⟩ := tup_some etup
            have ht6 : H6' t = some (.tup ys) := s06 _ _ ht
            refine ⟨_, rfl, iteF ?_⟩
            refine ⟨_, rfl, t, ys, rfl, .inr (SqT.of ht6), rfl, _, rfl, ?_⟩
            match ys, etup, ht, ht6 with
            | [], etup, ht, ht6 => exact iteT' (by simp) ⟨_, rfl, give (t := .trains) (u := .ref t) (stop (by unfold tr1; rw [etup])) s06⟩
            | [_], etup, ht, ht6 => exact iteT' (by simp) ⟨_, rfl, give (t := .trains) (u := .ref t) (stop (by unfold tr1; rw [etup])) s06⟩
            | n :: q :: r :: rs, etup, ht, ht6 => exact iteT' (by simp; omega) ⟨_, rfl, give (t := .trains) (u := .ref t) (stop (by unfold tr1; rw [etup])) s06⟩
            | [n, q], etup, ht, ht6 =>
              refine iteF ?_
              have thn := kx _ (seq_of_tup etup) n (by simp)
              have thq := kx _ (seq_of_tup etup) q (by simp)
              have et : tr1 wd H ah (.ref t) = if nm n = true then (if n ∈ (ah.map (·.1)).map V.str then some (.twice, n) else
                  match posV wd q with
                  | none => some (.place, q)
                  | some i => if roadsAt wd i ≤ (((ah.filterMap fun a => if V.str a.2 = q then some (V.str a.2) else none).length : Nat) : Int) then some (.full, q) else none) else some (.name, n) := by
                unfold tr1
                rw [etup]
                try exact rfl
              have at0 : atI [n, q] 0 = some n := rfl
              have at1 : atI [n, q] 1 = some q := rfl
              refine ⟨_, rfl, t, _, 0, n, rfl, rfl, SqT.of ht6, at0, n, rfl, th_nt n6 thn, fun H7 s7 => ⟨_, rfl, ?_⟩⟩
              have s67 := s6.trans s7
              have s07 := s06.trans s7
              have n7 := same_nt s07
              have ht7 := s7 _ _ ht6
              cases hn : nm n with
              | false =>
                rw [hn, if_neg Bool.false_ne_true] at et
                exact iteT ⟨_, rfl, t, _, 0, n, rfl, rfl, SqT.of ht7, at0, give (t := .name) (stop et) s07⟩
              | true =>
                rw [hn, if_pos rfl] at et
                obtain ⟨z, rfl, nz⟩ := nm_str hn
                refine iteF ?_
                have a57 := s7 _ _ a5
                have a67 := s7 _ _ a6
                refine ⟨_, rfl, t, _, 0, _, rfl, rfl, SqT.of ht7, at0, _, rfl, L5, _, rfl, .inl (SqL.of a57), rfl, flat_strs _, _, rfl, ?_⟩
                show if inV (.str z) ((ah.map (·.1)).map V.str) = true then _ else _
                rw [inV_mem]
                by_cases hm : V.str z ∈ (ah.map (·.1)).map V.str
                · rw [if_pos hm] at et
                  rw [decide_eq_true hm]
                  exact iteT ⟨_, rfl, t, _, 0, _, rfl, rfl, SqT.of ht7, at0, give (stop et) s07⟩
                · rw [if_neg hm] at et
                  rw [decide_eq_false hm]
                  refine iteF ?_
                  have eD7 := s67 _ _ eD3
                  have eR7 := s67 _ _ eR3
                  refine ⟨_, rfl, t, _, 1, _, rfl, rfl, SqT.of ht7, at1, _, rfl, D, wd.ps.map (·.1), rfl, SqL.of eD7, ?_⟩
                  cases hp : posV wd q with
                  | none =>
                    rw [hp] at et
                    have et : tr1 wd H ah (.ref t) = some (.place, q) := et
                    have res : tOp (rIxT K) (tVar 7) (tC (V.int 1)) [some (.ref W), some (.ref a), some v2, some (.ref R), some (.ref D), some (.ref L5), some (.ref L6), some (.ref t), none, none, none, none] H7 (fun x H1 => [V.str (Str.ofString Tag.place.s), x].length ≤ sizeLine ∧ ∀ p, H1 p = none → Q (.ref p) (upd H1 p (.tup [.str (Str.ofString Tag.place.s), x]))) := ⟨_, rfl, t, _, 1, _, rfl, rfl, SqT.of ht7, at1, give (t := .place) (stop et) s07⟩
                    rcases th_flat (th_nt n7 thq) with fl | ⟨b, rfl, hb⟩
                    · refine .inl ⟨fl, _, rfl, ?_⟩
                      have nin : inV q ((wd.ps.map (·.1)).map V.str) = false := by
                        cases q with
                        | str y =>
                          rw [inV_mem]
                          refine decide_eq_false fun hm => ?_
                          obtain ⟨z', hz', e⟩ := List.mem_map.mp hm
                          obtain rfl := V.str.inj e
                          obtain ⟨p', hp', rfl⟩ := List.mem_map.mp hz'
                          obtain ⟨j, hj⟩ := List.mem_iff_getElem?.mp hp'
                          exact posOf_ne ⟨p', hp', rfl⟩ hp
                        | _ => exact inV_no (fun z h => by cases h)
                      rw [nin]
                      exact iteT res
                    · refine .inr ⟨⟨b, rfl, ?_⟩, _, rfl, iteT res⟩
                      rcases hb with ⟨zs, h⟩ | ⟨zs, h⟩ | h
                      · exact .inl ⟨zs, SqL.of h⟩
                      · exact .inr (.inl ⟨zs, SqT.of h⟩)
                      · exact .inr (.inr h)
                  | some j =>
                    cases q with
                    | str y =>
                      have hp : posOf wd.ps y = some j := hp
                      have hj := posOf_lt hp
                      have epj : wd.ps[j]? = some wd.ps[j] := List.getElem?_eq_getElem hj
                      have er : roadsAt wd j = (wd.ps[j]).2 := by unfold roadsAt; rw [epj]
                      have hpv : posV wd (.str y) = some j := hp
                      rw [hpv] at et
                      have et : tr1 wd H ah (.ref t) = (if roadsAt wd j ≤ (((ah.filterMap fun a => if V.str a.2 = V.str y then some (V.str a.2) else none).length : Nat) : Int) then some (.full, .str y) else none) := et
                      have cnt : ∀ l : List (Str × Str), (l.filterMap fun a => if V.str a.2 = V.str y then some (V.str a.2) else none).length = (l.map (·.2)).countP fun x => decide (x = y) := fun l => by
                        induction l with
                        | nil => rfl
                        | cons x r ih =>
                          rw [List.map_cons, List.countP_cons, ← ih, List.filterMap_cons]
                          by_cases h : x.2 = y
                          · rw [if_pos (by rw [h]), decide_eq_true h]; rfl
                          · rw [if_neg (fun e => h (V.str.inj e)), decide_eq_false h]; rfl
                      rw [cnt, er] at et
                      have yin : inV (.str y) ((wd.ps.map (·.1)).map V.str) = true := by
                        rw [inV_mem]
                        exact decide_eq_true (List.mem_map.mpr ⟨y, posOf_mem hp, rfl⟩)
                      have ev := prs_val (z := y) (kvs := []) ok.nd
                      rw [hp] at ev
                      replace ev : valV (mergeK [] (prsK wd.ps)) (Sum.inr y) = (wd.ps[j]?).map fun p => V.int p.2 := ev
                      rw [epj] at ev
                      refine .inl ⟨rfl, _, rfl, ?_⟩
                      rw [yin]
                      refine iteF ?_
                      refine ⟨_, rfl, .inl ⟨rfl, _, SqL.of a67⟩, _, rfl, t, _, 1, _, rfl, rfl, SqT.of ht7, at1, L6, ah.map (·.2), y, rfl, rfl, SqL.of a67, ?_⟩
                      refine ⟨_, rfl, _, rfl, t, _, 1, _, rfl, rfl, SqT.of ht7, at1, R, _, rfl, .inl ⟨_, Sum.inr y, Rd.of eR7, rfl, ev.symm⟩, ?_⟩
                      refine ⟨_, _, rfl, rfl, _, rfl, ite2 (fun c => ?_) (fun c => ?_)⟩
                      · rw [if_pos (of_decide_eq_true c)] at et
                        exact ⟨_, rfl, t, _, 1, _, rfl, rfl, SqT.of ht7, at1, give (t := .full) (stop et) s07⟩
                      · rw [if_neg (fun h => c (decide_eq_true h))] at et
                        rw [tr1_snoc et] at ep
                        have epr : prOf H (.ref t) = (z, y) := by unfold prOf; rw [etup]
                        rw [epr] at ep
                        have small : ∀ {l : List Str}, l.length = ah.length → (l.map V.str).length < sizeLine := fun {l} h => by
                          rw [List.length_map, h]
                          exact Nat.lt_of_le_of_lt (m := 10) (by omega) (by rw [sizeLine_eq]; decide)
                        have ntL5 : t ≠ L5 := fun e => by rw [e, a57] at ht7; cases ht7
                        refine ⟨_, rfl, .inl ⟨rfl, _, SqL.of a57⟩, _, rfl, t, _, 0, _, rfl, rfl, SqT.of ht7, at0, L5, _, _, rfl, rfl, a57, small (List.length_map ..), ?_⟩
                        have s8 : Same H3 (upd H7 L5 (.lst ((ah.map (·.1)).map V.str ++ [.str z]))) := fun c o e => by
                          rw [upd_ne (fun q => by rw [q, hL5] at e; cases e)]
                          exact s67 _ _ e
                        have b5 : upd H7 L5 (.lst ((ah.map (·.1)).map V.str ++ [.str z])) L5 = some (.lst (((ah ++ [(z, y)]).map (·.1)).map V.str)) := by
                          rw [upd_same, List.map_append, List.map_append]; rfl
                        have b6 : upd H7 L5 (.lst ((ah.map (·.1)).map V.str ++ [.str z])) L6 = some (.lst ((ah.map (·.2)).map V.str)) := by rw [upd_ne n56.symm]; exact a67
                        have bt : upd H7 L5 (.lst ((ah.map (·.1)).map V.str ++ [.str z])) t = some (.tup [.str z, .str y]) := by rw [upd_ne ntL5]; exact ht7
                        generalize upd H7 L5 (.lst ((ah.map (·.1)).map V.str ++ [.str z])) = H8 at s8 b5 b6 bt ⊢
                        refine ⟨_, rfl, .inl ⟨rfl, _, SqL.of b6⟩, _, rfl, t, _, 1, _, rfl, rfl, SqT.of bt, at1, L6, _, _, rfl, rfl, b6, small (List.length_map ..), ?_⟩
                        refine ⟨_, ah ++ [(z, y)], rfl, by rw [upd_ne n56]; exact b5, by rw [upd_same, List.map_append, List.map_append]; rfl, by rw [List.length_append, el]; rfl, ep, fun c o e => ?_⟩
                        rw [upd_ne (fun q => by rw [q, hL63] at e; cases e)]
                        exact s8 _ _ e
                    | _ => cases hp
        · rintro σ H6 ⟨u7, ah, rfl, a5, a6, el, ep, s6⟩
          rw [List.drop_length] at ep
          have ep : none = trD wd H [] xs := ep
          have due2 : St.standD wd H (.ref a) v2 = endsD wd H v2 := by
            unfold St.standD trainsD
            rw [hi, if_pos rfl, hq]
            show (match trD wd H [] xs with | some d => some d | none => endsD wd H v2) = endsD wd H v2
            rw [← ep]
          have s06 := s3.trans s6
          have n6 := same_nt s06
          have eD6 := s6 _ _ eD3
          rw [due2] at kN give
          clear kS due1 ep e5 e55 e56 s4 s5 hL6 hL5 hL63
          refine ⟨_, rfl, rfl, _, rfl, ?_⟩
          by_cases hv : v2 = .non
          · rw [decide_eq_true hv]
            exact iteT (kN (if_pos hv) H6 s06)
          rw [decide_eq_false hv]
          refine iteF ?_
          have bad2 : areD wd H v2 = false → endsD wd H v2 = some (.ends, v2) := fun h => by
            unfold endsD
            rw [if_neg hv, h, if_neg Bool.false_ne_true]
          refine isSeqR rfl (th_nt n6 th2) fun H7 b s67 hb2 => ?_
          have s07 := s06.trans s67
          have eD7 := s67 _ _ eD6
          cases b with
          | false =>
            refine ⟨_, rfl, iteT (iteT ⟨_, rfl, give (bad2 ?_) s07⟩)⟩
            cases q : areD wd H v2 with
            | false => rfl
            | true =>
              unfold areD at q
              obtain ⟨a2, xs2, e, _, ha2, _⟩ := isl_true (Bool.and_eq_true_iff.mp q).1
              exact absurd (hb2.mpr ⟨a2, xs2, e, ha2.imp (s06 _ _) (s06 _ _)⟩) Bool.false_ne_true
          | true =>
            obtain ⟨a2, xs2, rfl, hc2⟩ := hb2.mp rfl
            have hq6 : seqOf H6 (.ref a2) = some xs2 := hc2.elim seq_lst seq_tup
            have hqe : seqOf H (.ref a2) = some xs2 := by rw [← seq_nt n6 th2]; exact hq6
            have hc7 : H7 a2 = some (.lst xs2) ∨ H7 a2 = some (.tup xs2) := hc2.imp (s67 _ _) (s67 _ _)
            have eA : areD wd H (.ref a2) = (decide (xs2.length = wd.st.length) && allEnds wd 0 xs2) := by
              unfold areD isl
              rw [hqe]
              show ((decide ((wd.st.length : Int) ≤ (xs2.length : Int)) && decide ((xs2.length : Int) ≤ (wd.st.length : Int))) && allEnds wd 0 xs2) = _
              congr 1
              rw [Bool.eq_iff_iff]
              simp only [Bool.and_eq_true, decide_eq_true_eq]
              omega
            refine ⟨_, rfl, iteF ?_⟩
            refine ⟨_, rfl, a2, xs2, rfl, hc7.imp SqL.of SqT.of, _, rfl, D, _, rfl, .inl (SqL.of eD7), _, _, rfl, rfl, rfl, _, rfl, ?_⟩
            have ln : ((((wd.ps.map (·.1)).map V.str).length : Nat) : Int) - 1 = (wd.st.length : Int) := by rw [List.length_map, List.length_map]; omega
            show if (!decide (V.int (xs2.length : Int) = V.int (((((wd.ps.map (·.1)).map V.str).length : Nat) : Int) - 1))) = true then _ else _
            rw [ln]
            by_cases hl : xs2.length = wd.st.length
            · rw [hl, decide_eq_true rfl]
              refine iteF ?_
              obtain ⟨J2, use, wJ2⟩ := enumQ_of (K := K) hc7
              refine use _ _ _ _ rfl (fun C h => ⟨_, rfl, h⟩) fun D2 hD2 => lc_it wJ2 (fun i H' => KB D2 H7 H' ∧ ∃ ys, H' D2 = some (.lst ys) ∧ ys.length ≤ i ∧ ys.isEmpty = allEnds wd 0 (xs2.take i)) ⟨KB.alloc hD2, [], upd_same, Nat.le_refl _, rfl⟩ (fun i H' _ h => ?_) ?_ ?_
              · rcases hc7 with e | e
                · rw [e]; exact h.1 _ _ (ne_of_none e hD2) e
                · rw [e]; exact h.1 _ _ (ne_of_none e hD2) e
              · rintro i y H8 H9 hi ⟨kb, ys, eys, ly, emp⟩ ⟨t, u, v, rfl, ht, rfl, h1, h2⟩
                obtain rfl := Option.some.inj h1
                have s78 : Same H7 H8 := fun c o e => kb c o (ne_of_none e hD2) e
                have s79 : Same H7 (upd H8 t (.tup [.int (i : Nat), v])) := s78.trans (same_alloc ht)
                have ntD : t ≠ D2 := fun e => by rw [e, eys] at ht; cases ht
                have kb9 : KB D2 H7 (upd H8 t (.tup [.int (i : Nat), v])) := kb.trans (KB.alloc ht)
                have e9 : upd H8 t (.tup [.int (i : Nat), v]) D2 = some (.lst ys) := by rw [upd_ne ntD.symm]; exact eys
                have et : upd H8 t (.tup [.int (i : Nat), v]) t = some (.tup [.int (i : Nat), v]) := upd_same
                generalize upd H8 t (.tup [.int (i : Nat), v]) = H9 at s79 kb9 e9 et ⊢
                have thv : Th H9 v := th_nt (same_nt (s07.trans s79)) (kd2 xs2 hqe v (List.mem_of_getElem? h2))
                have ip : i < wd.ps.length := by omega
                have iq : i + 1 < wd.ps.length := by omega
                have ep : wd.ps[i]? = some wd.ps[i] := List.getElem?_eq_getElem ip
                have eq : wd.ps[i + 1]? = some wd.ps[i + 1] := List.getElem?_eq_getElem iq
                have ea : endAt wd i v = (decide (v = .str (wd.ps[i]).1) || decide (v = .str (wd.ps[i + 1]).1)) := by unfold endAt; rw [ep, eq]
                have nxt : allEnds wd 0 (xs2.take (i + 1)) = (ys.isEmpty && endAt wd i v) := by
                  rw [take_at h2, allEnds_snoc, ← emp, List.length_take, Nat.min_eq_left (by omega), Nat.zero_add]
                refine ⟨t, _, rfl, SqT.of et, rfl, _, _, rfl, _, _, rfl, rfl, wipe2 (by simp) (by simp), ?_⟩
                refine ⟨_, rfl, _, rfl, _, rfl, _, rfl, _, rfl, _, _, rfl, rfl, _, rfl, D, _, rfl, SqL.of (s79 _ _ eD7), fun p hp => ?_⟩
                rw [cut2 ep eq]
                have s910 : Same H9 (upd H9 p (.lst ([(wd.ps[i]).1, (wd.ps[i + 1]).1].map V.str))) := same_alloc hp
                have kbA := kb9.trans (KB.alloc (o := .lst ([(wd.ps[i]).1, (wd.ps[i + 1]).1].map V.str)) hp)
                have eA2 := s910 _ _ e9
                have ep2 : upd H9 p (.lst ([(wd.ps[i]).1, (wd.ps[i + 1]).1].map V.str)) p = some (.lst ([(wd.ps[i]).1, (wd.ps[i + 1]).1].map V.str)) := upd_same
                have thv2 := th_nt (same_nt s910) thv
                generalize upd H9 p (.lst ([(wd.ps[i]).1, (wd.ps[i + 1]).1].map V.str)) = HA at kbA eA2 ep2 thv2 ⊢
                have step : ∀ b : Bool, b = !endAt wd i v → ∃ k, V.bl b = V.bl k ∧ (fun b H3 => if b = true then tVar 10 ((((wipe [some (V.ref W), some (V.ref a), some (V.ref a2), some (V.ref R), some (V.ref D), some (V.ref L5), some (V.ref L6), u7, none, none, none, none] (List.map (fun x => x.snd) [(Str.ofString "_law_k", 10), (Str.ofString "_law_place", 11)])).set 10 (some (V.int (i : Nat)))).set 11 (some v))) H3 (fun y H4 => ∃ acc, H4 D2 = some (HO.lst acc) ∧ acc.length < sizeLine ∧ KB D2 H7 (upd H4 D2 (HO.lst (acc ++ [y]))) ∧ ∃ ys, upd H4 D2 (HO.lst (acc ++ [y])) D2 = some (HO.lst ys) ∧ ys.length ≤ i + 1 ∧ ys.isEmpty = allEnds wd 0 (List.take (i + 1) xs2)) else KB D2 H7 H3 ∧ ∃ ys, H3 D2 = some (HO.lst ys) ∧ ys.length ≤ i + 1 ∧ ys.isEmpty = allEnds wd 0 (List.take (i + 1) xs2)) k HA := by
                  rintro b rfl
                  refine ⟨_, rfl, ?_⟩
                  cases e : endAt wd i v with
                  | true => exact iteF ⟨kbA, ys, eA2, by omega, by rw [nxt, e, Bool.and_true]⟩
                  | false =>
                    refine iteT ⟨_, rfl, ys, eA2, Nat.lt_of_le_of_lt (m := 10) (by omega) (by rw [sizeLine_eq]; decide), fun c o n e => by rw [upd_ne n]; exact kbA c o n e, ys ++ [.int (i : Nat)], upd_same, by rw [List.length_append]; exact Nat.succ_le_succ ly, ?_⟩
                    rw [nxt, e, Bool.and_false]
                    cases ys <;> rfl
                refine ⟨p, [(wd.ps[i]).1, (wd.ps[i + 1]).1], rfl, SqL.of ep2, ?_⟩
                rcases th_flat thv2 with fl | ⟨b, rfl, hb⟩
                · exact .inl ⟨fl, step _ (by rw [ea]; exact congrArg (!·) (flat_in2 fl _ _))⟩
                · refine .inr ⟨⟨b, rfl, ?_⟩, step _ (by rw [ea]; simp)⟩
                  rcases hb with ⟨zs, h⟩ | ⟨zs, h⟩ | h
                  · exact .inl ⟨zs, SqL.of h⟩
                  · exact .inr (.inl ⟨zs, SqT.of h⟩)
                  · exact .inr (.inr h)
              · rintro H8 ⟨kb, ys, eys, ly, emp⟩
                rw [List.take_of_length_le (Nat.le_refl _)] at emp
                have s78 : Same H7 H8 := fun c o e => kb c o (ne_of_none e hD2) e
                refine ⟨Nat.zero_le _, fun E2 hE2 => ?_⟩
                have s79 : Same H7 (upd H8 E2 (.lst [])) := s78.trans (same_alloc hE2)
                refine ⟨D2, E2, ys, rfl, rfl, SqL.of (same_alloc hE2 _ _ eys), SqL.of upd_same, _, rfl, ?_⟩
                rw [emp]
                cases ea : allEnds wd 0 xs2 with
                | true => exact iteF (kN (by unfold endsD; rw [if_neg hv, eA, ea, decide_eq_true hl]; rfl) _ (s07.trans s79))
                | false => exact iteT ⟨_, rfl, give (bad2 (by rw [eA, ea, Bool.and_false])) (s07.trans s79)⟩
            · rw [decide_eq_false (fun e => hl (by have := V.int.inj e; omega))]
              exact iteT ⟨_, rfl, give (bad2 (by rw [eA, decide_eq_false hl, Bool.false_and])) s07⟩
end
end T9

set_option maxRecDepth 100000
set_option maxHeartbeats 1000000
/-! An object made in a try's body, by an __init__ that may raise. -/
namespace My
open PySem PySem.Spec PyProof.Rows L2 GxR Gd TL
section
variable {X : Cx} {CX : CXT} {k : Nat} {f C : Addr} {fd : FuncData} {ps : List Str} {sp : Sp} {E : L2.St → XK} {x : Str} {p pos : Pos} {e : Expr} {es : List Expr} {t : TA} {dvs : List V} {ds : List Value}
def tMakeS (C : Addr) (sp : Sp) (dvs : List V) (E : L2.St → XK) (t : TA) : TE := fun σ H Q => t σ H fun vs G => ∀ a b, G a = none → G b = none → b ≠ a →
  sp (.ref a :: (vs ++ dvs)) (upd (upd G b (.own a)) a (.ins C b [])) (fun v G' => v = .non ∧ Q (.ref a) G') (E σ)
theorem run_makeS {pins : List (Addr × Obj)} {σ : L2.St} {H : Hp} {s : Shared} {Q : VK} {us : List Value} {vs : List V} (M : Mk X.K C f) (F : FnOk X.prog X.w X.K X.mg X.base CX k f fd ps sp) (hr : Room (k + 1) X.A) (hb : Binds X.K fd ps ds) (hd : Vals dvs ds)
    (hx : PassesAt CX X σ (E σ)) (I : L2.Inv X pins σ H s) (r : Vals vs us)
    (h : ∀ a b, H a = none → H b = none → b ≠ a → sp (.ref a :: (vs ++ dvs)) (upd (upd H b (.own a)) a (.ins C b [])) (fun v G => v = .non ∧ Q (.ref a) G) (E σ)) : wpAny (model X.prog X.w) X.A (call (.ref C) us) (EP X pins σ Q) X.xe s := by
  have n0 := I.hok.fresh (Nat.le_refl s.heap.objs.size)
  have n1 := I.hok.fresh (Nat.le_succ s.heap.objs.size)
  have q := h _ _ n1 n0 (Nat.ne_of_lt (Nat.lt_succ_self _))
  have J := Inv.made (C := C) I
  have rs : Vals (V.ref (s.heap.objs.size + 1) :: (vs ++ dvs)) (Value.ref (s.heap.objs.size + 1) :: (us ++ ds)) := .cons rfl (r.append hd)
  have len : (Value.ref (s.heap.objs.size + 1) :: us ++ ds).length = ps.length := by
    have := F.len _ _ _ _ q
    rw [← this]
    exact rs.length.symm
  apply wpAny_call
  apply make_map (f := f) I.kIn M.makes M.init (beq_iff_eq.mp M.fn)
  have run := F.run _ X.stack _ _ ⟨Value.ref (s.heap.objs.size + 1) :: us, []⟩ (Value.ref (s.heap.objs.size + 1) :: (us ++ ds)) _ _ (E σ) (hr.make C us []) (J.env0.make C us []) (hb _ (Value.ref (s.heap.objs.size + 1) :: us) J.kIn len) rs q
  apply codeAny_mono run
  intro r' s' hq
  match r', hq with
  | .error z, hq => exact hx pins _ _ z s' J hq
  | .ok (.ret u), hq =>
    obtain ⟨v, G, J', rv, ⟨ev, q'⟩⟩ := J.after hq
    subst ev
    exact ⟨rv, V.ref (s.heap.objs.size + 1), G, J', rfl, q'⟩
  | .ok .next, hq => exact hq.elim
  | .ok .brk, hq => exact hq.elim
  | .ok .cont, hq => exact hq.elim
theorem pe_makeS (M : Mk X.K C f) (F : FnOk X.prog X.w X.K X.mg X.base CX k f fd ps sp) (hr : Room (k + 1) X.A) (hg : Gl X x) (hm : X.mg x = some (.ref C)) (hb : Binds X.K fd ps ds) (hd : Vals dvs ds) (hx : ∀ σ, PassesAt CX X σ (E σ))
    (ha : PA X (e :: es) t) (hdb : (x == ("__debug__" : Str)) = false := by decide) (he : starEach (e :: es) X.env = (false, eval e X.env) :: starEach es X.env := by rfl) (hpl : (backTo pos (starEach es X.env)).any (·.1) = false := by rfl) :
    PE X (.Call (.Name x p) (e :: es) [] pos) (tMakeS C sp dvs E t) := by
  constructor
  intro pins s σ H Q I h
  apply wpAny_Call_Name_kw (ld_glob I hg hm ?_ hdb)
  apply PySem.W.callWith_K (h₀ := X.base) I.ok.mod.kin M.kp ?_ he hpl
  exact thn (ha.run pos pins s σ H _ I h) fun us s1 ⟨vs, G, J, r, q⟩ => ⟨J.kIn, run_makeS M F hr hb hd (hx σ) J r q⟩
end
end My

set_option maxRecDepth 100000
set_option maxHeartbeats 1600000
namespace T9
open PySem PySem.Spec PyProof.Rows L2 GxR Gd TL My
theorem prOf_nt {H H' : Hp} (e : Nt H H') {v : V} (th : Th H v) : prOf H' v = prOf H v := by
  unfold prOf
  rw [tup_nt e th]
theorem trD_nt {wd : Wd} {H H' : Hp} (e : Nt H H') : ∀ {xs : List V} {ah : List (Str × Str)}, (∀ x ∈ xs, Th H x) → trD wd H' ah xs = trD wd H ah xs
  | [], _, _ => rfl
  | v :: r, ah, h => by
    have h1 := tr1_nt (wd := wd) e (h v (List.mem_cons_self ..)) ah
    have h2 := prOf_nt e (h v (List.mem_cons_self ..))
    cases q : tr1 wd H ah v with
    | some d => rw [tr1_stop q, tr1_stop (h1.trans q)]
    | none => rw [tr1_snoc q, tr1_snoc (h1.trans q), h2, trD_nt e fun x hx => h x (List.mem_cons_of_mem _ hx)]
theorem trainsD_nt {wd : Wd} {H H' : Hp} (e : Nt H H') {v : V} (d : Deep H v) : trainsD wd H' v = trainsD wd H v := by
  unfold trainsD isl
  rw [seq_nt e d.1]
  cases q : seqOf H v with
  | none => rfl
  | some xs =>
    have := trD_nt (wd := wd) e (xs := xs) (ah := []) fun x hx => d.kids xs q x hx
    show (if _ then trD wd H' [] xs else _) = (if _ then trD wd H [] xs else _)
    rw [this]
theorem standD_nt {wd : Wd} {H H' : Hp} (e : Nt H H') {v1 v2 : V} (d : Deep H v1) (th : Th H v2) : St.standD wd H' v1 v2 = St.standD wd H v1 v2 := by
  unfold St.standD
  rw [trainsD_nt e d, St.endsD_nt e th]
theorem placesT_nt {H H' : Hp} (e : Nt H H') {v : V} (d : Deep H v) : St.placesT H' v = St.placesT H v := by
  unfold St.placesT
  rw [seq_nt e d.1]
  cases q : seqOf H v with
  | none => rfl
  | some xs => exact List.map_congr_left fun x hx => by rw [prOf_nt e (d.kids xs q x hx)]
theorem endsT_nt {wd : Wd} {H H' : Hp} (e : Nt H H') {v : V} (th : Th H v) : St.endsT wd H' v = St.endsT wd H v := by
  unfold St.endsT
  rw [seq_nt e th]
theorem passS0 {X : Cx} (σ : L2.St) : PassesAt CX0 X σ E0 := fun _ _ _ _ _ _ h => False.elim h
theorem ixLK {X : Cx} {K : PySem.W.Frag} (h : X.K = K) : IxR X (rIxL K) := h ▸ ix_list
def Tag.n : Tag → Nat
  | .trains => 0
  | .name => 1
  | .twice => 2
  | .place => 3
  | .full => 4
  | .ends => 5
def clOf (a b c d e f : Addr) : Tag → Addr
  | .trains => a
  | .name => b
  | .twice => c
  | .place => d
  | .full => e
  | .ends => f
/-- what comes of a Stand -/
def Found (H : Hp) (u : V) (d : Due) (ps es : List V) : Prop := match d with
  | some (t, x) => ∃ p, u = .ref p ∧ H p = some (.tup [.str (Str.ofString t.s), x])
  | none => ∃ p t t1 t2, u = .ref p ∧ H p = some (.tup [.str "made", .ref t]) ∧ H t = some (.tup [.ref t1, .ref t2]) ∧ H t1 = some (.tup ps) ∧ H t2 = some (.tup es)
theorem sf_no (l u t : Addr) {m : Str} (h : (decide (m = "_state") || decide (m = "_trains") || decide (m = "_line")) = false) : (St.sf l u t).lookup m = none := by
  rw [Bool.or_eq_false_iff, Bool.or_eq_false_iff, decide_eq_false_iff_not, decide_eq_false_iff_not, decide_eq_false_iff_not] at h
  obtain ⟨⟨h1, h2⟩, h3⟩ := h
  unfold St.sf
  rw [lookup_putF, if_neg h1, lookup_putF, if_neg h2, lookup_putF, if_neg h3]
  rfl
section
variable {P : Program} {w : World} {K : PySem.W.Frag} {mg : Str → Option Value} {base : Heap} {cl : Tag → Addr} {C Cs CS fS fI f1 : Addr} {fdS fdI fd1 : FuncData} {g1 g2 g3 g4 g5 g6 : Addr} {gd1 gd2 gd3 gd4 gd5 gd6 : FuncData}
abbrev s_law_caught : Stmt := top 49
theorem sc_law_caught : FnScope ["_law_line", "_law_some", "e"] ["_law_line", "_law_some"] (defScope s_law_caught) := ⟨rfl, rfl, rfl, by decide +kernel, rfl, by decide +kernel, by decide +kernel⟩
def spCaught (K : PySem.W.Frag) (C : Addr) (T0 : List Addr) : Sp := fun vs H Q _ => ∃ (x L : Addr) (v1 v2 : V) (wd : Wd), vs = [.ref x, .ref L] ∧ H L = some (.lst [v1, v2]) ∧ LineAt K C wd H x ∧ wd.Ok ∧ Deep H v1 ∧ Th H v2 ∧ Kids H v2 ∧ Tabs T0 H ∧ ∀ H' u, KM T0 H H' → Found H' u (St.standD wd H v1 v2) (St.placesT H v1) (St.endsT wd H v2) → Q u H'
theorem ok_caught {T0 : List Addr} {f : Addr} {fd : FuncData} (F : Fun K "_law_caught" "_law_caught" s_law_caught f fd) (T : Txt mg) (TS : St.ClsS K Cs) (ES : SeT K mg CS fS fdS sSE)
    (ENoTrains : ExC K mg "NoTrains" "NoTrains.__init__" sNoTrains (cl .trains) g1 gd1) (ENoName : ExC K mg "NoName" "NoName.__init__" sNoName (cl .name) g2 gd2) (ETwice : ExC K mg "Twice" "Twice.__init__" sTwice (cl .twice) g3 gd3)
    (ENoPlace : ExC K mg "NoPlace" "NoPlace.__init__" sNoPlace (cl .place) g4 gd4) (EFull : ExC K mg "Full" "Full.__init__" sFull (cl .full) g5 gd5) (ENoEnds : ExC K mg "NoEnds" "NoEnds.__init__" sNoEnds (cl .ends) g6 gd6)
    (XM : ∀ s t : Tag, s.n < t.n → PySem.W.exmOne K (.ref (cl t)) (.ref (cl s)) = some false)
    (gS : mg "Stand" = some (.ref Cs)) (MS : Mk K Cs fI) (GinitS : FnOk P w K mg base (CX P w) 8 fI fdI ["self", "line", "trains", "ends"] (St.spStandX K C Cs cl T0)) (bI : Binds K fdI ["self", "line", "trains", "ends"] [])
    (Mstate : Mt K Cs "state" "Stand.state" St.s_state ["self"] f1 fd1) (Gstate : FnOk P w K mg base CX0 1 f1 fd1 ["self"] (St.spState Cs)) :
    FnOk P w K mg base CX0 10 f fd ["_law_line", "_law_some"] (spCaught K C T0) := by
  refine F.ok sc_law_caught (fun vs H Q E h => ?_) (fun cdv A outer s H vs Q E hr h => ?_)
  · obtain ⟨x, L, v1, v2, wd, rfl, _⟩ := h
    rfl
  · obtain ⟨x, L, v1, v2, wd, rfl, hL, hLine, ok, d1, th2, kd2, tb, k⟩ := h
    refine ⟨_, pss_one (ps_try_cl rfl rfl sc_law_caught.nd takes_never (.named (i := 2) (ts := fun a cls d => _) ⟨by rfl, by decide, .inl ENoTrains.g⟩ rfl (by rfl) (fun a oe cls d pn hz hf => (pss_one (ps_ret (pe_tup (pa_cons pe_str (pa_cons (pe_xf ENoTrains.x ENoTrains.n hz hf (pv 2)) pa_nil)))))) (.named (i := 2) (ts := fun a cls d => _) ⟨by rfl, by decide, .inl ENoName.g⟩ rfl (by rfl) (fun a oe cls d pn hz hf => (pss_one (ps_ret (pe_tup (pa_cons pe_str (pa_cons (pe_xf ENoName.x ENoName.n hz hf (pv 2)) pa_nil)))))) (.named (i := 2) (ts := fun a cls d => _) ⟨by rfl, by decide, .inl ETwice.g⟩ rfl (by rfl) (fun a oe cls d pn hz hf => (pss_one (ps_ret (pe_tup (pa_cons pe_str (pa_cons (pe_xf ETwice.x ETwice.n hz hf (pv 2)) pa_nil)))))) (.named (i := 2) (ts := fun a cls d => _) ⟨by rfl, by decide, .inl ENoPlace.g⟩ rfl (by rfl) (fun a oe cls d pn hz hf => (pss_one (ps_ret (pe_tup (pa_cons pe_str (pa_cons (pe_xf ENoPlace.x ENoPlace.n hz hf (pv 2)) pa_nil)))))) (.named (i := 2) (ts := fun a cls d => _) ⟨by rfl, by decide, .inl EFull.g⟩ rfl (by rfl) (fun a oe cls d pn hz hf => (pss_one (ps_ret (pe_tup (pa_cons pe_str (pa_cons (pe_xf EFull.x EFull.n hz hf (pv 2)) pa_nil)))))) (.named (i := 2) (ts := fun a cls d => _) ⟨by rfl, by decide, .inl ENoEnds.g⟩ rfl (by rfl) (fun a oe cls d pn hz hf => (pss_one (ps_ret (pe_tup (pa_cons pe_str (pa_cons (pe_xf ENoEnds.x ENoEnds.n hz hf (pv 2)) pa_nil)))))) (.plain (ts := fun a cls d => _) ⟨by rfl, by decide, .inl ES.g⟩ (fun a oe cls d pn hz hf => (pss_one (ps_ret (pe_tup (pa_cons pe_str (pa_cons pe_non pa_nil)))))) .nil))))))) (fun W pn xe tk _ => (pss_one (ps_ret (pe_tup (pa_cons pe_str (pa_cons (pe_methX0 (pe_makeS MS GinitS (hr.mono (by decide)) (by rfl) gS bI .nil (fun σ => passAt tk σ) (pa_cons (pv 0) (pa_cons (pe_ix (ixLK (K := K) rfl) (pv 1) pe_int (fun _ _ => rfl)) (pa_cons (pe_ix (ixLK (K := K) rfl) (pv 1) pe_int (fun _ _ => rfl)) pa_nil)))) TS.cl Mstate.m Gstate (hr.mono (by decide)) Mstate.b (fun σ => passS0 σ)) pa_nil))))))), ?_⟩
    refine ⟨_, rfl, _, rfl, L, _, 0, v1, rfl, rfl, SqL.of hL, rfl, _, rfl, L, _, 1, v2, rfl, rfl, SqL.of hL, rfl, fun s' dx nx ndx ny => ?_⟩
    have s1 : Same H (upd (upd H dx (.own s')) s' (.ins Cs dx [])) := (same_alloc ndx).trans (same_alloc (by rw [upd_ne ny.symm]; exact nx))
    have hx1 : upd (upd H dx (.own s')) s' (.ins Cs dx []) s' = some (.ins Cs dx []) := upd_same
    generalize upd (upd H dx (.own s')) s' (.ins Cs dx []) = H1 at s1 hx1 ⊢
    have n1 := same_nt s1
    have tb1 := (KM.same tb s1).tab
    have kt : ∀ {H' : Hp}, KX T0 s' H1 H' → KM T0 H H' := fun {H'} ki => ⟨fun c o nc h => ki.keep c o nc (ne_of_none h nx) (s1 _ _ h), ki.tab⟩
    have two : 2 ≤ sizeLine := by decide
    refine ⟨s', x, dx, v1, v2, wd, rfl, hx1, hLine.nt n1, ok, d1.nt n1, th_nt n1 th2, kd2.nt n1 th2, tb1, fun t u hd H' e ki he => ?_, fun hd H' ki st => ⟨rfl, ?_⟩⟩
    · rw [standD_nt n1 d1 th2] at hd
      rw [hd] at k
      have kt' := kt ki
      have ret : ∀ {p : Addr}, upd H' e (.xd [("found", u)]) p = none → Q (.ref p) (upd (upd H' e (.xd [("found", u)])) p (.tup [.str (Str.ofString t.s), u])) := fun hp =>
        k _ _ (kt'.trans (KM.same kt'.tab ((same_alloc he).trans (same_alloc hp)))) ⟨_, rfl, upd_same⟩
      cases t with
      | trains =>
        refine ⟨true, ENoTrains.e, fun _ y hy => ?_, nofun⟩
        exact ⟨_, rfl, rfl, rfl, e, _, _, rfl, upd_same, rfl, two, fun u hu => ret hu⟩
      | name =>
        refine ⟨false, XM .trains .name (by decide), nofun, fun _ => ⟨true, ENoName.e, fun _ y hy => ?_, nofun⟩⟩
        exact ⟨_, rfl, rfl, rfl, e, _, _, rfl, upd_same, rfl, two, fun u hu => ret hu⟩
      | twice =>
        refine ⟨false, XM .trains .twice (by decide), nofun, fun _ => ⟨false, XM .name .twice (by decide), nofun, fun _ => ⟨true, ETwice.e, fun _ y hy => ?_, nofun⟩⟩⟩
        exact ⟨_, rfl, rfl, rfl, e, _, _, rfl, upd_same, rfl, two, fun u hu => ret hu⟩
      | place =>
        refine ⟨false, XM .trains .place (by decide), nofun, fun _ => ⟨false, XM .name .place (by decide), nofun, fun _ => ⟨false, XM .twice .place (by decide), nofun, fun _ => ⟨true, ENoPlace.e, fun _ y hy => ?_, nofun⟩⟩⟩⟩
        exact ⟨_, rfl, rfl, rfl, e, _, _, rfl, upd_same, rfl, two, fun u hu => ret hu⟩
      | full =>
        refine ⟨false, XM .trains .full (by decide), nofun, fun _ => ⟨false, XM .name .full (by decide), nofun, fun _ => ⟨false, XM .twice .full (by decide), nofun, fun _ => ⟨false, XM .place .full (by decide), nofun, fun _ => ⟨true, EFull.e, fun _ y hy => ?_, nofun⟩⟩⟩⟩⟩
        exact ⟨_, rfl, rfl, rfl, e, _, _, rfl, upd_same, rfl, two, fun u hu => ret hu⟩
      | ends =>
        refine ⟨false, XM .trains .ends (by decide), nofun, fun _ => ⟨false, XM .name .ends (by decide), nofun, fun _ => ⟨false, XM .twice .ends (by decide), nofun, fun _ => ⟨false, XM .place .ends (by decide), nofun, fun _ => ⟨false, XM .full .ends (by decide), nofun, fun _ => ⟨true, ENoEnds.e, fun _ y hy => ?_, nofun⟩⟩⟩⟩⟩⟩
        exact ⟨_, rfl, rfl, rfl, e, _, _, rfl, upd_same, rfl, two, fun u hu => ret hu⟩
    · rw [standD_nt n1 d1 th2] at hd
      rw [hd, ← placesT_nt n1 d1, ← endsT_nt n1 th2] at k
      have kt' := kt ki
      obtain ⟨dx', l, u, t0, t1', t2', hx, _⟩ := id st
      refine ⟨s', dx', _, rfl, hx, sf_no l u t0 (by decide +kernel), s', _, _, rfl, st, fun t t1 t2 e e1 e2 => ⟨two, fun p hp => ?_⟩⟩
      have s3 := same_alloc (o := .tup [.str "made", .ref t]) hp
      exact k _ _ (kt'.trans (KM.same kt'.tab s3)) ⟨p, t, t1, t2, rfl, upd_same, s3 _ _ e, s3 _ _ e1, s3 _ _ e2⟩
end
end T9

set_option maxRecDepth 100000
set_option maxHeartbeats 800000
namespace My
open PySem PySem.Spec PyProof.Rows L2 GxR Gd TL
/-! ### things of any kind -/
inductive Wf (N : Addr → Prop) (H : Hp) (m : Nat) : Nat → V → Prop
  | non (k : Nat) : Wf N H m k .non
  | bl (b : Bool) (k : Nat) : Wf N H m k (.bl b)
  | int (i : Int) (h : i.natAbs < 10 ^ 31) (k : Nat) : Wf N H m k (.int i)
  | str (z : Str) (g : Good z) (l : z.length ≤ 50) (k : Nat) : Wf N H m k (.str z)
  | dic (a : Addr) (e : H a = some (.dK [])) (k : Nat) : Wf N H m (k + 1) (.ref a)
  | lst (a : Addr) (xs : List V) (k : Nat) (e : H a = some (.lst xs)) (n : N a) (l : xs.length ≤ m) (h : ∀ x ∈ xs, Wf N H m k x) : Wf N H m (k + 1) (.ref a)
  | tup (a : Addr) (xs : List V) (k : Nat) (e : H a = some (.tup xs)) (l : xs.length ≤ m) (h : ∀ x ∈ xs, Wf N H m k x) : Wf N H m (k + 1) (.ref a)
/-- what such a thing rests on stays -/
def Kw (N : Addr → Prop) (H H' : Hp) : Prop := (∀ c xs, N c → H c = some (.lst xs) → H' c = some (.lst xs)) ∧ (∀ c xs, H c = some (.tup xs) → H' c = some (.tup xs)) ∧ ∀ c kvs, H c = some (.dK kvs) → H' c = some (.dK kvs)
theorem Kw.same {N : Addr → Prop} {H H' : Hp} (s : Same H H') : Kw N H H' := ⟨fun _ _ _ e => s _ _ e, fun _ _ e => s _ _ e, fun _ _ e => s _ _ e⟩
theorem Kw.trans {N : Addr → Prop} {A B C : Hp} (h : Kw N A B) (k : Kw N B C) : Kw N A C := ⟨fun c xs n e => k.1 c xs n (h.1 c xs n e), fun c xs e => k.2.1 c xs (h.2.1 c xs e), fun c xs e => k.2.2 c xs (h.2.2 c xs e)⟩
theorem Kw.nt {N : Addr → Prop} {H H' : Hp} (s : Nt H H') : Kw N H H' := ⟨fun _ _ _ e => s _ _ (by simp) e, fun _ _ e => s _ _ (by simp) e, fun _ _ e => s _ _ (by simp) e⟩
theorem Kw.kb {N : Addr → Prop} {H H' : Hp} {b : Addr} {n : Int} (nb : ¬ N b) (hb : Bx b n H) (k : KB b H H') : Kw N H H' := by
  obtain ⟨_, _, _, e, _⟩ := hb
  exact ⟨fun c xs m q => k _ _ (fun z => nb (z ▸ m)) q, fun c xs q => k _ _ (ne_of q e (by simp)) q, fun c xs q => k _ _ (ne_of q e (by simp)) q⟩
theorem Wf.keep {N : Addr → Prop} {H H' : Hp} {m : Nat} (s : Kw N H H') : ∀ {k : Nat} {v : V}, Wf N H m k v → Wf N H' m k v
  | _, _, .non k => .non k
  | _, _, .bl b k => .bl b k
  | _, _, .int i h k => .int i h k
  | _, _, .str z g l k => .str z g l k
  | _, _, .dic a e k => .dic a (s.2.2 _ _ e) k
  | _, _, .lst a xs k e n l h => .lst a xs k (s.1 _ _ n e) n l fun x hx => (h x hx).keep s
  | _, _, .tup a xs k e l h => .tup a xs k (s.2.1 _ _ e) l fun x hx => (h x hx).keep s
theorem Wf.mono {N : Addr → Prop} {H : Hp} {m m' : Nat} (hm : m ≤ m') {k k' : Nat} {v : V} (hk : k ≤ k') (h : Wf N H m k v) : Wf N H m' k' v := by
  induction h generalizing k' with
  | non k => exact .non _
  | bl b k => exact .bl b _
  | int i h k => exact .int i h _
  | str z g l k => exact .str z g l _
  | dic a e k =>
    match k', hk with
    | k' + 1, _ => exact .dic a e _
  | lst a xs k e n l q ih =>
    match k', hk with
    | k' + 1, hk => exact .lst a xs k' e n (Nat.le_trans l hm) fun x hx => ih x hx (Nat.le_of_succ_le_succ hk)
  | tup a xs k e l q ih =>
    match k', hk with
    | k' + 1, hk => exact .tup a xs k' e (Nat.le_trans l hm) fun x hx => ih x hx (Nat.le_of_succ_le_succ hk)
theorem Wf.th {N : Addr → Prop} {H : Hp} {m k : Nat} {v : V} (h : Wf N H m k v) : Th H v := by
  cases h with
  | non k => exact .non
  | bl b k => exact .bl b
  | int i h k => exact .int i
  | str z g l k => exact .str z (by omega) g
  | dic a e k => exact .dic a e
  | lst a xs k e n l q => exact .lst a xs e
  | tup a xs k e l q => exact .tup a xs e
theorem Wf.lkid {N : Addr → Prop} {H : Hp} {m k : Nat} {a : Addr} (h : Wf N H m (k + 1) (.ref a)) {xs : List V} (e : H a = some (.lst xs)) : N a ∧ xs.length ≤ m ∧ ∀ x ∈ xs, Wf N H m k x := by
  cases h with
  | dic a q k => rw [q] at e; cases e
  | lst a ys k q n l h =>
    rw [q] at e
    obtain rfl := HO.lst.inj (Option.some.inj e)
    exact ⟨n, l, h⟩
  | tup a ys k q l h => rw [q] at e; cases e
theorem Wf.tkid {N : Addr → Prop} {H : Hp} {m k : Nat} {a : Addr} (h : Wf N H m (k + 1) (.ref a)) {xs : List V} (e : H a = some (.tup xs)) : xs.length ≤ m ∧ ∀ x ∈ xs, Wf N H m k x := by
  cases h with
  | dic a q k => rw [q] at e; cases e
  | lst a ys k q n l h => rw [q] at e; cases e
  | tup a ys k q l h =>
    rw [q] at e
    obtain rfl := HO.tup.inj (Option.some.inj e)
    exact ⟨l, h⟩
def wt (m : Nat) : Nat → Nat
  | 0 => 110
  | k + 1 => m * (wt m k + 1)
theorem wt_le {m : Nat} (hm : 1 ≤ m) : ∀ k, 110 ≤ wt m k
  | 0 => Nat.le_refl _
  | k + 1 => by
    have := wt_le hm k
    show 110 ≤ m * (wt m k + 1)
    have h : 1 * (wt m k + 1) ≤ m * (wt m k + 1) := Nat.mul_le_mul_right _ hm
    omega
theorem dqs_of {K : PySem.W.Frag} {H : Hp} {k n : Nat} : ∀ {xs : List V}, (∀ x ∈ xs, ∃ d, Dq K H x d ∧ Sb d k n) → ∃ ds, DqAll K H xs ds ∧ ds.length = xs.length ∧ ∀ d ∈ ds, Sb d k n
  | [], _ => ⟨[], .nil, rfl, fun d h => by cases h⟩
  | x :: r, h => by
    obtain ⟨d, h1, h2⟩ := h x (by simp)
    obtain ⟨ds, h3, h4, h5⟩ := dqs_of (xs := r) fun y hy => h y (by simp [hy])
    exact ⟨d :: ds, .cons h1 h3, by rw [List.length_cons, List.length_cons, h4], fun e he => (List.mem_cons.mp he).elim (fun q => q ▸ h2) fun q => h5 e q⟩
theorem Wf.dq {K : PySem.W.Frag} {N : Addr → Prop} {H : Hp} {m : Nat} (hm : 1 ≤ m) : ∀ {k : Nat} {v : V}, Wf N H m k v → ∃ d, Dq K H v d ∧ Sb d k (wt m k)
  | k, _, .non _ => ⟨_, .non, sb_none.mono (by omega) (by omega)⟩
  | k, _, .bl b _ => ⟨_, .bl b, (sb_bool b).mono (by omega) (by omega)⟩
  | k, _, .int i h _ => ⟨_, .int i, (sb_int h).mono (by omega) (wt_le hm k)⟩
  | k, _, .str z g l _ => ⟨_, .str z, (sb_str g l).mono (by omega) (Nat.le_trans (by decide) (wt_le hm k))⟩
  | _, _, .dic a e k => ⟨.dict [], .dic e .nil, ⟨by decide +kernel, Nat.succ_le_succ (Nat.zero_le k), Nat.le_trans (by decide) (wt_le hm (k + 1)), by decide +kernel⟩⟩
  | _, _, .lst a xs k e n l h => by
    obtain ⟨ds, h1, h2, h3⟩ := dqs_of (K := K) fun x hx => (h x hx).dq hm
    exact ⟨.list ds, .lst (SqL.of e) h1, (sb_list h3).mono (Nat.le_refl _) (by rw [h2]; exact Nat.mul_le_mul_right _ l)⟩
  | _, _, .tup a xs k e l h => by
    obtain ⟨ds, h1, h2, h3⟩ := dqs_of (K := K) fun x hx => (h x hx).dq hm
    exact ⟨.tuple ds, .tup (SqT.of e) h1, (sb_tuple h3).mono (Nat.le_refl _) (by rw [h2]; exact Nat.mul_le_mul_right _ l)⟩
end My

set_option maxRecDepth 100000
set_option maxHeartbeats 800000
namespace My
open PySem PySem.Spec PyProof.Rows L2 GxR Gd TL
/-! ### such things, told apart from a list that grows -/
mutual
theorem dq_nt {K : PySem.W.Frag} {H H' : Hp} (e : Nt H H') : ∀ {v : V} {d : PyData}, Dq K H v d → Dq K H' v d
  | _, _, .non => .non
  | _, _, .bl b => .bl b
  | _, _, .int i => .int i
  | _, _, .str z => .str z
  | _, _, .lst q h => .lst (e.seq q) (dqAll_nt e h)
  | _, _, .tup q h => .tup (e.seqT q) (dqAll_nt e h)
  | _, _, .dic q h => .dic (e _ _ (by simp) q) (dqKv_nt e h)
theorem dqAll_nt {K : PySem.W.Frag} {H H' : Hp} (e : Nt H H') : ∀ {vs : List V} {ds : List PyData}, DqAll K H vs ds → DqAll K H' vs ds
  | _, _, .nil => .nil
  | _, _, .cons h t => .cons (dq_nt e h) (dqAll_nt e t)
theorem dqKv_nt {K : PySem.W.Frag} {H H' : Hp} (e : Nt H H') : ∀ {vs : List (Key × V)} {ds : List (PyData × PyData)}, DqKv K H vs ds → DqKv K H' vs ds
  | _, _, .nil => .nil
  | _, _, .cons h t => .cons (dq_nt e h) (dqKv_nt e t)
end
theorem Wf.imp {N M : Addr → Prop} {H : Hp} {m : Nat} (hi : ∀ a, N a → M a) : ∀ {k : Nat} {v : V}, Wf N H m k v → Wf M H m k v
  | _, _, .non k => .non k
  | _, _, .bl b k => .bl b k
  | _, _, .int i h k => .int i h k
  | _, _, .str z g l k => .str z g l k
  | _, _, .dic a e k => .dic a e k
  | _, _, .lst a xs k e n l h => .lst a xs k e (hi a n) l fun x hx => (h x hx).imp hi
  | _, _, .tup a xs k e l h => .tup a xs k e l fun x hx => (h x hx).imp hi
theorem Kw.upd {N : Addr → Prop} {H : Hp} {D : Addr} {zs ws : List V} (h : H D = some (.lst zs)) (n : ¬ N D) : Kw N H (upd H D (.lst ws)) :=
  ⟨fun c xs m e => by rw [upd_ne (fun z => n (by rw [← z]; exact m))]; exact e, fun c xs e => by rw [upd_ne (ne_of e h (by simp))]; exact e, fun c xs e => by rw [upd_ne (ne_of e h (by simp))]; exact e⟩
theorem Wf.apart {N : Addr → Prop} {H : Hp} {m k0 : Nat} {a : Addr} (no : ∀ j, j < k0 → ¬ Wf N H m j (.ref a)) {k : Nat} {v : V} (hk : k < k0) (h : Wf N H m k v) : Wf (fun c => N c ∧ c ≠ a) H m k v := by
  induction h with
  | non k => exact .non k
  | bl b k => exact .bl b k
  | int i h k => exact .int i h k
  | str z g l k => exact .str z g l k
  | dic c e k => exact .dic c e k
  | lst c xs k e n l q ih => exact .lst c xs k e ⟨n, fun z => no _ hk (by rw [← z]; exact .lst c xs k e n l q)⟩ l fun x hx => ih x hx (by omega)
  | tup c xs k e l q ih => exact .tup c xs k e l fun x hx => ih x hx (by omega)
/-- a list with one thing more -/
theorem Wf.more {N : Addr → Prop} {H : Hp} {m k : Nat} {a : Addr} {xs : List V} {z : Str} (h : Wf N H m k (.ref a)) (ha : H a = some (.lst xs)) (g : Good z) (l : z.length ≤ 50) : Wf N (upd H a (.lst (xs ++ [.str z]))) (m + 1) k (.ref a) := by
  have low : ∃ j, j ≤ k ∧ Wf N H m j (.ref a) ∧ ∀ i, i < j → ¬ Wf N H m i (.ref a) := by
    clear l g
    induction k using Nat.strongRecOn with
    | ind k ih =>
      by_cases q : ∃ i, i < k ∧ Wf N H m i (.ref a)
      · obtain ⟨i, hi, w⟩ := q
        obtain ⟨j, h1, h2, h3⟩ := ih i hi w
        exact ⟨j, by omega, h2, h3⟩
      · exact ⟨k, Nat.le_refl _, h, fun i hi w => q ⟨i, hi, w⟩⟩
  obtain ⟨j, hj, w, no⟩ := low
  refine Wf.mono (Nat.le_refl _) hj ?_
  cases w with
  | dic c e k => rw [ha] at e; cases e
  | tup c ys k e l q => rw [ha] at e; cases e
  | lst c ys j' e n l' q =>
    rw [ha] at e
    cases e
    refine .lst a _ j' upd_same n (by rw [List.length_append, List.length_singleton]; omega) fun x hx => ?_
    rcases List.mem_append.mp hx with hx | hx
    · exact (((q x hx).apart no (by omega)).keep (Kw.upd ha fun z => z.2 rfl)).imp (fun c z => z.1) |>.mono (by omega) (Nat.le_refl _)
    · rw [List.mem_singleton.mp hx]
      exact .str z g l _
end My

set_option maxRecDepth 100000
set_option maxHeartbeats 800000
namespace My
open PySem PySem.Spec PyProof.Rows L2 GxR Gd TL
/-! ### things of any kind, each level with its own bound -/
inductive Wg (N : Addr → Prop) (H : Hp) (m : Nat → Nat) : Nat → V → Prop
  | non (k : Nat) : Wg N H m k .non
  | bl (b : Bool) (k : Nat) : Wg N H m k (.bl b)
  | int (i : Int) (h : i.natAbs < 10 ^ 31) (k : Nat) : Wg N H m k (.int i)
  | str (z : Str) (g : Good z) (l : z.length ≤ 50) (k : Nat) : Wg N H m k (.str z)
  | dic (a : Addr) (e : H a = some (.dK [])) (k : Nat) : Wg N H m (k + 1) (.ref a)
  | lst (a : Addr) (xs : List V) (k : Nat) (e : H a = some (.lst xs)) (n : N a) (l : xs.length ≤ m k) (h : ∀ x ∈ xs, Wg N H m k x) : Wg N H m (k + 1) (.ref a)
  | tup (a : Addr) (xs : List V) (k : Nat) (e : H a = some (.tup xs)) (l : xs.length ≤ m k) (h : ∀ x ∈ xs, Wg N H m k x) : Wg N H m (k + 1) (.ref a)
theorem Wg.keep {N : Addr → Prop} {H H' : Hp} {m : Nat → Nat} (s : Kw N H H') : ∀ {k : Nat} {v : V}, Wg N H m k v → Wg N H' m k v
  | _, _, .non k => .non k
  | _, _, .bl b k => .bl b k
  | _, _, .int i h k => .int i h k
  | _, _, .str z g l k => .str z g l k
  | _, _, .dic a e k => .dic a (s.2.2 _ _ e) k
  | _, _, .lst a xs k e n l h => .lst a xs k (s.1 _ _ n e) n l fun x hx => (h x hx).keep s
  | _, _, .tup a xs k e l h => .tup a xs k (s.2.1 _ _ e) l fun x hx => (h x hx).keep s
theorem Wg.mono {N : Addr → Prop} {H : Hp} {m m' : Nat → Nat} (hm : ∀ k, m k ≤ m' k) (mm : ∀ i j, i ≤ j → m' i ≤ m' j) {k k' : Nat} {v : V} (hk : k ≤ k') (h : Wg N H m k v) : Wg N H m' k' v := by
  induction h generalizing k' with
  | non k => exact .non _
  | bl b k => exact .bl b _
  | int i h k => exact .int i h _
  | str z g l k => exact .str z g l _
  | dic a e k =>
    match k', hk with
    | k' + 1, _ => exact .dic a e _
  | lst a xs k e n l q ih =>
    match k', hk with
    | k' + 1, hk => exact .lst a xs k' e n (Nat.le_trans l (Nat.le_trans (hm _) (mm _ _ (Nat.le_of_succ_le_succ hk)))) fun x hx => ih x hx (Nat.le_of_succ_le_succ hk)
  | tup a xs k e l q ih =>
    match k', hk with
    | k' + 1, hk => exact .tup a xs k' e (Nat.le_trans l (Nat.le_trans (hm _) (mm _ _ (Nat.le_of_succ_le_succ hk)))) fun x hx => ih x hx (Nat.le_of_succ_le_succ hk)
theorem Wg.th {N : Addr → Prop} {H : Hp} {m : Nat → Nat} {k : Nat} {v : V} (h : Wg N H m k v) : Th H v := by
  cases h with
  | non k => exact .non
  | bl b k => exact .bl b
  | int i h k => exact .int i
  | str z g l k => exact .str z (by omega) g
  | dic a e k => exact .dic a e
  | lst a xs k e n l q => exact .lst a xs e
  | tup a xs k e l q => exact .tup a xs e
theorem Wg.lkid {N : Addr → Prop} {H : Hp} {m : Nat → Nat} {k : Nat} {a : Addr} (h : Wg N H m (k + 1) (.ref a)) {xs : List V} (e : H a = some (.lst xs)) : N a ∧ xs.length ≤ m k ∧ ∀ x ∈ xs, Wg N H m k x := by
  cases h with
  | dic a q k => rw [q] at e; cases e
  | lst a ys k q n l h =>
    rw [q] at e
    obtain rfl := HO.lst.inj (Option.some.inj e)
    exact ⟨n, l, h⟩
  | tup a ys k q l h => rw [q] at e; cases e
theorem Wg.tkid {N : Addr → Prop} {H : Hp} {m : Nat → Nat} {k : Nat} {a : Addr} (h : Wg N H m (k + 1) (.ref a)) {xs : List V} (e : H a = some (.tup xs)) : xs.length ≤ m k ∧ ∀ x ∈ xs, Wg N H m k x := by
  cases h with
  | dic a q k => rw [q] at e; cases e
  | lst a ys k q n l h => rw [q] at e; cases e
  | tup a ys k q l h =>
    rw [q] at e
    obtain rfl := HO.tup.inj (Option.some.inj e)
    exact ⟨l, h⟩
def wg (m : Nat → Nat) : Nat → Nat
  | 0 => 110
  | k + 1 => m k * (wg m k + 1)
theorem wg_le {m : Nat → Nat} (hm : ∀ k, 1 ≤ m k) : ∀ k, 110 ≤ wg m k
  | 0 => Nat.le_refl _
  | k + 1 => by
    have := wg_le hm k
    show 110 ≤ m k * (wg m k + 1)
    have h : 1 * (wg m k + 1) ≤ m k * (wg m k + 1) := Nat.mul_le_mul_right _ (hm k)
    omega
theorem Wg.dq {K : PySem.W.Frag} {N : Addr → Prop} {H : Hp} {m : Nat → Nat} (hm : ∀ k, 1 ≤ m k) : ∀ {k : Nat} {v : V}, Wg N H m k v → ∃ d, Dq K H v d ∧ Sb d k (wg m k)
  | k, _, .non _ => ⟨_, .non, sb_none.mono (by omega) (by omega)⟩
  | k, _, .bl b _ => ⟨_, .bl b, (sb_bool b).mono (by omega) (by omega)⟩
  | k, _, .int i h _ => ⟨_, .int i, (sb_int h).mono (by omega) (wg_le hm k)⟩
  | k, _, .str z g l _ => ⟨_, .str z, (sb_str g l).mono (by omega) (Nat.le_trans (by decide) (wg_le hm k))⟩
  | _, _, .dic a e k => ⟨.dict [], .dic e .nil, ⟨by decide +kernel, Nat.succ_le_succ (Nat.zero_le k), Nat.le_trans (by decide) (wg_le hm (k + 1)), by decide +kernel⟩⟩
  | _, _, .lst a xs k e n l h => by
    obtain ⟨ds, h1, h2, h3⟩ := dqs_of (K := K) fun x hx => (h x hx).dq hm
    exact ⟨.list ds, .lst (SqL.of e) h1, (sb_list h3).mono (Nat.le_refl _) (by rw [h2]; exact Nat.mul_le_mul_right _ l)⟩
  | _, _, .tup a xs k e l h => by
    obtain ⟨ds, h1, h2, h3⟩ := dqs_of (K := K) fun x hx => (h x hx).dq hm
    exact ⟨.tuple ds, .tup (SqT.of e) h1, (sb_tuple h3).mono (Nat.le_refl _) (by rw [h2]; exact Nat.mul_le_mul_right _ l)⟩
theorem Wg.imp {N M : Addr → Prop} {H : Hp} {m : Nat → Nat} (hi : ∀ a, N a → M a) : ∀ {k : Nat} {v : V}, Wg N H m k v → Wg M H m k v
  | _, _, .non k => .non k
  | _, _, .bl b k => .bl b k
  | _, _, .int i h k => .int i h k
  | _, _, .str z g l k => .str z g l k
  | _, _, .dic a e k => .dic a e k
  | _, _, .lst a xs k e n l h => .lst a xs k e (hi a n) l fun x hx => (h x hx).imp hi
  | _, _, .tup a xs k e l h => .tup a xs k e l fun x hx => (h x hx).imp hi
theorem Wg.apart {N : Addr → Prop} {H : Hp} {m : Nat → Nat} {k0 : Nat} {a : Addr} (no : ∀ j, j < k0 → ¬ Wg N H m j (.ref a)) {k : Nat} {v : V} (hk : k < k0) (h : Wg N H m k v) : Wg (fun c => N c ∧ c ≠ a) H m k v := by
  induction h with
  | non k => exact .non k
  | bl b k => exact .bl b k
  | int i h k => exact .int i h k
  | str z g l k => exact .str z g l k
  | dic c e k => exact .dic c e k
  | lst c xs k e n l q ih => exact .lst c xs k e ⟨n, fun z => no _ hk (by rw [← z]; exact .lst c xs k e n l q)⟩ l fun x hx => ih x hx (by omega)
  | tup c xs k e l q ih => exact .tup c xs k e l fun x hx => ih x hx (by omega)
/-- a list with one thing more -/
theorem Wg.more {N : Addr → Prop} {H : Hp} {m : Nat → Nat} {k : Nat} {a : Addr} {xs : List V} {z : Str} (mm : ∀ i j, i ≤ j → m i ≤ m j) (h : Wg N H m k (.ref a)) (ha : H a = some (.lst xs)) (g : Good z) (l : z.length ≤ 50) : Wg N (upd H a (.lst (xs ++ [.str z]))) (fun i => m i + 1) k (.ref a) := by
  have low : ∃ j, j ≤ k ∧ Wg N H m j (.ref a) ∧ ∀ i, i < j → ¬ Wg N H m i (.ref a) := by
    clear l g
    induction k using Nat.strongRecOn with
    | ind k ih =>
      by_cases q : ∃ i, i < k ∧ Wg N H m i (.ref a)
      · obtain ⟨i, hi, w⟩ := q
        obtain ⟨j, h1, h2, h3⟩ := ih i hi w
        exact ⟨j, by omega, h2, h3⟩
      · exact ⟨k, Nat.le_refl _, h, fun i hi w => q ⟨i, hi, w⟩⟩
  obtain ⟨j, hj, w, no⟩ := low
  refine Wg.mono (fun _ => Nat.le_refl _) (fun i j h => Nat.succ_le_succ (mm i j h)) hj ?_
  cases w with
  | dic c e k => rw [ha] at e; cases e
  | tup c ys k e l q => rw [ha] at e; cases e
  | lst c ys j' e n l' q =>
    rw [ha] at e
    cases e
    refine .lst a _ j' upd_same n (by rw [List.length_append, List.length_singleton]; omega) fun x hx => ?_
    rcases List.mem_append.mp hx with hx | hx
    · exact (((q x hx).apart no (by omega)).keep (Kw.upd ha fun z => z.2 rfl)).imp (fun c z => z.1) |>.mono (fun _ => Nat.le_succ _) (fun i j h => Nat.succ_le_succ (mm i j h)) (Nat.le_refl _)
    · rw [List.mem_singleton.mp hx]
      exact .str z g l _
end My

set_option maxRecDepth 100000
set_option maxHeartbeats 3200000
namespace T9
open PySem PySem.Spec PyProof.Rows L2 GxR Gd TL My
/-- the bounds of each level: what a train holds, the trains, all -/
def mB (k : Nat) : Nat := if k < 2 then 4 else 20
theorem mB_mono : ∀ i j, i ≤ j → mB i ≤ mB j := fun i j h => by
  unfold mB
  split <;> split <;> omega
theorem mB_one : ∀ k, 1 ≤ mB k := fun k => by unfold mB; split <;> omega
theorem wg_kid {N : Addr → Prop} {H : Hp} {m : Nat → Nat} {k : Nat} {v : V} (h : Wg N H m (k + 1) v) {xs : List V} (e : seqOf H v = some xs) : xs.length ≤ m k ∧ ∀ x ∈ xs, Wg N H m k x := by
  obtain ⟨a, rfl, q | q⟩ := seq_some e
  · exact (h.lkid q).2
  · exact h.tkid q
theorem wg_kids {N : Addr → Prop} {H : Hp} {m : Nat → Nat} {k : Nat} {v : V} (h : Wg N H m (k + 1) v) : Kids H v := fun xs e x hx => ((wg_kid h e).2 x hx).th
theorem wg_deep {N : Addr → Prop} {H : Hp} {m : Nat → Nat} {k : Nat} {v : V} (h : Wg N H m (k + 2) v) : Deep H v := ⟨h.th, fun xs e x hx => ⟨((wg_kid h e).2 x hx).th, wg_kids ((wg_kid h e).2 x hx)⟩⟩
theorem tr1_wg {N : Addr → Prop} {H : Hp} {wd : Wd} {v u : V} {ah : List (Str × Str)} {t : Tag} (h : Wg N H mB 2 v) (e : tr1 wd H ah v = some (t, u)) : Wg N H mB 2 u := by
  have up : ∀ {x : V} {xs : List V}, tupOf H v = some xs → x ∈ xs → Wg N H mB 2 x := fun q hx => ((wg_kid h (seq_of_tup q)).2 _ hx).mono (fun _ => Nat.le_refl _) mB_mono (by decide)
  unfold tr1 at e
  split at e
  · rename_i n q et
    split at e
    · split at e
      · cases e; exact up et (by simp)
      · split at e
        · cases e; exact up et (by simp)
        · split at e
          · cases e; exact up et (by simp)
          · cases e
    · cases e; exact up et (by simp)
  · cases e; exact h
theorem trD_wg {N : Addr → Prop} {H : Hp} {wd : Wd} {t : Tag} {u : V} : ∀ {xs : List V} {ah : List (Str × Str)}, (∀ x ∈ xs, Wg N H mB 2 x) → trD wd H ah xs = some (t, u) → Wg N H mB 2 u
  | [], _, _, e => by cases e
  | v :: r, ah, h, e => by
    cases q : tr1 wd H ah v with
    | some d =>
      rw [tr1_stop q] at e
      obtain rfl := Option.some.inj e
      exact tr1_wg (h v (List.mem_cons_self ..)) q
    | none =>
      rw [tr1_snoc q] at e
      exact trD_wg (fun x hx => h x (List.mem_cons_of_mem _ hx)) e
theorem due_wg {N : Addr → Prop} {H : Hp} {wd : Wd} {v1 v2 u : V} {t : Tag} (h1 : Wg N H mB 3 v1) (h2 : Wg N H mB 3 v2) (e : St.standD wd H v1 v2 = some (t, u)) : Wg N H mB 3 u := by
  unfold St.standD at e
  split at e
  · rename_i d hd
    rw [Option.some.inj e] at hd
    unfold trainsD at hd
    split at hd
    · cases q : seqOf H v1 with
      | none => rw [q] at hd; cases hd
      | some xs =>
        rw [q] at hd
        exact (trD_wg (wg_kid h1 q).2 hd).mono (fun _ => Nat.le_refl _) mB_mono (by decide)
    · cases hd; exact h1
  · unfold endsD at e
    split at e
    · cases e
    · split at e
      · cases e
      · cases e; exact h2
theorem home_ok {wd : Wd} (ok : wd.Ok) {i : Nat} (h : i < wd.st.length) : Good (homeAt wd i) ∧ (homeAt wd i).length ≤ 50 := by
  have sl := ok.sl
  have il : i < wd.ps.length := by omega
  have iq : i + 1 < wd.ps.length := by omega
  have er : wd.st[i]? = some wd.st[i] := List.getElem?_eq_getElem h
  have ep : wd.ps[i]? = some wd.ps[i] := List.getElem?_eq_getElem il
  have eq : wd.ps[i + 1]? = some wd.ps[i + 1] := List.getElem?_eq_getElem iq
  have a1 := (ok.nm _ (List.getElem_mem il)).1
  have a2 := (ok.nm _ (List.getElem_mem iq)).1
  have : homeAt wd i = pick (wd.st[i]).2 (wd.ps[i]).1 (wd.ps[i + 1]).1 := by unfold homeAt; rw [er, ep, eq]
  rw [this]
  unfold pick
  split
  · exact ⟨a1.good, Nat.le_trans a1.2.1 (by decide)⟩
  · exact ⟨a2.good, Nat.le_trans a2.2.1 (by decide)⟩
theorem tag_len (t : Tag) : (Str.ofString t.s).length ≤ 50 := by cases t <;> decide +kernel
theorem sm_nt {H H' : Hp} (h : SmAt H) (s : Nt H H') : SmAt H' := let ⟨o, e⟩ := h; ⟨o, s _ _ (by simp) e⟩
section
variable {P : Program} {w : World} {K : PySem.W.Frag} {mg : Str → Option Value} {base : Heap} {C f1 f2 : Addr} {fd1 fd2 : FuncData}
theorem ixTK {X : Cx} {K : PySem.W.Frag} (h : X.K = K) : IxR X (rIxT K) := h ▸ ix_tup
abbrev s_law_right : Stmt := top 50
theorem sc_law_right : FnScope ["_law_line", "_law_world_here", "_law_some", "_law_before", "_law_due_here", "_law_found", "_law_names_here", "_law_homes", "_law_ends", "_law_name", "_law_roads", "_law_k", "_law_kind", "_law_home", "_law_place"] ["_law_line", "_law_world_here", "_law_some"] (defScope s_law_right) := ⟨rfl, rfl, rfl, by decide +kernel, rfl, by decide +kernel, by decide +kernel⟩
def spRight (K : PySem.W.Frag) (C : Addr) (T0 : List Addr) : Sp := fun vs H Q _ => ∃ (N : Addr → Prop) (x W L : Addr) (v1 v2 : V) (wd : Wd), vs = [.ref x, .ref W, .ref L] ∧ H L = some (.lst [v1, v2]) ∧ Wg N H mB 3 v1 ∧ Wg N H mB 3 v2 ∧ LineAt K C wd H x ∧ wd.Ok ∧ Dp K H (.ref W) wd.data ∧ Tabs T0 H ∧ SmAt H ∧
  ∀ H', (∀ c o, c ∉ T0 → ¬ N c → H c = some o → H' c = some o) → Tabs T0 H' → Q (.bl true) H'
theorem ok_right {T0 : List Addr} {f : Addr} {fd : FuncData} (ns : K.lookup sysModules = none) (F : Fun K "_law_right" "_law_right" s_law_right f fd) (T : Txt mg)
    (Nlaw_due : Fn K mg "_law_due" s_law_due ["_law_world_here", "_law_trains", "_law_ends"] f1 fd1) (Glaw_due : FnOk P w K mg base CX0 3 f1 fd1 ["_law_world_here", "_law_trains", "_law_ends"] (spDue K))
    (Nlaw_caught : Fn K mg "_law_caught" s_law_caught ["_law_line", "_law_some"] f2 fd2) (Glaw_caught : FnOk P w K mg base CX0 10 f2 fd2 ["_law_line", "_law_some"] (spCaught K C T0)) :
    GOk P w K mg base CX0 11 f fd ["_law_line", "_law_world_here", "_law_some"] (spRight K C T0) := by
  refine gok F sc_law_right (fun vs H Q E h => ?_) (fun cdv A outer s H vs Q E gd hr h => ?_)
  · obtain ⟨N, x, W, L, v1, v2, wd, rfl, _⟩ := h
    rfl
  · obtain ⟨N, x, W, L, v1, v2, wd, rfl, hL, w1, w2, hLine, ok, hD, tb, sm, k⟩ := h
    refine ⟨_, pss_cons (ps_set (i := 3) sc_law_right.nd rfl (Or.inl rfl) (pe_callB (call_reprQ ns gd hr) (by rfl) T.repr_ (by decide +kernel) (pa_cons (pv 2) pa_nil)))
      (pss_cons (ps_set (i := 4) sc_law_right.nd rfl (Or.inl rfl) (pe_call Glaw_due (hr.mono (by decide)) (by rfl) Nlaw_due.g Nlaw_due.kp Nlaw_due.b .nil pass0 (pa_cons (pv 1) (pa_cons (pe_ix (ixLK (K := K) rfl) (pv 2) pe_int (fun _ _ => rfl)) (pa_cons (pe_ix (ixLK (K := K) rfl) (pv 2) pe_int (fun _ _ => rfl)) pa_nil)))))
      (pss_cons (ps_set (i := 5) sc_law_right.nd rfl (Or.inl rfl) (pe_call Glaw_caught (hr.mono (by decide)) (by rfl) Nlaw_caught.g Nlaw_caught.kp Nlaw_caught.b .nil pass0 (pa_cons (pv 0) (pa_cons (pv 2) pa_nil))))
      (pss_cons (ps_if (pt_cmpR op_ne (pe_callB (call_reprQ ns gd hr) (by rfl) T.repr_ (by decide +kernel) (pa_cons (pv 2) pa_nil)) (pv 3) (nomark _)) (pss_one (ps_ret pe_bl)) pss_nil)
      (pss_cons (ps_if (pt_cmpR op_isN (pv 4) pe_non (nomark _)) (pss_cons (ps_set (i := 6) sc_law_right.nd rfl (Or.inr rfl) (pe_lc (own := [("_law_name", 9), ("_law_roads", 10)]) (g := gTup K 2 (gCons (gName 9) (gCons (gName 10) gNil))) (tt := tYes) rfl sc_law_right.nd (pi_list (pe_ix (ixLK (K := K) rfl) (pv 1) pe_int (fun _ _ => rfl))) (blkOk_by (own := [("_law_name", 9), ("_law_roads", 10)]) (N := ["_law_line", "_law_world_here", "_law_some", "_law_before", "_law_due_here", "_law_found", "_law_names_here", "_law_homes", "_law_ends", "_law_name", "_law_roads", "_law_k", "_law_kind", "_law_home", "_law_place"]) (sc := defScope s_law_right) (by decide +kernel)) (fun _ _ _ _ _ => (pg_tup (by rfl) (pgs_cons (pg_name (i := 9) sc_law_right.nd rfl (Or.inl rfl)) (pgs_cons (pg_name (i := 10) sc_law_right.nd rfl (Or.inl rfl)) pgs_nil)))) (fun _ _ _ _ _ => pts_nil) (fun _ _ _ _ _ => (pv 9))))
          (pss_cons (ps_setLc (i := 7) (own := [("_law_k", 11), ("_law_kind", 12), ("_law_home", 13)]) (g := gTup K 2 (gCons (gName 11) (gCons (gTup K 2 (gCons (gName 12) (gCons (gName 13) gNil))) gNil))) (tt := tYes) rfl sc_law_right.nd rfl rfl (sw_true rfl rfl rfl (by decide +kernel)) (pi_enum (by rfl) T.enumerate_ (pa_cons (pe_ix (ixLK (K := K) rfl) (pv 1) pe_int (fun _ _ => rfl)) pa_nil)) (blkOk_by (own := [("_law_k", 11), ("_law_kind", 12), ("_law_home", 13)]) (N := ["_law_line", "_law_world_here", "_law_some", "_law_before", "_law_due_here", "_law_found", "_law_names_here", "_law_homes", "_law_ends", "_law_name", "_law_roads", "_law_k", "_law_kind", "_law_home", "_law_place"]) (sc := defScope s_law_right) (by decide +kernel)) (fun _ _ _ _ _ => (pg_tup (by rfl) (pgs_cons (pg_name (i := 11) sc_law_right.nd rfl (Or.inl rfl)) (pgs_cons (pg_tup (by rfl) (pgs_cons (pg_name (i := 12) sc_law_right.nd rfl (Or.inl rfl)) (pgs_cons (pg_name (i := 13) sc_law_right.nd rfl (Or.inl rfl)) pgs_nil))) pgs_nil)))) (fun _ _ _ _ _ => pts_nil) (fun _ _ _ _ _ => (pe_ix (ixLK (K := K) rfl) (pv 6) (pe_op op_add (pv 11) (pv 13)) (fun _ _ => rfl))))
          (pss_cons (ps_set (i := 8) sc_law_right.nd rfl (Or.inl rfl) (pe_ifExp (pt_cmpR op_isN (pe_ix (ixLK (K := K) rfl) (pv 2) pe_int (fun _ _ => rfl)) pe_non (nomark _)) (pv 7) (pe_ix (ixLK (K := K) rfl) (pv 2) pe_int (fun _ _ => rfl))))
          (pss_one (ps_ret (pe_cmpR op_eq (pe_callB (call_reprQ ns gd hr) (by rfl) T.repr_ (by decide +kernel) (pa_cons (pv 5) pa_nil)) (pe_callB (call_reprQ ns gd hr) (by rfl) T.repr_ (by decide +kernel) (pa_cons (pe_tup (pa_cons pe_str (pa_cons (pe_tup (pa_cons (pe_callTy call_tuple_of (by rfl) T.tuple_ (by decide +kernel) (pa_cons (pe_lc (own := [("_law_name", 9), ("_law_place", 14)]) (g := gTup K 2 (gCons (gName 9) (gCons (gName 14) gNil))) (tt := tYes) rfl sc_law_right.nd (pi_seq (pe_ix (ixLK (K := K) rfl) (pv 2) pe_int (fun _ _ => rfl))) (blkOk_by (own := [("_law_name", 9), ("_law_place", 14)]) (N := ["_law_line", "_law_world_here", "_law_some", "_law_before", "_law_due_here", "_law_found", "_law_names_here", "_law_homes", "_law_ends", "_law_name", "_law_roads", "_law_k", "_law_kind", "_law_home", "_law_place"]) (sc := defScope s_law_right) (by decide +kernel)) (fun _ _ _ _ _ => (pg_tup (by rfl) (pgs_cons (pg_name (i := 9) sc_law_right.nd rfl (Or.inl rfl)) (pgs_cons (pg_name (i := 14) sc_law_right.nd rfl (Or.inl rfl)) pgs_nil)))) (fun _ _ _ _ _ => pts_nil) (fun _ _ _ _ _ => (pv 14))) pa_nil)) (pa_cons (pe_callTy call_tuple_of (by rfl) T.tuple_ (by decide +kernel) (pa_cons (pv 8) pa_nil)) pa_nil))) pa_nil))) pa_nil)) (nomark _))))))) pss_nil)
      (pss_cons (ps_if (pt_cmpR op_ne (pe_callB (call_reprQ ns gd hr) (by rfl) T.repr_ (by decide +kernel) (pa_cons (pv 5) pa_nil)) (pe_callB (call_reprQ ns gd hr) (by rfl) T.repr_ (by decide +kernel) (pa_cons (pv 4) pa_nil)) (nomark _)) (pss_one (ps_ret pe_bl)) pss_nil)
      (pss_cons (ps_if (pt_val (pe_callB call_isi (by rfl) T.isinstance_ (by decide +kernel) (pa_cons (pe_ix (ixTK (K := K) rfl) (pv 4) pe_int (fun _ _ => rfl)) (pa_cons (pe_bltn (v := .ty "list") (by rfl) T.list_ (by decide +kernel) rfl) pa_nil)))) (pss_one (ps_expr (pe_bm PySem.F.plainAttrs_list PySem.F.slot_list_append PySem.F.type_list_append mt_append (pe_ix (ixTK (K := K) rfl) (pv 4) pe_int (fun _ _ => rfl)) (pa_cons pe_str pa_nil)))) pss_nil)
      (pss_one (ps_ret (pe_cmpR op_eq (pe_callB (call_reprQ ns gd hr) (by rfl) T.repr_ (by decide +kernel) (pa_cons (pv 5) pa_nil)) (pe_callB (call_reprQ ns gd hr) (by rfl) T.repr_ (by decide +kernel) (pa_cons (pv 4) pa_nil)) (nomark _)))))))))), ?_⟩
    generalize hσ : L2.start _ _ = σ0
    obtain rfl : σ0 = [some (.ref x), some (.ref W), some (.ref L), none, none, none, none, none, none, none, none, none, none, none, none] := hσ.symm.trans rfl
    obtain ⟨c1, q1, b1⟩ := w1.dq (K := K) mB_one
    obtain ⟨c2, q2, b2⟩ := w2.dq (K := K) mB_one
    have DL : Dq K H (.ref L) (.list [c1, c2]) := .lst (SqL.of hL) (.cons q1 (.cons q2 .nil))
    have SX : ∀ d ∈ [c1, c2], Sb d 3 35620 := fun d hd => by
      simp only [List.mem_cons, List.not_mem_nil, or_false] at hd
      rcases hd with rfl | rfl
      · exact b1.mono (Nat.le_refl _) (by decide)
      · exact b2.mono (Nat.le_refl _) (by decide)
    have SL : Sb (.list [c1, c2]) 4 71242 := (sb_list SX).mono (Nat.le_refl _) (by show 2 * (35620 + 1) ≤ 71242; decide)
    obtain ⟨m1, m2, m3⟩ := SL.rep (by decide) (by decide)
    clear b1 b2 SX
    refine ⟨_, rfl, _, _, rfl, sm, DL, m1, m2, m3, ?_⟩
    simp only [List.set_cons_succ, List.set_cons_zero]
    have dp1 := wg_deep w1
    have th2 := w2.th
    have kd2 := wg_kids w2
    refine ⟨_, rfl, _, rfl, L, _, 0, v1, rfl, rfl, SqL.of hL, rfl, _, rfl, L, _, 1, v2, rfl, rfl, SqL.of hL, rfl, W, v1, v2, wd, rfl, hD, ok, dp1, th2, kd2, fun hd H1 s1 => ?_, fun t u hd p H1 s1 hpn hp => ?_⟩
    · have n1 := same_nt s1
      have k1 := KM.same tb s1
      simp only [List.set_cons_succ, List.set_cons_zero]
      dsimp only [gName, List.set_cons_succ, List.set_cons_zero]
      refine ⟨_, rfl, _, rfl, x, L, v1, v2, wd, rfl, s1 _ _ hL, hLine.nt n1, ok, dp1.nt n1, th_nt n1 th2, kd2.nt n1 th2, k1.tab, fun H2 u2 k2 fo => ?_⟩
      rw [standD_nt n1 dp1 th2, hd, placesT_nt n1 dp1, endsT_nt n1 th2] at fo
      obtain ⟨p, t, t1, t2, rfl, hp, ht, ht1, ht2⟩ := fo
      have n2 := n1.trans (KM.nt k1.tab k2)
      have k02 := k1.trans k2
      have sm2 := sm_nt sm n2
      refine ⟨_, rfl, _, _, rfl, sm2, dq_nt n2 DL, m1, m2, m3, _, rfl, rfl, _, rfl, iteNS rfl ?_⟩
      refine ⟨_, rfl, rfl, _, rfl, iteT ?_⟩
      have hL2 := n2 _ _ (by simp) hL
      have same := k H2 (fun c o nc _ h => k02.keep c o nc h) k02.tab
      obtain ⟨vp, vst, hw, hp0, hs0⟩ : ∃ vp vst, (∃ vl vu, SqL K H2 W [vp, vst, vl, vu]) ∧ Dp K H2 vp (.list (wd.ps.map dP)) ∧ Dp K H2 vst (.list (wd.st.map dP)) := by
        obtain ⟨wa, vp, vs_, vl, vu, e, hw, hp, hs, hl, hu⟩ := dp_four (dp_nt n2 hD)
        obtain rfl := V.ref.inj e
        exact ⟨vp, vs_, ⟨vl, vu, hw⟩, hp, hs⟩
      obtain ⟨vl, vu, hw⟩ := hw
      obtain ⟨ap, xp, rfl, hap, dap⟩ := dp_list hp0
      obtain ⟨as_, xst, rfl, has, das⟩ := dp_list hs0
      have lp : xp.length = wd.ps.length := by rw [dpAll_len dap, List.length_map]
      have ls : xst.length = wd.st.length := by rw [dpAll_len das, List.length_map]
      have p6 := ok.p6
      have sl := ok.sl
      refine ⟨_, rfl, W, _, 0, .ref ap, rfl, rfl, hw, rfl, ap, rfl, ⟨_, hap⟩, fun D hD' => some_it (walk_list (K := K) (xs := xp)) (src := wd.ps) (F := fun p => some (V.str p.1)) lp.symm (by omega) hD' (fun H' kb => (KB.seq' hD' kb).seq hap) ?_ ?_⟩
      · rintro i v a H' C B hv ha s k _
        obtain ⟨d, hd1, hd2⟩ := dpAll_get dap hv
        obtain ⟨p, hp, rfl⟩ := get_map hd1
        obtain rfl := Option.some.inj (ha.symm.trans hp)
        obtain ⟨t, y1, y2, rfl, ht, r1, r2⟩ := dp_two hd2
        obtain rfl := dp_str r1
        obtain rfl := dp_int r2
        exact ⟨t, _, rfl, (same_nt s).seqT ht, rfl, _, _, rfl, _, _, rfl, rfl, wipe2 (by simp) (by simp), lcY ⟨_, rfl, k _ _ rfl (Same.refl _)⟩⟩
      intro H3 s23 eD
      have e2 : wd.ps.filterMap (fun p => some (V.str p.1)) = (wd.ps.map (·.1)).map V.str := by
        rw [List.filterMap_eq_map', List.map_map]
        rfl
      rw [e2] at eD
      have n23 := same_nt s23
      simp only [List.set_cons_succ, List.set_cons_zero]
      dsimp only [gName, List.set_cons_succ, List.set_cons_zero]
      refine ⟨_, rfl, W, _, 1, .ref as_, rfl, rfl, n23.seq hw, rfl, as_, xst, rfl, n23.seq has, fun D2 hD2 => lc_it (walk_enum (K := K) (a := as_) (xs := xst)) (fun i H' => KB D2 H3 H' ∧ H' D2 = some (.lst ((List.range i).map fun k => V.str (homeAt wd k)))) ⟨KB.alloc hD2, upd_same⟩ (fun i H' _ h => (KB.seq' hD2 h.1).seq (n23.seq has)) ?_ ?_⟩
      · rintro i y H4 H5 hi ⟨kb, eD2⟩ ⟨tt, u, v, rfl, htt, rfl, h1, h2⟩
        obtain rfl := Option.some.inj h1
        have s34 : Same H3 (upd H4 tt (.tup [.int (i : Nat), v])) := fun c o e => same_alloc htt _ _ (kb c o (ne_of_none e hD2) e)
        have ntD : tt ≠ D2 := fun e => by rw [e, eD2] at htt; cases htt
        have kb5 : KB D2 H3 (upd H4 tt (.tup [.int (i : Nat), v])) := kb.trans (KB.alloc htt)
        have e5 : upd H4 tt (.tup [.int (i : Nat), v]) D2 = some (.lst ((List.range i).map fun k => V.str (homeAt wd k))) := by rw [upd_ne ntD.symm]; exact eD2
        have et : upd H4 tt (.tup [.int (i : Nat), v]) tt = some (.tup [.int (i : Nat), v]) := upd_same
        generalize upd H4 tt (.tup [.int (i : Nat), v]) = H5 at s34 kb5 e5 et ⊢
        obtain ⟨d, hd1, hd2⟩ := dpAll_get das h2
        obtain ⟨r, hr', rfl⟩ := get_map hd1
        obtain ⟨ts, y1, y2, rfl, hts, r1, r2⟩ := dp_two hd2
        obtain rfl := dp_str r1
        obtain rfl := dp_int r2
        have il : i < wd.st.length := (List.getElem?_eq_some_iff.mp hr').1
        obtain ⟨_, g0, g1⟩ := ok.st r (List.mem_of_getElem? hr')
        have ip : i < wd.ps.length := by omega
        have iq : i + 1 < wd.ps.length := by omega
        have ep : wd.ps[i]? = some wd.ps[i] := List.getElem?_eq_getElem ip
        have eq : wd.ps[i + 1]? = some wd.ps[i + 1] := List.getElem?_eq_getElem iq
        have eh : homeAt wd i = pick r.2 (wd.ps[i]).1 (wd.ps[i + 1]).1 := by unfold homeAt; rw [hr', ep, eq]
        have eix : atI ((wd.ps.map (·.1)).map V.str) ((i : Int) + r.2) = some (.str (homeAt wd i)) := by
          rw [eh]
          rcases (by omega : r.2 = 0 ∨ r.2 = 1) with e | e
          · rw [e, Int.add_zero]
            refine atI_nat ?_
            rw [List.getElem?_map, List.getElem?_map, ep]
            rfl
          · rw [e, show (i : Int) + 1 = ((i + 1 : Nat) : Int) by omega]
            refine atI_nat ?_
            rw [List.getElem?_map, List.getElem?_map, eq]
            rfl
        refine ⟨tt, _, rfl, SqT.of et, rfl, _, _, rfl, _, _, rfl, ts, _, rfl, (n23.trans (same_nt s34)).seqT hts, rfl, _, _, rfl, _, _, rfl, rfl, rfl, wipe3 (by simp) (by simp) (by simp), lcY ?_⟩
        refine ⟨_, rfl, _, rfl, _, rfl, _, _, rfl, rfl, D, _, _, _, rfl, rfl, SqL.of (s34 _ _ eD), eix, _, e5, ?_, fun c o n e => by rw [upd_ne n]; exact kb5 c o n e, ?_⟩
        · rw [List.length_map, List.length_range]
          exact Nat.lt_of_le_of_lt (m := 10) (by omega) (by rw [sizeLine_eq]; decide)
        · rw [upd_same, List.range_succ, List.map_append]
          rfl
      rintro H4 ⟨kb4, eD2⟩
      rw [ls] at eD2
      have s34 : Same H3 H4 := fun c o e => kb4 c o (ne_of_none e hD2) e
      simp only [List.set_cons_succ, List.set_cons_zero]
      dsimp only [gName, List.set_cons_succ, List.set_cons_zero]
      have s24 : Same H2 H4 := s23.trans s34
      have k04 := k02.trans (KM.same k02.tab s24)
      have n24 := same_nt s24
      have n04 := n2.trans n24
      have sm4 := sm_nt sm n04
      have hL4 := s24 _ _ hL2
      have htr : trainsD wd H v1 = none := by
        cases q : trainsD wd H v1 with
        | none => rfl
        | some d => unfold St.standD at hd; rw [q] at hd; cases hd
      have hi : isl H 1 4 v1 = true := by
        cases q : isl H 1 4 v1 with
        | true => rfl
        | false =>
          unfold trainsD at htr
          rw [q, if_neg Bool.false_ne_true] at htr
          cases htr
      obtain ⟨a, xs, rfl, hq, ha, l1, l4⟩ := isl_true hi
      have all := St.tr_all (wd := wd) (H := H) (xs := xs) (ah := []) (by
        unfold trainsD at htr
        rw [hi, if_pos rfl, hq] at htr
        exact htr)
      have pe : St.placesT H (.ref a) = xs.map fun y => V.str (prOf H y).2 := by unfold St.placesT; rw [hq]; rfl
      rw [pe] at ht1
      -- the data of what is told
      have wk := (wg_kid w1 hq).2
      obtain ⟨dp, hdp, ldp, sdp⟩ := dqs_of (K := K) (H := H) (k := 0) (n := 110) (xs := xs.map fun y => V.str (prOf H y).2) (fun z hz => by
        obtain ⟨y, hy, rfl⟩ := List.mem_map.mp hz
        obtain ⟨t, n, p, rfl, ht, ep⟩ := all y hy
        have wp := (wg_kid (wk _ hy) (seq_tup ht)).2 (.str p) (by simp)
        rw [ep]
        cases wp with
        | str z g l => exact ⟨_, .str _, (sb_str g l).mono (Nat.le_refl _) (by decide)⟩)
      obtain ⟨de, hde, lde, sde⟩ : ∃ de, DqAll K H (St.endsT wd H v2) de ∧ de.length ≤ 20 ∧ ∀ d ∈ de, Sb d 2 1780 := by
        unfold St.endsT
        by_cases hv : v2 = .non
        · rw [if_pos hv]
          obtain ⟨de, h1, h2, h3⟩ := dqs_of (K := K) (H := H) (k := 2) (n := 1780) (xs := homesT wd) (fun z hz => by
            obtain ⟨i, hi, rfl⟩ := List.mem_map.mp hz
            obtain ⟨g, l⟩ := home_ok ok (List.mem_range.mp hi)
            exact ⟨_, .str _, (sb_str g l).mono (by decide) (by decide)⟩)
          refine ⟨de, h1, ?_, h3⟩
          rw [h2]
          unfold homesT
          rw [List.length_map, List.length_range]
          omega
        · rw [if_neg hv]
          cases q : seqOf H v2 with
          | none => exact ⟨[], .nil, Nat.zero_le _, fun d h => by cases h⟩
          | some ys =>
            obtain ⟨ly, wy⟩ := wg_kid w2 q
            obtain ⟨de, h1, h2, h3⟩ := dqs_of (K := K) (H := H) (k := 2) (n := 1780) (xs := ys) (fun z hz => by
              obtain ⟨d, h1, h2⟩ := (wy z hz).dq (K := K) mB_one
              exact ⟨d, h1, h2.mono (Nat.le_refl _) (by decide)⟩)
            exact ⟨de, h1, by rw [h2]; exact Nat.le_trans ly (by decide), h3⟩
      have Sin : Sb (.tuple [.tuple dp, .tuple de]) 4 80000 := by
        refine (sb_tuple (k := 3) (m := 36000) (ds := [.tuple dp, .tuple de]) fun d hd => ?_).mono (Nat.le_refl _) (by show 2 * (36000 + 1) ≤ 80000; decide)
        simp only [List.mem_cons, List.not_mem_nil, or_false] at hd
        rcases hd with rfl | rfl
        · refine (sb_tuple (k := 0) (m := 110) sdp).mono (by decide) ?_
          rw [ldp, List.length_map]
          exact Nat.le_trans (Nat.mul_le_mul_right _ (show xs.length ≤ 4 by omega)) (by decide)
        · exact (sb_tuple (k := 2) (m := 1780) sde).mono (Nat.le_refl _) (Nat.le_trans (Nat.mul_le_mul_right _ lde) (by decide))
      have Sall : Sb (.tuple [.str (Str.ofString "made"), .tuple [.tuple dp, .tuple de]]) 5 160004 := by
        refine (sb_tuple (k := 4) (m := 80000) (ds := [.str (Str.ofString "made"), .tuple [.tuple dp, .tuple de]]) fun d hd => ?_).mono (Nat.le_refl _) (by show 2 * (80000 + 1) ≤ 160004; decide)
        simp only [List.mem_cons, List.not_mem_nil, or_false] at hd
        rcases hd with rfl | rfl
        · exact (sb_str (good_of _) (m := 50) (by decide +kernel)).mono (by decide) (by decide)
        · exact Sin
      obtain ⟨r1, r2, r3⟩ := Sall.rep (by decide) (by decide)
      clear Sin Sall sdp sde ldp lde
      have hp4 := s24 _ _ hp
      have ht4 := s24 _ _ ht
      have ht14 := s24 _ _ ht1
      have ht24 := s24 _ _ ht2
      have DF : Dq K H4 (.ref p) (.tuple [.str (Str.ofString "made"), .tuple [.tuple dp, .tuple de]]) := .tup (SqT.of hp4) (.cons (.str _) (.cons (.tup (SqT.of ht4) (.cons (.tup (SqT.of ht14) (dqAll_nt n04 hdp)) (.cons (.tup (SqT.of ht24) (dqAll_nt n04 hde)) .nil))) .nil))
      have ha4 : H4 a = some (.lst xs) ∨ H4 a = some (.tup xs) := ha.imp (n04 _ _ (by simp)) (n04 _ _ (by simp))
      have tail : ∀ {e8 : V} {τ : L2.St}, τ = [some (V.ref x), some (V.ref W), some (V.ref L), some (V.str (PyData.list [c1, c2]).shown), some V.non, some (V.ref p), some (V.ref D), some (V.ref D2), some e8, none, none, none, none, none, none] → (∃ b, e8 = .ref b ∧ (H4 b = some (.lst (St.endsT wd H v2)) ∨ H4 b = some (.tup (St.endsT wd H v2)))) →
          (tOp rEq (tCB (rReprQ K) (tCons (tVar 5) tNil)) (tCB (rReprQ K) (tCons (tTup (tCons (tC (V.str (Str.ofString "made"))) (tCons (tTup (tCons (tCB (fun xs H_1 Q => ∃ p ys, xs = [V.ref p] ∧ ((SqL K H_1 p ys ∧ ∀ (l : Addr), H_1 l = none → Q (V.ref l) (upd H_1 l (HO.tup ys))) ∨ SqT K H_1 p ys ∧ Q (V.ref p) H_1)) (tCons (tLc (iSeq K (tOp (rIxL K) (tVar 2) (tC (V.int 0)))) (gTup K 2 (gCons (gName 9) (gCons (gName 14) gNil))) tYes (tVar 14) (List.map (fun x => x.snd) [(Str.ofString "_law_name", 9), (Str.ofString "_law_place", 14)])) tNil)) (tCons (tCB (fun xs H_1 Q => ∃ p ys, xs = [V.ref p] ∧ ((SqL K H_1 p ys ∧ ∀ (l : Addr), H_1 l = none → Q (V.ref l) (upd H_1 l (HO.tup ys))) ∨ SqT K H_1 p ys ∧ Q (V.ref p) H_1)) (tCons (tVar 8) tNil)) tNil))) tNil))) tNil))) τ H4 Q := by
        rintro e8 τ rfl ⟨b8, rfl, hb8⟩
        refine ⟨_, rfl, _, _, rfl, sm4, DF, r1, r2, r3, ?_⟩
        obtain ⟨J, one, wJ⟩ := walk_seq (K := K) ha4
        refine ⟨_, rfl, L, _, 0, _, rfl, rfl, SqL.of hL4, rfl, a, J, rfl, one H4 rfl, fun D3 hD3 => some_it wJ (src := xs) (F := fun y => some (V.str (prOf H y).2)) rfl (by omega) hD3 (fun H' kb => ?_) ?_ ?_⟩
        · rcases ha4 with e | e
          · rw [e]; exact kb _ _ (ne_of_none e hD3) e
          · rw [e]; exact kb _ _ (ne_of_none e hD3) e
        · rintro m v v' H' C' B hv hv' s3 k3 _
          obtain rfl := Option.some.inj (hv.symm.trans hv')
          obtain ⟨t, n, p, rfl, ht, ep⟩ := all v (List.mem_of_getElem? hv)
          have ht3 : H' t = some (.tup [.str n, .str p]) := s3 _ _ (n04 _ _ (by simp) ht)
          exact ⟨t, _, rfl, SqT.of ht3, rfl, _, _, rfl, _, _, rfl, rfl, wipe2 (by simp) (by simp), lcY ⟨_, rfl, k3 _ _ (by rw [ep]) (Same.refl _)⟩⟩
        · intro H5 s45 eD3
          rw [show xs.filterMap (fun y => some (V.str (prOf H y).2)) = xs.map fun y => V.str (prOf H y).2 from by rw [List.filterMap_eq_map']] at eD3
          refine ⟨D3, _, rfl, .inl ⟨SqL.of eD3, fun p1 hp1 => ?_⟩⟩
          have s46 : Same H4 (upd H5 p1 (.tup (xs.map fun y => V.str (prOf H y).2))) := s45.trans (same_alloc hp1)
          have e1 : upd H5 p1 (.tup (xs.map fun y => V.str (prOf H y).2)) p1 = some (.tup (xs.map fun y => V.str (prOf H y).2)) := upd_same
          generalize upd H5 p1 (.tup (xs.map fun y => V.str (prOf H y).2)) = H6 at s46 e1 ⊢
          have last : ∀ {p2 : Addr} {H7 : Hp}, Same H6 H7 → H7 p2 = some (.tup (St.endsT wd H v2)) → [V.ref p1, V.ref p2].length ≤ sizeLine ∧ ∀ p3, H7 p3 = none → [V.str (Str.ofString "made"), V.ref p3].length ≤ sizeLine ∧ ∀ p4, upd H7 p3 (.tup [.ref p1, .ref p2]) p4 = none → rReprQ K [.ref p4] (upd (upd H7 p3 (.tup [.ref p1, .ref p2])) p4 (.tup [.str (Str.ofString "made"), .ref p3])) fun z H9 => rEq (V.str (PyData.tuple [.str (Str.ofString "made"), .tuple [.tuple dp, .tuple de]]).shown) z H9 Q := by
            intro p2 H7 s67 e2
            refine ⟨by show 2 ≤ sizeLine; decide, fun p3 hp3 => ⟨by show 2 ≤ sizeLine; decide, fun p4 hp4' => ?_⟩⟩
            have s78 : Same H7 (upd H7 p3 (.tup [.ref p1, .ref p2])) := same_alloc hp3
            have e3 : upd H7 p3 (.tup [.ref p1, .ref p2]) p3 = some (.tup [.ref p1, .ref p2]) := upd_same
            generalize upd H7 p3 (.tup [.ref p1, .ref p2]) = H8 at s78 e3 hp4' ⊢
            have s89 : Same H8 (upd H8 p4 (.tup [.str (Str.ofString "made"), .ref p3])) := same_alloc hp4'
            have e4 : upd H8 p4 (.tup [.str (Str.ofString "made"), .ref p3]) p4 = some (.tup [.str (Str.ofString "made"), .ref p3]) := upd_same
            generalize upd H8 p4 (.tup [.str (Str.ofString "made"), .ref p3]) = H9 at s89 e4 ⊢
            have s49 := s46.trans (s67.trans (s78.trans s89))
            have n09 := n04.trans (same_nt s49)
            have k09 := k04.trans (KM.same k04.tab s49)
            have q9 := k H9 (fun c o nc _ h => k09.keep c o nc h) k09.tab
            refine ⟨_, _, rfl, sm_nt sm4 (same_nt s49), .tup (SqT.of e4) (.cons (.str _) (.cons (.tup (SqT.of (s89 _ _ e3)) (.cons (.tup (SqT.of (s89 _ _ (s78 _ _ (s67 _ _ e1)))) (dqAll_nt n09 hdp)) (.cons (.tup (SqT.of (s89 _ _ (s78 _ _ e2))) (dqAll_nt n09 hde)) .nil))) .nil)), r1, r2, r3, rfl, ?_⟩
            rw [decide_eq_true rfl]
            exact q9
          refine ⟨_, rfl, b8, St.endsT wd H v2, rfl, ?_⟩
          rcases hb8 with e | e
          · exact .inl ⟨SqL.of (s46 _ _ e), fun p2 hp2 => last (same_alloc hp2) upd_same⟩
          · exact .inr ⟨SqT.of (s46 _ _ e), last (Same.refl _) (s46 _ _ e)⟩
      refine ⟨_, rfl, L, _, 1, v2, rfl, rfl, SqL.of hL4, rfl, rfl, _, rfl, ?_⟩
      by_cases hv : v2 = .non
      · rw [decide_eq_true hv]
        have ee : St.endsT wd H v2 = homesT wd := if_pos hv
        exact iteT ⟨_, rfl, tail rfl ⟨D2, rfl, .inl (by rw [ee]; exact eD2)⟩⟩
      · rw [decide_eq_false hv]
        refine iteF ⟨_, rfl, L, _, 1, v2, rfl, rfl, SqL.of hL4, rfl, tail rfl ?_⟩
        have hen : endsD wd H v2 = none := by
          unfold St.standD at hd
          rw [htr] at hd
          exact hd
        have ha2 : areD wd H v2 = true := by
          cases q : areD wd H v2 with
          | true => rfl
          | false =>
            unfold endsD at hen
            rw [if_neg hv, q, if_neg Bool.false_ne_true] at hen
            cases hen
        have hi2 : isl H wd.st.length wd.st.length v2 = true := by
          unfold areD at ha2
          exact (Bool.and_eq_true_iff.mp ha2).1
        obtain ⟨a2, xs2, rfl, hq2, hb2, _, _⟩ := isl_true hi2
        have ee : St.endsT wd H (.ref a2) = xs2 := by
          unfold St.endsT
          rw [if_neg hv, hq2]
          rfl
        rw [ee]
        exact ⟨a2, rfl, hb2.imp (n04 _ _ (by simp)) (n04 _ _ (by simp))⟩
    · have n1 := same_nt s1
      have k1 := KM.same tb s1
      simp only [List.set_cons_succ, List.set_cons_zero]
      dsimp only [gName, List.set_cons_succ, List.set_cons_zero]
      refine ⟨_, rfl, _, rfl, x, L, v1, v2, wd, rfl, s1 _ _ hL, hLine.nt n1, ok, dp1.nt n1, th_nt n1 th2, kd2.nt n1 th2, k1.tab, fun H2 u2 k2 fo => ?_⟩
      rw [standD_nt n1 dp1 th2, hd] at fo
      obtain ⟨p', rfl, hp'⟩ := fo
      have n12 := KM.nt k1.tab k2
      have n2 := n1.trans n12
      have k02 := k1.trans k2
      have hp2 := n12 _ _ (by simp) hp
      have sm2 := sm_nt sm n2
      refine ⟨_, rfl, _, _, rfl, sm2, dq_nt n2 DL, m1, m2, m3, _, rfl, rfl, _, rfl, iteNS rfl ?_⟩
      refine ⟨_, rfl, rfl, _, rfl, iteF ?_⟩
      have wu := (due_wg w1 w2 hd).keep (Kw.nt n2)
      obtain ⟨c, q, b⟩ := wu.dq (K := K) mB_one
      have sbt : ∀ {c : PyData}, Sb c 3 60000 → Sb (.tuple [.str (Str.ofString t.s), c]) 4 120004 := fun {c} h => by
        refine (sb_tuple (k := 3) (m := 60000) (ds := [.str (Str.ofString t.s), c]) fun d hd => ?_).mono (by decide) (by show 2 * (60000 + 1) ≤ 120004; decide)
        simp only [List.mem_cons, List.not_mem_nil, or_false] at hd
        rcases hd with rfl | rfl
        · refine (sb_str (good_of _) (tag_len t)).mono (by decide) (by decide)
        · exact h
      have both : ∀ {H' : Hp} {c : PyData}, H' p = some (.tup [.str (Str.ofString t.s), u]) → H' p' = some (.tup [.str (Str.ofString t.s), u]) → Dq K H' u c → Dq K H' (.ref p) (.tuple [.str (Str.ofString t.s), c]) ∧ Dq K H' (.ref p') (.tuple [.str (Str.ofString t.s), c]) := fun h1 h2 q =>
        ⟨.tup (SqT.of h1) (.cons (.str _) (.cons q .nil)), .tup (SqT.of h2) (.cons (.str _) (.cons q .nil))⟩
      obtain ⟨r1, r2, r3⟩ := (sbt (b.mono (k' := 3) (m' := 60000) (Nat.le_refl _) (by decide))).rep (by decide) (by decide)
      obtain ⟨Dd, Df⟩ := both hp2 hp' q
      refine ⟨_, rfl, _, _, rfl, sm2, Df, r1, r2, r3, _, rfl, _, _, rfl, sm2, Dd, r1, r2, r3, rfl, _, rfl, iteNS rfl ?_⟩
      have same := k H2 (fun c o nc _ h => k02.keep c o nc h) k02.tab
      have fin : ∃ v, [some (V.ref x), some (V.ref W), some (V.ref L), some (V.str (PyData.list [c1, c2]).shown), some (V.ref p), some (V.ref p'), none, none, none, none, none, none, none, none, none][5]? = some (some v) ∧ rReprQ K [v] H2 (fun y H1 => ∃ v, [some (V.ref x), some (V.ref W), some (V.ref L), some (V.str (PyData.list [c1, c2]).shown), some (V.ref p), some (V.ref p'), none, none, none, none, none, none, none, none, none][4]? = some (some v) ∧ rReprQ K [v] H1 (fun z H1 => rEq y z H1 Q)) := by
        refine ⟨_, rfl, _, _, rfl, sm2, Df, r1, r2, r3, _, rfl, _, _, rfl, sm2, Dd, r1, r2, r3, rfl, ?_⟩
        rw [decide_eq_true rfl]
        exact same
      have i1 : atI [V.str (Str.ofString t.s), u] 1 = some u := rfl
      cases wu with
      | non => exact ⟨_, rfl, p, _, 1, _, rfl, rfl, SqT.of hp2, i1, _, _, _, _, false, rfl, .ty "list", .base .non, (by rfl), _, rfl, iteF fin⟩
      | bl b => exact ⟨_, rfl, p, _, 1, _, rfl, rfl, SqT.of hp2, i1, _, _, _, _, false, rfl, .ty "list", .base (.bl b), (by rfl), _, rfl, iteF fin⟩
      | int i => exact ⟨_, rfl, p, _, 1, _, rfl, rfl, SqT.of hp2, i1, _, _, _, _, false, rfl, .ty "list", .base (.int i), (by rfl), _, rfl, iteF fin⟩
      | str z => exact ⟨_, rfl, p, _, 1, _, rfl, rfl, SqT.of hp2, i1, _, _, _, _, false, rfl, .ty "list", .base (.str z), (by rfl), _, rfl, iteF fin⟩
      | tup a xs j h => exact ⟨_, rfl, p, _, 1, _, rfl, rfl, SqT.of hp2, i1, _, _, _, _, false, rfl, .ty "list", .base (.tup h), (by rfl), _, rfl, iteF fin⟩
      | dic a h => exact ⟨_, rfl, p, _, 1, _, rfl, rfl, SqT.of hp2, i1, _, _, _, _, false, rfl, .ty "list", .base (.dK h), (by rfl), _, rfl, iteF fin⟩
      | lst a xs j ea na la hx =>
        have w10 := (Wg.lst a xs 2 ea na la hx).more mB_mono ea (good_of "more") (by decide +kernel)
        obtain ⟨c', q', b'⟩ := w10.dq (K := K) (fun _ => Nat.succ_le_succ (Nat.zero_le _))
        refine ⟨_, rfl, p, _, 1, _, rfl, rfl, SqT.of hp2, i1, _, _, _, _, true, rfl, .ty "list", .base (.lst ea), (by rfl), _, rfl, iteT ⟨_, rfl, p, _, 1, _, rfl, rfl, SqT.of hp2, i1, .inl ⟨rfl, _, SqL.of ea⟩, a, xs, _, rfl, rfl, ea, lt_line _ (Nat.le_trans la (by decide)), ?_⟩⟩
        have npa : p ≠ a := ne_of hp2 ea (by simp)
        have npa' : p' ≠ a := ne_of hp' ea (by simp)
        have hp3 : upd H2 a (.lst (xs ++ [.str "more"])) p = some (.tup [.str (Str.ofString t.s), .ref a]) := by rw [upd_ne npa]; exact hp2
        have hp3' : upd H2 a (.lst (xs ++ [.str "more"])) p' = some (.tup [.str (Str.ofString t.s), .ref a]) := by rw [upd_ne npa']; exact hp'
        have sm3 : SmAt (upd H2 a (.lst (xs ++ [.str "more"]))) := by
          obtain ⟨o, e⟩ := sm2
          exact ⟨o, by rw [upd_ne (ne_of e ea (by simp))]; exact e⟩
        have kf : ∀ c o, c ∉ T0 → ¬ N c → H c = some o → upd H2 a (.lst (xs ++ [.str "more"])) c = some o := fun c o nc nn h => by
          rw [upd_ne (fun z => nn (by rw [z]; exact na))]
          exact k02.keep c o nc h
        have tb3 : Tabs T0 (upd H2 a (.lst (xs ++ [.str "more"]))) := fun y hy => by
          obtain ⟨ps, e, z⟩ := k02.tab y hy
          exact ⟨ps, by rw [upd_ne (ne_of e ea (by simp))]; exact e, z⟩
        have last := k _ kf tb3
        obtain ⟨r1, r2, r3⟩ := (sbt (b'.mono (k' := 3) (m' := 60000) (Nat.le_refl _) (by decide))).rep (by decide) (by decide)
        obtain ⟨Dd', Df'⟩ := both hp3 hp3' q'
        refine ⟨_, rfl, _, _, rfl, sm3, Df', r1, r2, r3, _, rfl, _, _, rfl, sm3, Dd', r1, r2, r3, rfl, ?_⟩
        rw [decide_eq_true rfl]
        exact last
end
end T9

set_option maxRecDepth 100000
set_option maxHeartbeats 3200000
namespace T9
open PySem PySem.Spec PyProof.Rows L2 GxR Gd TL My
theorem hide_kb {b : Addr} {H H' : Hp} (k : KB b H H') : Nt (hide b H) (hide b H') := fun c o _ h => by
  obtain ⟨n, e⟩ := hide_some h
  rw [hide_ne n]
  exact k c o n e
section
variable {P : Program} {w : World} {K : PySem.W.Frag} {mg : Str → Option Value} {base : Heap} {f1 f2 : Addr} {fd1 fd2 : FuncData}
abbrev s_law_odd : Stmt := top 46
theorem sc_law_odd : FnScope ["_law_box_here", "_law_world_here", "_law_name"] ["_law_box_here", "_law_world_here"] (defScope s_law_odd) := ⟨rfl, rfl, rfl, by decide +kernel, rfl, by decide +kernel, by decide +kernel⟩
def spOdd (K : PySem.W.Frag) : Sp := fun vs H Q _ => ∃ (b W : Addr) (n : Int) (wd : Wd) (N : Addr → Prop), vs = [.ref b, .ref W] ∧ Bx b n H ∧ 0 ≤ n ∧ n ≤ 90000 ∧ wd.Ok ∧ (∀ a, H a = none → N a) ∧ Dp K (hide b H) (.ref W) wd.data ∧ ∀ v H', KB b H H' → Bx b (n + 2) H' → Wg N H' mB 1 v → Q v H'
theorem ok_odd {f : Addr} {fd : FuncData} (F : Fun K "_law_odd" "_law_odd" s_law_odd f fd) (T : Txt mg)
    (Nlaw_take : Fn K mg "_law_take" sTake ["_law_box_here", "_law_many"] f1 fd1) (Glaw_take : FnOk P w K mg base CX0 1 f1 fd1 ["_law_box_here", "_law_many"] spTake) :
    FnOk P w K mg base CX0 2 f fd ["_law_box_here", "_law_world_here"] (spOdd K) := by
  refine F.ok sc_law_odd (fun vs H Q E h => ?_) (fun cdv A outer s H vs Q E hr h => ?_)
  · obtain ⟨b, W, n, wd, N, rfl, _⟩ := h
    rfl
  · obtain ⟨b, W, n, wd, N, rfl, hb, n0, n9, ok, hN, dW, k⟩ := h
    refine ⟨_, pss_cons (ps_set (i := 2) sc_law_odd.nd rfl (Or.inl rfl) (pe_ix (ixTK (K := K) rfl) (pe_ix (ixLK (K := K) rfl) (pe_ix (ixLK (K := K) rfl) (pv 1) pe_int (fun _ _ => rfl)) (pe_call Glaw_take (hr.mono (by decide)) (by rfl) Nlaw_take.g Nlaw_take.kp Nlaw_take.b .nil pass0 (pa_cons (pv 0) (pa_cons (pe_callB call_len_seq (by rfl) T.len_ PySem.boot_len (pa_cons (pe_ix (ixLK (K := K) rfl) (pv 1) pe_int (fun _ _ => rfl)) pa_nil)) pa_nil))) (fun _ _ => rfl)) pe_int (fun _ _ => rfl)))
      (pss_one (ps_ret (pe_ix (ixLK (K := K) rfl) (pe_lst (pa_cons pe_non (pa_cons pe_bl (pa_cons pe_int (pa_cons pe_str (pa_cons pe_str (pa_cons pe_str (pa_cons (pe_lst (pa_cons (pv 2) pa_nil)) (pa_cons (pe_tup (pa_cons (pv 2) pa_nil)) (pa_cons pe_dnewK (pa_cons (pe_ix (ixLK (K := K) rfl) (pv 1) pe_int (fun _ _ => rfl)) (pa_cons (pe_op op_pow pe_int pe_int) (pa_cons (pv 2) pa_nil))))))))))))) (pe_call Glaw_take (hr.mono (by decide)) (by rfl) Nlaw_take.g Nlaw_take.kp Nlaw_take.b .nil pass0 (pa_cons (pv 0) (pa_cons pe_int pa_nil))) (fun _ _ => rfl)))), ?_⟩
    generalize hσ : L2.start _ _ = σ0
    obtain rfl : σ0 = [some (.ref b), some (.ref W), none] := hσ.symm.trans rfl
    obtain ⟨W', x0, x1, x2, x3, eW, hW, q0, q1, q2, q3⟩ := dp_four dW
    obtain rfl := V.ref.inj eW
    obtain ⟨a0, xs0, rfl, hx0, hd0⟩ := dp_list q0
    obtain rfl := dp_str q3
    have l0 : xs0.length = wd.ps.length := by rw [dpAll_len hd0, List.length_map]
    have p2 := ok.p2
    have p6 := ok.p6
    have nt := hide_nt b H
    refine ⟨_, rfl, W, _, 0, _, rfl, rfl, nt.seq hW, rfl, _, rfl, _, rfl, W, _, 0, _, rfl, rfl, nt.seq hW, rfl, a0, xs0, rfl, .inl (nt.seq hx0), b, _, n, rfl, hb, by omega, by omega, dec9000 (by omega) (by omega), fun at_ H1 m0 m1 off1 B1 => ?_⟩
    have kb1 : KB b H H1 := KB.off off1
    have nt1 := (hide_kb kb1).trans (hide_nt b H1)
    obtain ⟨v, hv, ev⟩ := atI_ex (xs := xs0) m0 (by omega)
    obtain ⟨i, hi⟩ := List.mem_iff_getElem?.mp hv
    obtain ⟨d, hg1, hg2⟩ := dpAll_get hd0 hi
    obtain ⟨p, hp, rfl⟩ := get_map hg1
    obtain ⟨t, y1, y2, rfl, ht, r1, r2⟩ := dp_two hg2
    obtain rfl := dp_str r1
    have nk := (ok.nm p (List.mem_of_getElem? hp)).1
    refine ⟨a0, _, at_, _, rfl, rfl, nt1.seq hx0, ev, t, _, 0, _, rfl, rfl, nt1.seqT ht, rfl, ?_⟩
    have hW1 := nt1.seq hW
    generalize p.1 = z at nk
    simp only [List.set_cons_succ, List.set_cons_zero]
    refine ⟨_, rfl, (by show 1 ≤ sizeLine; decide), fun a8 h8 => ?_⟩
    have S2 : Same H1 (upd H1 a8 (.lst [.str z])) := same_alloc h8
    have e8 : upd H1 a8 (.lst [.str z]) a8 = some (.lst [.str z]) := upd_same
    generalize upd H1 a8 (.lst [.str z]) = H2 at S2 e8 ⊢
    refine ⟨_, rfl, (by show 1 ≤ sizeLine; decide), fun a9 h9 => ?_⟩
    have S3 : Same H2 (upd H2 a9 (.tup [.str z])) := same_alloc h9
    have e9 : upd H2 a9 (.tup [.str z]) a9 = some (.tup [.str z]) := upd_same
    generalize upd H2 a9 (.tup [.str z]) = H3 at S3 e9 ⊢
    intro a10 h10
    have S4 : Same H3 (upd H3 a10 (.dK [])) := same_alloc h10
    have e10 : upd H3 a10 (.dK []) a10 = some (.dK []) := upd_same
    generalize upd H3 a10 (.dK []) = H4 at S4 e10 ⊢
    have S14 := S2.trans (S3.trans S4)
    refine ⟨_, rfl, W, _, 3, _, rfl, rfl, (same_nt S14).seq hW1, rfl, ?_⟩
    refine ⟨_, _, rfl, rfl, ⟨by decide, by decide, by decide⟩, _, rfl, by show 12 ≤ sizeLine; decide, fun L hL => ?_⟩
    have B4 : Bx b (n + 1) H4 := B1.same (by obtain ⟨x, y, z, h1, _⟩ := B1; rw [h1]; exact S14 _ _ h1)
    refine ⟨_, rfl, b, 12, n + 1, rfl, B4.alloc hL, by omega, by decide, by decide, fun m H5 m0 m1 off5 B5 => ?_⟩
    have nLb : L ≠ b := B4.fresh hL
    obtain ⟨v, hv, ev⟩ := atI_ex (xs := [V.non, .bl true, .int 0, .str (Str.ofString ""), .str (Str.ofString "A"), .str (Str.ofString "abcdefg"), .ref a8, .ref a9, .ref a10, .str wd.sp, .int (10 ^ (29 : Int).toNat), .str z]) m0 m1
    refine ⟨L, _, m, v, rfl, rfl, SqL.of (by rw [off5 L nLb]; exact upd_same), ev, ?_⟩
    have kb5 : KB b H H5 := kb1.trans (KB.trans (fun c o _ e => S14 c o e) ((KB.alloc hL).trans (KB.off off5)))
    have s8 : ∀ {c o}, c ≠ b → H4 c = some o → H5 c = some o := fun nc e => (KB.off off5) _ _ nc (same_alloc hL _ _ e)
    have n8 : H a8 = none := by
      cases e : H a8 with
      | none => rfl
      | some o => rw [kb1 _ _ (B1.fresh h8) e] at h8; cases h8
    have nb8 := B1.fresh h8
    have e84 := S4 _ _ (S3 _ _ e8)
    have e94 := S4 _ _ e9
    have nbx : ∀ {c o}, H4 c = some o → (∀ xs, o ≠ .lst xs) → c ≠ b := fun h m e => by
      obtain ⟨_, _, _, q, _⟩ := id B4
      rw [e, q] at h
      exact m _ (Option.some.inj h).symm
    refine k v H5 kb5 (B5.mono (by omega)) ?_
    have sm : ∀ {z : Str}, NameOk z → ∀ k, Wg N H5 mB k (.str z) := fun h k => .str _ h.good (by have := h.2.1; omega) k
    simp only [List.mem_cons, List.not_mem_nil, or_false] at hv
    rcases hv with rfl | rfl | rfl | rfl | rfl | rfl | rfl | rfl | rfl | rfl | rfl | rfl
    · exact .non _
    · exact .bl _ _
    · exact .int _ (by decide) _
    · exact .str _ (good_of _) (by decide +kernel) _
    · exact .str _ (good_of _) (by decide +kernel) _
    · exact .str _ (good_of _) (by decide +kernel) _
    · exact .lst a8 _ 0 (s8 nb8 e84) (hN _ n8) (mB_one 0) fun x hx => by rw [List.mem_singleton.mp hx]; exact sm nk 0
    · exact .tup a9 _ 0 (s8 (nbx e94 (by simp)) e94) (mB_one 0) fun x hx => by rw [List.mem_singleton.mp hx]; exact sm nk 0
    · exact .dic a10 (s8 (nbx e10 (by simp)) e10) 0
    · exact sm ok.sn 1
    · exact .int _ (by decide) _
    · exact sm nk 1
end
end T9

set_option maxRecDepth 100000
set_option maxHeartbeats 3200000
namespace T9
open PySem PySem.Spec PyProof.Rows L2 GxR Gd TL My
theorem cut_to {xs : List V} (j : Nat) : cutV xs none (some (j : Int)) = xs.take j := by
  unfold cutV
  rw [HT.sIx_none, HT.sIx_nat]
  simp only [List.drop_zero, Nat.sub_zero]
  by_cases h : j ≤ xs.length
  · rw [Nat.min_eq_left h]
  · rw [Nat.min_eq_right (by omega), List.take_of_length_le (Nat.le_refl _), List.take_of_length_le (by omega)]
theorem cut_from {xs : List V} (j : Nat) : cutV xs (some (j : Int)) none = xs.drop j := by
  unfold cutV
  rw [HT.sIx_none, HT.sIx_nat]
  by_cases h : j ≤ xs.length
  · rw [Nat.min_eq_left h, List.take_of_length_le (by rw [List.length_drop]; exact Nat.le_refl _)]
  · rw [Nat.min_eq_right (by omega), List.drop_of_length_le (Nat.le_refl _), List.drop_of_length_le (by omega)]
    simp
theorem lsl_to {K : PySem.W.Frag} {σ : L2.St} {H : Hp} {C : VK} {W : Addr} {xs : List V} {j : Nat} (h2 : σ[2]? = some (some (.ref W))) (h4 : σ[4]? = some (some (.int (j : Int)))) (eW : H W = some (.lst xs))
    (k : ∀ p H', Same H H' → H p = none → H' p = some (.lst (xs.take j)) → C (.ref p) H') : tSl (rSlL K) (tVar 2) tNoPart (tPart (tVar 4)) σ H C := by
  refine ⟨_, h2, _, h4, _, rfl, W, xs, rfl, SqL.of eW, fun p hp => ?_⟩
  rw [cut_to]
  exact k p _ (same_alloc hp) hp upd_same
theorem lsl_from {K : PySem.W.Frag} {σ : L2.St} {H : Hp} {C : VK} {W : Addr} {xs : List V} {i : Nat} {lo : TE} (h2 : σ[2]? = some (some (.ref W))) (hlo : ∀ (H : Hp) (G : VK), G (.int (i : Int)) H → lo σ H G) (eW : H W = some (.lst xs))
    (k : ∀ p H', Same H H' → H p = none → H' p = some (.lst (xs.drop i)) → C (.ref p) H') : tSl (rSlL K) (tVar 2) (tPart lo) tNoPart σ H C := by
  refine ⟨_, h2, hlo _ _ ⟨_, rfl, W, xs, rfl, SqL.of eW, fun p hp => ?_⟩⟩
  rw [cut_from]
  exact k p _ (same_alloc hp) hp upd_same
theorem kb_fresh {b p : Addr} {n : Int} {H H' : Hp} (k : KB b H H') (B : Bx b n H') (h : H' p = none) : H p = none := by
  cases e : H p with
  | none => rfl
  | some o => rw [k _ _ (B.fresh h) e] at h; cases h
theorem slA_of {K : PySem.W.Frag} {H : Hp} {a : Addr} {xs : List V} {lo hi : Option Int} {Q : VK} (ha : H a = some (.tup xs)) (k : ∀ p H', Same H H' → H' p = some (.tup (cutV xs lo hi)) → Q (.ref p) H') : rSlA K (.ref a) lo hi H Q := by
  refine ⟨a, xs, rfl, SqT.of ha, fun h => ?_, fun _ p hp => k p _ (same_alloc hp) upd_same⟩
  refine k a H (Same.refl H) ?_
  rw [ha]
  unfold cutV
  rw [h.1, h.2, List.drop_zero, Nat.sub_zero, List.take_length]
theorem catA_of {K : PySem.W.Frag} {H : Hp} {a b : Addr} {xs ys : List V} {Q : VK} (ha : H a = some (.tup xs)) (hb : H b = some (.tup ys)) (hl : xs.length + ys.length ≤ sizeLine) (k : ∀ p H', Same H H' → H' p = some (.tup (xs ++ ys)) → Q (.ref p) H') : rCatA K (.ref a) (.ref b) H Q := by
  refine ⟨a, b, xs, ys, rfl, rfl, SqT.of ha, SqT.of hb, hl, fun e => k b H (Same.refl H) (by rw [e, hb]; rfl), fun _ e => k a H (Same.refl H) (by rw [e, List.append_nil, ha]), fun _ _ p hp => k p _ (same_alloc hp) upd_same⟩
/-- a list with a thing put in -/
theorem ins3 {K : PySem.W.Frag} {σ : L2.St} {H : Hp} {C : VK} {S b : Addr} {n m : Int} {xs : List V} {j i : Nat} {elt lo : TE} {R : V → Hp → Prop} (h2 : σ[2]? = some (some (.ref S))) (h4 : σ[4]? = some (some (.int (j : Int)))) (hlo : ∀ (H : Hp) (G : VK), G (.int (i : Int)) H → lo σ H G)
    (eS : H S = some (.lst xs)) (nSb : S ≠ b) (B : Bx b n H) (lx : xs.length ≤ 1000)
    (hm : ∀ H1 D, Same H H1 → Bx b n H1 → (∀ v H2, R v H2 → KB b H1 H2 → Bx b m H2 → D v H2) → elt σ H1 D)
    (k : ∀ p v H2 H', R v H2 → KB b H H2 → Same H2 H' → Bx b m H' → H p = none → H' p = some (.lst (xs.take j ++ [v] ++ xs.drop i)) → C (.ref p) H') :
    tOp rCat (tOp rCat (tSl (rSlL K) (tVar 2) tNoPart (tPart (tVar 4))) (tLst (tCons elt tNil))) (tSl (rSlL K) (tVar 2) (tPart lo) tNoPart) σ H C := by
  refine lsl_to h2 h4 eS fun p1 H1 s1 f1 e1 => ?_
  have B1 : Bx b n H1 := B.same (by obtain ⟨x, y, z, h, _⟩ := B; rw [h]; exact s1 _ _ h)
  have n1b : p1 ≠ b := B.fresh f1
  refine hm H1 _ s1 B1 fun v H2 r kb B2 => ?_
  have kb02 : KB b H H2 := KB.trans (fun c o _ e => s1 c o e) kb
  have e12 := kb _ _ n1b e1
  have eS2 := kb02 _ _ nSb eS
  refine ⟨by show 1 ≤ sizeLine; decide, fun p2 q2 => ?_⟩
  have s3 : Same H2 (upd H2 p2 (.lst [v])) := same_alloc q2
  have e2 : upd H2 p2 (.lst [v]) p2 = some (.lst [v]) := upd_same
  generalize upd H2 p2 (.lst [v]) = H3 at s3 e2 ⊢
  refine ⟨p1, p2, _, _, rfl, rfl, s3 _ _ e12, e2, ?_, fun p3 q3 => ?_⟩
  · rw [List.length_take]
    show _ + 1 ≤ sizeLine
    exact small_line (by omega)
  have s4 : Same H3 (upd H3 p3 (.lst (xs.take j ++ [v]))) := same_alloc q3
  have e3 : upd H3 p3 (.lst (xs.take j ++ [v])) p3 = some (.lst (xs.take j ++ [v])) := upd_same
  generalize upd H3 p3 (.lst (xs.take j ++ [v])) = H4 at s4 e3 ⊢
  refine lsl_from h2 hlo (s4 _ _ (s3 _ _ eS2)) fun p4 H5 s5 f4 e4 => ?_
  refine ⟨p3, p4, _, _, rfl, rfl, s5 _ _ e3, e4, ?_, fun p5 q5 => ?_⟩
  · rw [List.length_append, List.length_take, List.length_drop]
    show _ + 1 + _ ≤ sizeLine
    exact small_line (by omega)
  have s25 : Same H2 H5 := s3.trans (s4.trans s5)
  have s26 : Same H2 (upd H5 p5 (.lst (xs.take j ++ [v] ++ xs.drop i))) := s25.trans (same_alloc q5)
  have B6 : Bx b m (upd H5 p5 (.lst (xs.take j ++ [v] ++ xs.drop i))) := B2.same (by obtain ⟨x, y, z, h, _⟩ := B2; rw [h]; exact s26 _ _ h)
  exact k p5 v H2 _ r kb02 s26 B6 (kb_fresh kb02 B2 (s25.free q5)) upd_same
section
variable {P : Program} {w : World} {K : PySem.W.Frag} {mg : Str → Option Value} {base : Heap} {f1 f2 : Addr} {fd1 fd2 : FuncData}
theorem slTK {X : Cx} {K : PySem.W.Frag} (h : X.K = K) : SlR X (rSlA K) := h ▸ sl_tupA
abbrev s_law_trains_otherwise : Stmt := top 47
theorem sc_law_trains_otherwise : FnScope ["_law_box_here", "_law_world_here", "_law_trains", "_law_way", "_law_at", "_law_thing", "_law_others", "_law_k"] ["_law_box_here", "_law_world_here", "_law_trains"] (defScope s_law_trains_otherwise) := ⟨rfl, rfl, rfl, by decide +kernel, rfl, by decide +kernel, by decide +kernel⟩
def spOther (K : PySem.W.Frag) : Sp := fun vs H Q _ => ∃ (b W S : Addr) (n : Int) (wd : Wd) (N : Addr → Prop) (xs : List V), vs = [.ref b, .ref W, .ref S] ∧ Bx b n H ∧ 0 ≤ n ∧ n ≤ 80000 ∧ wd.Ok ∧ ¬ N b ∧ (∀ a, H a = none → N a) ∧ Dp K (hide b H) (.ref W) wd.data ∧ S ≠ b ∧ H S = some (.lst xs) ∧ xs ≠ [] ∧ xs.length ≤ 16 ∧ (∀ y ∈ xs, Wg N H mB 2 y) ∧
  ∀ p ys H', KB b H H' → Bx b (n + 8) H' → H p = none → H' p = some (.lst ys) → ys.length ≤ xs.length + 4 → (∀ y ∈ ys, Wg N H' mB 2 y) → Q (.ref p) H'
theorem ok_other {f : Addr} {fd : FuncData} (F : Fun K "_law_trains_otherwise" "_law_trains_otherwise" s_law_trains_otherwise f fd) (T : Txt mg)
    (Nlaw_take : Fn K mg "_law_take" sTake ["_law_box_here", "_law_many"] f1 fd1) (Glaw_take : FnOk P w K mg base CX0 1 f1 fd1 ["_law_box_here", "_law_many"] spTake)
    (Nlaw_odd : Fn K mg "_law_odd" s_law_odd ["_law_box_here", "_law_world_here"] f2 fd2) (Glaw_odd : FnOk P w K mg base CX0 2 f2 fd2 ["_law_box_here", "_law_world_here"] (spOdd K)) :
    FnOk P w K mg base CX0 3 f fd ["_law_box_here", "_law_world_here", "_law_trains"] (spOther K) := by
  refine F.ok sc_law_trains_otherwise (fun vs H Q E h => ?_) (fun cdv A outer s H vs Q E hr h => ?_)
  · obtain ⟨b, W, S, n, wd, N, xs, rfl, _⟩ := h
    rfl
  · obtain ⟨b, W, S, n, wd, N, xs, rfl, hb, n0, n8, ok, nb, hN, dW, nSb, hS, ne, l16, wxs, k⟩ := h
    refine ⟨_, pss_cons (ps_set (i := 3) sc_law_trains_otherwise.nd rfl (Or.inl rfl) (pe_call Glaw_take (hr.mono (by decide)) (by rfl) Nlaw_take.g Nlaw_take.kp Nlaw_take.b .nil pass0 (pa_cons (pv 0) (pa_cons pe_int pa_nil))))
      (pss_cons (ps_set (i := 4) sc_law_trains_otherwise.nd rfl (Or.inl rfl) (pe_call Glaw_take (hr.mono (by decide)) (by rfl) Nlaw_take.g Nlaw_take.kp Nlaw_take.b .nil pass0 (pa_cons (pv 0) (pa_cons (pe_callB call_len_seq (by rfl) T.len_ PySem.boot_len (pa_cons (pv 2) pa_nil)) pa_nil))))
      (pss_cons (ps_set (i := 5) sc_law_trains_otherwise.nd rfl (Or.inr rfl) (pe_ix (ixLK (K := K) rfl) (pv 2) (pv 4) (fun _ _ => rfl)))
      (pss_cons (ps_if (PW.pt (pw_or (pt_not (pt_val (pe_callB call_isi (by rfl) T.isinstance_ (by decide +kernel) (pa_cons (pv 5) (pa_cons (pe_bltn (v := .ty "tuple") (by rfl) T.tuple_ (by decide +kernel) rfl) pa_nil))))) (pw_or1 (pt_cmpR op_ne (pe_callB call_len_seq (by rfl) T.len_ PySem.boot_len (pa_cons (pv 5) pa_nil)) pe_int (nomark _))))) (pss_one (ps_ret (pe_op op_cat (pe_op op_cat (pe_slice (slK (K := K) rfl) (pv 2) po_none (po_some (pv 4))) (pe_slice (slK (K := K) rfl) (pv 2) (po_some (pe_op op_add (pv 4) pe_int)) po_none)) (pe_lst (pa_cons (pe_tup (pa_cons pe_str (pa_cons (pe_ix (ixTK (K := K) rfl) (pe_ix (ixLK (K := K) rfl) (pe_ix (ixLK (K := K) rfl) (pv 1) pe_int (fun _ _ => rfl)) pe_int (fun _ _ => rfl)) pe_int (fun _ _ => rfl)) pa_nil))) pa_nil))))) pss_nil)
      (pss_cons (ps_if (pt_cmpR op_eq (pv 3) pe_int (nomark _)) (pss_cons (ps_set (i := 6) sc_law_trains_otherwise.nd rfl (Or.inl rfl) (pe_lst (pa_cons (pe_callTy call_list_of (by rfl) T.list_ (by decide +kernel) (pa_cons (pv 5) pa_nil)) (pa_cons (pe_op op_catA (pv 5) (pe_tup (pa_cons pe_int pa_nil))) (pa_cons (pe_slice (slTK (K := K) rfl) (pv 5) po_none (po_some pe_int)) (pa_cons (pe_call Glaw_odd (hr.mono (by decide)) (by rfl) Nlaw_odd.g Nlaw_odd.kp Nlaw_odd.b .nil pass0 (pa_cons (pv 0) (pa_cons (pv 1) pa_nil))) pa_nil))))))
          (pss_one (ps_ret (pe_op op_cat (pe_op op_cat (pe_slice (slK (K := K) rfl) (pv 2) po_none (po_some (pv 4))) (pe_lst (pa_cons (pe_ix (ixLK (K := K) rfl) (pv 6) (pe_call Glaw_take (hr.mono (by decide)) (by rfl) Nlaw_take.g Nlaw_take.kp Nlaw_take.b .nil pass0 (pa_cons (pv 0) (pa_cons pe_int pa_nil))) (fun _ _ => rfl)) pa_nil))) (pe_slice (slK (K := K) rfl) (pv 2) (po_some (pe_op op_add (pv 4) pe_int)) po_none))))) pss_nil)
      (pss_cons (ps_if (pt_cmpR op_eq (pv 3) pe_int (nomark _)) (pss_one (ps_ret (pe_op op_cat (pe_op op_cat (pe_slice (slK (K := K) rfl) (pv 2) po_none (po_some (pv 4))) (pe_lst (pa_cons (pe_tup (pa_cons (pe_call Glaw_odd (hr.mono (by decide)) (by rfl) Nlaw_odd.g Nlaw_odd.kp Nlaw_odd.b .nil pass0 (pa_cons (pv 0) (pa_cons (pv 1) pa_nil))) (pa_cons (pe_ix (ixTK (K := K) rfl) (pv 5) pe_int (fun _ _ => rfl)) pa_nil))) pa_nil))) (pe_slice (slK (K := K) rfl) (pv 2) (po_some (pe_op op_add (pv 4) pe_int)) po_none)))) pss_nil)
      (pss_cons (ps_if (pt_cmpR op_eq (pv 3) pe_int (nomark _)) (pss_one (ps_ret (pe_op op_cat (pe_op op_cat (pe_slice (slK (K := K) rfl) (pv 2) po_none (po_some (pv 4))) (pe_lst (pa_cons (pe_tup (pa_cons (pe_ix (ixTK (K := K) rfl) (pv 5) pe_int (fun _ _ => rfl)) (pa_cons (pe_call Glaw_odd (hr.mono (by decide)) (by rfl) Nlaw_odd.g Nlaw_odd.kp Nlaw_odd.b .nil pass0 (pa_cons (pv 0) (pa_cons (pv 1) pa_nil))) pa_nil))) pa_nil))) (pe_slice (slK (K := K) rfl) (pv 2) (po_some (pe_op op_add (pv 4) pe_int)) po_none)))) pss_nil)
      (pss_cons (ps_if (pt_cmpR op_eq (pv 3) pe_int (nomark _)) (pss_one (ps_ret (pe_op op_cat (pe_op op_cat (pe_slice (slK (K := K) rfl) (pv 2) po_none (po_some (pv 4))) (pe_lst (pa_cons (pv 5) pa_nil))) (pe_slice (slK (K := K) rfl) (pv 2) (po_some (pv 4)) po_none)))) pss_nil)
      (pss_cons (ps_if (pt_cmpR op_eq (pv 3) pe_int (nomark _)) (pss_one (ps_ret (pe_op op_cat (pv 2) (pe_lc (own := [("_law_k", 7)]) (g := gName 7) (tt := tYes) rfl sc_law_trains_otherwise.nd (pi_range1 (by rfl) T.range_ (pa_cons pe_int pa_nil)) (blkOk_by (own := [("_law_k", 7)]) (N := ["_law_box_here", "_law_world_here", "_law_trains", "_law_way", "_law_at", "_law_thing", "_law_others", "_law_k"]) (sc := defScope s_law_trains_otherwise) (by decide +kernel)) (fun _ _ _ _ _ => (pg_name (i := 7) sc_law_trains_otherwise.nd rfl (Or.inl rfl))) (fun _ _ _ _ _ => pts_nil) (fun _ _ _ _ _ => (pe_tup (pa_cons (pe_op op_add_str pe_str (pe_ix ix_str pe_str (pv 7) (fun _ _ => rfl))) (pa_cons (pe_ix (ixTK (K := K) rfl) (pv 5) pe_int (fun _ _ => rfl)) pa_nil)))))))) pss_nil)
      (pss_cons (ps_if (pt_cmpR op_eq (pe_call Glaw_take (hr.mono (by decide)) (by rfl) Nlaw_take.g Nlaw_take.kp Nlaw_take.b .nil pass0 (pa_cons (pv 0) (pa_cons pe_int pa_nil))) pe_int (nomark _)) (pss_one (ps_ret (pe_lst pa_nil))) pss_nil)
      (pss_one (ps_ret (pe_op op_cat (pe_op op_cat (pe_slice (slK (K := K) rfl) (pv 2) po_none (po_some (pv 4))) (pe_lst (pa_cons (pe_tup (pa_cons pe_str (pa_cons (pe_ix (ixTK (K := K) rfl) (pv 5) pe_int (fun _ _ => rfl)) pa_nil))) pa_nil))) (pe_slice (slK (K := K) rfl) (pv 2) (po_some (pv 4)) po_none))))))))))))), ?_⟩
    generalize hσ : L2.start _ _ = σ0
    obtain rfl : σ0 = [some (.ref b), some (.ref W), some (.ref S), none, none, none, none, none] := hσ.symm.trans rfl
    have lpos : 0 < xs.length := List.length_pos_iff.mpr ne
    refine ⟨_, rfl, b, 6, n, rfl, hb, by omega, by decide, by decide, fun way H1 w0 w1 off1 B1 => ?_⟩
    have hS1 : H1 S = some (.lst xs) := by rw [off1 S nSb]; exact hS
    simp only [List.set_cons_succ, List.set_cons_zero]
    refine ⟨_, rfl, _, rfl, S, xs, rfl, .inl (SqL.of hS1), b, _, n + 1, rfl, B1, by omega, by omega, dec9000 (by omega) (by omega), fun at_ H2 a0 a1 off2 B2 => ?_⟩
    have hS2 : H2 S = some (.lst xs) := by rw [off2 S nSb]; exact hS1
    have kb2 : KB b H H2 := (KB.off off1).trans (KB.off off2)
    have B2 : Bx b (n + 2) H2 := B2.mono (by omega)
    clear off1 off2 B1 hS1
    obtain ⟨j, rfl⟩ := Int.eq_ofNat_of_zero_le a0
    have hj : j < xs.length := by omega
    have xj : xs[j]? = some xs[j] := List.getElem?_eq_getElem hj
    have mj := List.getElem_mem hj
    generalize xs[j] = y at xj mj
    simp only [List.set_cons_succ, List.set_cons_zero]
    refine ⟨_, rfl, _, rfl, S, xs, (j : Int), y, rfl, rfl, SqL.of hS2, atI_nat xj, ?_⟩
    simp only [List.set_cons_succ, List.set_cons_zero]
    dsimp only [gName, List.set_cons_succ, List.set_cons_zero]
    have kw : ∀ {H' : Hp}, KB b H H' → Kw N H H' := fun kb => Kw.kb nb hb kb
    have w2 : ∀ y ∈ xs, Wg N H2 mB 2 y := fun y hy => (wxs y hy).keep (kw kb2)
    have wy := w2 y mj
    have hN2 : ∀ a, H2 a = none → N a := fun a h => hN a (kb_fresh kb2 B2 h)
    have dW2 : Dp K (hide b H2) (.ref W) wd.data := dp_nt (hide_kb kb2) dW
    -- the end: a list of such things
    have fin : ∀ {p : Addr} {ys : List V} {H' : Hp}, KB b H2 H' → Bx b (n + 8) H' → H2 p = none → H' p = some (.lst ys) → ys.length ≤ xs.length + 4 → (∀ y ∈ ys, Wg N H' mB 2 y) → Q (.ref p) H' := fun {p ys H'} kb B f e l w =>
      k p ys H' (kb2.trans kb) B (kb_fresh kb2 B2 f) e l w
    -- with one put in
    have put : ∀ {p : Addr} {v : V} {H3 H' : Hp} {i : Nat}, j ≤ i → KB b H2 H3 → Wg N H3 mB 2 v → Same H3 H' → Bx b (n + 8) H' → H2 p = none → H' p = some (.lst (xs.take j ++ [v] ++ xs.drop i)) → Q (.ref p) H' := fun {p v H3 H' i} hi kb wv s B f e => by
      have kb' : KB b H2 H' := kb.trans (fun c o _ e => s c o e)
      have kw' : Kw N H2 H' := Kw.kb nb B2 kb'
      refine fin kb' B f e (by rw [List.length_append, List.length_append, List.length_take, List.length_drop]; show _ + 1 + _ ≤ _; omega) fun z hz => ?_
      simp only [List.mem_append, List.mem_singleton] at hz
      rcases hz with (hz | rfl) | hz
      · exact (w2 z (List.mem_of_mem_take hz)).keep kw'
      · exact wv.keep (Kw.same s)
      · exact (w2 z (List.mem_of_mem_drop hz)).keep kw'
    have DEL : tOp rCat (tOp rCat (tSl (rSlL K) (tVar 2) tNoPart (tPart (tVar 4))) (tSl (rSlL K) (tVar 2) (tPart (tOp (rI0 fun i j => V.int (i + j)) (tVar 4) (tC (V.int 1)))) tNoPart)) (tLst (tCons (tTup (tCons (tC (V.str (Str.ofString "zzz"))) (tCons (tOp (rIxT K) (tOp (rIxL K) (tOp (rIxL K) (tVar 1) (tC (V.int 0))) (tC (V.int 0))) (tC (V.int 0))) tNil))) tNil))
        [some (.ref b), some (.ref W), some (.ref S), some (.int way), some (.int (j : Int)), some y, none, none] H2 Q := by
      refine lsl_to rfl rfl hS2 fun p1 H3 s3 f3 e1 => lsl_from (i := j + 1) rfl (fun _ G h => ⟨_, rfl, _, _, rfl, rfl, by show G (.int ((j : Int) + 1)) _; rw [show (j : Int) + 1 = ((j + 1 : Nat) : Int) by omega]; exact h⟩) (s3 _ _ hS2) fun p2 H4 s4 f4 e2 => ?_
      have s24 := s3.trans s4
      obtain ⟨W', x0, x1, x2, x3, eW, hW, q0, _, _, _⟩ := dp_four dW2
      obtain rfl := V.ref.inj eW
      obtain ⟨c0, zs0, rfl, hz0, hd0⟩ := dp_list q0
      have l0 : zs0.length = wd.ps.length := by rw [dpAll_len hd0, List.length_map]
      have p2' := ok.p2
      obtain ⟨z0, ez0⟩ : ∃ z0, zs0[0]? = some z0 := ⟨_, List.getElem?_eq_getElem (by omega)⟩
      obtain ⟨d0, hg1, hg2⟩ := dpAll_get hd0 ez0
      obtain ⟨pr, hpr, rfl⟩ := get_map hg1
      obtain ⟨tz, y1, y2, rfl, htz, r1, r2⟩ := dp_two hg2
      obtain rfl := dp_str r1
      have nk := (ok.nm pr (List.mem_of_getElem? hpr)).1
      have sm : ∀ {H' : Hp} {z : Str}, NameOk z → ∀ k, Wg N H' mB k (.str z) := fun h k => .str _ h.good (by have := h.2.1; omega) k
      refine ⟨p1, p2, _, _, rfl, rfl, s4 _ _ e1, e2, by rw [List.length_take, List.length_drop]; exact small_line (by omega), fun p3 q3 => ?_⟩
      have s25 : Same H2 (upd H4 p3 (.lst (xs.take j ++ xs.drop (j + 1)))) := s24.trans (same_alloc q3)
      have e3 : upd H4 p3 (.lst (xs.take j ++ xs.drop (j + 1))) p3 = some (.lst (xs.take j ++ xs.drop (j + 1))) := upd_same
      generalize upd H4 p3 (.lst (xs.take j ++ xs.drop (j + 1))) = H5 at s25 e3 ⊢
      have n5 := (hide_nt b H2).trans (same_nt s25)
      refine ⟨_, rfl, W, _, 0, _, rfl, rfl, n5.seq hW, rfl, c0, _, 0, _, rfl, rfl, n5.seq hz0, atI_nat ez0, tz, _, 0, _, rfl, rfl, n5.seqT htz, rfl, by show 2 ≤ sizeLine; decide, fun p4 q4 => ⟨by show 1 ≤ sizeLine; decide, fun p5 q5 => ?_⟩⟩
      have s6 : Same H5 (upd H5 p4 (.tup [.str (Str.ofString "zzz"), .str pr.1])) := same_alloc q4
      have e4 : upd H5 p4 (.tup [.str (Str.ofString "zzz"), .str pr.1]) p4 = some (.tup [.str (Str.ofString "zzz"), .str pr.1]) := upd_same
      generalize upd H5 p4 (.tup [.str (Str.ofString "zzz"), .str pr.1]) = H6 at s6 e4 q5 ⊢
      have s7 : Same H6 (upd H6 p5 (.lst [.ref p4])) := same_alloc q5
      have e5 : upd H6 p5 (.lst [.ref p4]) p5 = some (.lst [.ref p4]) := upd_same
      generalize upd H6 p5 (.lst [.ref p4]) = H7 at s7 e5 ⊢
      refine ⟨p3, p5, _, _, rfl, rfl, s7 _ _ (s6 _ _ e3), e5, ?_, fun p6 q6 => ?_⟩
      · rw [List.length_append, List.length_take, List.length_drop]
        show _ + 1 ≤ sizeLine
        exact small_line (by omega)
      have s27 := s25.trans (s6.trans s7)
      have s28 : Same H2 (upd H7 p6 (.lst (xs.take j ++ xs.drop (j + 1) ++ [.ref p4]))) := s27.trans (same_alloc q6)
      have kb8 : KB b H2 (upd H7 p6 (.lst (xs.take j ++ xs.drop (j + 1) ++ [.ref p4]))) := fun c o _ e => s28 c o e
      have e48 : upd H7 p6 (.lst (xs.take j ++ xs.drop (j + 1) ++ [.ref p4])) p4 = some (.tup [.str (Str.ofString "zzz"), .str pr.1]) := same_alloc q6 _ _ (s7 _ _ e4)
      refine fin kb8 ((B2.same (by obtain ⟨x, y, z, h, _⟩ := B2; rw [h]; exact s28 _ _ h)).mono (by omega)) (s27.free q6) upd_same (by rw [List.length_append, List.length_append, List.length_take, List.length_drop]; show _ + 1 ≤ _; omega) fun z hz => ?_
      simp only [List.mem_append, List.mem_singleton] at hz
      rcases hz with (hz | hz) | rfl
      · exact (w2 z (List.mem_of_mem_take hz)).keep (Kw.same s28)
      · exact (w2 z (List.mem_of_mem_drop hz)).keep (Kw.same s28)
      · refine .tup p4 _ 1 e48 (by show 2 ≤ 4; decide) fun x hx => ?_
        simp only [List.mem_cons, List.not_mem_nil, or_false] at hx
        rcases hx with rfl | rfl
        · exact .str _ (good_of _) (by decide +kernel) _
        · exact sm nk _
    refine isTupR rfl wy.th ?_
    cases etup : tupOf H2 y with
    | none => exact ⟨_, rfl, iteT (iteT DEL)⟩
    | some ys =>
      obtain ⟨t, rfl, ht⟩ := tup_some etup
      refine ⟨_, rfl, iteF ?_⟩
      refine ⟨_, rfl, t, ys, rfl, .inr (SqT.of ht), rfl, _, rfl, ?_⟩
      match ys, etup, ht with
      | [], etup, ht => exact iteT' (by simp) DEL
      | [_], etup, ht => exact iteT' (by simp) DEL
      | m1 :: m2 :: m3 :: ms, etup, ht => exact iteT' (by simp; omega) DEL
      | [m1, m2], etup, ht =>
        refine iteF ?_
        have wm := (wy.tkid ht).2
        have wm1 := wm m1 (by simp)
        have wm2 := wm m2 (by simp)
        have at0 : atI [m1, m2] 0 = some m1 := rfl
        have at1 : atI [m1, m2] 1 = some m2 := rfl
        have lo0 : ∀ (H : Hp) (G : VK), G (.int (j : Int)) H → tVar 4 [some (.ref b), some (.ref W), some (.ref S), some (.int way), some (.int (j : Int)), some (.ref t), none, none] H G := fun H G h => ⟨_, rfl, h⟩
        have lo1 : ∀ (u : Option V) (H : Hp) (G : VK), G (.int ((j + 1 : Nat) : Int)) H → tOp (rI0 fun i j => V.int (i + j)) (tVar 4) (tC (V.int 1)) [some (.ref b), some (.ref W), some (.ref S), some (.int way), some (.int (j : Int)), some (.ref t), u, none] H G := fun u H G h => ⟨_, rfl, _, _, rfl, rfl, by show G (.int ((j : Int) + 1)) H; rw [show (j : Int) + 1 = ((j + 1 : Nat) : Int) by omega]; exact h⟩
        have up1 : ∀ {H' : Hp} {v : V}, Wg N H' mB 1 v → Wg N H' mB 2 v := fun h => h.mono (fun _ => Nat.le_refl _) mB_mono (by decide)
        have pair : ∀ {H' : Hp} {p : Addr} {u v : V}, H' p = some (.tup [u, v]) → Wg N H' mB 1 u → Wg N H' mB 1 v → Wg N H' mB 2 (.ref p) := fun {H' p u v} e hu hv => .tup p _ 1 e (by show 2 ≤ 4; decide) fun x hx => by
          simp only [List.mem_cons, List.not_mem_nil, or_false] at hx
          rcases hx with rfl | rfl
          · exact hu
          · exact hv
        have oddArg : ∀ {H' : Hp} {m : Int}, KB b H2 H' → Bx b m H' → (∀ a, H' a = none → N a) ∧ Dp K (hide b H') (.ref W) wd.data := fun {H' m} kb B => ⟨fun a h => hN2 a (kb_fresh kb B h), dp_nt (hide_kb kb) dW2⟩
        have tk : ∀ {H' : Hp}, KB b H2 H' → H' t = some (.tup [m1, m2]) := fun kb => kb _ _ (fun e => by obtain ⟨x, y, z, h, _⟩ := B2; rw [← e, ht] at h; cases h) ht
        have sk : ∀ {H' H'' : Hp}, Same H' H'' → KB b H' H'' := fun s c o _ e => s c o e
        refine ⟨_, rfl, rfl, _, rfl, ite2 (fun c0 => ?_) (fun c0 => ?_)⟩
        · refine ⟨_, rfl, t, _, rfl, .inr (SqT.of ht), fun q1 h1 => ?_⟩
          have s3 : Same H2 (upd H2 q1 (.lst [m1, m2])) := same_alloc h1
          have e1 : upd H2 q1 (.lst [m1, m2]) q1 = some (.lst [m1, m2]) := upd_same
          generalize upd H2 q1 (.lst [m1, m2]) = H3 at s3 e1 ⊢
          refine ⟨_, rfl, by show 1 ≤ sizeLine; decide, fun q2 h2 => ?_⟩
          have s4 : Same H3 (upd H3 q2 (.tup [.int 0])) := same_alloc h2
          have e2 : upd H3 q2 (.tup [.int 0]) q2 = some (.tup [.int 0]) := upd_same
          generalize upd H3 q2 (.tup [.int 0]) = H4 at s4 e2 ⊢
          refine catA_of (s4 _ _ (s3 _ _ ht)) e2 (by show 3 ≤ sizeLine; decide) fun q3 H5 s5 e3 => ?_
          refine ⟨_, rfl, 1, rfl, slA_of (s5 _ _ (s4 _ _ (s3 _ _ ht))) fun q4 H6 s6 e4 => ?_⟩
          have s26 := s3.trans (s4.trans (s5.trans s6))
          have B6 : Bx b (n + 2) H6 := B2.same (by obtain ⟨x, y, z, h, _⟩ := B2; rw [h]; exact s26 _ _ h)
          refine ⟨_, rfl, _, rfl, b, W, n + 2, wd, N, rfl, B6, by omega, by omega, ok, (oddArg (sk s26) B6).1, (oddArg (sk s26) B6).2, fun o H7 kb7 B7 wo => ⟨by show 4 ≤ sizeLine; decide, fun L hL => ?_⟩⟩
          have kb27 : KB b H2 H7 := (sk s26).trans kb7
          have nLb : L ≠ b := B7.fresh hL
          have s78 : Same H7 (upd H7 L (.lst [.ref q1, .ref q3, .ref q4, o])) := same_alloc hL
          have eL : upd H7 L (.lst [.ref q1, .ref q3, .ref q4, o]) L = some (.lst [.ref q1, .ref q3, .ref q4, o]) := upd_same
          have B8 := B7.alloc (o := .lst [.ref q1, .ref q3, .ref q4, o]) hL
          generalize upd H7 L (.lst [.ref q1, .ref q3, .ref q4, o]) = H8 at s78 eL B8 ⊢
          have kb28 : KB b H2 H8 := kb27.trans (sk s78)
          have kb68 : KB b H6 H8 := kb7.trans (sk s78)
          have ntb : ∀ {c : Addr} {zs : List V}, H6 c = some (.tup zs) → c ≠ b := fun h e => by
            obtain ⟨_, _, _, q, _⟩ := B6
            rw [e, q] at h
            cases h
          have q1b : q1 ≠ b := B2.fresh h1
          have g1 : H8 q1 = some (.lst [m1, m2]) := kb68 _ _ q1b (s6 _ _ (s5 _ _ (s4 _ _ e1)))
          have g3 : H8 q3 = some (.tup ([m1, m2] ++ [.int 0])) := kb68 _ _ (ntb (s6 _ _ e3)) (s6 _ _ e3)
          have g4 := kb68 _ _ (ntb e4) e4
          have k1 := wm1.keep (Kw.kb nb B2 kb28)
          have k2 := wm2.keep (Kw.kb nb B2 kb28)
          have all8 : ∀ v ∈ [V.ref q1, .ref q3, .ref q4, o], Wg N H8 mB 2 v := fun v hv => by
            simp only [List.mem_cons, List.not_mem_nil, or_false] at hv
            rcases hv with rfl | rfl | rfl | rfl
            · refine .lst q1 _ 1 g1 (hN2 q1 h1) (by show 2 ≤ 4; decide) fun x hx => ?_
              simp only [List.mem_cons, List.not_mem_nil, or_false] at hx
              rcases hx with rfl | rfl
              · exact k1
              · exact k2
            · refine .tup q3 _ 1 g3 (by show 3 ≤ 4; decide) fun x hx => ?_
              simp only [List.cons_append, List.nil_append, List.mem_cons, List.not_mem_nil, or_false] at hx
              rcases hx with rfl | rfl | rfl
              · exact k1
              · exact k2
              · exact .int _ (by decide) _
            · refine .tup q4 _ 1 g4 (by show 1 ≤ 4; decide) fun x hx => ?_
              have hx : x ∈ [m1] := hx
              rw [List.mem_singleton.mp hx]
              exact k1
            · exact up1 (wo.keep (Kw.same s78))
          have hS8 := kb28 _ _ nSb hS2
          refine ins3 (n := n + 4) (m := n + 5) (R := fun v H' => KB b H8 H' ∧ Wg N H' mB 2 v) rfl rfl (lo1 (some (.ref L))) hS8 nSb (B8.mono (by omega)) (by omega) (fun H9 D s9 B9 k9 => ?_) (fun p v HA HB wv kb s B f e => put (Nat.le_succ j) (kb28.trans kb) wv.2 s (B.mono (by omega)) (kb_fresh kb28 B8 f) e)
          refine ⟨_, rfl, _, rfl, b, 4, n + 4, rfl, B9, by omega, by decide, by decide, fun m HA r0 r1 offA BA => ?_⟩
          obtain ⟨v, hv, ev⟩ := atI_ex (xs := [V.ref q1, .ref q3, .ref q4, o]) r0 r1
          have kbA : KB b H9 HA := KB.off offA
          have kb8A : KB b H8 HA := (sk s9).trans kbA
          exact ⟨L, _, m, v, rfl, rfl, SqL.of (kb8A _ _ nLb eL), ev, k9 v HA ⟨kb8A, (all8 v hv).keep (Kw.kb nb B8 kb8A)⟩ kbA (BA.mono (by omega))⟩
        refine ⟨_, rfl, rfl, _, rfl, ite2 (fun c1 => ?_) (fun c1 => ?_)⟩
        · refine ins3 (n := n + 2) (m := n + 4) (R := fun v H' => Wg N H' mB 2 v) rfl rfl (lo1 none) hS2 nSb B2 (by omega) (fun H3 D s3 B3 k3 => ?_) (fun p v H4 H5 wv kb s B f e => put (Nat.le_succ j) kb wv s (B.mono (by omega)) f e)
          have kb3 := sk s3
          refine ⟨_, rfl, _, rfl, b, W, n + 2, wd, N, rfl, B3, by omega, by omega, ok, (oddArg kb3 B3).1, (oddArg kb3 B3).2, fun o H4 kb4 B4 wo => ?_⟩
          have kb24 := kb3.trans kb4
          refine ⟨_, rfl, t, _, 1, _, rfl, rfl, SqT.of (tk kb24), at1, by show 2 ≤ sizeLine; decide, fun q hq => ?_⟩
          have s5 : Same H4 (upd H4 q (.tup [o, m2])) := same_alloc hq
          exact k3 _ _ (pair upd_same (wo.keep (Kw.same s5)) ((wm2.keep (Kw.kb nb B2 kb24)).keep (Kw.same s5))) (kb4.trans (sk s5)) ((B4.alloc hq).mono (by omega))
        refine ⟨_, rfl, rfl, _, rfl, ite2 (fun c2 => ?_) (fun c2 => ?_)⟩
        · refine ins3 (n := n + 2) (m := n + 4) (R := fun v H' => Wg N H' mB 2 v) rfl rfl (lo1 none) hS2 nSb B2 (by omega) (fun H3 D s3 B3 k3 => ?_) (fun p v H4 H5 wv kb s B f e => put (Nat.le_succ j) kb wv s (B.mono (by omega)) f e)
          have kb3 := sk s3
          refine ⟨_, rfl, t, _, 0, _, rfl, rfl, SqT.of (tk kb3), at0, _, rfl, _, rfl, b, W, n + 2, wd, N, rfl, B3, by omega, by omega, ok, (oddArg kb3 B3).1, (oddArg kb3 B3).2, fun o H4 kb4 B4 wo => ?_⟩
          have kb24 := kb3.trans kb4
          refine ⟨by show 2 ≤ sizeLine; decide, fun q hq => ?_⟩
          have s5 : Same H4 (upd H4 q (.tup [m1, o])) := same_alloc hq
          exact k3 _ _ (pair upd_same ((wm1.keep (Kw.kb nb B2 kb24)).keep (Kw.same s5)) (wo.keep (Kw.same s5))) (kb4.trans (sk s5)) ((B4.alloc hq).mono (by omega))
        refine ⟨_, rfl, rfl, _, rfl, ite2 (fun c3 => ?_) (fun c3 => ?_)⟩
        · refine ins3 (n := n + 2) (m := n + 2) (R := fun v H' => Wg N H' mB 2 v) rfl rfl lo0 hS2 nSb B2 (by omega) (fun H3 D s3 B3 k3 => ⟨_, rfl, k3 _ _ (wy.keep (Kw.same s3)) (KB.refl b _) B3⟩) (fun p v H4 H5 wv kb s B f e => put (Nat.le_refl j) kb wv s (B.mono (by omega)) f e)
        refine ⟨_, rfl, rfl, _, rfl, ite2 (fun c4 => ?_) (fun c4 => ?_)⟩
        · refine ⟨_, rfl, 4, rfl, by decide, by decide, fun D hD => ?_⟩
          have nDb : D ≠ b := B2.fresh hD
          refine lc_it (walk_range (lo := 0) (n := 4)) (fun i H' => KB D H2 H' ∧ ∃ acc, H' D = some (.lst acc) ∧ acc.length = i ∧ ∀ z ∈ acc, ∃ c u, z = .ref c ∧ H' c = some (.tup [.str u, m2]) ∧ Good u ∧ u.length ≤ 3) ⟨KB.alloc hD, [], upd_same, rfl, fun z h => by cases h⟩ (fun _ _ _ _ => trivial) ?_ ?_
          · rintro i x H3 H4 hi ⟨kb, acc, eD, la, hacc⟩ ⟨rfl, rfl⟩
            have s3 : Same H2 H4 := fun c o e => kb c o (ne_of_none e hD) e
            obtain ⟨c, hc, ec⟩ := atI_ex (xs := (Str.ofString "abcd").cps.toList) (d := 0 + (i : Int)) (by omega) (by rw [show (Str.ofString "abcd").cps.toList.length = 4 by decide +kernel]; omega)
            have gc : c < 1114112 := good_of "abcd" c hc
            have lq : (Str.ofString "qz").length = 2 := by decide +kernel
            have l1 : (⟨#[c]⟩ : Str).length = 1 := rfl
            refine ⟨wipe1 (by simp), lcY ?_⟩
            refine ⟨_, rfl, _, _, c, rfl, rfl, by rw [show (Str.ofString "abcd").length = 4 by decide +kernel]; exact small_line (by decide), ec, _, _, rfl, rfl, by rw [lq, l1]; exact small_line (by decide), ?_⟩
            refine ⟨_, rfl, t, _, 1, _, rfl, rfl, SqT.of (tk (sk s3)), at1, by show 2 ≤ sizeLine; decide, fun q hq => ?_⟩
            have nqD : q ≠ D := fun e => by rw [e, eD] at hq; cases hq
            have s5 : Same H4 (upd H4 q (.tup [.str (Str.ofString "qz" ++ ⟨#[c]⟩), m2])) := same_alloc hq
            refine ⟨_, s5 _ _ eD, by rw [la]; exact Nat.lt_of_le_of_lt (m := 10) (by omega) (by rw [sizeLine_eq]; decide), fun c' o n e => by rw [upd_ne n]; exact s5 _ _ (kb c' o n e), _, upd_same, by rw [List.length_append, la]; rfl, fun z hz => ?_⟩
            rcases List.mem_append.mp hz with hz | hz
            · obtain ⟨c', u, rfl, hc', gu, lu⟩ := hacc z hz
              exact ⟨c', u, rfl, by rw [upd_ne (fun e => by rw [e, eD] at hc'; cases hc')]; exact s5 _ _ hc', gu, lu⟩
            · refine ⟨q, _, List.mem_singleton.mp hz, by rw [upd_ne nqD]; exact upd_same, fun d hd => ?_, by rw [Str.length_append, lq, l1]; decide⟩
              have hd : d ∈ ((Str.ofString "qz").cps ++ #[c]).toList := hd
              rw [Array.toList_append] at hd
              rcases List.mem_append.mp hd with hd | hd
              · exact good_of "qz" d hd
              · obtain rfl : d = c := by simpa using hd
                exact gc
          · rintro H3 ⟨kb, acc, eD, la, hacc⟩
            have s3 : Same H2 H3 := fun c o e => kb c o (ne_of_none e hD) e
            refine ⟨S, D, _, _, rfl, rfl, s3 _ _ hS2, eD, by rw [la]; exact small_line (by omega), fun p hp => ?_⟩
            have s4 : Same H2 (upd H3 p (.lst (xs ++ acc))) := s3.trans (same_alloc hp)
            refine fin (sk s4) ((B2.same (by obtain ⟨x, y, z, h, _⟩ := B2; rw [h]; exact s4 _ _ h)).mono (by omega)) (s3.free hp) upd_same (by rw [List.length_append, la]; exact Nat.le_refl _) fun z hz => ?_
            rcases List.mem_append.mp hz with hz | hz
            · exact (w2 z hz).keep (Kw.same s4)
            · obtain ⟨c, u, rfl, hc, gu, lu⟩ := hacc z hz
              exact pair (same_alloc hp _ _ hc) (.str _ gu (by omega) _) (wm2.keep (Kw.same s4))
        refine ⟨_, rfl, b, 3, n + 2, rfl, B2, by omega, by decide, by decide, fun m H3 q0 q1 off3 B3 => ⟨rfl, _, rfl, ite2 (fun c5 => ?_) (fun c5 => ?_)⟩⟩
        · refine ⟨Nat.zero_le _, fun p hp => ?_⟩
          have kb3 : KB b H2 H3 := KB.off off3
          exact fin (kb3.trans (KB.alloc hp)) ((B3.alloc hp).mono (by omega)) (kb_fresh kb3 B3 hp) upd_same (Nat.zero_le _) fun z hz => by cases hz
        · have kb3 : KB b H2 H3 := KB.off off3
          have hS3 := kb3 _ _ nSb hS2
          refine ins3 (n := n + 3) (m := n + 3) (R := fun v H' => KB b H3 H' ∧ Wg N H' mB 2 v) rfl rfl lo0 hS3 nSb (B3.mono (by omega)) (by omega) (fun H4 D s4 B4 k4 => ?_) (fun p v H4 H5 wv kb s B f e => put (Nat.le_refl j) (kb3.trans kb) wv.2 s (B.mono (by omega)) (kb_fresh kb3 B3 f) e)
          have kb24 := kb3.trans (sk s4)
          refine ⟨_, rfl, t, _, 1, _, rfl, rfl, SqT.of (tk kb24), at1, by show 2 ≤ sizeLine; decide, fun q hq => ?_⟩
          have s5 : Same H4 (upd H4 q (.tup [.str (Str.ofString "qzq"), m2])) := same_alloc hq
          exact k4 _ _ ⟨(sk s4).trans (sk s5), pair upd_same (.str _ (good_of _) (by decide +kernel) _) ((wm2.keep (Kw.kb nb B2 kb24)).keep (Kw.same s5))⟩ (sk s5) (B4.alloc hq)
end
end T9

set_option maxRecDepth 100000
set_option maxHeartbeats 1000000
/-! repr in the suite of a clause. -/
namespace My
open PySem PySem.Spec PyProof.Rows L2 GxR Gd TL
theorem call_reprH {X : Cx} (gd : X.A.guards = some []) (hun : X.A.units + 200 < cLine) : CallR X (.builtin "repr") (rRepr X.K) := by
  intro pins s σ H xs us Q I r h
  obtain ⟨v, d, rfl, dp, hs, hdep, hsz, q⟩ := h
  cases r with
  | cons rv rn =>
    cases rn
    cases dp with
    | non =>
      cases rv
      refine PySem.P.repr_of_none ⟨.str _, H, I.tok _, ⟨_, rfl⟩, ?_⟩
      simpa only [PyData.shown] using q
    | bl b =>
      cases rv
      refine PySem.P.repr_of_bool ⟨.str _, H, I.tok _, ⟨_, rfl⟩, ?_⟩
      simpa only [PyData.shown] using q
    | int i =>
      obtain ⟨t, rfl⟩ := rv
      refine PySem.P.repr_of_int (by simpa [PyData.showable] using hs) ⟨.str _, H, I.tok _, ⟨_, rfl⟩, ?_⟩
      simpa only [PyData.shown] using q
    | str z =>
      obtain ⟨t, rfl⟩ := rv
      refine PySem.P.repr_of_str ⟨.str _, H, I.tok _, ⟨_, rfl⟩, ?_⟩ (by simpa only [PyData.shown] using hsz)
      simpa only [PyData.shown] using q
    | lst hl ha =>
      cases rv
      obtain ⟨as, rd⟩ := Dp.reads I _ _ _ (.lst hl ha) rfl
      refine repr_of_reads' rd hs (PyData.noDict_hsm (dp_noDict (.lst hl ha))) gd (by omega) (fun _ _ z => z) (fun h' u tk hk => ?_) hsz
      exact ⟨.str _, H, I.kept hk, ⟨_, rfl⟩, q⟩
    | tup hl ha =>
      cases rv
      obtain ⟨as, rd⟩ := Dp.reads I _ _ _ (.tup hl ha) rfl
      refine repr_of_reads' rd hs (PyData.noDict_hsm (dp_noDict (.tup hl ha))) gd (by omega) (fun _ _ z => z) (fun h' u tk hk => ?_) hsz
      exact ⟨.str _, H, I.kept hk, ⟨_, rfl⟩, q⟩
theorem call_reprQH {X : Cx} (n : X.K.lookup sysModules = none) (gd : X.A.guards = some []) (hun : X.A.units + 200 < cLine) : CallR X (.builtin "repr") (rReprQ X.K) := by
  rintro pins s σ H xs us Q I r ⟨v, d, rfl, sm, dq, hs, hdep, hsz, q⟩
  have whole : ∀ {a : Addr} {as : List Addr}, Reads s.heap (.ref a) d as → sysModules ∉ as → wpAny (model X.prog X.w) X.A (call (.builtin "repr") [.ref a]) (EP X pins σ Q) X.xe s := by
    intro a as rd no
    exact repr_of_reads' rd hs (fun _ => no) gd (by omega) (fun _ _ z => z) (fun h' u tk hk => ⟨.str _, H, I.kept hk, ⟨_, rfl⟩, q⟩) hsz
  cases dq with
  | non => exact call_reprH gd hun pins s σ H _ us Q I r ⟨_, _, rfl, .non, hs, hdep, hsz, q⟩
  | bl b => exact call_reprH gd hun pins s σ H _ us Q I r ⟨_, _, rfl, .bl b, hs, hdep, hsz, q⟩
  | int i => exact call_reprH gd hun pins s σ H _ us Q I r ⟨_, _, rfl, .int i, hs, hdep, hsz, q⟩
  | str z => exact call_reprH gd hun pins s σ H _ us Q I r ⟨_, _, rfl, .str z, hs, hdep, hsz, q⟩
  | lst e h =>
    obtain ⟨as, rd, no⟩ := Dq.reads n sm I _ _ us.head! (.lst e h) (by cases r with | cons a b => cases b; exact a)
    cases r with
    | cons a b => cases b; cases a; exact whole rd no
  | tup e h =>
    obtain ⟨as, rd, no⟩ := Dq.reads n sm I _ _ us.head! (.tup e h) (by cases r with | cons a b => cases b; exact a)
    cases r with
    | cons a b => cases b; cases a; exact whole rd no
  | dic e h =>
    obtain ⟨as, rd, no⟩ := Dq.reads n sm I _ _ us.head! (.dic e h) (by cases r with | cons a b => cases b; exact a)
    cases r with
    | cons a b => cases b; cases a; exact whole rd no
theorem call_reprK {X : Cx} {K : PySem.W.Frag} (e : X.K = K) (n : K.lookup sysModules = none) (gd : X.A.guards = some []) (hun : X.A.units + 200 < cLine) : CallR X (.builtin "repr") (rReprQ K) := by
  subst e
  exact call_reprQH n gd hun
theorem isiK {X : Cx} {K : PySem.W.Frag} (h : X.K = K) : CallR X (.builtin "isinstance") (rIsi K) := h ▸ call_isi
end My

set_option maxRecDepth 100000
set_option maxHeartbeats 3200000
namespace T9
open PySem PySem.Spec PyProof.Rows L2 GxR Gd TL My
/-- such a thing; a list is no longer than told -/
def Lu (M : Addr → Prop) (H : Hp) (m : Nat) (u : V) : Prop := Wg M H mB 3 u ∧ ∀ a xs, u = .ref a → H a = some (.lst xs) → xs.length ≤ m
theorem Lu.keep {M : Addr → Prop} {H H' : Hp} {m : Nat} {u : V} (s : Kw M H H') (h : Lu M H m u) : Lu M H' m u := by
  refine ⟨h.1.keep s, fun a xs e q => ?_⟩
  subst e
  obtain ⟨w, l⟩ := h
  cases w with
  | dic a e k => rw [s.2.2 _ _ e] at q; cases q
  | tup a ys k e l q2 => rw [s.2.1 _ _ e] at q; cases q
  | lst a ys k e n l' q2 =>
    rw [s.1 _ _ n e] at q
    cases q
    exact l a _ rfl e
theorem Lu.mono {M : Addr → Prop} {H : Hp} {m m' : Nat} {u : V} (hm : m ≤ m') (h : Lu M H m u) : Lu M H m' u := ⟨h.1, fun a xs e q => Nat.le_trans (h.2 a xs e q) hm⟩
theorem lu_odd {M : Addr → Prop} {H : Hp} {m : Nat} {u : V} (hm : 4 ≤ m) (h : Wg M H mB 1 u) : Lu M H m u := by
  refine ⟨h.mono (fun _ => Nat.le_refl _) mB_mono (by decide), fun a xs e q => ?_⟩
  subst e
  exact Nat.le_trans (h.lkid q).2.1 (Nat.le_trans (by decide) hm)
theorem wg_off {N : Addr → Prop} {H : Hp} {m : Nat → Nat} {D : Addr} (hD : H D = none) : ∀ {k : Nat} {v : V}, Wg N H m k v → Wg (fun a => N a ∧ a ≠ D) H m k v
  | _, _, .non k => .non k
  | _, _, .bl b k => .bl b k
  | _, _, .int i h k => .int i h k
  | _, _, .str z g l k => .str z g l k
  | _, _, .dic a e k => .dic a e k
  | _, _, .lst a xs k e n l h => .lst a xs k e ⟨n, fun z => by rw [z, hD] at e; cases e⟩ l fun x hx => wg_off hD (h x hx)
  | _, _, .tup a xs k e l h => .tup a xs k e l fun x hx => wg_off hD (h x hx)
theorem kw_upd {N : Addr → Prop} {H : Hp} {D : Addr} {zs ws : List V} (h : H D = some (.lst zs)) (n : ¬ N D) : Kw N H (upd H D (.lst ws)) := Kw.upd h n
def tEndsBody (K : PySem.W.Frag) : TS := tIfS
        (tAnd (tB (tCB (rIsi K) (tCons (tOp (rIxL K) (tVar 4) (tC (V.int 1))) (tCons (tC (V.ty "list")) tNil))))
          (tTest (tOp (rNeL0 K) (tOp (rIxL K) (tVar 4) (tC (V.int 1))) (tLst tNil))))
        (tSeq
          (tAsg (tCall spTake [] E0 (tCons (tVar 0) (tCons (tCB (fun xs H_1 Q => ∃ p ys, xs = [V.ref p] ∧ (SqL K H_1 p ys ∨ SqT K H_1 p ys) ∧ Q (V.int (ys.length : Nat)) H_1) (tCons (tOp (rIxL K) (tVar 4) (tC (V.int 1))) tNil)) tNil))) (gName 7))
          (tSeq
            (tAsg
              (tOp (rIxL K)
                (tLst
                  (tCons (tLst tNil)
                    (tCons (tLst (tCons (tCall (spOdd K) [] E0 (tCons (tVar 0) (tCons (tVar 1) tNil))) tNil))
                      (tCons
                        (tLst
                          (tCons (tOp (rIxL K) (tOp (rIxL K) (tVar 4) (tC (V.int 1))) (tVar 7))
                            (tCons (tOp (rIxL K) (tOp (rIxL K) (tVar 4) (tC (V.int 1))) (tVar 7)) tNil)))
                        tNil))))
                (tCall spTake [] E0 (tCons (tVar 0) (tCons (tC (V.int 3)) tNil))))
              (gName 8))
            (tAsg
              (tOp rCat
                (tOp rCat (tSl (rSlL K) (tOp (rIxL K) (tVar 4) (tC (V.int 1))) tNoPart (tPart (tVar 7))) (tVar 8))
                (tSl (rSlL K) (tOp (rIxL K) (tVar 4) (tC (V.int 1)))
                  (tPart (tOp (rI0 fun i j => V.int (i + j)) (tVar 7) (tC (V.int 1)))) tNoPart))
              (gSub (tVar 4) (tC (V.int 1)) rSetL))))
        tNext
theorem isiL {σ : L2.St} {K : PySem.W.Frag} {H : Hp} {v : V} {Q : VK} (th : Th H v) (kf : (∀ a ys, v = .ref a → H a ≠ some (.lst ys)) → Q (.bl false) H) (kt : ∀ a ys, v = .ref a → H a = some (.lst ys) → Q (.bl true) H) : tCons (tC (V.ty "list")) tNil σ H (fun xs H2 => rIsi K (v :: xs) H2 Q) := by
  show rIsi K [v, .ty "list"] H Q
  cases th with
  | non => exact ⟨_, _, _, _, false, rfl, .ty "list", .base .non, (by rfl), kf fun a ys e => by cases e⟩
  | bl b => exact ⟨_, _, _, _, false, rfl, .ty "list", .base (.bl b), (by rfl), kf fun a ys e => by cases e⟩
  | int i => exact ⟨_, _, _, _, false, rfl, .ty "list", .base (.int i), (by rfl), kf fun a ys e => by cases e⟩
  | str z => exact ⟨_, _, _, _, false, rfl, .ty "list", .base (.str z), (by rfl), kf fun a ys e => by cases e⟩
  | tup a xs h => exact ⟨_, _, _, _, false, rfl, .ty "list", .base (.tup h), (by rfl), kf fun a' ys e q => by cases e; rw [h] at q; cases q⟩
  | dic a h => exact ⟨_, _, _, _, false, rfl, .ty "list", .base (.dK h), (by rfl), kf fun a' ys e q => by cases e; rw [h] at q; cases q⟩
  | lst a xs h => exact ⟨_, _, _, _, true, rfl, .ty "list", .base (.lst h), (by rfl), kt a xs rfl h⟩
section
variable {P : Program} {w : World} {K : PySem.W.Frag} {mg : Str → Option Value} {base : Heap} {f1 f2 f3 : Addr} {fd1 fd2 fd3 : FuncData}
theorem tupOfK {X : Cx} {K : PySem.W.Frag} (h : X.K = K) : CallR X (.type "tuple") (fun xs H Q => ∃ p ys, xs = [.ref p] ∧ ((SqL K H p ys ∧ ∀ l, H l = none → Q (.ref l) (upd H l (.tup ys))) ∨ (SqT K H p ys ∧ Q (.ref p) H))) := h ▸ call_tuple_of
abbrev s_law_spoilt : Stmt := top 48
theorem sc_law_spoilt : FnScope ["_law_box_here", "_law_world_here", "_law_trains", "_law_ends", "_law_some", "_law_turn", "_law_way", "_law_at", "_law_others", "_law_part"] ["_law_box_here", "_law_world_here", "_law_trains", "_law_ends"] (defScope s_law_spoilt) := ⟨rfl, rfl, rfl, by decide +kernel, rfl, by decide +kernel, by decide +kernel⟩
def spSpoilt (K : PySem.W.Frag) : Sp := fun vs H Q _ => ∃ (b W a0 a1 : Addr) (n : Int) (wd : Wd) (N : Addr → Prop) (xs es : List V), vs = [.ref b, .ref W, .ref a0, .ref a1] ∧ Bx b n H ∧ 0 ≤ n ∧ n ≤ 10000 ∧ wd.Ok ∧ ¬ N b ∧ (∀ a, H a = none → N a) ∧ Dp K (hide b H) (.ref W) wd.data ∧
  (a0 ≠ b ∧ H a0 = some (.lst xs) ∧ xs.length ≤ 4 ∧ ∀ y ∈ xs, Wg (fun _ => False) H mB 2 y) ∧ (H a1 = some (.tup es) ∧ es.length ≤ 5 ∧ ∀ y ∈ es, Wg (fun _ => False) H mB 0 y) ∧
  ∀ L v1 v2 H', KB b H H' → Bx b (n + 60) H' → H L = none → H' L = some (.lst [v1, v2]) → Wg N H' mB 3 v1 → Wg N H' mB 3 v2 → Q (.ref L) H'
theorem ok_spoilt {f : Addr} {fd : FuncData} (F : Fun K "_law_spoilt" "_law_spoilt" s_law_spoilt f fd) (T : Txt mg)
    (Nlaw_take : Fn K mg "_law_take" sTake ["_law_box_here", "_law_many"] f1 fd1) (Glaw_take : FnOk P w K mg base CX0 1 f1 fd1 ["_law_box_here", "_law_many"] spTake)
    (Nlaw_odd : Fn K mg "_law_odd" s_law_odd ["_law_box_here", "_law_world_here"] f2 fd2) (Glaw_odd : FnOk P w K mg base CX0 2 f2 fd2 ["_law_box_here", "_law_world_here"] (spOdd K))
    (Nlaw_trains_otherwise : Fn K mg "_law_trains_otherwise" s_law_trains_otherwise ["_law_box_here", "_law_world_here", "_law_trains"] f3 fd3) (Glaw_trains_otherwise : FnOk P w K mg base CX0 3 f3 fd3 ["_law_box_here", "_law_world_here", "_law_trains"] (spOther K)) :
    FnOk P w K mg base CX0 4 f fd ["_law_box_here", "_law_world_here", "_law_trains", "_law_ends"] (spSpoilt K) := by
  refine F.ok sc_law_spoilt (fun vs H Q E h => ?_) (fun cdv A outer s H vs Q E hr h => ?_)
  · obtain ⟨b, W, a0, a1, n, wd, N, xs, es, rfl, _⟩ := h
    rfl
  · obtain ⟨b, W, a0, a1, n, wd, N, xs, es, rfl, hb, n0, n9, ok, nb, hN, dW, ⟨n0b, h0, l0, w0⟩, ⟨h1, l1, w1⟩, k⟩ := h
    have hu0 := Nat.lt_of_le_of_lt (Nat.le_add_right _ 64) hr.units
    refine ⟨_, pss_cons (ps_set (i := 4) sc_law_spoilt.nd rfl (Or.inl rfl) (pe_lst (pa_cons (pe_callTy call_list_of (by rfl) T.list_ (by decide +kernel) (pa_cons (pv 2) pa_nil)) (pa_cons (pe_callTy call_list_of (by rfl) T.list_ (by decide +kernel) (pa_cons (pv 3) pa_nil)) pa_nil))))
      (pss_cons (ps_for PassesOwn.never rfl (pi_range1 (by rfl) T.range_ (pa_cons (pe_call Glaw_take (hr.mono (by decide)) (by rfl) Nlaw_take.g Nlaw_take.kp Nlaw_take.b .nil pass0 (pa_cons (pv 0) (pa_cons pe_int pa_nil))) pa_nil)) (pg_name (i := 5) sc_law_spoilt.nd rfl (Or.inl rfl)) (pss_cons (ps_set (i := 6) sc_law_spoilt.nd rfl (Or.inl rfl) (pe_call Glaw_take (hr.mono (by decide)) (by rfl) Nlaw_take.g Nlaw_take.kp Nlaw_take.b .nil pass0 (pa_cons (pv 0) (pa_cons pe_int pa_nil))))
          (pss_one (ps_if (pt_cmpR op_eq (pv 6) pe_int (nomark _)) (pss_one (ps_asg (pe_call Glaw_odd (hr.mono (by decide)) (by rfl) Nlaw_odd.g Nlaw_odd.kp Nlaw_odd.b .nil pass0 (pa_cons (pv 0) (pa_cons (pv 1) pa_nil))) (pg_sub (pv 4) (pe_call Glaw_take (hr.mono (by decide)) (by rfl) Nlaw_take.g Nlaw_take.kp Nlaw_take.b .nil pass0 (pa_cons (pv 0) (pa_cons pe_int pa_nil))) set_list))) (pss_one (ps_if (PW.pt (pw_and (pt_cmpR op_lt (pv 6) pe_int (nomark _)) (pw_and (pt_val (pe_callB (isiK (K := K) rfl) (by rfl) T.isinstance_ (by decide +kernel) (pa_cons (pe_ix (ixLK (K := K) rfl) (pv 4) pe_int (fun _ _ => rfl)) (pa_cons (pe_bltn (v := .ty "list") (by rfl) T.list_ (by decide +kernel) rfl) pa_nil)))) (pw_and1 (pt_cmpR (op_neL0 hu0) (pe_ix (ixLK (K := K) rfl) (pv 4) pe_int (fun _ _ => rfl)) (pe_lst pa_nil) (nomark _)))))) (pss_one (ps_asg (pe_call Glaw_trains_otherwise (hr.mono (by decide)) (by rfl) Nlaw_trains_otherwise.g Nlaw_trains_otherwise.kp Nlaw_trains_otherwise.b .nil pass0 (pa_cons (pv 0) (pa_cons (pv 1) (pa_cons (pe_ix (ixLK (K := K) rfl) (pv 4) pe_int (fun _ _ => rfl)) pa_nil)))) (pg_sub (pv 4) pe_int set_list))) (pss_one (ps_if (PW.pt (pw_and (pt_val (pe_callB (isiK (K := K) rfl) (by rfl) T.isinstance_ (by decide +kernel) (pa_cons (pe_ix (ixLK (K := K) rfl) (pv 4) pe_int (fun _ _ => rfl)) (pa_cons (pe_bltn (v := .ty "list") (by rfl) T.list_ (by decide +kernel) rfl) pa_nil)))) (pw_and1 (pt_cmpR (op_neL0 hu0) (pe_ix (ixLK (K := K) rfl) (pv 4) pe_int (fun _ _ => rfl)) (pe_lst pa_nil) (nomark _))))) (pss_cons (ps_set (i := 7) sc_law_spoilt.nd rfl (Or.inl rfl) (pe_call Glaw_take (hr.mono (by decide)) (by rfl) Nlaw_take.g Nlaw_take.kp Nlaw_take.b .nil pass0 (pa_cons (pv 0) (pa_cons (pe_callB call_len_seq (by rfl) T.len_ PySem.boot_len (pa_cons (pe_ix (ixLK (K := K) rfl) (pv 4) pe_int (fun _ _ => rfl)) pa_nil)) pa_nil))))
                      (pss_cons (ps_set (i := 8) sc_law_spoilt.nd rfl (Or.inl rfl) (pe_ix (ixLK (K := K) rfl) (pe_lst (pa_cons (pe_lst pa_nil) (pa_cons (pe_lst (pa_cons (pe_call Glaw_odd (hr.mono (by decide)) (by rfl) Nlaw_odd.g Nlaw_odd.kp Nlaw_odd.b .nil pass0 (pa_cons (pv 0) (pa_cons (pv 1) pa_nil))) pa_nil)) (pa_cons (pe_lst (pa_cons (pe_ix (ixLK (K := K) rfl) (pe_ix (ixLK (K := K) rfl) (pv 4) pe_int (fun _ _ => rfl)) (pv 7) (fun _ _ => rfl)) (pa_cons (pe_ix (ixLK (K := K) rfl) (pe_ix (ixLK (K := K) rfl) (pv 4) pe_int (fun _ _ => rfl)) (pv 7) (fun _ _ => rfl)) pa_nil))) pa_nil)))) (pe_call Glaw_take (hr.mono (by decide)) (by rfl) Nlaw_take.g Nlaw_take.kp Nlaw_take.b .nil pass0 (pa_cons (pv 0) (pa_cons pe_int pa_nil))) (fun _ _ => rfl)))
                      (pss_one (ps_asg (pe_op op_cat (pe_op op_cat (pe_slice (slK (K := K) rfl) (pe_ix (ixLK (K := K) rfl) (pv 4) pe_int (fun _ _ => rfl)) po_none (po_some (pv 7))) (pv 8)) (pe_slice (slK (K := K) rfl) (pe_ix (ixLK (K := K) rfl) (pv 4) pe_int (fun _ _ => rfl)) (po_some (pe_op op_add (pv 7) pe_int)) po_none)) (pg_sub (pv 4) pe_int set_list))))) pss_nil))))))))
      (pss_one (ps_ret (pe_lc (own := [("_law_part", 9)]) (g := gName 9) (tt := tYes) rfl sc_law_spoilt.nd (pi_list (pv 4)) (blkOk_by (own := [("_law_part", 9)]) (N := ["_law_box_here", "_law_world_here", "_law_trains", "_law_ends", "_law_some", "_law_turn", "_law_way", "_law_at", "_law_others", "_law_part"]) (sc := defScope s_law_spoilt) (by decide +kernel)) (fun _ _ _ _ _ => (pg_name (i := 9) sc_law_spoilt.nd rfl (Or.inl rfl))) (fun _ _ _ _ _ => pts_nil) (fun _ _ _ _ _ => (pe_ifExp (PW.pt (pw_and (pt_val (pe_callB (isiK (K := K) rfl) (by rfl) T.isinstance_ (by decide +kernel) (pa_cons (pv 9) (pa_cons (pe_bltn (v := .ty "list") (by rfl) T.list_ (by decide +kernel) rfl) pa_nil)))) (pw_and1 (pt_cmpR op_eq (pe_call Glaw_take (hr.mono (by decide)) (by rfl) Nlaw_take.g Nlaw_take.kp Nlaw_take.b .nil pass0 (pa_cons (pv 0) (pa_cons pe_int pa_nil))) pe_int (nomark _))))) (pe_callTy (tupOfK (K := K) rfl) (by rfl) T.tuple_ (by decide +kernel) (pa_cons (pv 9) pa_nil)) (pv 9))))))), ?_⟩
    generalize hσ : L2.start _ _ = σ0
    obtain rfl : σ0 = [some (.ref b), some (.ref W), some (.ref a0), some (.ref a1), none, none, none, none, none, none] := hσ.symm.trans rfl
    refine ⟨_, rfl, a0, xs, rfl, .inl (SqL.of h0), fun q1 g1 => ?_⟩
    have s1 : Same H (upd H q1 (.lst xs)) := same_alloc g1
    have e1 : upd H q1 (.lst xs) q1 = some (.lst xs) := upd_same
    generalize upd H q1 (.lst xs) = H1 at s1 e1 ⊢
    refine ⟨_, rfl, a1, es, rfl, .inr (SqT.of (s1 _ _ h1)), fun q2 g2 => ?_⟩
    have s2 : Same H1 (upd H1 q2 (.lst es)) := same_alloc g2
    have e2 : upd H1 q2 (.lst es) q2 = some (.lst es) := upd_same
    generalize upd H1 q2 (.lst es) = H2 at s2 e2 ⊢
    refine ⟨by show 2 ≤ sizeLine; decide, fun L hL => ?_⟩
    have s02 := s1.trans s2
    have e12 := s2 _ _ e1
    have nL : H L = none := s02.free hL
    have N1 : N q1 := hN q1 g1
    have N2 : N q2 := hN q2 (s1.free g2)
    have n1L : q1 ≠ L := fun e => by rw [← e, e12] at hL; cases hL
    have n2L : q2 ≠ L := fun e => by rw [← e, e2] at hL; cases hL
    have s3 : Same H (upd H2 L (.lst [.ref q1, .ref q2])) := s02.trans (same_alloc hL)
    have f1 : upd H2 L (.lst [.ref q1, .ref q2]) q1 = some (.lst xs) := same_alloc hL _ _ e12
    have f2 : upd H2 L (.lst [.ref q1, .ref q2]) q2 = some (.lst es) := same_alloc hL _ _ e2
    have eL : upd H2 L (.lst [.ref q1, .ref q2]) L = some (.lst [.ref q1, .ref q2]) := upd_same
    generalize upd H2 L (.lst [.ref q1, .ref q2]) = H3 at s3 f1 f2 eL ⊢
    have B3 : Bx b n H3 := hb.same (by obtain ⟨x, y, z, h, _⟩ := hb; rw [h]; exact s3 _ _ h)
    have nLb : L ≠ b := hb.fresh nL
    clear e1 e2 e12 s1 s2 s02 hL g1 g2
    obtain ⟨M, hM⟩ : ∃ M : Addr → Prop, M = fun a => N a ∧ a ≠ L := ⟨_, rfl⟩
    have nMb : ¬ M b := fun h => nb (by rw [hM] at h; exact h.1)
    have nML : ¬ M L := fun h => by rw [hM] at h; exact h.2 rfl
    have MN : ∀ a, M a → N a := fun a h => by rw [hM] at h; exact h.1
    have newM : ∀ {Hc : Hp} {o : HO} {m : Int}, KB b H Hc → Bx b m Hc → Hc L = some o → ∀ a, Hc a = none → M a := fun kb bx e a ha => by
      rw [hM]
      exact ⟨hN a (kb_fresh kb bx ha), fun z => by rw [z, e] at ha; cases ha⟩
    have M1 : M q1 := by rw [hM]; exact ⟨N1, n1L⟩
    have M2 : M q2 := by rw [hM]; exact ⟨N2, n2L⟩
    have u0i : Lu M H3 4 (.ref q1) := ⟨.lst q1 xs 2 f1 M1 (Nat.le_trans l0 (by decide)) fun y hy => ((w0 y hy).imp fun _ h => h.elim).keep (Kw.same s3), fun a ys e q => by cases e; rw [f1] at q; cases q; exact l0⟩
    have u1i : Lu M H3 6 (.ref q2) := ⟨.lst q2 es 2 f2 M2 (Nat.le_trans l1 (by decide)) fun y hy => (((w1 y hy).imp fun _ h => h.elim).keep (Kw.same s3)).mono (fun _ => Nat.le_refl _) mB_mono (by decide), fun a ys e q => by cases e; rw [f2] at q; cases q; omega⟩
    have kb3 : KB b H H3 := fun c o _ e => s3 c o e
    simp only [List.set_cons_succ, List.set_cons_zero]
    dsimp only [gName, List.set_cons_succ, List.set_cons_zero]
    refine ⟨_, rfl, b, 4, n, rfl, B3, by omega, by decide, by decide, fun tn H4 t0 t4 off4 B4 => ⟨tn, rfl, by omega, by omega, ?_⟩⟩
    have kw4 : Kw M H3 H4 := Kw.kb nMb B3 (KB.off off4)
    refine for_it (walk_range (lo := 0) (n := tn.toNat)) (fun i σ H' => ∃ (u0 u1 : V) (v5 v6 v7 v8 v9 : Option V), σ = [some (.ref b), some (.ref W), some (.ref a0), some (.ref a1), some (.ref L), v5, v6, v7, v8, v9] ∧ H' L = some (.lst [u0, u1]) ∧ Lu M H' (4 + 4 * i) u0 ∧ Lu M H' (6 + i) u1 ∧ KB b H H' ∧ Bx b (n + 1 + 15 * i) H') ?_ ?_ ?_ ?_
    · exact ⟨_, _, _, _, _, _, _, rfl, (KB.off off4) _ _ nLb eL, u0i.keep kw4, (u1i.keep kw4), kb3.trans (KB.off off4), B4.mono (by omega)⟩
    · intros; trivial
    · rintro i x σ H5 H5' hi ⟨u0, u1, v5, v6, v7, v8, v9, rfl, eL5, lu0, lu1, kb5, B5⟩ ⟨rfl, rfl⟩
      have i2 : i ≤ 2 := by omega
      simp only [List.set_cons_succ, List.set_cons_zero]
      dsimp only [gName, List.set_cons_succ, List.set_cons_zero]
      refine ⟨_, rfl, b, 8, _, rfl, B5, by omega, by decide, by decide, fun way H6 y0 y1 off6 B6 => ?_⟩
      have kb6 := kb5.trans (KB.off off6)
      have eL6 := (KB.off off6) _ _ nLb eL5
      have lv0 := lu0.keep (Kw.kb nMb B5 (KB.off off6))
      have lv1 := lu1.keep (Kw.kb nMb B5 (KB.off off6))
      simp only [List.set_cons_succ, List.set_cons_zero]
      dsimp only [gName, List.set_cons_succ, List.set_cons_zero]
      have st0 : ∀ {H7 : Hp} {v : V}, KB b H6 H7 → Bx b (n + 1 + 15 * i + 15) H7 → Lu M H7 (4 + 4 * (i + 1)) v → H7 L = some (.lst [u0, u1]) → Lu M (upd H7 L (.lst [v, u1])) (4 + 4 * (i + 1)) v ∧ Lu M (upd H7 L (.lst [v, u1])) (6 + (i + 1)) u1 ∧ KB b H (upd H7 L (.lst [v, u1])) ∧ Bx b (n + 1 + 15 * ((i + 1 : Nat) : Int)) (upd H7 L (.lst [v, u1])) := fun {H7 v} kb B lv e =>
        ⟨lv.keep (kw_upd e nML), ((lv1.keep (Kw.kb nMb B6 kb)).keep (kw_upd e nML)).mono (by omega), fun c o nc h => by rw [upd_ne (fun z => by rw [z, nL] at h; cases h)]; exact kb _ _ nc (kb6 _ _ nc h), (B.put nLb).mono (by push_cast; omega)⟩
      have st1 : ∀ {H7 : Hp} {v : V}, KB b H6 H7 → Bx b (n + 1 + 15 * i + 15) H7 → Lu M H7 (6 + (i + 1)) v → H7 L = some (.lst [u0, u1]) → Lu M (upd H7 L (.lst [u0, v])) (4 + 4 * (i + 1)) u0 ∧ Lu M (upd H7 L (.lst [u0, v])) (6 + (i + 1)) v ∧ KB b H (upd H7 L (.lst [u0, v])) ∧ Bx b (n + 1 + 15 * ((i + 1 : Nat) : Int)) (upd H7 L (.lst [u0, v])) := fun {H7 v} kb B lv e =>
        ⟨((lv0.keep (Kw.kb nMb B6 kb)).keep (kw_upd e nML)).mono (by omega), lv.keep (kw_upd e nML), fun c o nc h => by rw [upd_ne (fun z => by rw [z, nL] at h; cases h)]; exact kb _ _ nc (kb6 _ _ nc h), (B.put nLb).mono (by push_cast; omega)⟩
      have stay : ∀ {H7 : Hp}, Same H6 H7 → H7 L = some (.lst [u0, u1]) ∧ Lu M H7 (4 + 4 * (i + 1)) u0 ∧ Lu M H7 (6 + (i + 1)) u1 ∧ KB b H H7 ∧ Bx b (n + 1 + 15 * ((i + 1 : Nat) : Int)) H7 := fun {H7} s =>
        ⟨s _ _ eL6, (lv0.keep (Kw.same s)).mono (by omega), (lv1.keep (Kw.same s)).mono (by omega), kb6.trans (fun c o _ e => s c o e), (B6.same (by obtain ⟨x, y, z, h, _⟩ := B6; rw [h]; exact s _ _ h)).mono (by push_cast; omega)⟩
      refine ⟨_, rfl, rfl, _, rfl, ite2 (fun c0 => ?_) (fun c0 => ?_)⟩
      · refine ⟨_, rfl, _, rfl, b, W, _, wd, M, rfl, B6, by omega, by omega, ok, newM kb6 B6 eL6, dp_nt (hide_kb kb6) dW, fun o H7 kb7 B7 wo => ?_⟩
        refine ⟨_, rfl, _, rfl, b, 2, _, rfl, B7, by omega, by decide, by decide, fun q H8 q0 q1' off8 B8 => ?_⟩
        have kb8 : KB b H6 H8 := kb7.trans (KB.off off8)
        have eL8 := kb8 _ _ nLb eL6
        have wo8 := wo.keep (Kw.kb nMb B7 (KB.off off8))
        rcases (by omega : q = 0 ∨ q = 1) with rfl | rfl
        · obtain ⟨r1, r2, r3, r4⟩ := st0 kb8 (B8.mono (by omega)) (lu_odd (m := 4 + 4 * (i + 1)) (by omega) wo8) eL8
          exact ⟨L, _, _, 0, rfl, rfl, eL8, rfl, _, _, _, _, _, _, _, rfl, upd_same, r1, r2, r3, r4⟩
        · obtain ⟨r1, r2, r3, r4⟩ := st1 kb8 (B8.mono (by omega)) (lu_odd (m := 6 + (i + 1)) (by omega) wo8) eL8
          exact ⟨L, _, _, 1, rfl, rfl, eL8, rfl, _, _, _, _, _, _, _, rfl, upd_same, r1, r2, r3, r4⟩
      have CC : ∀ {D : Ends} {H7 : Hp}, (∀ τ H', (∃ (u0 u1 : V) (v5 v6 v7 v8 v9 : Option V), τ = [some (.ref b), some (.ref W), some (.ref a0), some (.ref a1), some (.ref L), v5, v6, v7, v8, v9] ∧ H' L = some (.lst [u0, u1]) ∧ Lu M H' (4 + 4 * (i + 1)) u0 ∧ Lu M H' (6 + (i + 1)) u1 ∧ KB b H H' ∧ Bx b (n + 1 + 15 * ((i + 1 : Nat) : Int)) H') → D.nx τ H') → Same H6 H7 →
          tEndsBody K D [some (V.ref b), some (V.ref W), some (V.ref a0), some (V.ref a1), some (V.ref L), some (V.int (0 + (i : Int))), some (V.int way), v7, v8, v9] H7 := by
        intro D H7 nx s67
        have eL7 := s67 _ _ eL6
        refine ⟨_, rfl, L, _, 1, u1, rfl, rfl, SqL.of eL7, rfl, isiL (lv1.1.keep (Kw.same s67)).th (fun _ => ⟨_, rfl, iteF (nx _ _ ⟨_, _, _, _, _, _, _, rfl, stay s67⟩)⟩) (fun a ys e ha => ⟨_, rfl, iteT ?_⟩)⟩
        subst e
        refine ⟨_, rfl, L, _, 1, _, rfl, rfl, SqL.of eL7, rfl, Nat.zero_le _, fun E2 hE2 => ?_⟩
        have s68 : Same H6 (upd H7 E2 (.lst [])) := s67.trans (same_alloc hE2)
        have ha8 : upd H7 E2 (.lst []) a = some (.lst ys) := same_alloc hE2 _ _ ha
        have eE : upd H7 E2 (.lst []) E2 = some (.lst []) := upd_same
        generalize upd H7 E2 (.lst []) = H8 at s68 eE ha8 ⊢
        have eL8 := s68 _ _ eL6
        refine ⟨a, E2, ys, rfl, rfl, SqL.of ha8, SqL.of eE, _, rfl, ?_⟩
        by_cases ny : ys = []
        · subst ny
          exact iteF (nx _ _ ⟨_, _, _, _, _, _, _, rfl, stay s68⟩)
        refine iteT' (by cases ys with | nil => exact absurd rfl ny | cons _ _ => rfl) ?_
        have lpos : 0 < ys.length := List.length_pos_iff.mpr ny
        have lu8 := lv1.keep (Kw.same s68)
        obtain ⟨Ma, _, wys8⟩ := lu8.1.lkid ha8
        have lys := lu8.2 a _ rfl ha8
        have nab : a ≠ b := fun e => nMb (by rw [← e]; exact Ma)
        have naL : a ≠ L := fun e => nML (by rw [← e]; exact Ma)
        have kb68 : KB b H6 H8 := fun c o _ e => s68 c o e
        have B8 : Bx b (n + 1 + 15 * i + 1) H8 := B6.same (by obtain ⟨x, y, z, h, _⟩ := B6; rw [h]; exact s68 _ _ h)
        refine ⟨_, rfl, _, rfl, L, _, 1, _, rfl, rfl, SqL.of eL8, rfl, a, ys, rfl, .inl (SqL.of ha8), b, _, _, rfl, B8, by omega, by omega, dec9000 (by omega) (by omega), fun at_ H9 d0 d1 off9 B9 => ?_⟩
        obtain ⟨j, rfl⟩ := Int.eq_ofNat_of_zero_le d0
        have hj : j < ys.length := by omega
        have yj : ys[j]? = some ys[j] := List.getElem?_eq_getElem hj
        have mj := List.getElem_mem hj
        generalize ys[j] = y at yj mj
        have kb89 : KB b H8 H9 := KB.off off9
        have kb69 := kb68.trans kb89
        have eL9 := kb69 _ _ nLb eL6
        have ha9 := kb89 _ _ nab ha8
        have wys9 : ∀ y ∈ ys, Wg M H9 mB 2 y := fun y hy => (wys8 y hy).keep (Kw.kb nMb B8 kb89)
        simp only [List.set_cons_succ, List.set_cons_zero]
        dsimp only [gName, List.set_cons_succ, List.set_cons_zero]
        refine ⟨Nat.zero_le _, fun p0 g0 => ?_⟩
        have p0b : p0 ≠ b := B9.fresh g0
        have sA : Same H9 (upd H9 p0 (.lst [])) := same_alloc g0
        have e0 : upd H9 p0 (.lst []) p0 = some (.lst []) := upd_same
        have BA := B9.alloc (o := .lst []) g0
        generalize upd H9 p0 (.lst []) = HA at sA e0 BA ⊢
        have kbA : KB b H9 HA := fun c o _ e => sA c o e
        have kb6A := kb69.trans kbA
        refine ⟨_, rfl, _, rfl, b, W, _, wd, M, rfl, BA, by omega, by omega, ok, newM (kb6.trans kb6A) BA (kb6A _ _ nLb eL6), dp_nt (hide_kb (kb6.trans kb6A)) dW, fun o HB kbB BB wo => ⟨by show 1 ≤ sizeLine; decide, fun p1 g1 => ?_⟩⟩
        have p1b : p1 ≠ b := BB.fresh g1
        have sC : Same HB (upd HB p1 (.lst [o])) := same_alloc g1
        have e1 : upd HB p1 (.lst [o]) p1 = some (.lst [o]) := upd_same
        have BC := BB.alloc (o := .lst [o]) g1
        generalize upd HB p1 (.lst [o]) = HC at sC e1 BC ⊢
        have kb9C : KB b H9 HC := kbA.trans (kbB.trans fun c o _ e => sC c o e)
        have kb6C := kb69.trans kb9C
        have eLC := kb6C _ _ nLb eL6
        have haC := kb9C _ _ nab ha9
        refine ⟨_, rfl, L, _, 1, _, rfl, rfl, SqL.of eLC, rfl, _, rfl, a, ys, (j : Int), y, rfl, rfl, SqL.of haC, atI_nat yj, _, rfl, L, _, 1, _, rfl, rfl, SqL.of eLC, rfl, _, rfl, a, ys, (j : Int), y, rfl, rfl, SqL.of haC, atI_nat yj, by show 2 ≤ sizeLine; decide, fun p2 g2 => ⟨by show 3 ≤ sizeLine; decide, fun p3 g3 => ?_⟩⟩
        have sD : Same HC (upd HC p2 (.lst [y, y])) := same_alloc g2
        have e2 : upd HC p2 (.lst [y, y]) p2 = some (.lst [y, y]) := upd_same
        have p2b : p2 ≠ b := BC.fresh g2
        have BD := BC.alloc (o := .lst [y, y]) g2
        generalize upd HC p2 (.lst [y, y]) = HD at sD e2 BD g3 ⊢
        have p3b : p3 ≠ b := BD.fresh g3
        have sE : Same HD (upd HD p3 (.lst [.ref p0, .ref p1, .ref p2])) := same_alloc g3
        have e3 : upd HD p3 (.lst [.ref p0, .ref p1, .ref p2]) p3 = some (.lst [.ref p0, .ref p1, .ref p2]) := upd_same
        have BE := BD.alloc (o := .lst [.ref p0, .ref p1, .ref p2]) g3
        generalize upd HD p3 (.lst [.ref p0, .ref p1, .ref p2]) = HE at sE e3 BE ⊢
        refine ⟨_, rfl, b, 3, _, rfl, BE, by omega, by decide, by decide, fun m HF m0 m1 offF BF => ?_⟩
        have kbEF : KB b HE HF := KB.off offF
        obtain ⟨v, hv, ev⟩ := atI_ex (xs := [V.ref p0, .ref p1, .ref p2]) m0 m1
        have kbCF : KB b HC HF := KB.trans (fun c o _ e => sD c o e) (KB.trans (fun c o _ e => sE c o e) kbEF)
        have kb9F := kb9C.trans kbCF
        have kb6F := kb69.trans kb9F
        have kbBF : KB b HB HF := KB.trans (fun c o _ e => sC c o e) kbCF
        have kbAF : KB b HA HF := kbB.trans kbBF
        have wys : ∀ y ∈ ys, Wg M HF mB 2 y := fun y hy => (wys9 y hy).keep (Kw.kb nMb B9 kb9F)
        have wo2 : Wg M HF mB 2 o := (wo.keep (Kw.kb nMb BB kbBF)).mono (fun _ => Nat.le_refl _) mB_mono (by decide)
        have e3F := kbEF _ _ p3b e3
        obtain ⟨c, zs, rfl, ec, lz, wzs⟩ : ∃ c zs, v = .ref c ∧ HF c = some (.lst zs) ∧ zs.length ≤ 2 ∧ ∀ z ∈ zs, Wg M HF mB 2 z := by
          simp only [List.mem_cons, List.not_mem_nil, or_false] at hv
          rcases hv with rfl | rfl | rfl
          · exact ⟨p0, [], rfl, kbAF _ _ p0b e0, Nat.zero_le _, fun z h => by cases h⟩
          · exact ⟨p1, [o], rfl, kbCF _ _ p1b e1, by show 1 ≤ 2; decide, fun z h => by rw [List.mem_singleton.mp h]; exact wo2⟩
          · refine ⟨p2, [y, y], rfl, kbEF _ _ p2b (sE _ _ e2), Nat.le_refl _, fun z h => ?_⟩
            have : z = y := by simpa using h
            rw [this]
            exact wys y mj
        have eLF := kb6F _ _ nLb eL6
        have haF := kb9F _ _ nab ha9
        refine ⟨p3, _, m, _, rfl, rfl, SqL.of e3F, ev, ?_⟩
        simp only [List.set_cons_succ, List.set_cons_zero]
        dsimp only [gName, List.set_cons_succ, List.set_cons_zero]
        refine ⟨_, rfl, L, _, 1, _, rfl, rfl, SqL.of eLF, rfl, _, rfl, _, rfl, a, ys, rfl, SqL.of haF, fun p4 g4 => ?_⟩
        rw [cut_to]
        have sG : Same HF (upd HF p4 (.lst (ys.take j))) := same_alloc g4
        have e4 : upd HF p4 (.lst (ys.take j)) p4 = some (.lst (ys.take j)) := upd_same
        generalize upd HF p4 (.lst (ys.take j)) = HG at sG e4 ⊢
        refine ⟨_, rfl, p4, c, _, _, rfl, rfl, e4, sG _ _ ec, by rw [List.length_take]; exact small_line (by omega), fun p5 g5 => ?_⟩
        have sH : Same HG (upd HG p5 (.lst (ys.take j ++ zs))) := same_alloc g5
        have e5 : upd HG p5 (.lst (ys.take j ++ zs)) p5 = some (.lst (ys.take j ++ zs)) := upd_same
        generalize upd HG p5 (.lst (ys.take j ++ zs)) = HI at sH e5 ⊢
        have sFI := sG.trans sH
        refine ⟨_, rfl, L, _, 1, _, rfl, rfl, SqL.of (sFI _ _ eLF), rfl, _, rfl, _, _, rfl, rfl, _, rfl, a, ys, rfl, SqL.of (sFI _ _ haF), fun p6 g6 => ?_⟩
        rw [show (j : Int) + 1 = ((j + 1 : Nat) : Int) by omega, cut_from]
        have sJ : Same HI (upd HI p6 (.lst (ys.drop (j + 1)))) := same_alloc g6
        have e6 : upd HI p6 (.lst (ys.drop (j + 1))) p6 = some (.lst (ys.drop (j + 1))) := upd_same
        generalize upd HI p6 (.lst (ys.drop (j + 1))) = HJ at sJ e6 ⊢
        refine ⟨p5, p6, _, _, rfl, rfl, sJ _ _ e5, e6, by rw [List.length_append, List.length_take, List.length_drop]; exact small_line (by omega), fun p7 g7 => ?_⟩
        have sFJ := sFI.trans sJ
        have sK : Same HF (upd HJ p7 (.lst (ys.take j ++ zs ++ ys.drop (j + 1)))) := sFJ.trans (same_alloc g7)
        have e7 : upd HJ p7 (.lst (ys.take j ++ zs ++ ys.drop (j + 1))) p7 = some (.lst (ys.take j ++ zs ++ ys.drop (j + 1))) := upd_same
        have f7 : HF p7 = none := sFJ.free g7
        generalize upd HJ p7 (.lst (ys.take j ++ zs ++ ys.drop (j + 1))) = HK at sK e7 ⊢
        have kb6K : KB b H6 HK := kb6F.trans fun c o _ e => sK c o e
        have BK : Bx b (n + 1 + 15 * i + 15) HK := (BF.same (by obtain ⟨x, y, z, h, _⟩ := BF; rw [h]; exact sK _ _ h)).mono (by omega)
        have Mp : M p7 := newM (kb6.trans kb6F) BF eLF p7 f7
        have l7 : (ys.take j ++ zs ++ ys.drop (j + 1)).length ≤ 6 + (i + 1) := by rw [List.length_append, List.length_append, List.length_take, List.length_drop]; omega
        have lup : Lu M HK (6 + (i + 1)) (.ref p7) := ⟨.lst p7 _ 2 e7 Mp (Nat.le_trans l7 (by show 6 + (i + 1) ≤ 20; omega)) fun z hz => by
          simp only [List.mem_append] at hz
          rcases hz with (hz | hz) | hz
          · exact (wys z (List.mem_of_mem_take hz)).keep (Kw.same sK)
          · exact (wzs z hz).keep (Kw.same sK)
          · exact (wys z (List.mem_of_mem_drop hz)).keep (Kw.same sK), fun a' ys' e q => by cases e; rw [e7] at q; cases q; exact l7⟩
        have eLK := sK _ _ eLF
        obtain ⟨r1, r2, r3, r4⟩ := st1 kb6K BK lup eLK
        exact ⟨_, rfl, L, _, _, 1, rfl, rfl, eLK, rfl, nx _ _ ⟨_, _, _, _, _, _, _, rfl, upd_same, r1, r2, r3, r4⟩⟩
      have done : ∀ τ H', (∃ (u0 u1 : V) (v5 v6 v7 v8 v9 : Option V), τ = [some (.ref b), some (.ref W), some (.ref a0), some (.ref a1), some (.ref L), v5, v6, v7, v8, v9] ∧ H' L = some (.lst [u0, u1]) ∧ Lu M H' (4 + 4 * (i + 1)) u0 ∧ Lu M H' (6 + (i + 1)) u1 ∧ KB b H H' ∧ Bx b (n + 1 + 15 * ((i + 1 : Nat) : Int)) H') → (∃ (u0 u1 : V) (v5 v6 v7 v8 v9 : Option V), τ = [some (.ref b), some (.ref W), some (.ref a0), some (.ref a1), some (.ref L), v5, v6, v7, v8, v9] ∧ H' L = some (.lst [u0, u1]) ∧ Lu M H' (4 + 4 * (i + 1)) u0 ∧ Lu M H' (6 + (i + 1)) u1 ∧ KB b H H' ∧ Bx b (n + 1 + 15 * ((i + 1 : Nat) : Int)) H') := fun _ _ h => h
      refine ⟨_, rfl, _, _, rfl, rfl, _, rfl, ite2 (fun c1 => ?_) (fun c1 => CC done (Same.refl H6))⟩
      refine ⟨_, rfl, L, _, 0, u0, rfl, rfl, SqL.of eL6, rfl, isiL lv0.1.th (fun _ => ⟨_, rfl, iteF (CC done (Same.refl H6))⟩) (fun a ys e ha => ⟨_, rfl, iteT ?_⟩)⟩
      subst e
      refine ⟨_, rfl, L, _, 0, _, rfl, rfl, SqL.of eL6, rfl, Nat.zero_le _, fun E2 hE2 => ?_⟩
      have s67 : Same H6 (upd H6 E2 (.lst [])) := same_alloc hE2
      have eE : upd H6 E2 (.lst []) E2 = some (.lst []) := upd_same
      generalize upd H6 E2 (.lst []) = H7 at s67 eE ⊢
      refine ⟨a, E2, ys, rfl, rfl, SqL.of (s67 _ _ ha), SqL.of eE, _, rfl, ?_⟩
      cases ys with
      | nil => exact iteF (CC done s67)
      | cons y0 yr =>
        refine iteT ?_
        have kb67 : KB b H6 H7 := fun c o _ e => s67 c o e
        have B7 : Bx b (n + 1 + 15 * i + 1) H7 := B6.same (by obtain ⟨x, y, z, h, _⟩ := B6; rw [h]; exact s67 _ _ h)
        have eL7 := s67 _ _ eL6
        obtain ⟨Ma, _, wys⟩ := lv0.1.lkid ha
        have lys := lv0.2 a _ rfl ha
        have nab : a ≠ b := fun e => nMb (by rw [← e]; exact Ma)
        refine ⟨_, rfl, _, rfl, _, rfl, L, _, 0, _, rfl, rfl, SqL.of eL7, rfl, b, W, a, _, wd, M, y0 :: yr, rfl, B7, by omega, by omega, ok, nMb, newM (kb6.trans kb67) B7 eL7, dp_nt (hide_kb (kb6.trans kb67)) dW, nab, s67 _ _ ha, by simp, by omega, fun y hy => (wys y hy).keep (Kw.same s67), fun p zs H8 kb8 B8 fp ep lz wz => ?_⟩
        have kb68 := kb67.trans kb8
        have eL8 := kb68 _ _ nLb eL6
        have Mp : M p := newM (kb6.trans kb67) B7 eL7 p fp
        have lup : Lu M H8 (4 + 4 * (i + 1)) (.ref p) := ⟨.lst p zs 2 ep Mp (by show zs.length ≤ 20; omega) wz, fun a' ys' e q => by cases e; rw [ep] at q; cases q; omega⟩
        obtain ⟨r1, r2, r3, r4⟩ := st0 kb68 (B8.mono (by omega)) lup eL8
        exact ⟨_, rfl, L, _, _, 0, rfl, rfl, eL8, rfl, _, _, _, _, _, _, _, rfl, upd_same, r1, r2, r3, r4⟩
    · rintro σ H5 ⟨u0, u1, v5, v6, v7, v8, v9, rfl, eL5, lu0, lu1, kb5, B5⟩
      have eLf := eL5
      refine ⟨_, rfl, L, rfl, ⟨_, SqL.of eL5⟩, fun D hD => ?_⟩
      have nDb : D ≠ b := B5.fresh hD
      have nDL : D ≠ L := fun e => by rw [e, eL5] at hD; cases hD
      have hDH : H D = none := kb_fresh kb5 B5 hD
      have kbD : KB b H (upd H5 D (.lst [])) := kb5.trans (KB.alloc hD)
      refine lc_it (walk_list (K := K) (xs := [u0, u1])) (fun i H' => ∃ acc, H' D = some (.lst acc) ∧ acc.length = i ∧ (∀ z ∈ acc, Wg (fun a => M a ∧ a ≠ D) H' mB 3 z) ∧ (∀ z ∈ [u0, u1], Wg (fun a => M a ∧ a ≠ D) H' mB 3 z) ∧ KB b H H' ∧ H' L = some (.lst [u0, u1]) ∧ Bx b (n + 1 + 15 * (tn.toNat : Nat) + i) H') ?_ ?_ ?_ ?_
      · have s5 : Same H5 (upd H5 D (.lst [])) := same_alloc hD
        refine ⟨[], upd_same, rfl, fun z h => (by cases h), fun z hz => ?_, kbD, by rw [upd_ne nDL.symm]; exact eL5, (B5.alloc hD).mono (by omega)⟩
        simp only [List.mem_cons, List.not_mem_nil, or_false] at hz
        rcases hz with rfl | rfl
        · exact (wg_off hD lu0.1).keep (Kw.same s5)
        · exact (wg_off hD lu1.1).keep (Kw.same s5)
      · rintro i H' _ ⟨_, _, _, _, _, _, e, _⟩
        exact SqL.of e
      · rintro i z H6 H7 hi ⟨acc, eD, la, wacc, wu, kb6, eL6, B6⟩ ⟨rfl, hz⟩
        have hi2 : i < 2 := hi
        have wz := wu z (List.mem_of_getElem? hz)
        have nM' : ¬ ((fun a => M a ∧ a ≠ D) b) := fun h => nMb h.1
        have nMD : ¬ ((fun a => M a ∧ a ≠ D) D) := fun h => h.2 rfl
        have add : ∀ {H8 : Hp} {z' : V}, KB b H7 H8 → Bx b (n + 1 + 15 * (tn.toNat : Nat) + i + 1) H8 → Wg (fun a => M a ∧ a ≠ D) H8 mB 3 z' → ∃ acc0, H8 D = some (.lst acc0) ∧ acc0.length < sizeLine ∧ ∃ acc1, upd H8 D (.lst (acc0 ++ [z'])) D = some (.lst acc1) ∧ acc1.length = i + 1 ∧ (∀ z ∈ acc1, Wg (fun a => M a ∧ a ≠ D) (upd H8 D (.lst (acc0 ++ [z']))) mB 3 z) ∧ (∀ z ∈ [u0, u1], Wg (fun a => M a ∧ a ≠ D) (upd H8 D (.lst (acc0 ++ [z']))) mB 3 z) ∧ KB b H (upd H8 D (.lst (acc0 ++ [z']))) ∧ upd H8 D (.lst (acc0 ++ [z'])) L = some (.lst [u0, u1]) ∧ Bx b (n + 1 + 15 * (tn.toNat : Nat) + ((i + 1 : Nat) : Int)) (upd H8 D (.lst (acc0 ++ [z']))) := by
          intro H8 z' kb B wz'
          have e := kb _ _ nDb eD
          have ku := kw_upd (N := fun a => M a ∧ a ≠ D) (ws := acc ++ [z']) e nMD
          have k8 := Kw.kb (N := fun a => M a ∧ a ≠ D) nM' B6 kb
          refine ⟨acc, e, Nat.lt_of_le_of_lt (m := 10) (by omega) (by rw [sizeLine_eq]; decide), _, upd_same, by rw [List.length_append, la]; rfl, fun y hy => ?_, fun y hy => ((wu y hy).keep k8).keep ku, fun c o nc h => ?_, by rw [upd_ne nDL.symm]; exact kb _ _ nLb eL6, (B.put nDb).mono (by push_cast; omega)⟩
          · rcases List.mem_append.mp hy with hy | hy
            · exact ((wacc y hy).keep k8).keep ku
            · rw [List.mem_singleton.mp hy]
              exact wz'.keep ku
          · rw [upd_ne (fun q => by rw [q, hDH] at h; cases h)]
            exact kb _ _ nc (kb6 _ _ nc h)
        refine ⟨wipe1 (by simp), lcY ?_⟩
        refine ⟨_, rfl, isiL wz.th (fun _ => ⟨_, rfl, iteF (iteF ⟨_, rfl, add (KB.refl b H7) (B6.mono (by omega)) wz⟩)⟩) (fun a ys e ha => ⟨_, rfl, iteT ?_⟩)⟩
        subst e
        refine ⟨_, rfl, b, 2, _, rfl, B6, by omega, by decide, by decide, fun m H8 r0 r1 off8 B8 => ⟨rfl, _, rfl, ?_⟩⟩
        have kb8 : KB b H7 H8 := KB.off off8
        have wz8 := wz.keep (Kw.kb (N := fun a => M a ∧ a ≠ D) nM' B6 kb8)
        obtain ⟨na, lys, wys⟩ := wz.lkid ha
        have ha8 : H8 a = some (.lst ys) := kb8 _ _ (fun e => nM' (by rw [← e]; exact na)) ha
        refine ite2 (fun cc => ?_) (fun cc => ?_)
        · refine ⟨_, rfl, a, ys, rfl, .inl ⟨SqL.of ha8, fun l hl => ?_⟩⟩
          have s9 : Same H8 (upd H8 l (.tup ys)) := same_alloc hl
          exact add (kb8.trans (KB.alloc hl)) (B8.alloc hl) (.tup l ys 2 upd_same lys fun y hy => (((wys y hy).keep (Kw.kb (N := fun a => M a ∧ a ≠ D) nM' B6 kb8)).keep (Kw.same s9)))
        · exact ⟨_, rfl, add kb8 B8 wz8⟩
      · rintro H6 ⟨acc, eD, la, wacc, wu, kb6, eL6, B6⟩
        match acc, la with
        | [z0, z1], _ =>
          have MNd : ∀ a, (M a ∧ a ≠ D) → N a := fun a h => MN a h.1
          exact k D z0 z1 H6 kb6 (B6.mono (by have : (tn.toNat : Int) ≤ 3 := by omega
                                              show n + 1 + 15 * (tn.toNat : Int) + ((2 : Nat) : Int) ≤ n + 60
                                              omega)) hDH eD ((wacc z0 (by simp)).imp MNd) ((wacc z1 (by simp)).imp MNd)
end
end T9

set_option maxRecDepth 100000
set_option maxHeartbeats 3200000
namespace T9
open PySem PySem.Spec PyProof.Rows L2 GxR Gd TL My
/-- trains and the numbers of their places, in a heap -/
inductive Pri (H : Hp) : List V → List (Str × Nat) → Prop
  | nil : Pri H [] []
  | cons {c : Addr} {a : Str × Nat} {vs : List V} {l : List (Str × Nat)} : H c = some (.tup [.str a.1, .int (a.2 : Nat)]) → Pri H vs l → Pri H (.ref c :: vs) (a :: l)
theorem Pri.nt {H H' : Hp} (u : Nt H H') {vs : List V} {l : List (Str × Nat)} (h : Pri H vs l) : Pri H' vs l := by
  induction h with
  | nil => exact .nil
  | cons e _ ih => exact .cons (u _ _ (by simp) e) ih
theorem Pri.len {H : Hp} {vs : List V} {l : List (Str × Nat)} (h : Pri H vs l) : vs.length = l.length := by
  induction h with
  | nil => rfl
  | cons _ _ ih => rw [List.length_cons, List.length_cons, ih]
theorem Pri.at {H : Hp} {vs : List V} {l : List (Str × Nat)} (h : Pri H vs l) : ∀ {i : Nat} {v : V}, vs[i]? = some v → ∃ c a, v = .ref c ∧ l[i]? = some a ∧ H c = some (.tup [.str a.1, .int (a.2 : Nat)]) := by
  induction h with
  | nil => intro i v hv; cases hv
  | cons e _ ih =>
    intro i v hv
    match i with
    | 0 => exact ⟨_, _, (Option.some.inj hv).symm, rfl, e⟩
    | i + 1 => exact ih (by simpa using hv)
section
variable {P : Program} {w : World} {K : PySem.W.Frag} {mg : Str → Option Value} {base : Heap}
abbrev s_law_state : Stmt := top 42
theorem sc_law_state : FnScope ["_law_begun_here", "_law_name", "_law_place"] ["_law_begun_here"] (defScope s_law_state) := ⟨rfl, rfl, rfl, by decide +kernel, rfl, by decide +kernel, by decide +kernel⟩
def spLawState : Sp := fun vs H Q _ => ∃ (G A1 A2 : Addr) (xs : List V) (l : List (Str × Nat)) (hs : List V), vs = [.ref G] ∧ H G = some (.lst [.ref A1, .ref A2]) ∧ H A1 = some (.lst xs) ∧ Pri H xs l ∧ l.length ≤ 10 ∧ H A2 = some (.lst hs) ∧
  ∀ t t1 t2 H', Same H H' → H' t = some (.tup [.ref t1, .ref t2]) → H' t1 = some (.tup (l.map fun a => V.int (a.2 : Nat))) → H' t2 = some (.tup hs) → Q (.ref t) H'
theorem ok_law_state {f : Addr} {fd : FuncData} (F : Fun K "_law_state" "_law_state" s_law_state f fd) (T : Txt mg) : FnOk P w K mg base CX0 1 f fd ["_law_begun_here"] spLawState := by
  refine F.ok sc_law_state (fun vs H Q E h => ?_) (fun cdv A outer s H vs Q E hr h => ?_)
  · obtain ⟨G, A1, A2, xs, l, hs, rfl, _⟩ := h
    rfl
  · obtain ⟨G, A1, A2, xs, l, hs, rfl, hG, h1, pr, l10, h2, k⟩ := h
    refine ⟨_, pss_one (ps_ret (pe_tup (pa_cons (pe_callTy call_tuple_of (by rfl) T.tuple_ (by decide +kernel) (pa_cons (pe_lc (own := [("_law_name", 1), ("_law_place", 2)]) (g := gTup K 2 (gCons (gName 1) (gCons (gName 2) gNil))) (tt := tYes) rfl sc_law_state.nd (pi_list (pe_ix ix_list (pv 0) pe_int (fun _ _ => rfl))) (blkOk_by (own := [("_law_name", 1), ("_law_place", 2)]) (N := ["_law_begun_here", "_law_name", "_law_place"]) (sc := defScope s_law_state) (by decide +kernel)) (fun _ _ _ _ _ => (pg_tup (by rfl) (pgs_cons (pg_name (i := 1) sc_law_state.nd rfl (Or.inl rfl)) (pgs_cons (pg_name (i := 2) sc_law_state.nd rfl (Or.inl rfl)) pgs_nil)))) (fun _ _ _ _ _ => pts_nil) (fun _ _ _ _ _ => (pv 2))) pa_nil)) (pa_cons (pe_callTy call_tuple_of (by rfl) T.tuple_ (by decide +kernel) (pa_cons (pe_ix ix_list (pv 0) pe_int (fun _ _ => rfl)) pa_nil)) pa_nil)))), ?_⟩
    generalize hσ : L2.start _ _ = σ0
    obtain rfl : σ0 = [some (.ref G), none, none] := hσ.symm.trans rfl
    have lx := pr.len
    refine ⟨_, rfl, G, _, 0, _, rfl, rfl, SqL.of hG, rfl, A1, rfl, ⟨_, SqL.of h1⟩, fun D hD => some_it (walk_list (K := K) (xs := xs)) (src := l) (F := fun a => some (V.int (a.2 : Nat))) lx.symm (by omega) hD (fun H' kb => SqL.of (kb _ _ (ne_of_none h1 hD) h1)) ?_ ?_⟩
    · rintro i v a H' C B hv ha s k _
      obtain ⟨c, a', rfl, ha', hc⟩ := pr.at hv
      obtain rfl := Option.some.inj (ha.symm.trans ha')
      exact ⟨c, _, rfl, SqT.of (s _ _ hc), rfl, _, _, rfl, _, _, rfl, rfl, wipe2 (by simp) (by simp), lcY ⟨_, rfl, k _ _ rfl (Same.refl _)⟩⟩
    · intro H1 s1 eD
      rw [show l.filterMap (fun a => some (V.int (a.2 : Nat))) = l.map fun a => V.int (a.2 : Nat) from by rw [List.filterMap_eq_map']] at eD
      refine ⟨D, _, rfl, .inl ⟨SqL.of eD, fun p1 g1 => ?_⟩⟩
      have s2 : Same H (upd H1 p1 (.tup (l.map fun a => V.int (a.2 : Nat)))) := s1.trans (same_alloc g1)
      have e1 : upd H1 p1 (.tup (l.map fun a => V.int (a.2 : Nat))) p1 = some (.tup (l.map fun a => V.int (a.2 : Nat))) := upd_same
      generalize upd H1 p1 (.tup (l.map fun a => V.int (a.2 : Nat))) = H2 at s2 e1 ⊢
      refine ⟨_, rfl, G, _, 1, _, rfl, rfl, SqL.of (s2 _ _ hG), rfl, A2, hs, rfl, .inl ⟨SqL.of (s2 _ _ h2), fun p2 g2 => ⟨by show 2 ≤ sizeLine; decide, fun p3 g3 => ?_⟩⟩⟩
      have s3 : Same H2 (upd H2 p2 (.tup hs)) := same_alloc g2
      have s4 : Same (upd H2 p2 (.tup hs)) (upd (upd H2 p2 (.tup hs)) p3 (.tup [.ref p1, .ref p2])) := same_alloc g3
      exact k p3 p1 p2 _ (s2.trans (s3.trans s4)) upd_same (s4 _ _ (s3 _ _ e1)) (s4 _ _ upd_same)
abbrev s_law_told : Stmt := top 43
theorem sc_law_told : FnScope ["_law_world_here", "_law_state_here", "_law_names_here", "_law_ends", "_law_name", "_law_roads", "_law_k", "_law_end", "_law_place"] ["_law_world_here", "_law_state_here"] (defScope s_law_told) := ⟨rfl, rfl, rfl, by decide +kernel, rfl, by decide +kernel, by decide +kernel⟩
/-- the end of a stretch by its number -/
def endOf (wd : Wd) (k h : Nat) : Str := match wd.ps[k + h]? with
  | some p => p.1
  | none => Str.empty
def namAt (wd : Wd) (i : Nat) : Str := endOf wd i 0
def spTold (K : PySem.W.Frag) : Sp := fun vs H Q _ => ∃ (W S t1 t2 : Addr) (wd : Wd) (is hs : List Nat), vs = [.ref W, .ref S] ∧ Dp K H (.ref W) wd.data ∧ wd.Ok ∧ H S = some (.tup [.ref t1, .ref t2]) ∧ H t1 = some (.tup (is.map fun (i : Nat) => V.int (i : Int))) ∧ is.length ≤ 10 ∧ (∀ i ∈ is, i < wd.ps.length) ∧
  H t2 = some (.tup (hs.map fun (i : Nat) => V.int (i : Int))) ∧ hs.length = wd.st.length ∧ (∀ h ∈ hs, h ≤ 1) ∧
  ∀ t u1 u2 H', Same H H' → H' t = some (.tup [.ref u1, .ref u2]) → H' u1 = some (.tup (is.map fun i => V.str (namAt wd i))) → (∃ es : List Str, H' u2 = some (.tup (es.map V.str)) ∧ es.length = wd.st.length ∧ ∀ z ∈ es, z ∈ wd.ps.map (·.1)) → Q (.ref t) H'
theorem ok_told {f : Addr} {fd : FuncData} (F : Fun K "_law_told" "_law_told" s_law_told f fd) (T : Txt mg) : FnOk P w K mg base CX0 1 f fd ["_law_world_here", "_law_state_here"] (spTold K) := by
  refine F.ok sc_law_told (fun vs H Q E h => ?_) (fun cdv A outer s H vs Q E hr h => ?_)
  · obtain ⟨W, S, t1, t2, wd, is, hs, rfl, _⟩ := h
    rfl
  · obtain ⟨W, S, t1, t2, wd, is, hs, rfl, hD, ok, hS, h1, l10, hi1, h2, lh, hh, k⟩ := h
    refine ⟨_, pss_cons (ps_set (i := 2) sc_law_told.nd rfl (Or.inr rfl) (pe_lc (own := [("_law_name", 4), ("_law_roads", 5)]) (g := gTup K 2 (gCons (gName 4) (gCons (gName 5) gNil))) (tt := tYes) rfl sc_law_told.nd (pi_list (pe_ix ix_list (pv 0) pe_int (fun _ _ => rfl))) (blkOk_by (own := [("_law_name", 4), ("_law_roads", 5)]) (N := ["_law_world_here", "_law_state_here", "_law_names_here", "_law_ends", "_law_name", "_law_roads", "_law_k", "_law_end", "_law_place"]) (sc := defScope s_law_told) (by decide +kernel)) (fun _ _ _ _ _ => (pg_tup (by rfl) (pgs_cons (pg_name (i := 4) sc_law_told.nd rfl (Or.inl rfl)) (pgs_cons (pg_name (i := 5) sc_law_told.nd rfl (Or.inl rfl)) pgs_nil)))) (fun _ _ _ _ _ => pts_nil) (fun _ _ _ _ _ => (pv 4))))
      (pss_cons (ps_setLc (i := 3) (own := [("_law_k", 6), ("_law_end", 7)]) (g := gTup K 2 (gCons (gName 6) (gCons (gName 7) gNil))) (tt := tYes) rfl sc_law_told.nd rfl rfl (sw_true rfl rfl rfl (by decide +kernel)) (pi_enumT (by rfl) T.enumerate_ (pa_cons (pe_ix ix_tup (pv 1) pe_int (fun _ _ => rfl)) pa_nil)) (blkOk_by (own := [("_law_k", 6), ("_law_end", 7)]) (N := ["_law_world_here", "_law_state_here", "_law_names_here", "_law_ends", "_law_name", "_law_roads", "_law_k", "_law_end", "_law_place"]) (sc := defScope s_law_told) (by decide +kernel)) (fun _ _ _ _ _ => (pg_tup (by rfl) (pgs_cons (pg_name (i := 6) sc_law_told.nd rfl (Or.inl rfl)) (pgs_cons (pg_name (i := 7) sc_law_told.nd rfl (Or.inl rfl)) pgs_nil)))) (fun _ _ _ _ _ => pts_nil) (fun _ _ _ _ _ => (pe_ix (ixLK (K := K) rfl) (pv 2) (pe_op op_add (pv 6) (pv 7)) (fun _ _ => rfl))))
      (pss_one (ps_ret (pe_tup (pa_cons (pe_callTy call_tuple_of (by rfl) T.tuple_ (by decide +kernel) (pa_cons (pe_lc (own := [("_law_place", 8)]) (g := gName 8) (tt := tYes) rfl sc_law_told.nd (pi_tup (pe_ix ix_tup (pv 1) pe_int (fun _ _ => rfl))) (blkOk_by (own := [("_law_place", 8)]) (N := ["_law_world_here", "_law_state_here", "_law_names_here", "_law_ends", "_law_name", "_law_roads", "_law_k", "_law_end", "_law_place"]) (sc := defScope s_law_told) (by decide +kernel)) (fun _ _ _ _ _ => (pg_name (i := 8) sc_law_told.nd rfl (Or.inl rfl))) (fun _ _ _ _ _ => pts_nil) (fun _ _ _ _ _ => (pe_ix (ixLK (K := K) rfl) (pv 2) (pv 8) (fun _ _ => rfl)))) pa_nil)) (pa_cons (pe_callTy call_tuple_of (by rfl) T.tuple_ (by decide +kernel) (pa_cons (pv 3) pa_nil)) pa_nil)))))), ?_⟩
    generalize hσ : L2.start _ _ = σ0
    obtain rfl : σ0 = [some (.ref W), some (.ref S), none, none, none, none, none, none, none] := hσ.symm.trans rfl
    obtain ⟨W', x0, x1, x2, x3, eW, hW, q0, _, _, _⟩ := dp_four hD
    obtain rfl := V.ref.inj eW
    obtain ⟨ap, xp, rfl, hap, dap⟩ := dp_list q0
    have lp : xp.length = wd.ps.length := by rw [dpAll_len dap, List.length_map]
    have p6 := ok.p6
    have sl := ok.sl
    refine ⟨_, rfl, W, _, 0, .ref ap, rfl, rfl, hW, rfl, ap, rfl, ⟨_, hap⟩, fun D hD' => some_it (walk_list (K := K) (xs := xp)) (src := wd.ps) (F := fun p => some (V.str p.1)) lp.symm (by omega) hD' (fun H' kb => (KB.seq' hD' kb).seq hap) ?_ ?_⟩
    · rintro i v a H' C B hv ha s k _
      obtain ⟨d, hd1, hd2⟩ := dpAll_get dap hv
      obtain ⟨p, hp, rfl⟩ := get_map hd1
      obtain rfl := Option.some.inj (ha.symm.trans hp)
      obtain ⟨t, y1, y2, rfl, ht, r1, r2⟩ := dp_two hd2
      obtain rfl := dp_str r1
      obtain rfl := dp_int r2
      exact ⟨t, _, rfl, (same_nt s).seqT ht, rfl, _, _, rfl, _, _, rfl, rfl, wipe2 (by simp) (by simp), lcY ⟨_, rfl, k _ _ rfl (Same.refl _)⟩⟩
    intro H1 s1 eD
    have e2 : wd.ps.filterMap (fun p => some (V.str p.1)) = (wd.ps.map (·.1)).map V.str := by
      rw [List.filterMap_eq_map', List.map_map]
      rfl
    rw [e2] at eD
    simp only [List.set_cons_succ, List.set_cons_zero]
    dsimp only [gName, List.set_cons_succ, List.set_cons_zero]
    have at_ : ∀ {j : Nat}, j < wd.ps.length → atI ((wd.ps.map (·.1)).map V.str) (j : Int) = some (.str (namAt wd j)) := fun {j} hj => by
      have ep : wd.ps[j]? = some wd.ps[j] := List.getElem?_eq_getElem hj
      have : namAt wd j = (wd.ps[j]).1 := by unfold namAt endOf; rw [Nat.add_zero, ep]
      rw [this]
      refine atI_nat ?_
      rw [List.getElem?_map, List.getElem?_map, ep]
      rfl
    have lhm : (hs.map fun (i : Nat) => V.int (i : Int)).length = hs.length := List.length_map ..
    refine ⟨_, rfl, S, _, 1, .ref t2, rfl, rfl, SqT.of (s1 _ _ hS), rfl, t2, _, rfl, SqT.of (s1 _ _ h2), fun D2 hD2 => lc_it (walk_enumT (K := K) (a := t2) (xs := hs.map fun (i : Nat) => V.int (i : Int))) (fun i H' => KB D2 H1 H' ∧ H' D2 = some (.lst (((List.range i).map fun k => namAt wd (k + hs.getD k 0)).map V.str))) ⟨KB.alloc hD2, upd_same⟩ (fun i H' _ h => SqT.of (h.1 _ _ (ne_of_none (s1 _ _ h2) hD2) (s1 _ _ h2))) ?_ ?_⟩
    · rintro i y H2 H3 hi ⟨kb, eD2⟩ ⟨tt, u, v, rfl, htt, rfl, g1, g2⟩
      obtain rfl := Option.some.inj g1
      have il : i < hs.length := by omega
      have ehi : hs[i]? = some hs[i] := List.getElem?_eq_getElem il
      have g2 : (hs.map fun (i : Nat) => V.int (i : Int))[i]? = some v := g2
      rw [List.getElem?_map, ehi] at g2
      obtain rfl := Option.some.inj g2
      have hle := hh _ (List.getElem_mem il)
      have egd : hs.getD i 0 = hs[i] := by rw [List.getD_eq_getElem?_getD, ehi]; rfl
      have s12 : Same H1 (upd H2 tt (.tup [.int (i : Nat), .int (hs[i] : Nat)])) := fun c o e => same_alloc htt _ _ (kb c o (ne_of_none e hD2) e)
      have ntD : tt ≠ D2 := fun e => by rw [e, eD2] at htt; cases htt
      have kb3 : KB D2 H1 (upd H2 tt (.tup [.int (i : Nat), .int (hs[i] : Nat)])) := kb.trans (KB.alloc htt)
      have e3 : upd H2 tt (.tup [.int (i : Nat), .int (hs[i] : Nat)]) D2 = some (.lst (((List.range i).map fun k => namAt wd (k + hs.getD k 0)).map V.str)) := by rw [upd_ne ntD.symm]; exact eD2
      have et : upd H2 tt (.tup [.int (i : Nat), .int (hs[i] : Nat)]) tt = some (.tup [.int (i : Nat), .int (hs[i] : Nat)]) := upd_same
      have ea := at_ (j := i + hs[i]) (by omega)
      generalize upd H2 tt (.tup [.int (i : Nat), .int (hs[i] : Nat)]) = H3 at s12 kb3 e3 et ⊢
      refine ⟨tt, _, rfl, SqT.of et, rfl, _, _, rfl, _, _, rfl, rfl, wipe2 (by simp) (by simp), lcY ?_⟩
      refine ⟨_, rfl, _, rfl, _, rfl, _, _, rfl, rfl, D, _, _, _, rfl, rfl, SqL.of (s12 _ _ eD), by rw [← Int.natCast_add]; exact ea, _, e3, ?_, fun c o n e => by rw [upd_ne n]; exact kb3 c o n e, ?_⟩
      · rw [List.length_map, List.length_map, List.length_range]
        exact Nat.lt_of_le_of_lt (m := 10) (by omega) (by rw [sizeLine_eq]; decide)
      · rw [upd_same, List.range_succ, List.map_append, List.map_append]
        show _ = some (HO.lst (_ ++ [V.str (namAt wd (i + hs.getD i 0))]))
        rw [egd]
    rintro H2 ⟨kb2, eD2⟩
    rw [lhm] at eD2
    have s12 : Same H1 H2 := fun c o e => kb2 c o (ne_of_none e hD2) e
    have s2 := s1.trans s12
    simp only [List.set_cons_succ, List.set_cons_zero]
    dsimp only [gName, List.set_cons_succ, List.set_cons_zero]
    refine ⟨_, rfl, S, _, 0, .ref t1, rfl, rfl, SqT.of (s2 _ _ hS), rfl, t1, rfl, ⟨_, SqT.of (s2 _ _ h1)⟩, fun D3 hD3 => some_it (walk_tup (K := K) (xs := is.map fun (i : Nat) => V.int (i : Int))) (src := is) (F := fun i => some (V.str (namAt wd i))) (by rw [List.length_map]) (by omega) hD3 (fun H' kb => SqT.of (kb _ _ (ne_of_none (s2 _ _ h1) hD3) (s2 _ _ h1))) ?_ ?_⟩
    · rintro m v a H' C B hv ha s k _
      rw [List.getElem?_map, ha] at hv
      obtain rfl := Option.some.inj hv
      exact ⟨wipe1 (by simp), lcY ⟨_, rfl, _, rfl, D, _, _, _, rfl, rfl, SqL.of (s _ _ (s12 _ _ eD)), at_ (hi1 a (List.mem_of_getElem? ha)), k _ _ rfl (Same.refl _)⟩⟩
    · intro H3 s23 eD3
      rw [show is.filterMap (fun i => some (V.str (namAt wd i))) = is.map fun i => V.str (namAt wd i) from by rw [List.filterMap_eq_map']] at eD3
      refine ⟨D3, _, rfl, .inl ⟨SqL.of eD3, fun p1 g1 => ?_⟩⟩
      have s4 : Same H3 (upd H3 p1 (.tup (is.map fun i => V.str (namAt wd i)))) := same_alloc g1
      have e1 : upd H3 p1 (.tup (is.map fun i => V.str (namAt wd i))) p1 = some (.tup (is.map fun i => V.str (namAt wd i))) := upd_same
      generalize upd H3 p1 (.tup (is.map fun i => V.str (namAt wd i))) = H4 at s4 e1 ⊢
      refine ⟨_, rfl, D2, _, rfl, .inl ⟨SqL.of (s4 _ _ (s23 _ _ eD2)), fun p2 g2 => ⟨by show 2 ≤ sizeLine; decide, fun p3 g3 => ?_⟩⟩⟩
      have s5 : Same H4 (upd H4 p2 (.tup (((List.range hs.length).map fun k => namAt wd (k + hs.getD k 0)).map V.str))) := same_alloc g2
      have s6 := same_alloc (o := .tup [.ref p1, .ref p2]) g3
      refine k p3 p1 p2 _ (s2.trans (s23.trans (s4.trans (s5.trans s6)))) upd_same (s6 _ _ (s5 _ _ e1)) ⟨_, s6 _ _ upd_same, by rw [List.length_map, List.length_range, lh], fun z hz => ?_⟩
      obtain ⟨q, hq, rfl⟩ := List.mem_map.mp hz
      have hq := List.mem_range.mp hq
      have ehq : hs[q]? = some hs[q] := List.getElem?_eq_getElem hq
      have hle := hh _ (List.getElem_mem hq)
      have egd : hs.getD q 0 = hs[q] := by rw [List.getD_eq_getElem?_getD, ehq]; rfl
      rw [egd]
      have hl : q + hs[q] < wd.ps.length := by omega
      have ep : wd.ps[q + hs[q]]? = some wd.ps[q + hs[q]] := List.getElem?_eq_getElem hl
      have : namAt wd (q + hs[q]) = (wd.ps[q + hs[q]]).1 := by unfold namAt endOf; rw [Nat.add_zero, ep]
      rw [this]
      exact List.mem_map.mpr ⟨_, List.getElem_mem hl, rfl⟩
end
end T9

set_option maxRecDepth 100000
set_option maxHeartbeats 3200000
namespace T9
open PySem PySem.Spec PyProof.Rows L2 GxR Gd TL My
theorem pri_snoc {H : Hp} {vs : List V} {l : List (Str × Nat)} (h : Pri H vs l) {c : Addr} {a : Str × Nat} (e : H c = some (.tup [.str a.1, .int (a.2 : Nat)])) : Pri H (vs ++ [.ref c]) (l ++ [a]) := by
  induction h with
  | nil => exact .cons e .nil
  | cons e2 _ ih => exact .cons e2 ih
section
variable {P : Program} {w : World} {K : PySem.W.Frag} {mg : Str → Option Value} {base : Heap} {f1 f2 : Addr} {fd1 fd2 : FuncData}
theorem lcntK {X : Cx} {K : PySem.W.Frag} (h : X.K = K) : MtR X "list.count" (rCntI K) := h ▸ mt_lcount
abbrev s_law_begun : Stmt := top 41
theorem sc_law_begun : FnScope ["_law_box_here", "_law_world_here", "_law_most", "_law_trains", "_law_name", "_law_stood", "_law_free", "_law_one", "_law_place", "_law_at", "_law_roads"] ["_law_box_here", "_law_world_here", "_law_most"] (defScope s_law_begun) := ⟨rfl, rfl, rfl, by decide +kernel, rfl, by decide +kernel, by decide +kernel⟩
def spBegun (K : PySem.W.Frag) : Sp := fun vs H Q _ => ∃ (b W : Addr) (n : Int) (wd : Wd), vs = [.ref b, .ref W, .int 4] ∧ Bx b n H ∧ 0 ≤ n ∧ n ≤ 5000 ∧ wd.Ok ∧ Dp K (hide b H) (.ref W) wd.data ∧
  ∀ (G A1 A2 : Addr) (xs : List V) (l : List (Str × Nat)) (hs : List Nat) (H' : Hp), KB b H H' → Bx b (n + 200) H' → H G = none → H' G = some (.lst [.ref A1, .ref A2]) → H A1 = none → H' A1 = some (.lst xs) → Pri H' xs l → l.length ≤ 4 → (∀ a ∈ l, NameOk a.1 ∧ a.2 < wd.ps.length) →
    H' A2 = some (.lst (hs.map fun (i : Nat) => V.int (i : Int))) → hs.length = wd.st.length → (∀ h ∈ hs, h ≤ 1) → Q (.ref G) H'
theorem ok_begun {f : Addr} {fd : FuncData} (F : Fun K "_law_begun" "_law_begun" s_law_begun f fd) (T : Txt mg)
    (Nlaw_take : Fn K mg "_law_take" sTake ["_law_box_here", "_law_many"] f1 fd1) (Glaw_take : FnOk P w K mg base CX0 1 f1 fd1 ["_law_box_here", "_law_many"] spTake)
    (Nlaw_names : Fn K mg "_law_names" s_law_names ["_law_box_here", "_law_many"] f2 fd2) (Glaw_names : FnOk P w K mg base CX0 2 f2 fd2 ["_law_box_here", "_law_many"] spNames) :
    FnOk P w K mg base CX0 3 f fd ["_law_box_here", "_law_world_here", "_law_most"] (spBegun K) := by
  refine F.ok sc_law_begun (fun vs H Q E h => ?_) (fun cdv A outer s H vs Q E hr h => ?_)
  · obtain ⟨b, W, n, wd, rfl, _⟩ := h
    rfl
  · obtain ⟨b, W, n, wd, rfl, hb, n0, n9, ok, dW, k⟩ := h
    have hu0 := Nat.lt_of_le_of_lt (Nat.le_add_right _ 64) hr.units
    refine ⟨_, pss_cons (ps_set (i := 3) sc_law_begun.nd rfl (Or.inl rfl) (pe_lst pa_nil))
      (pss_cons (ps_for PassesOwn.never rfl (pi_list (pe_call Glaw_names (hr.mono (by decide)) (by rfl) Nlaw_names.g Nlaw_names.kp Nlaw_names.b .nil pass0 (pa_cons (pv 0) (pa_cons (pe_op op_add pe_int (pe_call Glaw_take (hr.mono (by decide)) (by rfl) Nlaw_take.g Nlaw_take.kp Nlaw_take.b .nil pass0 (pa_cons (pv 0) (pa_cons (pv 2) pa_nil)))) pa_nil)))) (pg_name (i := 4) sc_law_begun.nd rfl (Or.inl rfl)) (pss_cons (ps_set (i := 5) sc_law_begun.nd rfl (Or.inr rfl) (pe_lc (own := [("_law_one", 7), ("_law_place", 8)]) (g := gTup K 2 (gCons (gName 7) (gCons (gName 8) gNil))) (tt := tYes) rfl sc_law_begun.nd (pi_list (pv 3)) (blkOk_by (own := [("_law_one", 7), ("_law_place", 8)]) (N := ["_law_box_here", "_law_world_here", "_law_most", "_law_trains", "_law_name", "_law_stood", "_law_free", "_law_one", "_law_place", "_law_at", "_law_roads"]) (sc := defScope s_law_begun) (by decide +kernel)) (fun _ _ _ _ _ => (pg_tup (by rfl) (pgs_cons (pg_name (i := 7) sc_law_begun.nd rfl (Or.inl rfl)) (pgs_cons (pg_name (i := 8) sc_law_begun.nd rfl (Or.inl rfl)) pgs_nil)))) (fun _ _ _ _ _ => pts_nil) (fun _ _ _ _ _ => (pv 8))))
          (pss_cons (ps_setLc (i := 6) (own := [("_law_at", 9), ("_law_one", 7), ("_law_roads", 10)]) (g := gTup K 2 (gCons (gName 9) (gCons (gTup K 2 (gCons (gName 7) (gCons (gName 10) gNil))) gNil))) rfl sc_law_begun.nd rfl rfl (sw_true rfl rfl rfl (by decide +kernel)) (pi_enum (by rfl) T.enumerate_ (pa_cons (pe_ix (ixLK (K := K) rfl) (pv 1) pe_int (fun _ _ => rfl)) pa_nil)) (blkOk_by (own := [("_law_at", 9), ("_law_one", 7), ("_law_roads", 10)]) (N := ["_law_box_here", "_law_world_here", "_law_most", "_law_trains", "_law_name", "_law_stood", "_law_free", "_law_one", "_law_place", "_law_at", "_law_roads"]) (sc := defScope s_law_begun) (by decide +kernel)) (fun _ _ _ _ _ => (pg_tup (by rfl) (pgs_cons (pg_name (i := 9) sc_law_begun.nd rfl (Or.inl rfl)) (pgs_cons (pg_tup (by rfl) (pgs_cons (pg_name (i := 7) sc_law_begun.nd rfl (Or.inl rfl)) (pgs_cons (pg_name (i := 10) sc_law_begun.nd rfl (Or.inl rfl)) pgs_nil))) pgs_nil)))) (fun _ _ _ _ _ => pts_one (pt_cmpR op_lt (pe_bmK (K := K) rfl PySem.F.plainAttrs_list PySem.F.slot_list_count PySem.F.type_list_count (lcntK (K := K) rfl) (pv 5) (pa_cons (pv 9) pa_nil)) (pv 10) (nomark _))) (fun _ _ _ _ _ => (pv 9)))
          (pss_one (ps_if (pt_cmpR (op_neL0 hu0) (pv 6) (pe_lst pa_nil) (nomark _)) (pss_one (ps_expr (pe_bm PySem.F.plainAttrs_list PySem.F.slot_list_append PySem.F.type_list_append mt_append (pv 3) (pa_cons (pe_tup (pa_cons (pv 4) (pa_cons (pe_ix (ixLK (K := K) rfl) (pv 6) (pe_call Glaw_take (hr.mono (by decide)) (by rfl) Nlaw_take.g Nlaw_take.kp Nlaw_take.b .nil pass0 (pa_cons (pv 0) (pa_cons (pe_callB call_len_seq (by rfl) T.len_ PySem.boot_len (pa_cons (pv 6) pa_nil)) pa_nil))) (fun _ _ => rfl)) pa_nil))) pa_nil)))) pss_nil)))))
      (pss_one (ps_ret (pe_lst (pa_cons (pv 3) (pa_cons (pe_lc (own := [("_law_one", 7)]) (g := gName 7) (tt := tYes) rfl sc_law_begun.nd (pi_list (pe_ix (ixLK (K := K) rfl) (pv 1) pe_int (fun _ _ => rfl))) (blkOk_by (own := [("_law_one", 7)]) (N := ["_law_box_here", "_law_world_here", "_law_most", "_law_trains", "_law_name", "_law_stood", "_law_free", "_law_one", "_law_place", "_law_at", "_law_roads"]) (sc := defScope s_law_begun) (by decide +kernel)) (fun _ _ _ _ _ => (pg_name (i := 7) sc_law_begun.nd rfl (Or.inl rfl))) (fun _ _ _ _ _ => pts_nil) (fun _ _ _ _ _ => (pe_call Glaw_take (hr.mono (by decide)) (by rfl) Nlaw_take.g Nlaw_take.kp Nlaw_take.b .nil pass0 (pa_cons (pv 0) (pa_cons pe_int pa_nil))))) pa_nil)))))), ?_⟩
    generalize hσ : L2.start _ _ = σ0
    obtain rfl : σ0 = [some (.ref b), some (.ref W), some (.int 4), none, none, none, none, none, none, none, none] := hσ.symm.trans rfl
    refine ⟨Nat.zero_le _, fun A1 hA1 => ?_⟩
    have nAb : A1 ≠ b := hb.fresh hA1
    have kb1 : KB b H (upd H A1 (.lst [])) := KB.alloc hA1
    have B1 := hb.alloc (o := .lst []) hA1
    have e1 : upd H A1 (.lst []) A1 = some (.lst []) := upd_same
    generalize upd H A1 (.lst []) = H1 at kb1 B1 e1 ⊢
    simp only [List.set_cons_succ, List.set_cons_zero]
    dsimp only [gName, List.set_cons_succ, List.set_cons_zero]
    have dWk : ∀ {H' : Hp}, KB b H H' → Dp K H' (.ref W) wd.data := fun {H'} kb => dp_nt (hide_nt b H') (dp_nt (hide_kb kb) dW)
    refine ⟨_, rfl, _, rfl, _, rfl, b, 4, n, rfl, B1, by omega, by decide, by decide, fun tk H2 t0 t4 off2 B2 => ?_⟩
    obtain ⟨m, hm, m1, m4⟩ : ∃ m : Nat, 1 + tk = (m : Int) ∧ 1 ≤ m ∧ m ≤ 4 := ⟨(1 + tk).toNat, by omega, by omega, by omega⟩
    have kb2 := kb1.trans (KB.off off2)
    have e2 := (KB.off off2) _ _ nAb e1
    refine ⟨_, _, rfl, rfl, b, m, n + 1, by show [V.ref b, V.int (1 + tk)] = _; rw [hm], B2, by omega, by omega, fun ns a H3 kb23 B3 ea ln nms => ?_⟩
    have kb3 := kb2.trans kb23
    have e3 := kb23 _ _ nAb e2
    have naA : a ≠ A1 := fun e => by
      rw [e, e3] at ea
      have := HO.lst.inj (Option.some.inj ea)
      have := congrArg List.length this
      rw [List.length_map, ln] at this
      simp at this
      omega
    have nab : a ≠ b := fun e => by
      obtain ⟨x, y, z, h, _⟩ := B3
      rw [← e, ea] at h
      have := HO.lst.inj (Option.some.inj h)
      cases ns with
      | nil => cases this
      | cons c r => exact nomatch (List.cons.inj this).1
    obtain ⟨x0, vst, vl, vu, hW0, hp0, hs0⟩ : ∃ x0 vst vl vu, SqL K (hide b H) W [x0, vst, vl, vu] ∧ Dp K (hide b H) x0 (.list (wd.ps.map dP)) ∧ Dp K (hide b H) vst (.list (wd.st.map dP)) := by
      obtain ⟨wa, vp, vs_, vl, vu, e, hw, hp, hs, _, _⟩ := dp_four dW
      obtain rfl := V.ref.inj e
      exact ⟨vp, vs_, vl, vu, hw, hp, hs⟩
    obtain ⟨ap, xp, rfl, hap, dap⟩ := dp_list hp0
    obtain ⟨as_, xst, rfl, has, das⟩ := dp_list hs0
    have lp : xp.length = wd.ps.length := by rw [dpAll_len dap, List.length_map]
    have ls : xst.length = wd.st.length := by rw [dpAll_len das, List.length_map]
    have p6 := ok.p6
    have sl := ok.sl
    have ntk : ∀ {H' : Hp}, KB b H H' → Nt (hide b H) H' := fun {H'} kb => (hide_kb kb).trans (hide_nt b H')
    refine ⟨a, rfl, ⟨_, SqL.of ea⟩, for_it (D := ⟨_, _, _, _⟩) (walk_list (K := K) (xs := ns.map V.str)) (fun i σ H' => ∃ (v4 v5 v6 v7 v8 v9 v10 : Option V) (xs : List V) (l : List (Str × Nat)), σ = [some (.ref b), some (.ref W), some (.int 4), some (.ref A1), v4, v5, v6, v7, v8, v9, v10] ∧ H' A1 = some (.lst xs) ∧ Pri H' xs l ∧ l.length ≤ i ∧ (∀ q ∈ l, NameOk q.1 ∧ q.2 < wd.ps.length) ∧ KB b H H' ∧ H' a = some (.lst (ns.map V.str)) ∧ Bx b (n + 21 + 2 * i) H')
      ⟨_, _, _, _, _, _, _, [], [], rfl, e3, .nil, Nat.le_refl _, fun q h => (by cases h), kb3, ea, B3.mono (by omega)⟩ (fun i σ H' _ ⟨_, _, _, _, _, _, _, _, _, _, _, _, _, _, _, e, _⟩ => SqL.of e) ?_ ?_⟩
    · rintro i y σ H4 H4' hi ⟨v4, v5, v6, v7, v8, v9, v10, xs, l, rfl, eA, pr, ll, hl, kb4, ea4, B4⟩ ⟨rfl, hy⟩
      have hyl : i < ns.length := by simpa using hi
      rw [List.getElem?_map, List.getElem?_eq_getElem hyl] at hy
      obtain rfl := Option.some.inj hy
      have nk := nms.1 _ (List.getElem_mem hyl)
      have lx := pr.len
      simp only [List.set_cons_succ, List.set_cons_zero]
      dsimp only [gName, List.set_cons_succ, List.set_cons_zero]
      refine ⟨_, rfl, A1, rfl, ⟨_, SqL.of eA⟩, fun D hD => some_it (walk_list (K := K) (xs := xs)) (src := l) (F := fun q => some (V.int (q.2 : Nat))) lx.symm (by omega) hD (fun H' kb => SqL.of (kb _ _ (ne_of_none eA hD) eA)) ?_ ?_⟩
      · rintro i' v q H' C B hv ha s k _
        obtain ⟨c, q', rfl, ha', hc⟩ := pr.at hv
        obtain rfl := Option.some.inj (ha.symm.trans ha')
        exact ⟨c, _, rfl, SqT.of (s _ _ hc), rfl, _, _, rfl, _, _, rfl, rfl, wipe2 (by simp) (by simp), lcY ⟨_, rfl, k _ _ rfl (Same.refl _)⟩⟩
      intro H5 s45 eD
      rw [show l.filterMap (fun q => some (V.int (q.2 : Nat))) = (l.map fun q => ((q.2 : Nat) : Int)).map V.int from by rw [List.filterMap_eq_map', List.map_map]; rfl] at eD
      simp only [List.set_cons_succ, List.set_cons_zero]
      dsimp only [gName, List.set_cons_succ, List.set_cons_zero]
      have kb5 : KB b H H5 := kb4.trans fun c o _ e => s45 c o e
      have n5 := ntk kb5
      refine ⟨_, rfl, W, _, 0, .ref ap, rfl, rfl, n5.seq hW0, rfl, ap, xp, rfl, n5.seq hap, fun D2 hD2 => lc_it (walk_enum (K := K) (a := ap) (xs := xp)) (fun i H' => KB D2 H5 H' ∧ ∃ fs : List Nat, H' D2 = some (.lst (fs.map fun (x : Nat) => V.int (x : Int))) ∧ fs.length ≤ i ∧ ∀ x ∈ fs, x < i) ⟨KB.alloc hD2, [], upd_same, Nat.le_refl _, fun x h => by cases h⟩ (fun i H' _ h => (KB.seq' hD2 h.1).seq (n5.seq hap)) ?_ ?_⟩
      · rintro i' y H6 H7 hi' ⟨kb, fs, eD2, lf', hfs⟩ ⟨tt, u, v, rfl, htt, rfl, g1, g2⟩
        obtain rfl := Option.some.inj g1
        have s56 : Same H5 (upd H6 tt (.tup [.int (i' : Nat), v])) := fun c o e => same_alloc htt _ _ (kb c o (ne_of_none e hD2) e)
        have ntD : tt ≠ D2 := fun e => by rw [e, eD2] at htt; cases htt
        have kb7 : KB D2 H5 (upd H6 tt (.tup [.int (i' : Nat), v])) := kb.trans (KB.alloc htt)
        have e7 : upd H6 tt (.tup [.int (i' : Nat), v]) D2 = some (.lst (fs.map fun (x : Nat) => V.int (x : Int))) := by rw [upd_ne ntD.symm]; exact eD2
        have et : upd H6 tt (.tup [.int (i' : Nat), v]) tt = some (.tup [.int (i' : Nat), v]) := upd_same
        generalize upd H6 tt (.tup [.int (i' : Nat), v]) = H7 at s56 kb7 e7 et ⊢
        obtain ⟨d, hd1, hd2⟩ := dpAll_get dap g2
        obtain ⟨p, hp, rfl⟩ := get_map hd1
        obtain ⟨tp, y1, y2, rfl, htp, r1, r2⟩ := dp_two hd2
        obtain rfl := dp_str r1
        obtain rfl := dp_int r2
        refine ⟨tt, _, rfl, SqT.of et, rfl, _, _, rfl, _, _, rfl, tp, _, rfl, (n5.trans (same_nt s56)).seqT htp, rfl, _, _, rfl, _, _, rfl, rfl, rfl, wipe3 (by simp) (by simp) (by simp), ?_⟩
        refine ⟨_, rfl, .inl ⟨rfl, _, SqL.of (s56 _ _ eD)⟩, _, rfl, D, _, (i' : Int), rfl, rfl, SqL.of (s56 _ _ eD), _, rfl, _, _, rfl, rfl, _, rfl, ite2 (fun _ => ?_) (fun _ => ?_)⟩
        · refine ⟨_, rfl, _, e7, by rw [List.length_map]; exact Nat.lt_of_le_of_lt (m := 10) (by omega) (by rw [sizeLine_eq]; decide), fun c o n e => by rw [upd_ne n]; exact kb7 c o n e, fs ++ [i'], by rw [upd_same, List.map_append]; rfl, by rw [List.length_append]; exact Nat.succ_le_succ lf', fun x hx => ?_⟩
          rcases List.mem_append.mp hx with hx | hx
          · have := hfs x hx; omega
          · rw [List.mem_singleton.mp hx]; omega
        · exact ⟨kb7, fs, e7, by omega, fun x hx => by have := hfs x hx; omega⟩
      rintro H6 ⟨kbD2, fs, eD2, lf', hfs⟩
      have s56 : Same H5 H6 := fun c o e => kbD2 c o (ne_of_none e hD2) e
      have s46 := s45.trans s56
      simp only [List.set_cons_succ, List.set_cons_zero]
      dsimp only [gName, List.set_cons_succ, List.set_cons_zero]
      refine ⟨_, rfl, Nat.zero_le _, fun E2 hE2 => ?_⟩
      have s67 : Same H6 (upd H6 E2 (.lst [])) := same_alloc hE2
      have eE : upd H6 E2 (.lst []) E2 = some (.lst []) := upd_same
      generalize upd H6 E2 (.lst []) = H7 at s67 eE ⊢
      have s47 := s46.trans s67
      have kb7 : KB b H H7 := kb4.trans fun c o _ e => s47 c o e
      have B7 : Bx b (n + 21 + 2 * i) H7 := B4.same (by obtain ⟨x, y, z, h, _⟩ := B4; rw [h]; exact s47 _ _ h)
      refine ⟨D2, E2, _, rfl, rfl, SqL.of (s67 _ _ eD2), SqL.of eE, _, rfl, ?_⟩
      cases fs with
      | nil => exact iteF ⟨_, _, _, _, _, _, _, xs, l, rfl, s47 _ _ eA, pr.nt (same_nt s47), by omega, hl, kb7, s47 _ _ ea4, B7.mono (by push_cast; omega)⟩
      | cons q0 qr =>
        refine iteT ?_
        have eA7 := s47 _ _ eA
        have eD27 := s67 _ _ eD2
        have nD2b : D2 ≠ b := fun e => by
          have B5 : Bx b (n + 21 + 2 * i) H5 := B4.same (by obtain ⟨x, y, z, h, _⟩ := B4; rw [h]; exact s45 _ _ h)
          exact B5.fresh hD2 e
        refine ⟨_, rfl, .inl ⟨rfl, _, SqL.of eA7⟩, _, rfl, _, rfl, _, rfl, _, rfl, D2, _, rfl, .inl (SqL.of eD27), b, _, _, rfl, B7, by omega, by rw [List.length_map, List.length_cons]; omega, dec9000 (by rw [List.length_map, List.length_cons]; omega) (by rw [List.length_map]; omega), fun at_ H8 r0 r1 off8 B8 => ?_⟩
        have kb78 : KB b H7 H8 := KB.off off8
        obtain ⟨v, hv, ev⟩ := atI_ex r0 r1
        obtain ⟨q, hq, rfl⟩ := List.mem_map.mp hv
        have hq6 := hfs q hq
        refine ⟨D2, _, at_, _, rfl, rfl, SqL.of (kb78 _ _ nD2b eD27), ev, by show 2 ≤ sizeLine; decide, fun tp htp => ?_⟩
        have eA8 := kb78 _ _ nAb eA7
        have ntA : tp ≠ A1 := fun e => by rw [e, eA8] at htp; cases htp
        have s9 : Same H8 (upd H8 tp (.tup [.str ns[i], .int (q : Nat)])) := same_alloc htp
        have et : upd H8 tp (.tup [.str ns[i], .int (q : Nat)]) tp = some (.tup [.str ns[i], .int (q : Nat)]) := upd_same
        have B9 := B8.alloc (o := .tup [.str ns[i], .int (q : Nat)]) htp
        generalize upd H8 tp (.tup [.str ns[i], .int (q : Nat)]) = H9 at s9 et B9 ⊢
        have eA9 := s9 _ _ eA8
        have prk : Pri H9 xs l := by
          have up : ∀ {ws : List V} {k : List (Str × Nat)}, Pri H7 ws k → Pri H9 ws k := fun h => by
            induction h with
            | nil => exact .nil
            | cons e _ ih => exact .cons (s9 _ _ (kb78 _ _ (fun z => by obtain ⟨_, _, _, h', _⟩ := B7; rw [z, h'] at e; cases e) e)) ih
          exact up (pr.nt (same_nt s47))
        refine ⟨A1, xs, _, rfl, rfl, eA9, by rw [lx]; exact Nat.lt_of_le_of_lt (m := 10) (by omega) (by rw [sizeLine_eq]; decide), ?_⟩
        have prU : Pri (upd H9 A1 (.lst (xs ++ [.ref tp]))) (xs ++ [.ref tp]) (l ++ [(ns[i], q)]) := by
          have up : ∀ {ws : List V} {k : List (Str × Nat)}, Pri H9 ws k → Pri (upd H9 A1 (.lst (xs ++ [.ref tp]))) ws k := fun h => by
            induction h with
            | nil => exact .nil
            | cons e _ ih => exact .cons (by rw [upd_ne (fun z => by rw [z, eA9] at e; cases e)]; exact e) ih
          exact pri_snoc (up prk) (by rw [upd_ne ntA]; exact et)
        refine ⟨_, _, _, _, _, _, _, xs ++ [.ref tp], l ++ [(ns[i], q)], rfl, upd_same, prU, by rw [List.length_append]; exact Nat.succ_le_succ ll, fun z hz => ?_, fun c o nc h => ?_, ?_, (B9.put nAb).mono (by push_cast; omega)⟩
        · rcases List.mem_append.mp hz with hz | hz
          · exact hl z hz
          · rw [List.mem_singleton.mp hz]
            exact ⟨nk, by omega⟩
        · rw [upd_ne (fun z => by rw [z, hA1] at h; cases h)]
          exact s9 _ _ (kb78 _ _ nc (kb7 _ _ nc h))
        · rw [upd_ne naA]
          exact s9 _ _ (kb78 _ _ nab (s47 _ _ ea4))
    · rintro σ H4 ⟨v4, v5, v6, v7, v8, v9, v10, xs, l, rfl, eA, pr, ll, hl, kb4, ea4, B4⟩
      have n4 := ntk kb4
      have lnm : (ns.map V.str).length ≤ 4 := by rw [List.length_map]; omega
      refine ⟨_, rfl, _, rfl, W, _, 1, .ref as_, rfl, rfl, n4.seq hW0, rfl, as_, rfl, ⟨_, n4.seq has⟩, fun A2 hA2 => ?_⟩
      have nA2b : A2 ≠ b := B4.fresh hA2
      have nA21 : A2 ≠ A1 := fun e => by rw [e, eA] at hA2; cases hA2
      have hA2H : H A2 = none := kb_fresh kb4 B4 hA2
      refine lc_it (walk_list (K := K) (xs := xst)) (fun i H' => ∃ hs : List Nat, H' A2 = some (.lst (hs.map fun (x : Nat) => V.int (x : Int))) ∧ hs.length = i ∧ (∀ h ∈ hs, h ≤ 1) ∧ KB b H H' ∧ H' A1 = some (.lst xs) ∧ Pri H' xs l ∧ Bx b (n + 30 + i) H') ?_ ?_ ?_ ?_
      · have s5 : Same H4 (upd H4 A2 (.lst [])) := same_alloc hA2
        refine ⟨[], upd_same, rfl, (fun h hm => nomatch hm), kb4.trans (KB.alloc hA2), s5 _ _ eA, pr.nt (same_nt s5), (B4.alloc hA2).mono (by push_cast; omega)⟩
      · rintro i H' _ ⟨_, _, _, _, kb, _⟩
        exact (ntk kb).seq has
      · rintro i x H6 H5 hi ⟨hs, eA2, lhs, hh, kb5, eA5, pr5, B5⟩ ⟨rfl, hx⟩
        refine ⟨rfl, ?_⟩
        refine ⟨_, rfl, b, 2, n + 30 + i, rfl, B5, by omega, by decide, by decide, fun d H7 d0 d2 off7 B7 => ?_⟩
        obtain ⟨m, rfl⟩ : ∃ m : Nat, d = (m : Int) := ⟨d.toNat, by omega⟩
        have kb57 := KB.off off7
        have eA27 := kb57 _ _ nA2b eA2
        have eA7 := kb57 _ _ nAb eA5
        have prU : Pri (upd H7 A2 (.lst (hs.map (fun (x : Nat) => V.int (x : Int)) ++ [.int (m : Nat)]))) xs l := by
          have up : ∀ {ws : List V} {k : List (Str × Nat)}, Pri H5 ws k → Pri (upd H7 A2 (.lst (hs.map (fun (x : Nat) => V.int (x : Int)) ++ [.int (m : Nat)]))) ws k := fun h => by
            induction h with
            | nil => exact .nil
            | cons e _ ih => exact .cons (by rw [upd_ne (fun z => by rw [z, eA2] at e; cases e)]; exact kb57 _ _ (fun z => by obtain ⟨_, _, _, h', _⟩ := B5; rw [z, h'] at e; cases e) e) ih
          exact up pr5
        refine ⟨_, eA27, by rw [List.length_map, lhs]; exact Nat.lt_of_le_of_lt (m := 200) (by omega) (by rw [sizeLine_eq]; decide), hs ++ [m], by rw [upd_same, List.map_append]; rfl, by rw [List.length_append, lhs]; rfl, fun h hm => ?_, (fun c o nc e => by rw [upd_ne (ne_of_none e hA2H)]; exact (kb5.trans kb57) c o nc e), by rw [upd_ne nA21.symm]; exact eA7, prU, (B7.put nA2b).mono (by push_cast; omega)⟩
        · rcases List.mem_append.mp hm with hm | hm
          · exact hh h hm
          · rw [List.mem_singleton.mp hm]; omega
      · rintro H5 ⟨hs, eA2, lhs, hh, kb5, eA5, pr5, B5⟩
        refine ⟨by show 2 ≤ sizeLine; decide, fun G hG => ?_⟩
        have s6 : Same H5 (upd H5 G (.lst [.ref A1, .ref A2])) := same_alloc hG
        exact k G A1 A2 xs l hs _ (kb5.trans (KB.alloc hG)) ((B5.alloc hG).mono (by omega)) (kb_fresh kb5 B5 hG) upd_same hA1 (s6 _ _ eA5) (pr5.nt (same_nt s6)) (by omega) hl (s6 _ _ eA2) (by omega) hh
end
end T9

set_option maxRecDepth 100000
set_option maxHeartbeats 3200000
namespace T9
open PySem PySem.Spec PyProof.Rows L2 GxR Gd TL My
theorem nw_hide9 {H0 H : Hp} {L : Addr} (h : H0 L ≠ none) : Nt (nw H0 H) (hide L H) := fun c o _ e => by
  obtain ⟨h1, h2⟩ := nw_some e
  rw [hide_ne (fun q : c = L => h (by rw [← q]; exact h1))]
  exact h2
theorem kx_hide {T : List Addr} {b : Addr} {H H' : Hp} (t : Tabs T H) (k : KX T b H H') : Nt (hide b H) (hide b H') := fun c o n h => by
  by_cases e : c = b
  · rw [e] at h; simp [hide] at h
  · rw [hide_ne e] at h ⊢
    exact k.at t h n e
theorem sqT_hide {K : PySem.W.Frag} {H : Hp} {L a : Addr} {its xs : List V} (hL : H L = some (.lst its)) (h : SqT K H a xs) : SqT K (hide L H) a xs := by
  rcases h with (h | ⟨o, h⟩) | h
  · exact .inl (.inl (by rw [hide_ne (fun e => by rw [e, hL] at h; cases h)]; exact h))
  · exact .inl (.inr ⟨o, by rw [hide_ne (fun e => by rw [e, hL] at h; cases h)]; exact h⟩)
  · exact .inr h
theorem dpP_hide {K : PySem.W.Frag} {H : Hp} {L : Addr} {its : List V} (hL : H L = some (.lst its)) : ∀ {xs : List V} {ps : List (Str × Int)}, DpAll K H xs (ps.map dP) → DpAll K (hide L H) xs (ps.map dP)
  | _, [], .nil => .nil
  | _, p :: r, .cons a t => by
    obtain ⟨u, x, y, rfl, h, q1, q2⟩ := dp_two a
    obtain rfl := dp_str q1
    obtain rfl := dp_int q2
    exact .cons (.tup (sqT_hide hL h) (.cons (.str _) (.cons (.int _) .nil))) (dpP_hide hL t)
theorem dpL_hide {K : PySem.W.Frag} {H : Hp} {L : Addr} {its : List V} (hL : H L = some (.lst its)) : ∀ {xs : List V} {ps : List (Int × Int × Int)}, DpAll K H xs (ps.map dL) → DpAll K (hide L H) xs (ps.map dL)
  | _, [], .nil => .nil
  | _, p :: r, .cons a t => by
    obtain ⟨u, x, y, z, rfl, h, q1, q2, q3⟩ := dp_three a
    obtain rfl := dp_int q1
    obtain rfl := dp_int q2
    obtain rfl := dp_int q3
    exact .cons (.tup (sqT_hide hL h) (.cons (.int _) (.cons (.int _) (.cons (.int _) .nil)))) (dpL_hide hL t)
theorem line_hide {K : PySem.W.Frag} {C : Addr} {wd : Wd} {H : Hp} {x L : Addr} {its : List V} (hL : H L = some (.lst its)) (h : LineAt K C wd H x) : LineAt K C wd (hide L H) x := by
  obtain ⟨dx, p1, p2, p3, d, xs1, xs2, xs3, h1, h2, h3, h4, h5, h6, h7, kvs, h8, h9⟩ := h
  exact ⟨dx, p1, p2, p3, d, xs1, xs2, xs3, by rw [hide_ne (fun e => by rw [e, hL] at h1; cases h1)]; exact h1, sqT_hide hL h2, dpP_hide hL h3, sqT_hide hL h4, dpP_hide hL h5, sqT_hide hL h6, dpL_hide hL h7, kvs, by rw [hide_ne (fun e => by rw [e, hL] at h8; cases h8)]; exact h8, h9⟩
theorem ixLl {X : Cx} {K : PySem.W.Frag} (h : X.K = K) : IxR X (rIxL K) := h ▸ ix_list
section
variable {P : Program} {w : World} {K : PySem.W.Frag} {mg : Str → Option Value} {base : Heap}
abbrev s_law : Stmt := top 51
theorem sc_law : FnScope ["_law_script", "_law_k", "_law_box_here", "_law_world_here", "_law_begun_here", "_law_told_here", "_law_trains", "_law_line", "_law_turn", "_law_row", "_law_place"] ["_law_script"] (defScope s_law) := ⟨rfl, rfl, rfl, by decide +kernel, rfl, by decide +kernel, by decide +kernel⟩
def spLaw (K : PySem.W.Frag) (T0 : List Addr) : Sp := fun vs H Q _ => ∃ (l : Addr) (ns : List Int), vs = [.ref l] ∧ SqL K H l (ns.map V.int) ∧ ns.length ≤ 63 ∧ Tabs T0 H ∧ SmAt H ∧ ∀ H', Q (.bl true) H'
theorem ok_law {f fC fB fW fI f1 f2 f3 f4 f5 C Pt : Addr} {T0 : List Addr} {fd fdC fdB fdW fdI fd1 fd2 fd3 fd4 fd5 : FuncData} (hP : Pt ∈ T0) (F : Fun K "law" "law" s_law f fd) (T : Txt mg) (TC : ClsT K C) (ML : Mk K C fI) (gL : mg "Line" = some (.ref C)) (bI : Binds K fdI ["self", "places", "stretches", "longs"] [])
    (Ginit : FnOk P w K mg base CX0 5 fI fdI ["self", "places", "stretches", "longs"] (spInit K C Pt))
    (Nlaw_cell : Fn K mg "_law_cell" sCell ["_law_script", "_law_k"] fC fdC) (Glaw_cell : FnOk P w K mg base CX0 1 fC fdC ["_law_script", "_law_k"] (spCell K))
    (Nlaw_box : Fn K mg "_law_box" sBox ["_law_cell_here"] fB fdB) (Glaw_box : FnOk P w K mg base CX0 1 fB fdB ["_law_cell_here"] spBox)
    (Nlaw_world : Fn K mg "_law_world" s_law_world ["_law_box_here"] fW fdW) (Glaw_world : FnOk P w K mg base CX0 3 fW fdW ["_law_box_here"] (spWorld K))
    (Nlaw_begun : Fn K mg "_law_begun" s_law_begun ["_law_box_here", "_law_world_here", "_law_most"] f1 fd1) (Glaw_begun : FnOk P w K mg base CX0 3 f1 fd1 ["_law_box_here", "_law_world_here", "_law_most"] (spBegun K))
    (Nlaw_state : Fn K mg "_law_state" s_law_state ["_law_begun_here"] f2 fd2) (Glaw_state : FnOk P w K mg base CX0 1 f2 fd2 ["_law_begun_here"] spLawState)
    (Nlaw_told : Fn K mg "_law_told" s_law_told ["_law_world_here", "_law_state_here"] f3 fd3) (Glaw_told : FnOk P w K mg base CX0 1 f3 fd3 ["_law_world_here", "_law_state_here"] (spTold K))
    (Nlaw_spoilt : Fn K mg "_law_spoilt" s_law_spoilt ["_law_box_here", "_law_world_here", "_law_trains", "_law_ends"] f4 fd4) (Glaw_spoilt : FnOk P w K mg base CX0 4 f4 fd4 ["_law_box_here", "_law_world_here", "_law_trains", "_law_ends"] (spSpoilt K))
    (Nlaw_right : Fn K mg "_law_right" s_law_right ["_law_line", "_law_world_here", "_law_some"] f5 fd5) (Glaw_right : GOk P w K mg base CX0 11 f5 fd5 ["_law_line", "_law_world_here", "_law_some"] (spRight K C T0)) :
    GOk P w K mg base CX0 12 f fd ["_law_script"] (spLaw K T0) := by
  refine gok F sc_law (fun vs H Q E h => ?_) (fun cdv A outer s H vs Q E gd hr h => ?_)
  · obtain ⟨l, ns, rfl, _⟩ := h
    rfl
  · obtain ⟨l, ns, rfl, hS, hlen, hT, sm, k⟩ := h
    have hu := hr.units
    refine ⟨_, pss_cons (ps_for PassesOwn.never rfl (pi_range1 (by rfl) T.range_ (pa_cons (pe_callB (call_max2 rfl) (by rfl) T.max_ (by decide +kernel) (pa_cons pe_int (pa_cons (pe_callB (call_min2 rfl) (by rfl) T.min_ (by decide +kernel) (pa_cons pe_int (pa_cons (pe_callB call_len_seq (by rfl) T.len_ PySem.boot_len (pa_cons (pv 0) pa_nil)) pa_nil))) pa_nil))) pa_nil)) (pg_name (i := 1) sc_law.nd rfl (Or.inl rfl)) (pss_cons (ps_set (i := 2) sc_law.nd rfl (Or.inl rfl) (pe_call Glaw_box (hr.mono (by decide)) (by rfl) Nlaw_box.g Nlaw_box.kp Nlaw_box.b .nil pass0 (pa_cons (pe_call Glaw_cell (hr.mono (by decide)) (by rfl) Nlaw_cell.g Nlaw_cell.kp Nlaw_cell.b .nil pass0 (pa_cons (pv 0) (pa_cons (pv 1) pa_nil))) pa_nil)))
          (pss_cons (ps_set (i := 3) sc_law.nd rfl (Or.inl rfl) (pe_call Glaw_world (hr.mono (by decide)) (by rfl) Nlaw_world.g Nlaw_world.kp Nlaw_world.b .nil pass0 (pa_cons (pv 2) pa_nil)))
          (pss_cons (ps_set (i := 4) sc_law.nd rfl (Or.inl rfl) (pe_call Glaw_begun (hr.mono (by decide)) (by rfl) Nlaw_begun.g Nlaw_begun.kp Nlaw_begun.b .nil pass0 (pa_cons (pv 2) (pa_cons (pv 3) (pa_cons pe_int pa_nil)))))
          (pss_cons (ps_set (i := 5) sc_law.nd rfl (Or.inl rfl) (pe_call Glaw_told (hr.mono (by decide)) (by rfl) Nlaw_told.g Nlaw_told.kp Nlaw_told.b .nil pass0 (pa_cons (pv 3) (pa_cons (pe_call Glaw_state (hr.mono (by decide)) (by rfl) Nlaw_state.g Nlaw_state.kp Nlaw_state.b .nil pass0 (pa_cons (pv 4) pa_nil)) pa_nil))))
          (pss_cons (ps_setLc (i := 6) (own := [("_law_row", 9), ("_law_place", 10)]) (g := gTup K 2 (gCons (gName 9) (gCons (gName 10) gNil))) (tt := tYes) rfl sc_law.nd rfl rfl (sw_true rfl rfl rfl (by decide +kernel)) (pi_zipM (by rfl) T.zip_ (pa_cons (pe_ix (ixLK (K := K) rfl) (pv 4) pe_int (fun _ _ => rfl)) (pa_cons (pe_ix (ixTK (K := K) rfl) (pv 5) pe_int (fun _ _ => rfl)) pa_nil))) (blkOk_by (own := [("_law_row", 9), ("_law_place", 10)]) (N := ["_law_script", "_law_k", "_law_box_here", "_law_world_here", "_law_begun_here", "_law_told_here", "_law_trains", "_law_line", "_law_turn", "_law_row", "_law_place"]) (sc := defScope s_law) (by decide +kernel)) (fun _ _ _ _ _ => (pg_tup (by rfl) (pgs_cons (pg_name (i := 9) sc_law.nd rfl (Or.inl rfl)) (pgs_cons (pg_name (i := 10) sc_law.nd rfl (Or.inl rfl)) pgs_nil)))) (fun _ _ _ _ _ => pts_nil) (fun _ _ _ _ _ => (pe_tup (pa_cons (pe_ix (ixTK (K := K) rfl) (pv 9) pe_int (fun _ _ => rfl)) (pa_cons (pv 10) pa_nil)))))
          (pss_cons (ps_set (i := 7) sc_law.nd rfl (Or.inl rfl) (pe_make ML Ginit (hr.mono (by decide)) (by rfl) gL bI .nil pass0 (pa_cons (pe_ix (ixLK (K := K) rfl) (pv 3) pe_int (fun _ _ => rfl)) (pa_cons (pe_ix (ixLK (K := K) rfl) (pv 3) pe_int (fun _ _ => rfl)) (pa_cons (pe_ix (ixLK (K := K) rfl) (pv 3) pe_int (fun _ _ => rfl)) pa_nil)))))
          (pss_one (ps_for PassesOwn.never rfl (pi_range1 (by rfl) T.range_ (pa_cons pe_int pa_nil)) (pg_name (i := 8) sc_law.nd rfl (Or.inl rfl)) (pss_one (ps_if (pt_not (pt_val (pe_gcall gd Glaw_right (hr.mono (by decide)) (by rfl) Nlaw_right.g Nlaw_right.kp Nlaw_right.b .nil pass0 (pa_cons (pv 7) (pa_cons (pv 3) (pa_cons (pe_call Glaw_spoilt (hr.mono (by decide)) (by rfl) Nlaw_spoilt.g Nlaw_spoilt.kp Nlaw_spoilt.b .nil pass0 (pa_cons (pv 2) (pa_cons (pv 3) (pa_cons (pv 6) (pa_cons (pe_ix (ixTK (K := K) rfl) (pv 5) pe_int (fun _ _ => rfl)) pa_nil))))) pa_nil)))))) (pss_one (ps_ret pe_bl)) pss_nil)))))))))))
      (pss_one (ps_ret pe_bl)), ?_⟩
    refine ⟨_, rfl, l, _, rfl, .inl hS, _, _, rfl, _, _, rfl, ?_⟩
    obtain ⟨N, hN, N2, N10⟩ : ∃ N : Nat, (if (if (((ns.map V.int).length : Nat) : Int) < 10 then (((ns.map V.int).length : Nat) : Int) else 10) > 2 then (if (((ns.map V.int).length : Nat) : Int) < 10 then (((ns.map V.int).length : Nat) : Int) else 10) else 2) = (N : Int) ∧ 2 ≤ N ∧ N ≤ 10 := by
      rw [List.length_map]
      refine ⟨max 2 (min 10 ns.length), ?_, by omega, by omega⟩
      split <;> split <;> omega
    rw [hN]
    refine ⟨_, rfl, by omega, by omega, ?_⟩
    rw [Int.toNat_natCast]
    refine for_range (lo := 0) (n := N) (fun i σ H' => ∃ v1 v2 v3 v4 v5 v6 v7 v8 v9 v10 : Option V, σ = [some (.ref l), v1, v2, v3, v4, v5, v6, v7, v8, v9, v10] ∧ KM T0 H H') ⟨_, _, _, _, _, _, _, _, _, _, rfl, KM.refl hT⟩ ?_ ?_
    · rintro i σ H1 hi ⟨v1, v2, v3, v4, v5, v6, v7, v8, v9, v10, rfl, k1⟩
      have hS1 := (KM.nt hT k1).seq hS
      simp only [List.set_cons_succ, List.set_cons_zero]
      refine ⟨_, rfl, _, rfl, l, ns, i, ?_, hS1, fun c => ?_⟩
      · show [V.ref l, V.int (0 + (i : Int))] = [V.ref l, V.int i]
        rw [Int.zero_add]
      refine ⟨c, rfl, fun b H2 fb off2 B2 => ?_⟩
      have s12 : Same H1 H2 := fun c o e => (off2 c (ne_of_none e fb)).trans e
      have k2 := k1.trans (KM.same k1.tab s12)
      have sm2 := sm_nt sm (KM.nt hT k2)
      have fin : ∀ {H' : Hp}, KX T0 b H2 H' → KM T0 H H' := fun {H'} kx => k1.trans ⟨fun c o nT e => kx.keep c o nT (ne_of_none e fb) (s12 _ _ e), kx.tab⟩
      simp only [List.set_cons_succ, List.set_cons_zero]
      dsimp only [gName, List.set_cons_succ, List.set_cons_zero]
      refine ⟨_, rfl, b, 0, rfl, B2, by decide, fun wd v H3 ok kb3 hD B3 => ?_⟩
      have x3 : KX T0 b H2 H3 := KX.kb k2.tab B2 kb3
      have hb2 : H2 b ≠ none := by
        obtain ⟨_, _, _, q, _⟩ := B2
        rw [q]; simp
      have hDh := dp_nt (nw_hide9 (H := H3) hb2) hD
      obtain ⟨wa, vp, vs_, vl, vu, e0, hw, hp, hs_, hl_, hu4⟩ := dp_four hDh
      obtain rfl := e0
      simp only [List.set_cons_succ, List.set_cons_zero]
      dsimp only [gName, List.set_cons_succ, List.set_cons_zero]
      refine ⟨_, rfl, _, rfl, b, wa, 0 + 100, wd, rfl, B3, by decide, by decide, ok, hDh, fun G A1 A2 xs l4 hs H4 kb4 B4 hG eG hA1 eA1 pr ll hl eA2 lh hh => ?_⟩
      have x4 : KX T0 b H2 H4 := x3.trans (KX.kb x3.tab B3 kb4)
      simp only [List.set_cons_succ, List.set_cons_zero]
      dsimp only [gName, List.set_cons_succ, List.set_cons_zero]
      have dW : ∀ {H' : Hp}, KB b H3 H' → Dp K H' (.ref wa) wd.data := fun {H'} kb => dp_nt (hide_nt b H') (dp_nt (hide_kb kb) hDh)
      refine ⟨_, rfl, _, rfl, G, A1, A2, xs, l4, _, rfl, eG, eA1, pr, by omega, eA2, fun t t1 t2 H5 s5 et et1 et2 => ?_⟩
      have kb5 : KB b H3 H5 := kb4.trans fun c o _ e => s5 c o e
      refine ⟨wa, t, t1, t2, wd, l4.map (·.2), hs, rfl, dW kb5, ok, et, by rw [List.map_map]; exact et1, by rw [List.length_map]; omega, fun i hi => ?_, et2, lh, hh, fun td u1 u2 H6 s6 etd eu1 eu2 => ?_⟩
      · obtain ⟨a, ha, rfl⟩ := List.mem_map.mp hi
        exact (hl a ha).2
      obtain ⟨es, eu2, les, hes⟩ := eu2
      have s46 := s5.trans s6
      have kb6 : KB b H3 H6 := kb4.trans fun c o _ e => s46 c o e
      have B6 : Bx b (0 + 100 + 200) H6 := B4.same (by obtain ⟨x, y, z, h, _⟩ := B4; rw [h]; exact s46 _ _ h)
      have x6 : KX T0 b H2 H6 := x4.trans (KX.kb x4.tab B4 fun c o _ e => s46 c o e)
      have eG6 := s46 _ _ eG
      have eA6 := s46 _ _ eA1
      have eA26 := s46 _ _ eA2
      have pr6 := pr.nt (same_nt s46)
      clear s5 s6 et et1 et2 eG eA1 eA2 pr
      simp only [List.set_cons_succ, List.set_cons_zero]
      dsimp only [gName, List.set_cons_succ, List.set_cons_zero]
      have hlen2 : xs.length = ((l4.map (·.2)).map fun i => V.str (namAt wd i)).length := by rw [pr6.len, List.length_map, List.length_map]
      refine ⟨_, rfl, G, _, 0, .ref A1, rfl, rfl, SqL.of eG6, rfl, _, rfl, td, _, 0, .ref u1, rfl, rfl, SqT.of etd, rfl, A1, u1, xs, _, rfl, SqL.of eA6, .inl ⟨SqT.of eu1, fun D hD => ?_⟩⟩
      have nDb : D ≠ b := B6.fresh hD
      refine lc_it (walk_zipM (K := K) hlen2) (fun i H' => KB D H6 H' ∧ ∃ ws, H' D = some (.lst ws) ∧ ws.length = i ∧ ∀ y ∈ ws, ∃ c n1 n2, y = .ref c ∧ H' c = some (.tup [.str n1, .str n2]) ∧ NameOk n1 ∧ NameOk n2) ?_ ?_ ?_ ?_
      · exact ⟨KB.alloc hD, [], upd_same, rfl, (fun y h => nomatch h)⟩
      · rintro i H' _ ⟨kb, _⟩
        exact ⟨(KB.seq' hD kb).seq (SqL.of eA6), (KB.seq' hD kb).seqT (SqT.of eu1)⟩
      · rintro i v H7 H8 hi ⟨kb, ws, eD, lws, hws⟩ ⟨tt, X, Y, rfl, htt, rfl, q1, q2⟩
        obtain ⟨c, a, rfl, la, hc⟩ := pr6.at q1
        obtain ⟨i2, hi2, rfl⟩ := get_map q2
        obtain ⟨a2, ha2, rfl⟩ := get_map hi2
        have nda := hl a2 (List.mem_of_getElem? ha2)
        have nda1 := hl a (List.mem_of_getElem? la)
        have ncD : c ≠ D := fun e => by rw [e, hD] at hc; cases hc
        have ntD : tt ≠ D := fun e => by rw [e, eD] at htt; cases htt
        have s78 : Same H7 (upd H7 tt (.tup [.ref c, .str (namAt wd a2.2)])) := same_alloc htt
        have et : upd H7 tt (.tup [.ref c, .str (namAt wd a2.2)]) tt = some (.tup [.ref c, .str (namAt wd a2.2)]) := upd_same
        generalize upd H7 tt (.tup [.ref c, .str (namAt wd a2.2)]) = H8 at s78 et ⊢
        have hc8 := s78 _ _ (kb _ _ ncD hc)
        refine ⟨tt, _, rfl, SqT.of et, rfl, _, _, rfl, _, _, rfl, rfl, ?_, lcY ?_⟩
        · simp only [wipe, List.map_cons, List.map_nil]
          rfl
        refine ⟨_, rfl, c, _, 0, .str a.1, rfl, rfl, SqT.of hc8, rfl, _, rfl, by show 2 ≤ sizeLine; decide, fun tp htp => ?_⟩
        have s89 : Same H8 (upd H8 tp (.tup [.str a.1, .str (namAt wd a2.2)])) := same_alloc htp
        have ep : upd H8 tp (.tup [.str a.1, .str (namAt wd a2.2)]) tp = some (.tup [.str a.1, .str (namAt wd a2.2)]) := upd_same
        generalize upd H8 tp (.tup [.str a.1, .str (namAt wd a2.2)]) = H9 at s89 ep ⊢
        have s79 := s78.trans s89
        have eD9 := s79 _ _ eD
        have npD : tp ≠ D := fun e => by rw [e, eD9] at ep; cases ep
        refine ⟨ws, eD9, Nat.lt_of_le_of_lt (m := 10) (by have := pr6.len; omega) (by rw [sizeLine_eq]; decide), fun c o nc h => by rw [upd_ne nc]; exact s79 _ _ (kb _ _ nc h), _, upd_same, by rw [List.length_append, lws]; rfl, fun y hy => ?_⟩
        rcases List.mem_append.mp hy with hy | hy
        · obtain ⟨c1, n1, n2, rfl, h1, o1, o2⟩ := hws y hy
          exact ⟨c1, n1, n2, rfl, by rw [upd_ne (fun e => by rw [e, eD] at h1; cases h1)]; exact s79 _ _ h1, o1, o2⟩
        · rw [List.mem_singleton.mp hy]
          refine ⟨tp, a.1, _, rfl, by rw [upd_ne npD]; exact ep, nda1.1, ?_⟩
          have jl := nda.2
          have ep : wd.ps[a2.2]? = some wd.ps[a2.2] := List.getElem?_eq_getElem jl
          have : namAt wd a2.2 = (wd.ps[a2.2]).1 := by unfold namAt endOf; rw [Nat.add_zero, ep]
          rw [this]
          exact (ok.nm _ (List.getElem_mem jl)).1
      · rintro H7 ⟨kb, ws, eD, lws, hws⟩
        have s67 : Same H6 H7 := fun c o e => kb c o (ne_of_none e hD) e
        have kb7 : KB b H3 H7 := kb6.trans fun c o _ e => s67 c o e
        have B7 : Bx b (0 + 100 + 200) H7 := B6.same (by obtain ⟨x, y, z, h, _⟩ := B6; rw [h]; exact s67 _ _ h)
        have x7 : KX T0 b H2 H7 := x6.trans (KX.kb x6.tab B6 fun c o _ e => s67 c o e)
        have etd7 := s67 _ _ etd
        have eu27 := s67 _ _ eu2
        have n7 : Nt (hide b H3) H7 := (hide_kb kb7).trans (hide_nt b H7)
        simp only [List.set_cons_succ, List.set_cons_zero]
        dsimp only [gName, List.set_cons_succ, List.set_cons_zero]
        obtain ⟨ap, xp, rfl, hap, dap⟩ := dp_list hp
        obtain ⟨as_, xst, rfl, has, das⟩ := dp_list hs_
        obtain ⟨al, xl, rfl, hal, dal⟩ := dp_list hl_
        refine ⟨_, rfl, wa, _, 0, .ref ap, rfl, rfl, n7.seq hw, rfl, _, rfl, wa, _, 1, .ref as_, rfl, rfl, n7.seq hw, rfl, _, rfl, wa, _, 2, .ref al, rfl, rfl, n7.seq hw, rfl, fun x dx hx0 hdx ne => ?_⟩
        have s78 : Same H7 (upd (upd H7 dx (.own x)) x (.ins C dx [])) := (same_alloc hdx).trans (same_alloc (by rw [upd_ne ne.symm]; exact hx0))
        have e8 := n7.trans (same_nt s78)
        refine ⟨x, dx, ap, as_, .ref al, xp, xst, wd, rfl, upd_same, .inl (e8.seq hap), dpAll_nt e8 dap, .inl (e8.seq has), dpAll_nt e8 das, .inr ⟨al, xl, rfl, .inl (e8.seq hal), dpAll_nt e8 dal⟩, ok, (KM.same x7.tab s78).tab _ hP, fun H9 ki hLine => ⟨rfl, ?_⟩⟩
        have k79 : KM T0 H7 H9 := KM.kt x7.tab hP ⟨fun c o n h => ki.keep c o (ne_of_none h hx0) n (s78 c o h), ki.tab⟩
        have x9 : KX T0 b H2 H9 := x7.trans (KX.km k79)
        have B9 : Bx b (0 + 100 + 200) H9 := B7.same (by obtain ⟨x1, y, z, h, _⟩ := B7; rw [h]; exact (KM.nt x7.tab k79) _ _ (by simp) h)
        have k9 := KM.nt x7.tab k79
        have etd9 := k9 _ _ (by simp) etd7
        have eu29 := k9 _ _ (by simp) eu27
        have eD9 := k9 _ _ (by simp) eD
        have hws9 : ∀ y ∈ ws, ∃ c n1 n2, y = .ref c ∧ H9 c = some (.tup [.str n1, .str n2]) ∧ NameOk n1 ∧ NameOk n2 := fun y hy => by
          obtain ⟨c, n1, n2, e, h, o⟩ := hws y hy
          exact ⟨c, n1, n2, e, k9 _ _ (by simp) h, o⟩
        simp only [List.set_cons_succ, List.set_cons_zero]
        dsimp only [gName, List.set_cons_succ, List.set_cons_zero]
        refine ⟨_, rfl, by decide, by decide, for_range (lo := 0) (n := 2) (fun j σ H' => ∃ v8 v9 v10 : Option V, σ = [some (.ref l), some (.int (0 + (i : Int))), some (.ref b), some (.ref wa), some (.ref G), some (.ref td), some (.ref D), some (.ref x), v8, v9, v10] ∧ KX T0 b H9 H' ∧ Bx b (300 + 60 * j) H') ⟨_, _, _, rfl, KX.refl x9.tab, by simpa using B9⟩ ?_ ?_⟩
        · rintro j σ H10 hj ⟨v8, v9, v10, rfl, kx, B10⟩
          simp only [List.set_cons_succ, List.set_cons_zero]
          dsimp only [gName, List.set_cons_succ, List.set_cons_zero]
          have etd10 := kx.tup x9.tab B9 etd9
          have eu210 := kx.tup x9.tab B9 eu29
          have eD10 : H10 D = some (.lst ws) := kx.at x9.tab eD9 (by simp) nDb
          have hws10 : ∀ y ∈ ws, ∃ c n1 n2, y = .ref c ∧ H10 c = some (.tup [.str n1, .str n2]) ∧ NameOk n1 ∧ NameOk n2 := fun y hy => by
            obtain ⟨c, n1, n2, e, h, o⟩ := hws9 y hy
            exact ⟨c, n1, n2, e, kx.tup x9.tab B9 h, o⟩
          have nNb : ¬ (H9 b = none) := by obtain ⟨_, _, _, h, _⟩ := B9; rw [h]; simp
          have dSp : Dp K (hide b H10) (.ref wa) wd.data := dp_nt ((hide_kb kb7).trans ((kx_hide x7.tab (KX.km k79)).trans (kx_hide x9.tab kx))) hDh
          have lps := pr6.len
          refine ⟨_, rfl, _, rfl, _, rfl, _, rfl, _, rfl, _, rfl, td, _, 1, .ref u2, rfl, rfl, SqT.of etd10, rfl, b, wa, D, u2, 300 + 60 * (j : Int), wd, (fun a => H9 a = none), ws, es.map V.str, rfl, B10, by omega, by omega, ok, nNb, fun a h => kx.fresh B10 h, dSp, ⟨nDb, eD10, by omega, fun y hy => ?_⟩, ⟨eu210, by rw [List.length_map]; have := ok.p6; have := ok.sl; omega, fun y hy => ?_⟩, fun L v1 v2 H11 kb11 B11 hL eL w1 w2 => ?_⟩
          · obtain ⟨c, n1, n2, rfl, h, o1, o2⟩ := hws10 y hy
            refine .tup c _ 1 h (show 2 ≤ mB 1 by decide) fun z hz => ?_
            rcases List.mem_cons.mp hz with rfl | hz
            · exact .str _ o1.good (Nat.le_trans o1.2.1 (by decide)) _
            · rw [List.mem_singleton.mp hz]
              exact .str _ o2.good (Nat.le_trans o2.2.1 (by decide)) _
          · obtain ⟨z, hz, rfl⟩ := List.mem_map.mp hy
            obtain ⟨p, hp, rfl⟩ := List.mem_map.mp (hes z hz)
            have o1 := (ok.nm p hp).1
            exact .str _ o1.good (Nat.le_trans o1.2.1 (by decide)) _
          have kx11 := kx.trans (KX.kb kx.tab B10 kb11)
          refine ⟨(fun a => H9 a = none), x, wa, L, v1, v2, wd, rfl, eL, w1, w2, ?_, ok, dp_nt (hide_nt b H11) (dp_nt (hide_kb kb11) dSp), kx11.tab, ?_, fun H12 kp tb12 => ?_⟩
          · obtain ⟨x1, y1, z1, hb9, _⟩ := id B9
            exact (line_hide hb9 hLine).nt ((kx_hide x9.tab kx11).trans (hide_nt b H11))
          · exact (x9.trans kx11).sm k2.tab B2 sm2
          · refine ⟨_, rfl, iteF ⟨_, _, _, rfl, ⟨fun c o nT nb h => kp c o nT (fun e => by dsimp only at e; rw [e] at h; cases h) (kx11.keep c o nT nb h), tb12⟩, ?_⟩⟩
            have Bz : Bx b (300 + 60 * (j : Int) + 60) H12 := B11.same (by
              obtain ⟨x1, y1, z1, h, _⟩ := id B11
              rw [h]
              exact kp b _ (tabs_ne kx11.tab h (by simp)) nNb h)
            exact Bz.mono (by push_cast; omega)
        · rintro σ H10 ⟨v8, v9, v10, rfl, kx, B10⟩
          exact ⟨_, _, _, _, _, _, _, _, _, _, rfl, fin (x9.trans kx)⟩
    · rintro σ H1 ⟨v1, v2, v3, v4, v5, v6, v7, v8, v9, v10, rfl, k1⟩
      exact k H1
end
end T9

set_option maxRecDepth 100000
set_option maxHeartbeats 4000000
/-! The end of a law with tables whose own def shows dicts. -/
namespace Gd
open PySem PySem.Spec PyProof.Rows L2 GxR
open Classical in
noncomputable def hm0 (K : PySem.W.Frag) (a : Addr) (vs : List Value) (ns : List Int) (T : List Addr) (o1 : Obj) : Hp := fun b => if b = sysModules then some (.frz o1 smU) else h0 K a vs ns T b
theorem hm0_inv {K : PySem.W.Frag} {a b : Addr} {vs : List Value} {ns : List Int} {T : List Addr} {o1 : Obj} {u : HO} (h : hm0 K a vs ns T o1 b = some u) :
    (b = sysModules ∧ u = .frz o1 smU) ∨ (b = a ∧ K.lookup a = none ∧ u = .frz (scriptO vs) (.lst (ns.map V.int))) ∨ (b ∈ T ∧ u = .tbl #[]) := by
  unfold hm0 at h
  split at h
  · rename_i c
    exact .inl ⟨c, (Option.some.inj h).symm⟩
  · exact .inr (h0_inv h)
section
variable {P : Program} {w : World} {K : PySem.W.Frag} {mg mb : Str → Option Value} {CX : CXT} {k : Nat} {fa a : Addr} {cs : List (Addr × Addr)} {fd : FuncData} {x : Str} {sp : Sp} {s1 : Shared} {vs : List Value} {ns : List Int}
theorem law_mcall (KX : K.In s1.heap) (nsG : s1.heap.Ns mainGlobals mg) (nsB : s1.heap.Ns builtinsNs mb) (isB : ∀ x : Str, x ≠ "__name__" → mb x = bootBuiltins x) (lim : s1.heap.NoLimit) (gens : s1.gens = #[])
    (tabs : ∀ p ∈ cs, s1.heap.get? p.2 = some tabO) (tabK : ∀ p ∈ cs, K.lookup p.2 = none) (codes : ∀ p ∈ cs, PySem.W.CodeHd s1.heap p.1 p.2)
    (bmain : ∃ (bm : Addr) (ob : Obj), mg "__builtins__" = some (.ref bm) ∧ bm ≠ builtinsNs ∧ s1.heap.get? bm = some ob ∧ ob.cls = .type "module" ∧ ob.dict = some builtinsNs ∧ ob.data = .plain)
    (hsm : ∃ o es ep, s1.heap.get? sysModules = some o ∧ o.data = .dict es ep) (k1 : K.lookup sysModules = none) (na : a ≠ sysModules)
    (ha : s1.heap.get? a = some (scriptO vs)) (hi : IntsAre vs ns) (hl : ns.length ≤ sizeLine) (hr : Room k callerA)
    (F : ∀ base : Heap, K.In base → base.Ns mainGlobals mg → (∀ p ∈ cs, TabB base mg p.1 p.2) → GOk P w K mg base CX k fa fd [x] sp)
    (hbind : ∀ (s : Shared) (u : Value), BindsTo s fd ⟨[u], []⟩ [(x, u)])
    (hsp : ∀ H : Hp, SmAt H → (∀ p ∈ cs, H p.2 = some (.tbl #[])) → SqL K H a (ns.map V.int) → sp [.ref a] H (fun v _ => v = .bl true) fun _ _ _ => False)
    (hCX : ∀ H e s', CX [] H s1 (fun _ _ _ => False) e s' → False) :
    codeAny (model P w) callerA (.call (.ref fa) ⟨[.ref a], []⟩) (fun r s' => r = .ok (.ret (.bool true)) ∧ OldK s1.heap s'.heap ∧ s'.os = s1.os ∧ AllBare s'.gens) s1 := by
  have rv := vals_ints hi
  have hlen := hi.length
  obtain ⟨o1, es1, ep1, ho1, hd1⟩ := hsm
  let T := cs.map Prod.snd
  have inT : ∀ p ∈ cs, p.2 ∈ T := fun p hp => List.mem_map.mpr ⟨p, hp, rfl⟩
  have ofT : ∀ b ∈ T, s1.heap.get? b = some tabO ∧ K.lookup b = none := by
    intro b hb
    obtain ⟨p, hp, rfl⟩ := List.mem_map.mp hb
    exact ⟨tabs p hp, tabK p hp⟩
  have neT : a ∉ T := fun z => by
    have q := (ofT a z).1
    rw [ha] at q
    cases q
  have smT : sysModules ∉ T := fun z => by
    have q := (ofT _ z).1
    rw [ho1] at q
    rw [Option.some.inj q] at hd1
    cases hd1
  let H := hm0 K a vs ns T o1
  have notsm : ∀ {b : Addr} {o : Obj}, s1.heap.get? b = some o → (∀ es ep, o.data ≠ .dict es ep) → b ≠ sysModules := fun e n z => by
    subst z
    rw [ho1] at e
    rw [Option.some.inj e] at hd1
    exact n _ _ hd1
  have seen : ∀ {b : Addr} {o : Obj}, s1.heap.get? b = some o → (∀ us n, o.data ≠ .seq us n) → o.data ≠ .fields #[] → b ≠ sysModules → H b = none := by
    intro b o e n1 n2 n3
    cases q : H b with
    | none => rfl
    | some u =>
      exfalso
      rcases hm0_inv q with ⟨z, _⟩ | ⟨rfl, _, _⟩ | ⟨hb, _⟩
      · exact n3 z
      · rw [ha] at e
        cases e
        exact n1 _ _ rfl
      · rw [(ofT b hb).1] at e
        cases e
        exact n2 rfl
  have keepHid : ∀ {b : Addr} {o : Obj}, s1.heap.get? b = some o → H b = none → (hidT s1.heap H).get? b = some o := fun e n => hidT_get e n
  have nsHid : ∀ {b : Addr} {m : Str → Option Value}, b ≠ sysModules → s1.heap.Ns b m → (hidT s1.heap H).Ns b m := by
    rintro b m n ⟨o, es, ep, e, d, rest⟩
    refine ⟨o, es, ep, keepHid e (seen e (fun us n z => ?_) (fun z => ?_) n), d, rest⟩ <;> (rw [d] at z; cases z)
  have KH : K.In (hidT s1.heap H) := by
    intro b o e
    refine keepHid (KX b o e) ?_
    cases q : H b with
    | none => rfl
    | some u =>
      exfalso
      rcases hm0_inv q with ⟨rfl, _⟩ | ⟨rfl, z, _⟩ | ⟨hb, _⟩
      · rw [k1] at e
        cases e
      · rw [z] at e
        cases e
      · rw [(ofT b hb).2] at e
        cases e
  have limH : (hidT s1.heap H).NoLimit := by
    obtain ⟨mc, h1, h2⟩ := lim
    exact ⟨mc, nsHid (by decide) h1, h2⟩
  have M : L2.Mod K mg (hidT s1.heap H) := ⟨KH, nsHid (by decide) nsG, ⟨mb, nsHid (by decide) nsB, isB⟩, limH⟩
  have TB : ∀ p ∈ cs, TabB (hidT s1.heap H) mg p.1 p.2 := by
    intro p hp
    have tp := tabs p hp
    refine ⟨?_, ?_, ?_⟩
    · obtain ⟨o, us, file, tf, flags, tg, inF, text, tt, e1, r1, r2, r3, rest⟩ := codes p hp
      refine ⟨o, us, file, tf, flags, tg, inF, text, tt, keepHid e1 (seen e1 (fun vs n z => ?_) (fun z => ?_) (notsm e1 fun es ep z => ?_)), r1, r2, r3, rest⟩
      · rw [r2] at z
        cases z
      · rw [r2] at z
        cases z
        simp at r3
      · rw [r2] at z
        cases z
    · obtain ⟨bm, ob, b1, b2, b3, b4, b5, b6⟩ := bmain
      have g1 : bm ≠ mainGlobals := by
        rintro rfl
        obtain ⟨o, es, ep, e, d, _⟩ := nsG
        rw [b3] at e
        cases e
        rw [b6] at d
        cases d
      have g2 : bm ≠ p.2 := by
        rintro rfl
        rw [tp] at b3
        cases b3
        cases b6
      refine ⟨bm, ob, b1, b2, g1, g2, keepHid b3 (seen b3 (fun vs n z => ?_) (fun z => ?_) (notsm b3 fun es ep z => ?_)), b4, b5, b6⟩ <;> (rw [b6] at z; cases z)
    · intro z
      obtain ⟨o, es, ep, e, d, _⟩ := nsG
      rw [z, tp] at e
      cases e
      cases d
  have hH : ∀ p ∈ cs, H p.2 = some (.tbl #[]) := by
    intro p hp
    have n0 : ¬ p.2 = sysModules := fun z => smT (z ▸ inT p hp)
    have n1 : ¬ (p.2 = a ∧ K.lookup a = none) := fun z => neT (z.1 ▸ inT p hp)
    exact (if_neg n0).trans ((if_neg n1).trans (if_pos (inT p hp)))
  have hS : SqL K H a (ns.map V.int) := by
    cases q : K.lookup a with
    | none => exact .inl (.inr ⟨scriptO vs, (if_neg na).trans (if_pos ⟨rfl, q⟩)⟩)
    | some o =>
      have e := KX a o q
      rw [ha] at e
      cases e
      exact .inr ⟨_, vs.toArray, _, q, rfl, rfl, rfl, by rw [List.size_toArray, hlen]; exact hl, by simpa using rv⟩
  have hok : HOk P w H s1.heap := by
    intro b u q
    rcases hm0_inv q with ⟨rfl, rfl⟩ | ⟨rfl, _, rfl⟩ | ⟨hb, rfl⟩
    · exact ⟨ho1, ⟨_, ho1⟩, ⟨_, ho1⟩, fun h1 h2 ⟨o, z⟩ k => ⟨o, k _ z⟩⟩
    · exact ⟨ha, by rw [List.length_map]; exact hl, vs, _, rv, ha⟩
    · exact (ofT b hb).1
  have e0 : Env0 P w K mg (hidT s1.heap H) callerA [] s1 H :=
    ⟨rfl, M, fun b o e => of_hidT e, Nat.le_of_eq (hidT_size _ _), trivial, (fun b hb => by cases (show b ∈ ([] : List Addr) from hb)), hok, .of_eq gens⟩
  have run := (F _ KH (nsHid (by decide) nsG) TB).go callerA [] s1 H ⟨[.ref a], []⟩ [.ref a] [.ref a] (fun v _ => v = .bl true) (fun _ _ _ => False) rfl hr e0 (hbind s1 (.ref a)) (.cons rfl .nil) (hsp H ⟨o1, if_pos rfl⟩ hH hS)
  refine codeAny_mono run ?_
  intro r s' h
  match r, h with
  | .error e, h => exact (hCX H e s' h).elim
  | .ok .next, h => exact h.elim
  | .ok .brk, h => exact h.elim
  | .ok .cont, h => exact h.elim
  | .ok (.ret u), h =>
    obtain ⟨v, H', os, bare, un, hok', r', q⟩ := h
    obtain rfl : v = .bl true := q
    obtain rfl : u = Value.bool true := r'
    have plain : ∀ b o, b ∉ T → s1.heap.get? b = some o → s'.heap.get? b = some o := by
      intro b o nb e
      cases q : H b with
      | none => exact un.keep b o e q (fun z => by cases (show b ∈ ([] : List Addr) from z)) (by simp)
      | some y =>
        rcases hm0_inv q with ⟨rfl, rfl⟩ | ⟨rfl, _, rfl⟩ | ⟨hb, _⟩
        · obtain ⟨e2, _⟩ := hok' sysModules _ (un.frzs _ _ _ q)
          rw [ho1] at e
          exact Option.some.inj e ▸ e2
        · obtain ⟨e2, _⟩ := hok' b _ (un.frzs b _ _ q)
          rw [ha] at e
          cases e
          exact e2
        · exact absurd hb nb
    have grown : ∀ p ∈ cs, ∃ more : Array Value, s'.heap.get? p.2 = some { cls := .none, data := .fields more } := by
      intro p hp
      obtain ⟨more, z⟩ := un.tbls p.2 #[] (hH p hp)
      exact ⟨_, hok' p.2 _ z⟩
    refine ⟨rfl, ⟨fun b o e => ?_, fun b o e => ?_⟩, os, bare⟩ <;> by_cases hb : b ∈ T
    · obtain ⟨p, hp, rfl⟩ := List.mem_map.mp hb
      obtain ⟨more, hm⟩ := grown p hp
      rw [tabs p hp] at e
      cases e
      exact .inr (.inl ⟨((codes p hp).tab (tabs p hp)).isCodeTable, rfl, #[], more, rfl, by rw [Array.empty_append]; exact hm⟩)
    · exact .inl (plain b o hb e)
    · obtain ⟨p, hp, rfl⟩ := List.mem_map.mp hb
      obtain ⟨more, hm⟩ := grown p hp
      exact ⟨_, hm⟩
    · exact ⟨o, plain b o hb e⟩
end
/-- what is to be known of such a law -/
def GLawM (l : PySem.W.OpenLaw) (w : World) (K : PySem.W.Frag) (CX : CXT) (k n : Nat) (x : Str) (mg : Str → Option Value) (fa : Addr) (h : Heap) : Prop :=
  ∃ (fd : FuncData) (cs : List (Addr × Addr)) (sp : Sp), K.lookup sysModules = none ∧ (∀ p ∈ cs, h.get? p.2 = some tabO) ∧ (∀ p ∈ cs, K.lookup p.2 = none) ∧ (∀ p ∈ cs, PySem.W.CodeHd h p.1 p.2) ∧
    (∀ (s : Shared) (u : Value), BindsTo s fd ⟨[u], []⟩ [(x, u)]) ∧
    (∀ (H : Hp) (a : Addr) (ns : List Int), ns.length ≤ n → SmAt H → (∀ p ∈ cs, H p.2 = some (.tbl #[])) → SqL K H a (ns.map V.int) →
      sp [.ref a] H (fun v _ => v = .bl true) fun _ _ _ => False) ∧
    ∀ base : Heap, K.In base → base.Ns mainGlobals mg → (∀ p ∈ cs, TabB base mg p.1 p.2) → GOk l.prog w K mg base CX k fa fd [x] sp
open PySem.W in
theorem walk_m {l : PySem.W.OpenLaw} {n k : Nat} {q : Program} {loose : List Str} {XP : (Str → Option Value) → Heap → Prop} {YP : World → Heap → Prop} {d : DefRec} {K : Params → PySem.W.Frag} {CX : World → CXT} {x : Str}
    (no : importsNone q = true) (hn : l.most = some n) (small : n ≤ sizeLine) (hdf : d.params.defaults = []) (hr : Room k callerA) (hY : ∀ (w : World) (h : Heap), YP w h → (K w.params).In h)
    (F : ∀ (w : World) (mg : Str → Option Value) (fa : Addr) (h : Heap), YP w h → (K w.params).In h → h.Ns mainGlobals mg → mg d.name = some (.ref fa) → Empt q (K w.params) h → GLawM l w (K w.params) (CX w) k n x mg fa h)
    (hCX : ∀ (w : World) (H : Hp) (s : Shared) (e : Value) (s' : Shared), CX w [] H s (fun _ _ _ => False) e s' → False) :
    PySem.W.WalkO q loose XP YP l.row.toRowW d [] (fun f vs => PySem.call f vs) := by
  intro w s0 s1 mg mb G Y fa o pm cd doc dV kV ho hd hcd hD hmg hg args vals as pre lay rd well low
  obtain ⟨a, vs, ns, rfl, rfl, hobj, hints, hlen⟩ := Att.script_of hn pre well
  have na : a ≠ sysModules := by
    cases rd with
    | cons r1 r2 =>
      cases r1 with
      | list _ _ _ _ => exact beq_eq_false_iff_ne.mp (low a (by simp))
  have KX := hY w _ Y
  have em : Empt q (K w.params) s1.heap := by
    intro x f c t o1 fd1 e dd us sl hx k1 k2 k3 k4 k5 k6
    obtain ⟨r, hr1, hr2⟩ := List.any_eq_true.mp hx
    have hn1 : r.name = x := beq_iff_eq.mp hr2
    obtain ⟨a1, o2, fd2, c2, t2, y1, y2, y3, y4, y5, y6⟩ := G.T.tab r hr1
    have z1 := PySem.W.mg_of KX G.T.g k1
    rw [hn1, z1] at y1
    cases y1
    have z2 := KX _ _ k2
    rw [z2] at y2
    cases y2
    rw [k3] at y3
    cases y3
    rw [k4] at y4
    cases y4
    have y6b := y6
    obtain ⟨⟨oc, vc, e1, e2, e3, e4⟩, hP⟩ := y6b
    have z5 := KX _ _ k5
    rw [z5] at e1
    cases e1
    cases e3
    rw [k6] at e4
    cases e4
    exact ⟨PySem.W.CodeHd.of y5 y6, hP⟩
  obtain ⟨fd, cs, sp, k1, t1, t2, t3, hb, hsp, hF⟩ := F w mg fa _ Y KX G.T.g hmg em
  have run := law_mcall KX G.T.g G.T.b G.T.builtins G.T.nolimit hg t1 t2 t3 G.T.bmain (let ⟨_, ⟨o, es, ep, e, d, _⟩, _⟩ := (G.T.seer no).mods; ⟨o, es, ep, e, d⟩) k1 na hobj hints (Nat.le_trans hlen small) hr hF hb (fun H a1 a2 a3 => hsp H a ns hlen a1 a2 a3) (fun H e s' => hCX w H s1 e s')
  refine enter_call (codeAny_mono run ?_)
  rintro r z ⟨rfl, old, os, bare⟩
  exact ⟨.inl ⟨.bool true, .bool true, [], rfl, fun _ => rfl, .bool true, Att.post_true l _, fun _ => ⟨List.Pairwise.nil, fun _ m => (nomatch m)⟩⟩, old, os, bare⟩
end Gd

set_option maxRecDepth 100000
set_option maxHeartbeats 4000000
namespace T9
open PySem PySem.Spec PyProof.Rows L2 GxR Gd TL My
theorem all_mk {l : PySem.W.OpenLaw} {q : Program} {w : World} {K : PySem.W.Frag} {h : Heap} {mg : Str → Option Value} {fa C Cs CT CN CW CP CF CE CS f1 f2 f3 f4 f5 f6 f7 f8 f9 f10 f11 f12 f13 f14 f15 f16 f17 f18 f19 f20 f21 f22 f23 f24 f25 f26 f27 f28 f29 f30 f31 f32 f33 f34 f35 f36 f37 f38 f39 f40 f41 f42 f43 f44 f45 f46 f47 co0 tb0 co1 tb1 : Addr} {eo0 : Value} {eoD0 : Option Addr} {us0 : Array Value} {usl0 : Array (Option Value)} {eo1 : Value} {eoD1 : Option Addr} {us1 : Array Value} {usl1 : Array (Option Value)}
    (X : K.In h) (G : h.Ns mainGlobals mg) (hfa : mg "law" = some (.ref fa)) (em : Empt q K h)
    {dT18 : Addr} {oT18 : Obj} {mT18 : Nat} {dT30 : Addr} {oT30 : Obj} {mT30 : Nat} {nmCT qCT : Str} {NCT : Addr} {bsCT : List Value} {snCT : List Str} {subCT : List Value} {abCT : Bool} {colCT : Option Bool} {ddCT : Option Addr} {m0CT m1CT m2CT m3CT m5CT : Option Value} {nmCN qCN : Str} {NCN : Addr} {bsCN : List Value} {snCN : List Str} {subCN : List Value} {abCN : Bool} {colCN : Option Bool} {ddCN : Option Addr} {m0CN m1CN m2CN m3CN m5CN : Option Value} {nmCW qCW : Str} {NCW : Addr} {bsCW : List Value} {snCW : List Str} {subCW : List Value} {abCW : Bool} {colCW : Option Bool} {ddCW : Option Addr} {m0CW m1CW m2CW m3CW m5CW : Option Value} {nmCP qCP : Str} {NCP : Addr} {bsCP : List Value} {snCP : List Str} {subCP : List Value} {abCP : Bool} {colCP : Option Bool} {ddCP : Option Addr} {m0CP m1CP m2CP m3CP m5CP : Option Value} {nmCF qCF : Str} {NCF : Addr} {bsCF : List Value} {snCF : List Str} {subCF : List Value} {abCF : Bool} {colCF : Option Bool} {ddCF : Option Addr} {m0CF m1CF m2CF m3CF m5CF : Option Value} {nmCE qCE : Str} {NCE : Addr} {bsCE : List Value} {snCE : List Str} {subCE : List Value} {abCE : Bool} {colCE : Option Bool} {ddCE : Option Addr} {m0CE m1CE m2CE m3CE m5CE : Option Value} {od1 an1 : Option Addr} {sl1 : Array (Option Value)} {oc1 kV1 dc1 pm1 cd1 ct1 : Value} {od2 an2 : Option Addr} {sl2 : Array (Option Value)} {oc2 kV2 dc2 pm2 cd2 ct2 : Value} {od3 an3 : Option Addr} {sl3 : Array (Option Value)} {oc3 kV3 dc3 pm3 cd3 ct3 : Value} {od4 an4 : Option Addr} {sl4 : Array (Option Value)} {oc4 kV4 dc4 pm4 cd4 ct4 : Value} {od5 an5 : Option Addr} {sl5 : Array (Option Value)} {oc5 kV5 dc5 pm5 cd5 ct5 : Value} {od6 an6 : Option Addr} {sl6 : Array (Option Value)} {oc6 kV6 dc6 pm6 cd6 ct6 : Value} {od7 an7 : Option Addr} {sl7 : Array (Option Value)} {oc7 kV7 dc7 pm7 cd7 ct7 : Value} {od8 an8 : Option Addr} {sl8 : Array (Option Value)} {oc8 kV8 dc8 pm8 cd8 ct8 : Value} {od9 an9 : Option Addr} {sl9 : Array (Option Value)} {oc9 kV9 dc9 pm9 ct9 : Value} {od10 an10 : Option Addr} {sl10 : Array (Option Value)} {oc10 kV10 dc10 pm10 cd10 ct10 : Value} {od11 an11 : Option Addr} {sl11 : Array (Option Value)} {oc11 kV11 dc11 pm11 cd11 ct11 : Value} {od12 an12 : Option Addr} {sl12 : Array (Option Value)} {oc12 kV12 dc12 pm12 cd12 ct12 : Value} {od13 an13 : Option Addr} {sl13 : Array (Option Value)} {oc13 kV13 dc13 pm13 cd13 ct13 : Value} {od14 an14 : Option Addr} {sl14 : Array (Option Value)} {oc14 kV14 dc14 pm14 cd14 ct14 : Value} {od15 an15 : Option Addr} {sl15 : Array (Option Value)} {oc15 kV15 dc15 pm15 cd15 ct15 : Value} {od16 an16 : Option Addr} {sl16 : Array (Option Value)} {oc16 kV16 dc16 pm16 cd16 ct16 : Value} {od17 an17 : Option Addr} {sl17 : Array (Option Value)} {oc17 kV17 dc17 pm17 cd17 ct17 : Value} {od18 an18 : Option Addr} {sl18 : Array (Option Value)} {oc18 kV18 dc18 pm18 cd18 ct18 : Value} {od19 an19 : Option Addr} {sl19 : Array (Option Value)} {oc19 kV19 dc19 pm19 cd19 ct19 : Value} {od20 an20 : Option Addr} {sl20 : Array (Option Value)} {oc20 kV20 dc20 pm20 cd20 ct20 : Value} {od21 an21 : Option Addr} {sl21 : Array (Option Value)} {oc21 kV21 dc21 pm21 cd21 ct21 : Value} {od22 an22 : Option Addr} {sl22 : Array (Option Value)} {oc22 kV22 dc22 pm22 cd22 ct22 : Value} {od23 an23 : Option Addr} {sl23 : Array (Option Value)} {oc23 kV23 dc23 pm23 cd23 ct23 : Value} {od24 an24 : Option Addr} {sl24 : Array (Option Value)} {oc24 kV24 dc24 pm24 cd24 ct24 : Value} {od25 an25 : Option Addr} {sl25 : Array (Option Value)} {oc25 kV25 dc25 pm25 cd25 ct25 : Value} {od26 an26 : Option Addr} {sl26 : Array (Option Value)} {oc26 kV26 dc26 pm26 cd26 ct26 : Value} {od27 an27 : Option Addr} {sl27 : Array (Option Value)} {oc27 kV27 dc27 pm27 ct27 : Value} {od28 an28 : Option Addr} {sl28 : Array (Option Value)} {oc28 kV28 dc28 pm28 cd28 ct28 : Value} {od29 an29 : Option Addr} {sl29 : Array (Option Value)} {oc29 kV29 dc29 pm29 cd29 ct29 : Value} {od30 an30 : Option Addr} {sl30 : Array (Option Value)} {oc30 kV30 dc30 pm30 cd30 ct30 : Value} {od31 an31 : Option Addr} {sl31 : Array (Option Value)} {oc31 kV31 dc31 pm31 cd31 ct31 : Value} {od32 an32 : Option Addr} {sl32 : Array (Option Value)} {oc32 kV32 dc32 pm32 cd32 ct32 : Value} {od33 an33 : Option Addr} {sl33 : Array (Option Value)} {oc33 kV33 dc33 pm33 cd33 ct33 : Value} {od34 an34 : Option Addr} {sl34 : Array (Option Value)} {oc34 kV34 dc34 pm34 cd34 ct34 : Value} {od35 an35 : Option Addr} {sl35 : Array (Option Value)} {oc35 kV35 dc35 pm35 cd35 ct35 : Value} {od36 an36 : Option Addr} {sl36 : Array (Option Value)} {oc36 kV36 dc36 pm36 cd36 ct36 : Value} {od37 an37 : Option Addr} {sl37 : Array (Option Value)} {oc37 kV37 dc37 pm37 cd37 ct37 : Value} {od38 an38 : Option Addr} {sl38 : Array (Option Value)} {oc38 kV38 dc38 pm38 cd38 ct38 : Value} {od39 an39 : Option Addr} {sl39 : Array (Option Value)} {oc39 kV39 dc39 pm39 cd39 ct39 : Value} {od40 an40 : Option Addr} {sl40 : Array (Option Value)} {oc40 kV40 dc40 pm40 cd40 ct40 : Value} {od41 an41 : Option Addr} {sl41 : Array (Option Value)} {oc41 kV41 dc41 pm41 cd41 ct41 : Value} {od42 an42 : Option Addr} {sl42 : Array (Option Value)} {oc42 kV42 dc42 pm42 cd42 ct42 : Value} {od43 an43 : Option Addr} {sl43 : Array (Option Value)} {oc43 kV43 dc43 pm43 cd43 ct43 : Value} {od44 an44 : Option Addr} {sl44 : Array (Option Value)} {oc44 kV44 dc44 pm44 cd44 ct44 : Value} {od45 an45 : Option Addr} {sl45 : Array (Option Value)} {oc45 kV45 dc45 pm45 cd45 ct45 : Value} {od46 an46 : Option Addr} {sl46 : Array (Option Value)} {oc46 kV46 dc46 pm46 cd46 ct46 : Value} {od47 an47 : Option Addr} {sl47 : Array (Option Value)} {oc47 kV47 dc47 pm47 cd47 ct47 : Value}
    (aC : PySem.W.nsIn K mainGlobals "Line" = some (some (.ref C))) (pgC : PySem.W.plainGet K C Str.empty = true) (hdC : PySem.W.hasDictIn K C = true) (poC : PySem.W.plainOver K C = true) (saC : PySem.W.findIn K (.ref C) "__setattr__" = some (some (.builtin "object.__setattr__"))) (mkC : PySem.W.makesIn K C = true) (kcC : PySem.W.keepIn K (.ref C) = true) (n0C : PySem.W.findIn K (.ref C) "_places" = some none) (n1C : PySem.W.findIn K (.ref C) "_stretches" = some none) (n2C : PySem.W.findIn K (.ref C) "_longs" = some none) (n3C : PySem.W.findIn K (.ref C) "_numbers" = some none) (aCs : PySem.W.nsIn K mainGlobals "Stand" = some (some (.ref Cs))) (pgCs : PySem.W.plainGet K Cs Str.empty = true) (hdCs : PySem.W.hasDictIn K Cs = true) (poCs : PySem.W.plainOver K Cs = true) (saCs : PySem.W.findIn K (.ref Cs) "__setattr__" = some (some (.builtin "object.__setattr__"))) (mkCs : PySem.W.makesIn K Cs = true) (kcCs : PySem.W.keepIn K (.ref Cs) = true) (n0Cs : PySem.W.findIn K (.ref Cs) "_line" = some none) (n1Cs : PySem.W.findIn K (.ref Cs) "_trains" = some none) (n2Cs : PySem.W.findIn K (.ref Cs) "_state" = some none) (aCT : PySem.W.nsIn K mainGlobals "NoTrains" = some (some (.ref CT))) (xlCT : K.lookup CT = some (excClassObj nmCT qCT CT NCT bsCT [.ref CS, .type "ValueError", .type "Exception", .type "BaseException", .type "object"] true snCT subCT abCT colCT ddCT m0CT m1CT m2CT m3CT m5CT "ValueError.__new__")) (saCT : PySem.W.findIn K (.ref CT) "__setattr__" = some (some (.builtin "object.__setattr__"))) (gaCT : PySem.W.findIn K (.ref CT) "__getattribute__" = some (some (.builtin "BaseException.__getattribute__"))) (ggCT : PySem.W.findIn K (.ref CT) "__getattr__" = some none) (kcCT : PySem.W.keepIn K (.ref CT) = true) (exCT : PySem.W.subIn K (.ref CT) (.type "BaseException") = some true) (tyCT : PySem.W.typeIn K (.ref CT) = some (.type "type")) (hdCT : PySem.W.hasDictIn K CT = true) (icCT : PySem.W.isClsIn K CT = true) (coCT : PySem.W.findIn K (.ref CT) "__class__" = some (some (.builtin "object.__class__"))) (moCT : PySem.W.mroIn K CT (.type "object") = some true) (n0CT : PySem.W.findIn K (.ref CT) "found" = some none) (aCN : PySem.W.nsIn K mainGlobals "NoName" = some (some (.ref CN))) (xlCN : K.lookup CN = some (excClassObj nmCN qCN CN NCN bsCN [.ref CS, .type "ValueError", .type "Exception", .type "BaseException", .type "object"] true snCN subCN abCN colCN ddCN m0CN m1CN m2CN m3CN m5CN "ValueError.__new__")) (saCN : PySem.W.findIn K (.ref CN) "__setattr__" = some (some (.builtin "object.__setattr__"))) (gaCN : PySem.W.findIn K (.ref CN) "__getattribute__" = some (some (.builtin "BaseException.__getattribute__"))) (ggCN : PySem.W.findIn K (.ref CN) "__getattr__" = some none) (kcCN : PySem.W.keepIn K (.ref CN) = true) (exCN : PySem.W.subIn K (.ref CN) (.type "BaseException") = some true) (tyCN : PySem.W.typeIn K (.ref CN) = some (.type "type")) (hdCN : PySem.W.hasDictIn K CN = true) (icCN : PySem.W.isClsIn K CN = true) (coCN : PySem.W.findIn K (.ref CN) "__class__" = some (some (.builtin "object.__class__"))) (moCN : PySem.W.mroIn K CN (.type "object") = some true) (n0CN : PySem.W.findIn K (.ref CN) "found" = some none) (aCW : PySem.W.nsIn K mainGlobals "Twice" = some (some (.ref CW))) (xlCW : K.lookup CW = some (excClassObj nmCW qCW CW NCW bsCW [.ref CS, .type "ValueError", .type "Exception", .type "BaseException", .type "object"] true snCW subCW abCW colCW ddCW m0CW m1CW m2CW m3CW m5CW "ValueError.__new__")) (saCW : PySem.W.findIn K (.ref CW) "__setattr__" = some (some (.builtin "object.__setattr__"))) (gaCW : PySem.W.findIn K (.ref CW) "__getattribute__" = some (some (.builtin "BaseException.__getattribute__"))) (ggCW : PySem.W.findIn K (.ref CW) "__getattr__" = some none) (kcCW : PySem.W.keepIn K (.ref CW) = true) (exCW : PySem.W.subIn K (.ref CW) (.type "BaseException") = some true) (tyCW : PySem.W.typeIn K (.ref CW) = some (.type "type")) (hdCW : PySem.W.hasDictIn K CW = true) (icCW : PySem.W.isClsIn K CW = true) (coCW : PySem.W.findIn K (.ref CW) "__class__" = some (some (.builtin "object.__class__"))) (moCW : PySem.W.mroIn K CW (.type "object") = some true) (n0CW : PySem.W.findIn K (.ref CW) "found" = some none) (aCP : PySem.W.nsIn K mainGlobals "NoPlace" = some (some (.ref CP))) (xlCP : K.lookup CP = some (excClassObj nmCP qCP CP NCP bsCP [.ref CS, .type "ValueError", .type "Exception", .type "BaseException", .type "object"] true snCP subCP abCP colCP ddCP m0CP m1CP m2CP m3CP m5CP "ValueError.__new__")) (saCP : PySem.W.findIn K (.ref CP) "__setattr__" = some (some (.builtin "object.__setattr__"))) (gaCP : PySem.W.findIn K (.ref CP) "__getattribute__" = some (some (.builtin "BaseException.__getattribute__"))) (ggCP : PySem.W.findIn K (.ref CP) "__getattr__" = some none) (kcCP : PySem.W.keepIn K (.ref CP) = true) (exCP : PySem.W.subIn K (.ref CP) (.type "BaseException") = some true) (tyCP : PySem.W.typeIn K (.ref CP) = some (.type "type")) (hdCP : PySem.W.hasDictIn K CP = true) (icCP : PySem.W.isClsIn K CP = true) (coCP : PySem.W.findIn K (.ref CP) "__class__" = some (some (.builtin "object.__class__"))) (moCP : PySem.W.mroIn K CP (.type "object") = some true) (n0CP : PySem.W.findIn K (.ref CP) "found" = some none) (aCF : PySem.W.nsIn K mainGlobals "Full" = some (some (.ref CF))) (xlCF : K.lookup CF = some (excClassObj nmCF qCF CF NCF bsCF [.ref CS, .type "ValueError", .type "Exception", .type "BaseException", .type "object"] true snCF subCF abCF colCF ddCF m0CF m1CF m2CF m3CF m5CF "ValueError.__new__")) (saCF : PySem.W.findIn K (.ref CF) "__setattr__" = some (some (.builtin "object.__setattr__"))) (gaCF : PySem.W.findIn K (.ref CF) "__getattribute__" = some (some (.builtin "BaseException.__getattribute__"))) (ggCF : PySem.W.findIn K (.ref CF) "__getattr__" = some none) (kcCF : PySem.W.keepIn K (.ref CF) = true) (exCF : PySem.W.subIn K (.ref CF) (.type "BaseException") = some true) (tyCF : PySem.W.typeIn K (.ref CF) = some (.type "type")) (hdCF : PySem.W.hasDictIn K CF = true) (icCF : PySem.W.isClsIn K CF = true) (coCF : PySem.W.findIn K (.ref CF) "__class__" = some (some (.builtin "object.__class__"))) (moCF : PySem.W.mroIn K CF (.type "object") = some true) (n0CF : PySem.W.findIn K (.ref CF) "found" = some none) (aCE : PySem.W.nsIn K mainGlobals "NoEnds" = some (some (.ref CE))) (xlCE : K.lookup CE = some (excClassObj nmCE qCE CE NCE bsCE [.ref CS, .type "ValueError", .type "Exception", .type "BaseException", .type "object"] true snCE subCE abCE colCE ddCE m0CE m1CE m2CE m3CE m5CE "ValueError.__new__")) (saCE : PySem.W.findIn K (.ref CE) "__setattr__" = some (some (.builtin "object.__setattr__"))) (gaCE : PySem.W.findIn K (.ref CE) "__getattribute__" = some (some (.builtin "BaseException.__getattribute__"))) (ggCE : PySem.W.findIn K (.ref CE) "__getattr__" = some none) (kcCE : PySem.W.keepIn K (.ref CE) = true) (exCE : PySem.W.subIn K (.ref CE) (.type "BaseException") = some true) (tyCE : PySem.W.typeIn K (.ref CE) = some (.type "type")) (hdCE : PySem.W.hasDictIn K CE = true) (icCE : PySem.W.isClsIn K CE = true) (coCE : PySem.W.findIn K (.ref CE) "__class__" = some (some (.builtin "object.__class__"))) (moCE : PySem.W.mroIn K CE (.type "object") = some true) (n0CE : PySem.W.findIn K (.ref CE) "found" = some none) (a1 : PySem.W.findIn K (.ref CS) "__init__" = some (some (.ref f1))) (i1 : PySem.W.isFn K (.ref f1) = true) (l1 : K.lookup f1 = some ⟨oc1, od1, .func (PySem.W.fnOf "__init__" "StaffError.__init__" (defArgs sSE) (defBody sSE) (defScope sSE) .none kV1 dc1 pm1 an1 cd1 ct1), sl1⟩) (c1 : PySem.W.codeIn K cd1 "StaffError.__init__" = true) (k1 : PySem.W.keepIn K (.ref f1) = true) (a2 : PySem.W.findIn K (.ref CT) "__init__" = some (some (.ref f2))) (i2 : PySem.W.isFn K (.ref f2) = true) (l2 : K.lookup f2 = some ⟨oc2, od2, .func (PySem.W.fnOf "__init__" "NoTrains.__init__" (defArgs sNoTrains) (defBody sNoTrains) (defScope sNoTrains) .none kV2 dc2 pm2 an2 cd2 ct2), sl2⟩) (c2 : PySem.W.codeIn K cd2 "NoTrains.__init__" = true) (k2 : PySem.W.keepIn K (.ref f2) = true) (a3 : PySem.W.findIn K (.ref CN) "__init__" = some (some (.ref f3))) (i3 : PySem.W.isFn K (.ref f3) = true) (l3 : K.lookup f3 = some ⟨oc3, od3, .func (PySem.W.fnOf "__init__" "NoName.__init__" (defArgs sNoName) (defBody sNoName) (defScope sNoName) .none kV3 dc3 pm3 an3 cd3 ct3), sl3⟩) (c3 : PySem.W.codeIn K cd3 "NoName.__init__" = true) (k3 : PySem.W.keepIn K (.ref f3) = true) (a4 : PySem.W.findIn K (.ref CW) "__init__" = some (some (.ref f4))) (i4 : PySem.W.isFn K (.ref f4) = true) (l4 : K.lookup f4 = some ⟨oc4, od4, .func (PySem.W.fnOf "__init__" "Twice.__init__" (defArgs sTwice) (defBody sTwice) (defScope sTwice) .none kV4 dc4 pm4 an4 cd4 ct4), sl4⟩) (c4 : PySem.W.codeIn K cd4 "Twice.__init__" = true) (k4 : PySem.W.keepIn K (.ref f4) = true) (a5 : PySem.W.findIn K (.ref CP) "__init__" = some (some (.ref f5))) (i5 : PySem.W.isFn K (.ref f5) = true) (l5 : K.lookup f5 = some ⟨oc5, od5, .func (PySem.W.fnOf "__init__" "NoPlace.__init__" (defArgs sNoPlace) (defBody sNoPlace) (defScope sNoPlace) .none kV5 dc5 pm5 an5 cd5 ct5), sl5⟩) (c5 : PySem.W.codeIn K cd5 "NoPlace.__init__" = true) (k5 : PySem.W.keepIn K (.ref f5) = true) (a6 : PySem.W.findIn K (.ref CF) "__init__" = some (some (.ref f6))) (i6 : PySem.W.isFn K (.ref f6) = true) (l6 : K.lookup f6 = some ⟨oc6, od6, .func (PySem.W.fnOf "__init__" "Full.__init__" (defArgs sFull) (defBody sFull) (defScope sFull) .none kV6 dc6 pm6 an6 cd6 ct6), sl6⟩) (c6 : PySem.W.codeIn K cd6 "Full.__init__" = true) (k6 : PySem.W.keepIn K (.ref f6) = true) (a7 : PySem.W.findIn K (.ref CE) "__init__" = some (some (.ref f7))) (i7 : PySem.W.isFn K (.ref f7) = true) (l7 : K.lookup f7 = some ⟨oc7, od7, .func (PySem.W.fnOf "__init__" "NoEnds.__init__" (defArgs sNoEnds) (defBody sNoEnds) (defScope sNoEnds) .none kV7 dc7 pm7 an7 cd7 ct7), sl7⟩) (c7 : PySem.W.codeIn K cd7 "NoEnds.__init__" = true) (k7 : PySem.W.keepIn K (.ref f7) = true) (a8 : PySem.W.nsIn K mainGlobals "is_whole" = some (some (.ref f8))) (l8 : K.lookup f8 = some ⟨oc8, od8, .func (PySem.W.fnOf "is_whole" "is_whole" (defArgs sWhole) (defBody sWhole) (defScope sWhole) .none kV8 dc8 pm8 an8 cd8 ct8), sl8⟩) (c8 : PySem.W.codeIn K cd8 "is_whole" = true) (k8 : PySem.W.keepIn K (.ref f8) = true) (a9 : PySem.W.nsIn K mainGlobals "is_name" = some (some (.ref f9))) (l9 : K.lookup f9 = some ⟨oc9, od9, .func (PySem.W.fnOf "is_name" "is_name" (defArgs sName) (defBody sName) (defScope sName) .none kV9 dc9 pm9 an9 (.ref co0) ct9), sl9⟩) (c9 : PySem.W.codeIn K (.ref co0) "is_name" = true) (k9 : PySem.W.keepIn K (.ref f9) = true) (a10 : PySem.W.nsIn K mainGlobals "is_list" = some (some (.ref f10))) (l10 : K.lookup f10 = some ⟨oc10, od10, .func (PySem.W.fnOf "is_list" "is_list" (defArgs s_is_list) (defBody s_is_list) (defScope s_is_list) .none kV10 dc10 pm10 an10 cd10 ct10), sl10⟩) (c10 : PySem.W.codeIn K cd10 "is_list" = true) (k10 : PySem.W.keepIn K (.ref f10) = true) (a11 : PySem.W.nsIn K mainGlobals "is_tuple" = some (some (.ref f11))) (l11 : K.lookup f11 = some ⟨oc11, od11, .func (PySem.W.fnOf "is_tuple" "is_tuple" (defArgs s_is_tuple) (defBody s_is_tuple) (defScope s_is_tuple) .none kV11 dc11 pm11 an11 cd11 ct11), sl11⟩) (c11 : PySem.W.codeIn K cd11 "is_tuple" = true) (k11 : PySem.W.keepIn K (.ref f11) = true) (a12 : PySem.W.nsIn K mainGlobals "_check_place" = some (some (.ref f12))) (l12 : K.lookup f12 = some ⟨oc12, od12, .func (PySem.W.fnOf "_check_place" "_check_place" (defArgs s_check_place) (defBody s_check_place) (defScope s_check_place) .none kV12 dc12 pm12 an12 cd12 ct12), sl12⟩) (c12 : PySem.W.codeIn K cd12 "_check_place" = true) (k12 : PySem.W.keepIn K (.ref f12) = true) (a13 : PySem.W.nsIn K mainGlobals "_check_places" = some (some (.ref f13))) (l13 : K.lookup f13 = some ⟨oc13, od13, .func (PySem.W.fnOf "_check_places" "_check_places" (defArgs s_check_places) (defBody s_check_places) (defScope s_check_places) .none kV13 dc13 pm13 an13 cd13 ct13), sl13⟩) (c13 : PySem.W.codeIn K cd13 "_check_places" = true) (k13 : PySem.W.keepIn K (.ref f13) = true) (a14 : PySem.W.nsIn K mainGlobals "_is_stretch" = some (some (.ref f14))) (l14 : K.lookup f14 = some ⟨oc14, od14, .func (PySem.W.fnOf "_is_stretch" "_is_stretch" (defArgs s_is_stretch) (defBody s_is_stretch) (defScope s_is_stretch) .none kV14 dc14 pm14 an14 cd14 ct14), sl14⟩) (c14 : PySem.W.codeIn K cd14 "_is_stretch" = true) (k14 : PySem.W.keepIn K (.ref f14) = true) (a15 : PySem.W.nsIn K mainGlobals "_check_stretches" = some (some (.ref f15))) (l15 : K.lookup f15 = some ⟨oc15, od15, .func (PySem.W.fnOf "_check_stretches" "_check_stretches" (defArgs s_check_stretches) (defBody s_check_stretches) (defScope s_check_stretches) .none kV15 dc15 pm15 an15 cd15 ct15), sl15⟩) (c15 : PySem.W.codeIn K cd15 "_check_stretches" = true) (k15 : PySem.W.keepIn K (.ref f15) = true) (a16 : PySem.W.nsIn K mainGlobals "_is_long" = some (some (.ref f16))) (l16 : K.lookup f16 = some ⟨oc16, od16, .func (PySem.W.fnOf "_is_long" "_is_long" (defArgs s_is_long) (defBody s_is_long) (defScope s_is_long) .none kV16 dc16 pm16 an16 cd16 ct16), sl16⟩) (c16 : PySem.W.codeIn K cd16 "_is_long" = true) (k16 : PySem.W.keepIn K (.ref f16) = true) (a17 : PySem.W.nsIn K mainGlobals "_check_longs" = some (some (.ref f17))) (l17 : K.lookup f17 = some ⟨oc17, od17, .func (PySem.W.fnOf "_check_longs" "_check_longs" (defArgs s_check_longs) (defBody s_check_longs) (defScope s_check_longs) .none kV17 dc17 pm17 an17 cd17 ct17), sl17⟩) (c17 : PySem.W.codeIn K cd17 "_check_longs" = true) (k17 : PySem.W.keepIn K (.ref f17) = true) (a18 : PySem.W.findIn K (.ref C) "__init__" = some (some (.ref f18))) (i18 : PySem.W.isFn K (.ref f18) = true) (l18 : K.lookup f18 = some ⟨oc18, od18, .func (PySem.W.fnOf "__init__" "Line.__init__" (defArgs s_init) (defBody s_init) (defScope s_init) (.ref dT18) kV18 dc18 pm18 an18 cd18 ct18), sl18⟩) (c18 : PySem.W.codeIn K cd18 "Line.__init__" = true) (k18 : PySem.W.keepIn K (.ref f18) = true) (a19 : PySem.W.findIn K (.ref C) "number_of" = some (some (.ref f19))) (i19 : PySem.W.isFn K (.ref f19) = true) (l19 : K.lookup f19 = some ⟨oc19, od19, .func (PySem.W.fnOf "number_of" "Line.number_of" (defArgs s_number_of) (defBody s_number_of) (defScope s_number_of) .none kV19 dc19 pm19 an19 cd19 ct19), sl19⟩) (c19 : PySem.W.codeIn K cd19 "Line.number_of" = true) (k19 : PySem.W.keepIn K (.ref f19) = true) (a20 : PySem.W.findIn K (.ref C) "roads" = some (some (.ref f20))) (i20 : PySem.W.isFn K (.ref f20) = true) (l20 : K.lookup f20 = some ⟨oc20, od20, .func (PySem.W.fnOf "roads" "Line.roads" (defArgs s_roads) (defBody s_roads) (defScope s_roads) .none kV20 dc20 pm20 an20 cd20 ct20), sl20⟩) (c20 : PySem.W.codeIn K cd20 "Line.roads" = true) (k20 : PySem.W.keepIn K (.ref f20) = true) (a21 : PySem.W.findIn K (.ref C) "_check_stretch" = some (some (.ref f21))) (i21 : PySem.W.isFn K (.ref f21) = true) (l21 : K.lookup f21 = some ⟨oc21, od21, .func (PySem.W.fnOf "_check_stretch" "Line._check_stretch" (defArgs s_check_stretch) (defBody s_check_stretch) (defScope s_check_stretch) .none kV21 dc21 pm21 an21 cd21 ct21), sl21⟩) (c21 : PySem.W.codeIn K cd21 "Line._check_stretch" = true) (k21 : PySem.W.keepIn K (.ref f21) = true) (a22 : PySem.W.findIn K (.ref C) "ends" = some (some (.ref f22))) (i22 : PySem.W.isFn K (.ref f22) = true) (l22 : K.lookup f22 = some ⟨oc22, od22, .func (PySem.W.fnOf "ends" "Line.ends" (defArgs s_ends) (defBody s_ends) (defScope s_ends) .none kV22 dc22 pm22 an22 cd22 ct22), sl22⟩) (c22 : PySem.W.codeIn K cd22 "Line.ends" = true) (k22 : PySem.W.keepIn K (.ref f22) = true) (a23 : PySem.W.findIn K (.ref C) "home" = some (some (.ref f23))) (i23 : PySem.W.isFn K (.ref f23) = true) (l23 : K.lookup f23 = some ⟨oc23, od23, .func (PySem.W.fnOf "home" "Line.home" (defArgs s_home) (defBody s_home) (defScope s_home) .none kV23 dc23 pm23 an23 cd23 ct23), sl23⟩) (c23 : PySem.W.codeIn K cd23 "Line.home" = true) (k23 : PySem.W.keepIn K (.ref f23) = true) (a24 : PySem.W.findIn K (.ref C) "many_stretches" = some (some (.ref f24))) (i24 : PySem.W.isFn K (.ref f24) = true) (l24 : K.lookup f24 = some ⟨oc24, od24, .func (PySem.W.fnOf "many_stretches" "Line.many_stretches" (defArgs s_many_stretches) (defBody s_many_stretches) (defScope s_many_stretches) .none kV24 dc24 pm24 an24 cd24 ct24), sl24⟩) (c24 : PySem.W.codeIn K cd24 "Line.many_stretches" = true) (k24 : PySem.W.keepIn K (.ref f24) = true) (a25 : PySem.W.nsIn K mainGlobals "_check_train" = some (some (.ref f25))) (l25 : K.lookup f25 = some ⟨oc25, od25, .func (PySem.W.fnOf "_check_train" "_check_train" (defArgs s_check_train) (defBody s_check_train) (defScope s_check_train) .none kV25 dc25 pm25 an25 cd25 ct25), sl25⟩) (c25 : PySem.W.codeIn K cd25 "_check_train" = true) (k25 : PySem.W.keepIn K (.ref f25) = true) (a26 : PySem.W.nsIn K mainGlobals "check_trains" = some (some (.ref f26))) (l26 : K.lookup f26 = some ⟨oc26, od26, .func (PySem.W.fnOf "check_trains" "check_trains" (defArgs s_check_trains) (defBody s_check_trains) (defScope s_check_trains) .none kV26 dc26 pm26 an26 cd26 ct26), sl26⟩) (c26 : PySem.W.codeIn K cd26 "check_trains" = true) (k26 : PySem.W.keepIn K (.ref f26) = true) (a27 : PySem.W.nsIn K mainGlobals "_are_ends" = some (some (.ref f27))) (l27 : K.lookup f27 = some ⟨oc27, od27, .func (PySem.W.fnOf "_are_ends" "_are_ends" (defArgs s_are_ends) (defBody s_are_ends) (defScope s_are_ends) .none kV27 dc27 pm27 an27 (.ref co1) ct27), sl27⟩) (c27 : PySem.W.codeIn K (.ref co1) "_are_ends" = true) (k27 : PySem.W.keepIn K (.ref f27) = true) (a28 : PySem.W.nsIn K mainGlobals "check_ends" = some (some (.ref f28))) (l28 : K.lookup f28 = some ⟨oc28, od28, .func (PySem.W.fnOf "check_ends" "check_ends" (defArgs s_check_ends) (defBody s_check_ends) (defScope s_check_ends) .none kV28 dc28 pm28 an28 cd28 ct28), sl28⟩) (c28 : PySem.W.codeIn K cd28 "check_ends" = true) (k28 : PySem.W.keepIn K (.ref f28) = true) (a29 : PySem.W.nsIn K mainGlobals "staff_ends" = some (some (.ref f29))) (l29 : K.lookup f29 = some ⟨oc29, od29, .func (PySem.W.fnOf "staff_ends" "staff_ends" (defArgs s_staff_ends) (defBody s_staff_ends) (defScope s_staff_ends) .none kV29 dc29 pm29 an29 cd29 ct29), sl29⟩) (c29 : PySem.W.codeIn K cd29 "staff_ends" = true) (k29 : PySem.W.keepIn K (.ref f29) = true) (a30 : PySem.W.findIn K (.ref Cs) "__init__" = some (some (.ref f30))) (i30 : PySem.W.isFn K (.ref f30) = true) (l30 : K.lookup f30 = some ⟨oc30, od30, .func (PySem.W.fnOf "__init__" "Stand.__init__" (defArgs St.s_init) (defBody St.s_init) (defScope St.s_init) (.ref dT30) kV30 dc30 pm30 an30 cd30 ct30), sl30⟩) (c30 : PySem.W.codeIn K cd30 "Stand.__init__" = true) (k30 : PySem.W.keepIn K (.ref f30) = true) (a31 : PySem.W.findIn K (.ref Cs) "state" = some (some (.ref f31))) (i31 : PySem.W.isFn K (.ref f31) = true) (l31 : K.lookup f31 = some ⟨oc31, od31, .func (PySem.W.fnOf "state" "Stand.state" (defArgs St.s_state) (defBody St.s_state) (defScope St.s_state) .none kV31 dc31 pm31 an31 cd31 ct31), sl31⟩) (c31 : PySem.W.codeIn K cd31 "Stand.state" = true) (k31 : PySem.W.keepIn K (.ref f31) = true) (a32 : PySem.W.nsIn K mainGlobals "_law_cell" = some (some (.ref f32))) (l32 : K.lookup f32 = some ⟨oc32, od32, .func (PySem.W.fnOf "_law_cell" "_law_cell" (defArgs sCell) (defBody sCell) (defScope sCell) .none kV32 dc32 pm32 an32 cd32 ct32), sl32⟩) (c32 : PySem.W.codeIn K cd32 "_law_cell" = true) (k32 : PySem.W.keepIn K (.ref f32) = true) (a33 : PySem.W.nsIn K mainGlobals "_law_box" = some (some (.ref f33))) (l33 : K.lookup f33 = some ⟨oc33, od33, .func (PySem.W.fnOf "_law_box" "_law_box" (defArgs sBox) (defBody sBox) (defScope sBox) .none kV33 dc33 pm33 an33 cd33 ct33), sl33⟩) (c33 : PySem.W.codeIn K cd33 "_law_box" = true) (k33 : PySem.W.keepIn K (.ref f33) = true) (a34 : PySem.W.nsIn K mainGlobals "_law_take" = some (some (.ref f34))) (l34 : K.lookup f34 = some ⟨oc34, od34, .func (PySem.W.fnOf "_law_take" "_law_take" (defArgs sTake) (defBody sTake) (defScope sTake) .none kV34 dc34 pm34 an34 cd34 ct34), sl34⟩) (c34 : PySem.W.codeIn K cd34 "_law_take" = true) (k34 : PySem.W.keepIn K (.ref f34) = true) (a35 : PySem.W.nsIn K mainGlobals "_law_names" = some (some (.ref f35))) (l35 : K.lookup f35 = some ⟨oc35, od35, .func (PySem.W.fnOf "_law_names" "_law_names" (defArgs s_law_names) (defBody s_law_names) (defScope s_law_names) .none kV35 dc35 pm35 an35 cd35 ct35), sl35⟩) (c35 : PySem.W.codeIn K cd35 "_law_names" = true) (k35 : PySem.W.keepIn K (.ref f35) = true) (a36 : PySem.W.nsIn K mainGlobals "_law_world" = some (some (.ref f36))) (l36 : K.lookup f36 = some ⟨oc36, od36, .func (PySem.W.fnOf "_law_world" "_law_world" (defArgs s_law_world) (defBody s_law_world) (defScope s_law_world) .none kV36 dc36 pm36 an36 cd36 ct36), sl36⟩) (c36 : PySem.W.codeIn K cd36 "_law_world" = true) (k36 : PySem.W.keepIn K (.ref f36) = true) (a37 : PySem.W.nsIn K mainGlobals "_law_begun" = some (some (.ref f37))) (l37 : K.lookup f37 = some ⟨oc37, od37, .func (PySem.W.fnOf "_law_begun" "_law_begun" (defArgs s_law_begun) (defBody s_law_begun) (defScope s_law_begun) .none kV37 dc37 pm37 an37 cd37 ct37), sl37⟩) (c37 : PySem.W.codeIn K cd37 "_law_begun" = true) (k37 : PySem.W.keepIn K (.ref f37) = true) (a38 : PySem.W.nsIn K mainGlobals "_law_state" = some (some (.ref f38))) (l38 : K.lookup f38 = some ⟨oc38, od38, .func (PySem.W.fnOf "_law_state" "_law_state" (defArgs s_law_state) (defBody s_law_state) (defScope s_law_state) .none kV38 dc38 pm38 an38 cd38 ct38), sl38⟩) (c38 : PySem.W.codeIn K cd38 "_law_state" = true) (k38 : PySem.W.keepIn K (.ref f38) = true) (a39 : PySem.W.nsIn K mainGlobals "_law_told" = some (some (.ref f39))) (l39 : K.lookup f39 = some ⟨oc39, od39, .func (PySem.W.fnOf "_law_told" "_law_told" (defArgs s_law_told) (defBody s_law_told) (defScope s_law_told) .none kV39 dc39 pm39 an39 cd39 ct39), sl39⟩) (c39 : PySem.W.codeIn K cd39 "_law_told" = true) (k39 : PySem.W.keepIn K (.ref f39) = true) (a40 : PySem.W.nsIn K mainGlobals "_law_is_name" = some (some (.ref f40))) (l40 : K.lookup f40 = some ⟨oc40, od40, .func (PySem.W.fnOf "_law_is_name" "_law_is_name" (defArgs s_law_is_name) (defBody s_law_is_name) (defScope s_law_is_name) .none kV40 dc40 pm40 an40 cd40 ct40), sl40⟩) (c40 : PySem.W.codeIn K cd40 "_law_is_name" = true) (k40 : PySem.W.keepIn K (.ref f40) = true) (a41 : PySem.W.nsIn K mainGlobals "_law_due" = some (some (.ref f41))) (l41 : K.lookup f41 = some ⟨oc41, od41, .func (PySem.W.fnOf "_law_due" "_law_due" (defArgs s_law_due) (defBody s_law_due) (defScope s_law_due) .none kV41 dc41 pm41 an41 cd41 ct41), sl41⟩) (c41 : PySem.W.codeIn K cd41 "_law_due" = true) (k41 : PySem.W.keepIn K (.ref f41) = true) (a42 : PySem.W.nsIn K mainGlobals "_law_odd" = some (some (.ref f42))) (l42 : K.lookup f42 = some ⟨oc42, od42, .func (PySem.W.fnOf "_law_odd" "_law_odd" (defArgs s_law_odd) (defBody s_law_odd) (defScope s_law_odd) .none kV42 dc42 pm42 an42 cd42 ct42), sl42⟩) (c42 : PySem.W.codeIn K cd42 "_law_odd" = true) (k42 : PySem.W.keepIn K (.ref f42) = true) (a43 : PySem.W.nsIn K mainGlobals "_law_trains_otherwise" = some (some (.ref f43))) (l43 : K.lookup f43 = some ⟨oc43, od43, .func (PySem.W.fnOf "_law_trains_otherwise" "_law_trains_otherwise" (defArgs s_law_trains_otherwise) (defBody s_law_trains_otherwise) (defScope s_law_trains_otherwise) .none kV43 dc43 pm43 an43 cd43 ct43), sl43⟩) (c43 : PySem.W.codeIn K cd43 "_law_trains_otherwise" = true) (k43 : PySem.W.keepIn K (.ref f43) = true) (a44 : PySem.W.nsIn K mainGlobals "_law_spoilt" = some (some (.ref f44))) (l44 : K.lookup f44 = some ⟨oc44, od44, .func (PySem.W.fnOf "_law_spoilt" "_law_spoilt" (defArgs s_law_spoilt) (defBody s_law_spoilt) (defScope s_law_spoilt) .none kV44 dc44 pm44 an44 cd44 ct44), sl44⟩) (c44 : PySem.W.codeIn K cd44 "_law_spoilt" = true) (k44 : PySem.W.keepIn K (.ref f44) = true) (a45 : PySem.W.nsIn K mainGlobals "_law_caught" = some (some (.ref f45))) (l45 : K.lookup f45 = some ⟨oc45, od45, .func (PySem.W.fnOf "_law_caught" "_law_caught" (defArgs s_law_caught) (defBody s_law_caught) (defScope s_law_caught) .none kV45 dc45 pm45 an45 cd45 ct45), sl45⟩) (c45 : PySem.W.codeIn K cd45 "_law_caught" = true) (k45 : PySem.W.keepIn K (.ref f45) = true) (a46 : PySem.W.nsIn K mainGlobals "_law_right" = some (some (.ref f46))) (l46 : K.lookup f46 = some ⟨oc46, od46, .func (PySem.W.fnOf "_law_right" "_law_right" (defArgs s_law_right) (defBody s_law_right) (defScope s_law_right) .none kV46 dc46 pm46 an46 cd46 ct46), sl46⟩) (c46 : PySem.W.codeIn K cd46 "_law_right" = true) (k46 : PySem.W.keepIn K (.ref f46) = true) (a47 : PySem.W.nsIn K mainGlobals "law" = some (some (.ref f47))) (l47 : K.lookup f47 = some ⟨oc47, od47, .func (PySem.W.fnOf "law" "law" (defArgs s_law) (defBody s_law) (defScope s_law) .none kV47 dc47 pm47 an47 cd47 ct47), sl47⟩) (c47 : PySem.W.codeIn K cd47 "law" = true) (k47 : PySem.W.keepIn K (.ref f47) = true) (lT18 : K.lookup dT18 = some oT18) (oTd18 : oT18.data = .seq #[.none] mT18) (lT30 : K.lookup dT30 = some oT30) (oTd30 : oT30.data = .seq #[.none] mT30) (lco0 : K.lookup co0 = some ⟨eo0, eoD0, .fields us0, usl0⟩) (uel0 : us0[11]? = some (.ref tb0)) (ntb0 : K.lookup tb0 = none) (hrec0 : ((PyProof.Rows.recsOf q).any fun r => r.name == "is_name") = true) (lco1 : K.lookup co1 = some ⟨eo1, eoD1, .fields us1, usl1⟩) (uel1 : us1[11]? = some (.ref tb1)) (ntb1 : K.lookup tb1 = none) (hrec1 : ((PyProof.Rows.recsOf q).any fun r => r.name == "_are_ends") = true) (z0 : PySem.W.nsIn K mainGlobals "isinstance" = some none) (z1 : PySem.W.nsIn K mainGlobals "int" = some none) (z2 : PySem.W.nsIn K mainGlobals "bool" = some none) (z3 : PySem.W.nsIn K mainGlobals "str" = some none) (z4 : PySem.W.nsIn K mainGlobals "len" = some none) (z5 : PySem.W.nsIn K mainGlobals "all" = some none) (z6 : PySem.W.nsIn K mainGlobals "max" = some none) (z7 : PySem.W.nsIn K mainGlobals "min" = some none) (z8 : PySem.W.nsIn K mainGlobals "range" = some none) (z9 : PySem.W.nsIn K mainGlobals "repr" = some none) (z10 : PySem.W.nsIn K mainGlobals "list" = some none) (z11 : PySem.W.nsIn K mainGlobals "tuple" = some none) (z12 : PySem.W.nsIn K mainGlobals "enumerate" = some none) (z13 : PySem.W.nsIn K mainGlobals "sorted" = some none) (z14 : PySem.W.nsIn K mainGlobals "dict" = some none) (z15 : PySem.W.nsIn K mainGlobals "zip" = some none) (z16 : PySem.W.nsIn K mainGlobals "ValueError" = some none) (aCS : PySem.W.nsIn K mainGlobals "StaffError" = some (some (.ref CS))) (gaCS : PySem.W.specialIn K (.ref CS) "__getattribute__" = some (some (.builtin "type.__getattribute__"))) (rdCS : PySem.W.readsIn K CS (.type "type") = true) (atCS : PySem.W.findCls K (.ref CS) (.type "type") "__init__" = some (.val (.ref f1))) (vi : PySem.W.findCls K (.type "ValueError") (.type "type") "__init__" = some (.val (.builtin "ValueError.__init__"))) (xCNCT : PySem.W.exmOne K (.ref CN) (.ref CT) = some false) (xCWCT : PySem.W.exmOne K (.ref CW) (.ref CT) = some false) (xCWCN : PySem.W.exmOne K (.ref CW) (.ref CN) = some false) (xCPCT : PySem.W.exmOne K (.ref CP) (.ref CT) = some false) (xCPCN : PySem.W.exmOne K (.ref CP) (.ref CN) = some false) (xCPCW : PySem.W.exmOne K (.ref CP) (.ref CW) = some false) (xCFCT : PySem.W.exmOne K (.ref CF) (.ref CT) = some false) (xCFCN : PySem.W.exmOne K (.ref CF) (.ref CN) = some false) (xCFCW : PySem.W.exmOne K (.ref CF) (.ref CW) = some false) (xCFCP : PySem.W.exmOne K (.ref CF) (.ref CP) = some false) (xCECT : PySem.W.exmOne K (.ref CE) (.ref CT) = some false) (xCECN : PySem.W.exmOne K (.ref CE) (.ref CN) = some false) (xCECW : PySem.W.exmOne K (.ref CE) (.ref CW) = some false) (xCECP : PySem.W.exmOne K (.ref CE) (.ref CP) = some false) (xCECF : PySem.W.exmOne K (.ref CE) (.ref CF) = some false) (cg : PySem.W.specialIn K (.builtin "object.__class__") "__get__" = some (some (.builtin "getset_descriptor.__get__"))) (ct : PySem.W.takesIn K (.builtin "object.__class__") = some true) (smN : K.lookup sysModules = none) :
    GLawM l w K CX0 12 63 "_law_script" mg fa h := by
  have e := hfa.symm.trans (PySem.W.mg_of X G a47)
  cases e
  have T : Txt mg := ⟨PySem.W.mg_none_of X G z0, PySem.W.mg_none_of X G z1, PySem.W.mg_none_of X G z2, PySem.W.mg_none_of X G z3, PySem.W.mg_none_of X G z4, PySem.W.mg_none_of X G z5, PySem.W.mg_none_of X G z6, PySem.W.mg_none_of X G z7, PySem.W.mg_none_of X G z8, PySem.W.mg_none_of X G z9, PySem.W.mg_none_of X G z10, PySem.W.mg_none_of X G z11, PySem.W.mg_none_of X G z12, PySem.W.mg_none_of X G z13, PySem.W.mg_none_of X G z14, PySem.W.mg_none_of X G z15⟩
  have seCT : PySem.W.subIn K (.ref CT) (.ref CT) = some true := My.sub_self (by unfold PySem.W.clsIn; rw [xlCT] <;> rfl) rfl
  have seCN : PySem.W.subIn K (.ref CN) (.ref CN) = some true := My.sub_self (by unfold PySem.W.clsIn; rw [xlCN] <;> rfl) rfl
  have seCW : PySem.W.subIn K (.ref CW) (.ref CW) = some true := My.sub_self (by unfold PySem.W.clsIn; rw [xlCW] <;> rfl) rfl
  have seCP : PySem.W.subIn K (.ref CP) (.ref CP) = some true := My.sub_self (by unfold PySem.W.clsIn; rw [xlCP] <;> rfl) rfl
  have seCF : PySem.W.subIn K (.ref CF) (.ref CF) = some true := My.sub_self (by unfold PySem.W.clsIn; rw [xlCF] <;> rfl) rfl
  have seCE : PySem.W.subIn K (.ref CE) (.ref CE) = some true := My.sub_self (by unfold PySem.W.clsIn; rw [xlCE] <;> rfl) rfl
  have F1 := fun_mk (st := sSE) l1 c1 k1
  have b1 := F1.binds (ps := ["self", "text"]) fun _ _ _ _ _ _ us hl => match us, hl with | [_, _], _ => rfl
  have F2 := fun_mk (st := sNoTrains) l2 c2 k2
  have b2 := F2.binds (ps := ["self", "found"]) fun _ _ _ _ _ _ us hl => match us, hl with | [_, _], _ => rfl
  have F3 := fun_mk (st := sNoName) l3 c3 k3
  have b3 := F3.binds (ps := ["self", "found"]) fun _ _ _ _ _ _ us hl => match us, hl with | [_, _], _ => rfl
  have F4 := fun_mk (st := sTwice) l4 c4 k4
  have b4 := F4.binds (ps := ["self", "found"]) fun _ _ _ _ _ _ us hl => match us, hl with | [_, _], _ => rfl
  have F5 := fun_mk (st := sNoPlace) l5 c5 k5
  have b5 := F5.binds (ps := ["self", "found"]) fun _ _ _ _ _ _ us hl => match us, hl with | [_, _], _ => rfl
  have F6 := fun_mk (st := sFull) l6 c6 k6
  have b6 := F6.binds (ps := ["self", "found"]) fun _ _ _ _ _ _ us hl => match us, hl with | [_, _], _ => rfl
  have F7 := fun_mk (st := sNoEnds) l7 c7 k7
  have b7 := F7.binds (ps := ["self", "found"]) fun _ _ _ _ _ _ us hl => match us, hl with | [_, _], _ => rfl
  have F8 := fun_mk (st := sWhole) l8 c8 k8
  have b8 := F8.binds (ps := ["thing", "low", "high"]) fun _ _ _ _ _ _ us hl => match us, hl with | [_, _, _], _ => rfl
  have F9 := fun_mk (st := sName) l9 c9 k9
  have b9 := F9.binds (ps := ["thing"]) fun _ _ _ _ _ _ us hl => match us, hl with | [_], _ => rfl
  have F10 := fun_mk (st := s_is_list) l10 c10 k10
  have b10 := F10.binds (ps := ["thing", "low", "high"]) fun _ _ _ _ _ _ us hl => match us, hl with | [_, _, _], _ => rfl
  have F11 := fun_mk (st := s_is_tuple) l11 c11 k11
  have b11 := F11.binds (ps := ["thing", "many"]) fun _ _ _ _ _ _ us hl => match us, hl with | [_, _], _ => rfl
  have F12 := fun_mk (st := s_check_place) l12 c12 k12
  have b12 := F12.binds (ps := ["place", "ahead"]) fun _ _ _ _ _ _ us hl => match us, hl with | [_, _], _ => rfl
  have F13 := fun_mk (st := s_check_places) l13 c13 k13
  have b13 := F13.binds (ps := ["places"]) fun _ _ _ _ _ _ us hl => match us, hl with | [_], _ => rfl
  have F14 := fun_mk (st := s_is_stretch) l14 c14 k14
  have b14 := F14.binds (ps := ["thing"]) fun _ _ _ _ _ _ us hl => match us, hl with | [_], _ => rfl
  have F15 := fun_mk (st := s_check_stretches) l15 c15 k15
  have b15 := F15.binds (ps := ["stretches", "many"]) fun _ _ _ _ _ _ us hl => match us, hl with | [_, _], _ => rfl
  have F16 := fun_mk (st := s_is_long) l16 c16 k16
  have b16 := F16.binds (ps := ["thing", "low", "top"]) fun _ _ _ _ _ _ us hl => match us, hl with | [_, _, _], _ => rfl
  have F17 := fun_mk (st := s_check_longs) l17 c17 k17
  have b17 := F17.binds (ps := ["longs", "top"]) fun _ _ _ _ _ _ us hl => match us, hl with | [_, _], _ => rfl
  have F18 : FunV K "__init__" "Line.__init__" s_init f18 _ := ⟨⟨_, _, _, _, _, _, _, _, _, _, rfl, l18, c18⟩⟩
  have b18 : Binds K (PySem.W.fnOf "__init__" "Line.__init__" (defArgs s_init) (defBody s_init) (defScope s_init) (.ref dT18) kV18 dc18 pm18 an18 cd18 ct18) ["self", "places", "stretches", "longs"] [] := fun s us X hl => by
    rw [List.append_nil] at hl ⊢
    match us, hl with
    | [_, _, _, _], _ => exact BindsTo.of_defaults rfl (X _ _ lT18) oTd18 rfl rfl
  have bd18 : Binds K (PySem.W.fnOf "__init__" "Line.__init__" (defArgs s_init) (defBody s_init) (defScope s_init) (.ref dT18) kV18 dc18 pm18 an18 cd18 ct18) ["self", "places", "stretches", "longs"] [.none] := fun s us X hl => by
    have hl2 : us.length = 3 := by simpa using hl
    match us, hl2 with
    | [_, _, _], _ => exact BindsTo.of_defaults rfl (X _ _ lT18) oTd18 rfl rfl
  have F19 := fun_mk (st := s_number_of) l19 c19 k19
  have b19 := F19.binds (ps := ["self", "name"]) fun _ _ _ _ _ _ us hl => match us, hl with | [_, _], _ => rfl
  have F20 := fun_mk (st := s_roads) l20 c20 k20
  have b20 := F20.binds (ps := ["self", "name"]) fun _ _ _ _ _ _ us hl => match us, hl with | [_, _], _ => rfl
  have F21 := fun_mk (st := s_check_stretch) l21 c21 k21
  have b21 := F21.binds (ps := ["self", "k"]) fun _ _ _ _ _ _ us hl => match us, hl with | [_, _], _ => rfl
  have F22 := fun_mk (st := s_ends) l22 c22 k22
  have b22 := F22.binds (ps := ["self", "k"]) fun _ _ _ _ _ _ us hl => match us, hl with | [_, _], _ => rfl
  have F23 := fun_mk (st := s_home) l23 c23 k23
  have b23 := F23.binds (ps := ["self", "k"]) fun _ _ _ _ _ _ us hl => match us, hl with | [_, _], _ => rfl
  have F24 := fun_mk (st := s_many_stretches) l24 c24 k24
  have b24 := F24.binds (ps := ["self"]) fun _ _ _ _ _ _ us hl => match us, hl with | [_], _ => rfl
  have F25 := fun_mk (st := s_check_train) l25 c25 k25
  have b25 := F25.binds (ps := ["line", "train", "ahead"]) fun _ _ _ _ _ _ us hl => match us, hl with | [_, _, _], _ => rfl
  have F26 := fun_mk (st := s_check_trains) l26 c26 k26
  have b26 := F26.binds (ps := ["line", "trains"]) fun _ _ _ _ _ _ us hl => match us, hl with | [_, _], _ => rfl
  have F27 := fun_mk (st := s_are_ends) l27 c27 k27
  have b27 := F27.binds (ps := ["line", "ends"]) fun _ _ _ _ _ _ us hl => match us, hl with | [_, _], _ => rfl
  have F28 := fun_mk (st := s_check_ends) l28 c28 k28
  have b28 := F28.binds (ps := ["line", "ends"]) fun _ _ _ _ _ _ us hl => match us, hl with | [_, _], _ => rfl
  have F29 := fun_mk (st := s_staff_ends) l29 c29 k29
  have b29 := F29.binds (ps := ["line", "ends"]) fun _ _ _ _ _ _ us hl => match us, hl with | [_, _], _ => rfl
  have F30 : FunV K "__init__" "Stand.__init__" St.s_init f30 _ := ⟨⟨_, _, _, _, _, _, _, _, _, _, rfl, l30, c30⟩⟩
  have b30 : Binds K (PySem.W.fnOf "__init__" "Stand.__init__" (defArgs St.s_init) (defBody St.s_init) (defScope St.s_init) (.ref dT30) kV30 dc30 pm30 an30 cd30 ct30) ["self", "line", "trains", "ends"] [] := fun s us X hl => by
    rw [List.append_nil] at hl ⊢
    match us, hl with
    | [_, _, _, _], _ => exact BindsTo.of_defaults rfl (X _ _ lT30) oTd30 rfl rfl
  have bd30 : Binds K (PySem.W.fnOf "__init__" "Stand.__init__" (defArgs St.s_init) (defBody St.s_init) (defScope St.s_init) (.ref dT30) kV30 dc30 pm30 an30 cd30 ct30) ["self", "line", "trains", "ends"] [.none] := fun s us X hl => by
    have hl2 : us.length = 3 := by simpa using hl
    match us, hl2 with
    | [_, _, _], _ => exact BindsTo.of_defaults rfl (X _ _ lT30) oTd30 rfl rfl
  have F31 := fun_mk (st := St.s_state) l31 c31 k31
  have b31 := F31.binds (ps := ["self"]) fun _ _ _ _ _ _ us hl => match us, hl with | [_], _ => rfl
  have F32 := fun_mk (st := sCell) l32 c32 k32
  have b32 := F32.binds (ps := ["_law_script", "_law_k"]) fun _ _ _ _ _ _ us hl => match us, hl with | [_, _], _ => rfl
  have F33 := fun_mk (st := sBox) l33 c33 k33
  have b33 := F33.binds (ps := ["_law_cell_here"]) fun _ _ _ _ _ _ us hl => match us, hl with | [_], _ => rfl
  have F34 := fun_mk (st := sTake) l34 c34 k34
  have b34 := F34.binds (ps := ["_law_box_here", "_law_many"]) fun _ _ _ _ _ _ us hl => match us, hl with | [_, _], _ => rfl
  have F35 := fun_mk (st := s_law_names) l35 c35 k35
  have b35 := F35.binds (ps := ["_law_box_here", "_law_many"]) fun _ _ _ _ _ _ us hl => match us, hl with | [_, _], _ => rfl
  have F36 := fun_mk (st := s_law_world) l36 c36 k36
  have b36 := F36.binds (ps := ["_law_box_here"]) fun _ _ _ _ _ _ us hl => match us, hl with | [_], _ => rfl
  have F37 := fun_mk (st := s_law_begun) l37 c37 k37
  have b37 := F37.binds (ps := ["_law_box_here", "_law_world_here", "_law_most"]) fun _ _ _ _ _ _ us hl => match us, hl with | [_, _, _], _ => rfl
  have F38 := fun_mk (st := s_law_state) l38 c38 k38
  have b38 := F38.binds (ps := ["_law_begun_here"]) fun _ _ _ _ _ _ us hl => match us, hl with | [_], _ => rfl
  have F39 := fun_mk (st := s_law_told) l39 c39 k39
  have b39 := F39.binds (ps := ["_law_world_here", "_law_state_here"]) fun _ _ _ _ _ _ us hl => match us, hl with | [_, _], _ => rfl
  have F40 := fun_mk (st := s_law_is_name) l40 c40 k40
  have b40 := F40.binds (ps := ["_law_thing"]) fun _ _ _ _ _ _ us hl => match us, hl with | [_], _ => rfl
  have F41 := fun_mk (st := s_law_due) l41 c41 k41
  have b41 := F41.binds (ps := ["_law_world_here", "_law_trains", "_law_ends"]) fun _ _ _ _ _ _ us hl => match us, hl with | [_, _, _], _ => rfl
  have F42 := fun_mk (st := s_law_odd) l42 c42 k42
  have b42 := F42.binds (ps := ["_law_box_here", "_law_world_here"]) fun _ _ _ _ _ _ us hl => match us, hl with | [_, _], _ => rfl
  have F43 := fun_mk (st := s_law_trains_otherwise) l43 c43 k43
  have b43 := F43.binds (ps := ["_law_box_here", "_law_world_here", "_law_trains"]) fun _ _ _ _ _ _ us hl => match us, hl with | [_, _, _], _ => rfl
  have F44 := fun_mk (st := s_law_spoilt) l44 c44 k44
  have b44 := F44.binds (ps := ["_law_box_here", "_law_world_here", "_law_trains", "_law_ends"]) fun _ _ _ _ _ _ us hl => match us, hl with | [_, _, _, _], _ => rfl
  have F45 := fun_mk (st := s_law_caught) l45 c45 k45
  have b45 := F45.binds (ps := ["_law_line", "_law_some"]) fun _ _ _ _ _ _ us hl => match us, hl with | [_, _], _ => rfl
  have F46 := fun_mk (st := s_law_right) l46 c46 k46
  have b46 := F46.binds (ps := ["_law_line", "_law_world_here", "_law_some"]) fun _ _ _ _ _ _ us hl => match us, hl with | [_, _, _], _ => rfl
  have F47 := fun_mk (st := s_law) l47 c47 k47
  have TC : ClsT K C := ⟨⟨pgC, hdC, poC, saC⟩, n0C, n1C, n2C, n3C⟩
  have TS : St.ClsS K Cs := ⟨⟨pgCs, hdCs, poCs, saCs⟩, n0Cs, n1Cs, n2Cs⟩
  have ES : SeT K mg CS f1 _ sSE := ⟨PySem.W.mg_none_of X G z16, vi, PySem.W.mg_of X G aCS, ⟨gaCS, rdCS, atCS⟩, k1, F1, b1⟩
  have e0CT : ExC K mg "NoTrains" "NoTrains.__init__" sNoTrains CT f2 _ := ⟨PySem.W.mg_of X G aCT, F2, b2, ⟨⟨nmCT, qCT, NCT, bsCT, _, snCT, subCT, abCT, colCT, ddCT, m0CT, m1CT, m2CT, m3CT, m5CT, xlCT, rfl⟩, saCT, exCT, tyCT, kcCT⟩, a2, (beq_iff_eq.mp i2), n0CT, PySem.W.exm_ref exCT hdCT tyCT seCT, ⟨gaCT, ggCT, exCT, hdCT⟩, ⟨icCT, gaCT, ggCT, exCT, coCT, cg, ct, moCT⟩⟩
  have ECT : ExC K mg "NoTrains" "NoTrains.__init__" sNoTrains (clOf CT CN CW CP CF CE .trains) f2 _ := e0CT
  have e0CN : ExC K mg "NoName" "NoName.__init__" sNoName CN f3 _ := ⟨PySem.W.mg_of X G aCN, F3, b3, ⟨⟨nmCN, qCN, NCN, bsCN, _, snCN, subCN, abCN, colCN, ddCN, m0CN, m1CN, m2CN, m3CN, m5CN, xlCN, rfl⟩, saCN, exCN, tyCN, kcCN⟩, a3, (beq_iff_eq.mp i3), n0CN, PySem.W.exm_ref exCN hdCN tyCN seCN, ⟨gaCN, ggCN, exCN, hdCN⟩, ⟨icCN, gaCN, ggCN, exCN, coCN, cg, ct, moCN⟩⟩
  have ECN : ExC K mg "NoName" "NoName.__init__" sNoName (clOf CT CN CW CP CF CE .name) f3 _ := e0CN
  have e0CW : ExC K mg "Twice" "Twice.__init__" sTwice CW f4 _ := ⟨PySem.W.mg_of X G aCW, F4, b4, ⟨⟨nmCW, qCW, NCW, bsCW, _, snCW, subCW, abCW, colCW, ddCW, m0CW, m1CW, m2CW, m3CW, m5CW, xlCW, rfl⟩, saCW, exCW, tyCW, kcCW⟩, a4, (beq_iff_eq.mp i4), n0CW, PySem.W.exm_ref exCW hdCW tyCW seCW, ⟨gaCW, ggCW, exCW, hdCW⟩, ⟨icCW, gaCW, ggCW, exCW, coCW, cg, ct, moCW⟩⟩
  have ECW : ExC K mg "Twice" "Twice.__init__" sTwice (clOf CT CN CW CP CF CE .twice) f4 _ := e0CW
  have e0CP : ExC K mg "NoPlace" "NoPlace.__init__" sNoPlace CP f5 _ := ⟨PySem.W.mg_of X G aCP, F5, b5, ⟨⟨nmCP, qCP, NCP, bsCP, _, snCP, subCP, abCP, colCP, ddCP, m0CP, m1CP, m2CP, m3CP, m5CP, xlCP, rfl⟩, saCP, exCP, tyCP, kcCP⟩, a5, (beq_iff_eq.mp i5), n0CP, PySem.W.exm_ref exCP hdCP tyCP seCP, ⟨gaCP, ggCP, exCP, hdCP⟩, ⟨icCP, gaCP, ggCP, exCP, coCP, cg, ct, moCP⟩⟩
  have ECP : ExC K mg "NoPlace" "NoPlace.__init__" sNoPlace (clOf CT CN CW CP CF CE .place) f5 _ := e0CP
  have e0CF : ExC K mg "Full" "Full.__init__" sFull CF f6 _ := ⟨PySem.W.mg_of X G aCF, F6, b6, ⟨⟨nmCF, qCF, NCF, bsCF, _, snCF, subCF, abCF, colCF, ddCF, m0CF, m1CF, m2CF, m3CF, m5CF, xlCF, rfl⟩, saCF, exCF, tyCF, kcCF⟩, a6, (beq_iff_eq.mp i6), n0CF, PySem.W.exm_ref exCF hdCF tyCF seCF, ⟨gaCF, ggCF, exCF, hdCF⟩, ⟨icCF, gaCF, ggCF, exCF, coCF, cg, ct, moCF⟩⟩
  have ECF : ExC K mg "Full" "Full.__init__" sFull (clOf CT CN CW CP CF CE .full) f6 _ := e0CF
  have e0CE : ExC K mg "NoEnds" "NoEnds.__init__" sNoEnds CE f7 _ := ⟨PySem.W.mg_of X G aCE, F7, b7, ⟨⟨nmCE, qCE, NCE, bsCE, _, snCE, subCE, abCE, colCE, ddCE, m0CE, m1CE, m2CE, m3CE, m5CE, xlCE, rfl⟩, saCE, exCE, tyCE, kcCE⟩, a7, (beq_iff_eq.mp i7), n0CE, PySem.W.exm_ref exCE hdCE tyCE seCE, ⟨gaCE, ggCE, exCE, hdCE⟩, ⟨icCE, gaCE, ggCE, exCE, coCE, cg, ct, moCE⟩⟩
  have ECE : ExC K mg "NoEnds" "NoEnds.__init__" sNoEnds (clOf CT CN CW CP CF CE .ends) f7 _ := e0CE
  have XM : ∀ s t : Tag, s.n < t.n → PySem.W.exmOne K (.ref (clOf CT CN CW CP CF CE t)) (.ref (clOf CT CN CW CP CF CE s)) = some false := by
    intro s t h
    cases s <;> cases t <;> first | exact absurd h (by decide) | exact xCNCT | exact xCWCT | exact xCWCN | exact xCPCT | exact xCPCN | exact xCPCW | exact xCFCT | exact xCFCN | exact xCFCW | exact xCFCP | exact xCECT | exact xCECN | exact xCECW | exact xCECP | exact xCECF
  obtain ⟨ch0, tabh0⟩ := em "is_name" f9 co0 tb0 _ _ eo0 eoD0 us0 usl0 hrec0 a9 l9 rfl rfl lco0 uel0
  obtain ⟨ch1, tabh1⟩ := em "_are_ends" f27 co1 tb1 _ _ eo1 eoD1 us1 usl1 hrec1 a27 l27 rfl rfl lco1 uel1
  refine ⟨PySem.W.fnOf "law" "law" (defArgs s_law) (defBody s_law) (defScope s_law) .none kV47 dc47 pm47 an47 cd47 ct47, [(co0, tb0), (co1, tb1)], spLaw K [tb0, tb1], smN, ?_, ?_, ?_, fun s v => .of_eq rfl, ?_, ?_⟩
  · intro p hp
    rcases List.mem_cons.mp hp with e0 | hp
    · rw [e0]; exact tabh0
    rcases List.mem_cons.mp hp with e0 | hp
    · rw [e0]; exact tabh1
    cases hp
  · intro p hp
    rcases List.mem_cons.mp hp with e0 | hp
    · rw [e0]; exact ntb0
    rcases List.mem_cons.mp hp with e0 | hp
    · rw [e0]; exact ntb1
    cases hp
  · intro p hp
    rcases List.mem_cons.mp hp with e0 | hp
    · rw [e0]; exact ch0
    rcases List.mem_cons.mp hp with e0 | hp
    · rw [e0]; exact ch1
    cases hp
  · intro H a ns hn sm hT hS
    refine ⟨a, ns, rfl, hS, hn, ?_, sm, fun _ => rfl⟩
    intro p hp
    rcases List.mem_cons.mp hp with e0 | hp
    · rw [e0]; exact ⟨#[], hT (co0, tb0) (List.mem_cons_self ..), trivial⟩
    rcases List.mem_cons.mp hp with e0 | hp
    · rw [e0]; exact ⟨#[], hT (co1, tb1) (List.mem_cons_of_mem _ (List.mem_cons_self ..)), trivial⟩
    cases hp
  · intro base kb nb TB
    have gis_whole : FnOk l.prog w K mg base CX0 _ f8 _ _ _ := ok_whole F8 T
    have gis_name := ok_name (P := l.prog) (w := w) l9 c9 T (TB (co0, tb0) (List.mem_cons_self ..))
    have gnameM := nameM (T0 := [tb0, tb1]) (List.mem_cons_self ..) gis_name
    have gis_list : FnOk l.prog w K mg base CX0 _ f10 _ _ _ := ok_is_list F10 T
    have gis_tuple : FnOk l.prog w K mg base CX0 _ f11 _ _ _ := ok_is_tuple F11 T
    have glistG := ok_is_listG (mg := mg) (P := l.prog) (w := w) (base := base) F10 T
    have gtupleG := ok_is_tupleG (mg := mg) (P := l.prog) (w := w) (base := base) F11 T
    have gcheck_place : FnOk l.prog w K mg base CX0 _ f12 _ _ _ := ok_check_place F12 T ⟨F11, PySem.W.mg_of X G a11, b11⟩ gis_tuple ⟨F9, PySem.W.mg_of X G a9, b9⟩ gis_name ⟨F8, PySem.W.mg_of X G a8, b8⟩ gis_whole
    have gcheck_places : FnOk l.prog w K mg base CX0 _ f13 _ _ _ := ok_check_places F13 T ⟨F10, PySem.W.mg_of X G a10, b10⟩ gis_list ⟨F12, PySem.W.mg_of X G a12, b12⟩ gcheck_place
    have gis_stretch : FnOk l.prog w K mg base CX0 _ f14 _ _ _ := ok_is_stretch F14 T ⟨F11, PySem.W.mg_of X G a11, b11⟩ gis_tuple ⟨F8, PySem.W.mg_of X G a8, b8⟩ gis_whole
    have gcheck_stretches : FnOk l.prog w K mg base CX0 _ f15 _ _ _ := ok_check_stretches F15 T ⟨F10, PySem.W.mg_of X G a10, b10⟩ gis_list ⟨F14, PySem.W.mg_of X G a14, b14⟩ gis_stretch
    have gis_long : FnOk l.prog w K mg base CX0 _ f16 _ _ _ := ok_is_long F16 T ⟨F11, PySem.W.mg_of X G a11, b11⟩ gis_tuple ⟨F8, PySem.W.mg_of X G a8, b8⟩ gis_whole
    have gcheck_longs : FnOk l.prog w K mg base CX0 _ f17 _ _ _ := ok_check_longs F17 T ⟨F10, PySem.W.mg_of X G a10, b10⟩ gis_list ⟨F16, PySem.W.mg_of X G a16, b16⟩ gis_long
    have gline_init : FnOk l.prog w K mg base CX0 _ f18 _ _ _ := ok_init F18 T TC ⟨F13, PySem.W.mg_of X G a13, b13⟩ gcheck_places ⟨F15, PySem.W.mg_of X G a15, b15⟩ gcheck_stretches ⟨F17, PySem.W.mg_of X G a17, b17⟩ gcheck_longs
    have gnumber_of : FnOk l.prog w K mg base CX0 _ f19 _ _ _ := ok_num F19 T TC
    have groads : FnOk l.prog w K mg base CX0 _ f20 _ _ _ := ok_roads F20 T TC ⟨F19, ⟨a19, i19, k19⟩, b19⟩ gnumber_of
    have xnum := fn_or gnumber_of (ok_numB (mg := mg) (P := l.prog) (w := w) (base := base) F19 T TC ES ECP) (by decide)
    have xroads := fn_or groads (ok_roadsB F20 T TC ⟨F19, ⟨a19, i19, k19⟩, b19⟩ xnum) (by decide)
    have gcheck_stretch : FnOk l.prog w K mg base CX0 _ f21 _ _ _ := ok_check_stretch F21 T TC ⟨F8, PySem.W.mg_of X G a8, b8⟩ gis_whole
    have gends : FnOk l.prog w K mg base CX0 _ f22 _ _ _ := ok_ends F22 T TC ⟨F21, ⟨a21, i21, k21⟩, b21⟩ gcheck_stretch
    have ghome : FnOk l.prog w K mg base CX0 _ f23 _ _ _ := ok_home F23 T TC ⟨F22, ⟨a22, i22, k22⟩, b22⟩ gends
    have gmany_stretches : FnOk l.prog w K mg base CX0 _ f24 _ _ _ := ok_many_stretches F24 T TC
    have gcheck_train : FnOk l.prog w K mg base (CX l.prog w) _ f25 _ _ _ := ok_check_train F25 T TC ES ECT ECN ECW ECF ⟨F11, PySem.W.mg_of X G a11, b11⟩ gtupleG ⟨F9, PySem.W.mg_of X G a9, b9⟩ gnameM ⟨F20, ⟨a20, i20, k20⟩, b20⟩ xroads
    have gcheck_trains : FnOk l.prog w K mg base (CX l.prog w) _ f26 _ _ _ := ok_check_trains F26 T ES ECT ⟨F10, PySem.W.mg_of X G a10, b10⟩ glistG ⟨F25, PySem.W.mg_of X G a25, b25⟩ gcheck_train
    have gare_ends := ok_are_ends (P := l.prog) (w := w) (show tb1 ∈ [tb0, tb1] from List.mem_cons_of_mem _ (List.mem_cons_self ..)) l27 c27 T TC (TB (co1, tb1) (List.mem_cons_of_mem _ (List.mem_cons_self ..))) ⟨F10, PySem.W.mg_of X G a10, b10⟩ glistG ⟨F24, ⟨a24, i24, k24⟩, b24⟩ gmany_stretches ⟨F22, ⟨a22, i22, k22⟩, b22⟩ gends
    have gcheck_ends : FnOk l.prog w K mg base (CX l.prog w) _ f28 _ _ _ := ok_check_ends F28 T ES ECE ⟨F27, PySem.W.mg_of X G a27, b27⟩ gare_ends
    have gstaff_ends : FnOk l.prog w K mg base CX0 _ f29 _ _ _ := ok_staff_ends F29 T TC ⟨F24, ⟨a24, i24, k24⟩, b24⟩ gmany_stretches ⟨F23, ⟨a23, i23, k23⟩, b23⟩ ghome
    have gstand_init : FnOk l.prog w K mg base (CX l.prog w) _ f30 _ _ _ := St.ok_init F30 T TS ⟨F26, PySem.W.mg_of X G a26, b26⟩ gcheck_trains ⟨F28, PySem.W.mg_of X G a28, b28⟩ gcheck_ends ⟨F29, PySem.W.mg_of X G a29, b29⟩ gstaff_ends
    have gstate : FnOk l.prog w K mg base CX0 _ f31 _ _ _ := St.ok_state F31 T TS
    have glaw_cell : FnOk l.prog w K mg base CX0 _ f32 _ _ _ := ok_cell F32 T
    have glaw_box : FnOk l.prog w K mg base CX0 _ f33 _ _ _ := ok_box F33 T
    have glaw_take : FnOk l.prog w K mg base CX0 _ f34 _ _ _ := ok_take F34
    have glaw_names : FnOk l.prog w K mg base CX0 _ f35 _ _ _ := ok_names F35 T ⟨F34, PySem.W.mg_of X G a34, b34⟩ glaw_take
    have glaw_world : FnOk l.prog w K mg base CX0 _ f36 _ _ _ := ok_world F36 T ⟨F34, PySem.W.mg_of X G a34, b34⟩ glaw_take ⟨F35, PySem.W.mg_of X G a35, b35⟩ glaw_names
    have glaw_begun : FnOk l.prog w K mg base CX0 _ f37 _ _ _ := ok_begun F37 T ⟨F34, PySem.W.mg_of X G a34, b34⟩ glaw_take ⟨F35, PySem.W.mg_of X G a35, b35⟩ glaw_names
    have glaw_state : FnOk l.prog w K mg base CX0 _ f38 _ _ _ := ok_law_state F38 T
    have glaw_told : FnOk l.prog w K mg base CX0 _ f39 _ _ _ := ok_told F39 T
    have glaw_is_name : FnOk l.prog w K mg base CX0 _ f40 _ _ _ := ok_law_is_name F40 T
    have glaw_due : FnOk l.prog w K mg base CX0 _ f41 _ _ _ := ok_law_due F41 T ⟨F40, PySem.W.mg_of X G a40, b40⟩ glaw_is_name
    have glaw_odd : FnOk l.prog w K mg base CX0 _ f42 _ _ _ := ok_odd F42 T ⟨F34, PySem.W.mg_of X G a34, b34⟩ glaw_take
    have glaw_trains_otherwise : FnOk l.prog w K mg base CX0 _ f43 _ _ _ := ok_other F43 T ⟨F34, PySem.W.mg_of X G a34, b34⟩ glaw_take ⟨F42, PySem.W.mg_of X G a42, b42⟩ glaw_odd
    have glaw_spoilt : FnOk l.prog w K mg base CX0 _ f44 _ _ _ := ok_spoilt F44 T ⟨F34, PySem.W.mg_of X G a34, b34⟩ glaw_take ⟨F42, PySem.W.mg_of X G a42, b42⟩ glaw_odd ⟨F43, PySem.W.mg_of X G a43, b43⟩ glaw_trains_otherwise
    have glaw_caught : FnOk l.prog w K mg base CX0 _ f45 _ _ _ := ok_caught F45 T TS ES ECT ECN ECW ECP ECF ECE XM (PySem.W.mg_of X G aCs) ⟨mkCs, a30, i30, kcCs⟩ gstand_init b30 ⟨F31, ⟨a31, i31, k31⟩, b31⟩ gstate
    have glaw_right : GOk l.prog w K mg base CX0 _ f46 _ _ _ := ok_right smN F46 T ⟨F41, PySem.W.mg_of X G a41, b41⟩ glaw_due ⟨F45, PySem.W.mg_of X G a45, b45⟩ glaw_caught
    exact (ok_law (show tb0 ∈ [tb0, tb1] from List.mem_cons_self ..) F47 T TC ⟨mkC, a18, i18, kcC⟩ (PySem.W.mg_of X G aC) b18 gline_init ⟨F32, PySem.W.mg_of X G a32, b32⟩ glaw_cell ⟨F33, PySem.W.mg_of X G a33, b33⟩ glaw_box ⟨F36, PySem.W.mg_of X G a36, b36⟩ glaw_world ⟨F37, PySem.W.mg_of X G a37, b37⟩ glaw_begun ⟨F38, PySem.W.mg_of X G a38, b38⟩ glaw_state ⟨F39, PySem.W.mg_of X G a39, b39⟩ glaw_told ⟨F44, PySem.W.mg_of X G a44, b44⟩ glaw_spoilt ⟨F46, PySem.W.mg_of X G a46, b46⟩ glaw_right)
end T9

open PySem PySem.W PyProof.Rows in
set_option maxRecDepth 100000 in
set_option maxHeartbeats 0 in
theorem PySem.Challenge.cw_onestaff_k59_stands_refused_holds : PySem.Challenge.rw_onestaff_k59_stands_refused.Holds := by
  w_on; o_law; k_head; (case hw => w_witness2)
  k_fill
  refine Gd.walk_m (no := by first | rfl | decide +kernel) (l := PySem.Challenge.rw_onestaff_k59_stands_refused) (n := 63) (k := 12) (x := "_law_script") (CX := fun _ => L2.CX0) rfl (by decide) rfl ⟨rfl, by decide, by decide⟩ (fun w h Y => PySem.W.kIn_of Y) ?F (fun _ _ _ _ _ z => z)
  case F =>
    intro w mg fa h Y KX G hmg em
    refine' T9.all_mk KX G hmg em ?QaC ?QpgC ?QhdC ?QpoC ?QsaC ?QmkC ?QkcC ?Qn0C ?Qn1C ?Qn2C ?Qn3C ?QaCs ?QpgCs ?QhdCs ?QpoCs ?QsaCs ?QmkCs ?QkcCs ?Qn0Cs ?Qn1Cs ?Qn2Cs ?QaCT ?QxlCT ?QsaCT ?QgaCT ?QggCT ?QkcCT ?QexCT ?QtyCT ?QhdCT ?QicCT ?QcoCT ?QmoCT ?Qn0CT ?QaCN ?QxlCN ?QsaCN ?QgaCN ?QggCN ?QkcCN ?QexCN ?QtyCN ?QhdCN ?QicCN ?QcoCN ?QmoCN ?Qn0CN ?QaCW ?QxlCW ?QsaCW ?QgaCW ?QggCW ?QkcCW ?QexCW ?QtyCW ?QhdCW ?QicCW ?QcoCW ?QmoCW ?Qn0CW ?QaCP ?QxlCP ?QsaCP ?QgaCP ?QggCP ?QkcCP ?QexCP ?QtyCP ?QhdCP ?QicCP ?QcoCP ?QmoCP ?Qn0CP ?QaCF ?QxlCF ?QsaCF ?QgaCF ?QggCF ?QkcCF ?QexCF ?QtyCF ?QhdCF ?QicCF ?QcoCF ?QmoCF ?Qn0CF ?QaCE ?QxlCE ?QsaCE ?QgaCE ?QggCE ?QkcCE ?QexCE ?QtyCE ?QhdCE ?QicCE ?QcoCE ?QmoCE ?Qn0CE ?Qa1 ?Qi1 ?Ql1 ?Qc1 ?Qk1 ?Qa2 ?Qi2 ?Ql2 ?Qc2 ?Qk2 ?Qa3 ?Qi3 ?Ql3 ?Qc3 ?Qk3 ?Qa4 ?Qi4 ?Ql4 ?Qc4 ?Qk4 ?Qa5 ?Qi5 ?Ql5 ?Qc5 ?Qk5 ?Qa6 ?Qi6 ?Ql6 ?Qc6 ?Qk6 ?Qa7 ?Qi7 ?Ql7 ?Qc7 ?Qk7 ?Qa8 ?Ql8 ?Qc8 ?Qk8 ?Qa9 ?Ql9 ?Qc9 ?Qk9 ?Qa10 ?Ql10 ?Qc10 ?Qk10 ?Qa11 ?Ql11 ?Qc11 ?Qk11 ?Qa12 ?Ql12 ?Qc12 ?Qk12 ?Qa13 ?Ql13 ?Qc13 ?Qk13 ?Qa14 ?Ql14 ?Qc14 ?Qk14 ?Qa15 ?Ql15 ?Qc15 ?Qk15 ?Qa16 ?Ql16 ?Qc16 ?Qk16 ?Qa17 ?Ql17 ?Qc17 ?Qk17 ?Qa18 ?Qi18 ?Ql18 ?Qc18 ?Qk18 ?Qa19 ?Qi19 ?Ql19 ?Qc19 ?Qk19 ?Qa20 ?Qi20 ?Ql20 ?Qc20 ?Qk20 ?Qa21 ?Qi21 ?Ql21 ?Qc21 ?Qk21 ?Qa22 ?Qi22 ?Ql22 ?Qc22 ?Qk22 ?Qa23 ?Qi23 ?Ql23 ?Qc23 ?Qk23 ?Qa24 ?Qi24 ?Ql24 ?Qc24 ?Qk24 ?Qa25 ?Ql25 ?Qc25 ?Qk25 ?Qa26 ?Ql26 ?Qc26 ?Qk26 ?Qa27 ?Ql27 ?Qc27 ?Qk27 ?Qa28 ?Ql28 ?Qc28 ?Qk28 ?Qa29 ?Ql29 ?Qc29 ?Qk29 ?Qa30 ?Qi30 ?Ql30 ?Qc30 ?Qk30 ?Qa31 ?Qi31 ?Ql31 ?Qc31 ?Qk31 ?Qa32 ?Ql32 ?Qc32 ?Qk32 ?Qa33 ?Ql33 ?Qc33 ?Qk33 ?Qa34 ?Ql34 ?Qc34 ?Qk34 ?Qa35 ?Ql35 ?Qc35 ?Qk35 ?Qa36 ?Ql36 ?Qc36 ?Qk36 ?Qa37 ?Ql37 ?Qc37 ?Qk37 ?Qa38 ?Ql38 ?Qc38 ?Qk38 ?Qa39 ?Ql39 ?Qc39 ?Qk39 ?Qa40 ?Ql40 ?Qc40 ?Qk40 ?Qa41 ?Ql41 ?Qc41 ?Qk41 ?Qa42 ?Ql42 ?Qc42 ?Qk42 ?Qa43 ?Ql43 ?Qc43 ?Qk43 ?Qa44 ?Ql44 ?Qc44 ?Qk44 ?Qa45 ?Ql45 ?Qc45 ?Qk45 ?Qa46 ?Ql46 ?Qc46 ?Qk46 ?Qa47 ?Ql47 ?Qc47 ?Qk47 ?QlT18 ?QoTd18 ?QlT30 ?QoTd30 ?Qlco0 ?Quel0 ?Qntb0 ?Qhrec0 ?Qlco1 ?Quel1 ?Qntb1 ?Qhrec1 ?Qz0 ?Qz1 ?Qz2 ?Qz3 ?Qz4 ?Qz5 ?Qz6 ?Qz7 ?Qz8 ?Qz9 ?Qz10 ?Qz11 ?Qz12 ?Qz13 ?Qz14 ?Qz15 ?Qz16 ?QaCS ?QgaCS ?QrdCS ?QatCS ?Qvi ?QxCNCT ?QxCWCT ?QxCWCN ?QxCPCT ?QxCPCN ?QxCPCW ?QxCFCT ?QxCFCN ?QxCFCW ?QxCFCP ?QxCECT ?QxCECN ?QxCECW ?QxCECP ?QxCECF ?Qcg ?Qct ?QsmN
    (case QaC => k_is)
    (case QpgC => k_is)
    (case QhdC => k_is)
    (case QpoC => k_is)
    (case QsaC => k_is)
    (case QmkC => k_is)
    (case QkcC => k_is)
    (case Qn0C => k_is)
    (case Qn1C => k_is)
    (case Qn2C => k_is)
    (case Qn3C => k_is)
    (case QaCs => k_is)
    (case QpgCs => k_is)
    (case QhdCs => k_is)
    (case QpoCs => k_is)
    (case QsaCs => k_is)
    (case QmkCs => k_is)
    (case QkcCs => k_is)
    (case Qn0Cs => k_is)
    (case Qn1Cs => k_is)
    (case Qn2Cs => k_is)
    (case QaCT => k_is)
    (case QxlCT => k_is)
    (case QsaCT => k_is)
    (case QgaCT => k_is)
    (case QggCT => k_is)
    (case QkcCT => k_is)
    (case QexCT => k_is)
    (case QtyCT => k_is)
    (case QhdCT => k_is)
    (case QicCT => k_is)
    (case QcoCT => k_is)
    (case QmoCT => k_is)
    (case Qn0CT => k_is)
    (case QaCN => k_is)
    (case QxlCN => k_is)
    (case QsaCN => k_is)
    (case QgaCN => k_is)
    (case QggCN => k_is)
    (case QkcCN => k_is)
    (case QexCN => k_is)
    (case QtyCN => k_is)
    (case QhdCN => k_is)
    (case QicCN => k_is)
    (case QcoCN => k_is)
    (case QmoCN => k_is)
    (case Qn0CN => k_is)
    (case QaCW => k_is)
    (case QxlCW => k_is)
    (case QsaCW => k_is)
    (case QgaCW => k_is)
    (case QggCW => k_is)
    (case QkcCW => k_is)
    (case QexCW => k_is)
    (case QtyCW => k_is)
    (case QhdCW => k_is)
    (case QicCW => k_is)
    (case QcoCW => k_is)
    (case QmoCW => k_is)
    (case Qn0CW => k_is)
    (case QaCP => k_is)
    (case QxlCP => k_is)
    (case QsaCP => k_is)
    (case QgaCP => k_is)
    (case QggCP => k_is)
    (case QkcCP => k_is)
    (case QexCP => k_is)
    (case QtyCP => k_is)
    (case QhdCP => k_is)
    (case QicCP => k_is)
    (case QcoCP => k_is)
    (case QmoCP => k_is)
    (case Qn0CP => k_is)
    (case QaCF => k_is)
    (case QxlCF => k_is)
    (case QsaCF => k_is)
    (case QgaCF => k_is)
    (case QggCF => k_is)
    (case QkcCF => k_is)
    (case QexCF => k_is)
    (case QtyCF => k_is)
    (case QhdCF => k_is)
    (case QicCF => k_is)
    (case QcoCF => k_is)
    (case QmoCF => k_is)
    (case Qn0CF => k_is)
    (case QaCE => k_is)
    (case QxlCE => k_is)
    (case QsaCE => k_is)
    (case QgaCE => k_is)
    (case QggCE => k_is)
    (case QkcCE => k_is)
    (case QexCE => k_is)
    (case QtyCE => k_is)
    (case QhdCE => k_is)
    (case QicCE => k_is)
    (case QcoCE => k_is)
    (case QmoCE => k_is)
    (case Qn0CE => k_is)
    (case Qa1 => k_is)
    (case Qi1 => k_is)
    (case Ql1 => k_is)
    (case Qc1 => k_is)
    (case Qk1 => k_is)
    (case Qa2 => k_is)
    (case Qi2 => k_is)
    (case Ql2 => k_is)
    (case Qc2 => k_is)
    (case Qk2 => k_is)
    (case Qa3 => k_is)
    (case Qi3 => k_is)
    (case Ql3 => k_is)
    (case Qc3 => k_is)
    (case Qk3 => k_is)
    (case Qa4 => k_is)
    (case Qi4 => k_is)
    (case Ql4 => k_is)
    (case Qc4 => k_is)
    (case Qk4 => k_is)
    (case Qa5 => k_is)
    (case Qi5 => k_is)
    (case Ql5 => k_is)
    (case Qc5 => k_is)
    (case Qk5 => k_is)
    (case Qa6 => k_is)
    (case Qi6 => k_is)
    (case Ql6 => k_is)
    (case Qc6 => k_is)
    (case Qk6 => k_is)
    (case Qa7 => k_is)
    (case Qi7 => k_is)
    (case Ql7 => k_is)
    (case Qc7 => k_is)
    (case Qk7 => k_is)
    (case Qa8 => k_is)
    (case Ql8 => k_is)
    (case Qc8 => k_is)
    (case Qk8 => k_is)
    (case Qa9 => k_is)
    (case Ql9 => k_is)
    (case Qc9 => k_is)
    (case Qk9 => k_is)
    (case Qa10 => k_is)
    (case Ql10 => k_is)
    (case Qc10 => k_is)
    (case Qk10 => k_is)
    (case Qa11 => k_is)
    (case Ql11 => k_is)
    (case Qc11 => k_is)
    (case Qk11 => k_is)
    (case Qa12 => k_is)
    (case Ql12 => k_is)
    (case Qc12 => k_is)
    (case Qk12 => k_is)
    (case Qa13 => k_is)
    (case Ql13 => k_is)
    (case Qc13 => k_is)
    (case Qk13 => k_is)
    (case Qa14 => k_is)
    (case Ql14 => k_is)
    (case Qc14 => k_is)
    (case Qk14 => k_is)
    (case Qa15 => k_is)
    (case Ql15 => k_is)
    (case Qc15 => k_is)
    (case Qk15 => k_is)
    (case Qa16 => k_is)
    (case Ql16 => k_is)
    (case Qc16 => k_is)
    (case Qk16 => k_is)
    (case Qa17 => k_is)
    (case Ql17 => k_is)
    (case Qc17 => k_is)
    (case Qk17 => k_is)
    (case Qa18 => k_is)
    (case Qi18 => k_is)
    (case Ql18 => k_is)
    (case Qc18 => k_is)
    (case Qk18 => k_is)
    (case Qa19 => k_is)
    (case Qi19 => k_is)
    (case Ql19 => k_is)
    (case Qc19 => k_is)
    (case Qk19 => k_is)
    (case Qa20 => k_is)
    (case Qi20 => k_is)
    (case Ql20 => k_is)
    (case Qc20 => k_is)
    (case Qk20 => k_is)
    (case Qa21 => k_is)
    (case Qi21 => k_is)
    (case Ql21 => k_is)
    (case Qc21 => k_is)
    (case Qk21 => k_is)
    (case Qa22 => k_is)
    (case Qi22 => k_is)
    (case Ql22 => k_is)
    (case Qc22 => k_is)
    (case Qk22 => k_is)
    (case Qa23 => k_is)
    (case Qi23 => k_is)
    (case Ql23 => k_is)
    (case Qc23 => k_is)
    (case Qk23 => k_is)
    (case Qa24 => k_is)
    (case Qi24 => k_is)
    (case Ql24 => k_is)
    (case Qc24 => k_is)
    (case Qk24 => k_is)
    (case Qa25 => k_is)
    (case Ql25 => k_is)
    (case Qc25 => k_is)
    (case Qk25 => k_is)
    (case Qa26 => k_is)
    (case Ql26 => k_is)
    (case Qc26 => k_is)
    (case Qk26 => k_is)
    (case Qa27 => k_is)
    (case Ql27 => k_is)
    (case Qc27 => k_is)
    (case Qk27 => k_is)
    (case Qa28 => k_is)
    (case Ql28 => k_is)
    (case Qc28 => k_is)
    (case Qk28 => k_is)
    (case Qa29 => k_is)
    (case Ql29 => k_is)
    (case Qc29 => k_is)
    (case Qk29 => k_is)
    (case Qa30 => k_is)
    (case Qi30 => k_is)
    (case Ql30 => k_is)
    (case Qc30 => k_is)
    (case Qk30 => k_is)
    (case Qa31 => k_is)
    (case Qi31 => k_is)
    (case Ql31 => k_is)
    (case Qc31 => k_is)
    (case Qk31 => k_is)
    (case Qa32 => k_is)
    (case Ql32 => k_is)
    (case Qc32 => k_is)
    (case Qk32 => k_is)
    (case Qa33 => k_is)
    (case Ql33 => k_is)
    (case Qc33 => k_is)
    (case Qk33 => k_is)
    (case Qa34 => k_is)
    (case Ql34 => k_is)
    (case Qc34 => k_is)
    (case Qk34 => k_is)
    (case Qa35 => k_is)
    (case Ql35 => k_is)
    (case Qc35 => k_is)
    (case Qk35 => k_is)
    (case Qa36 => k_is)
    (case Ql36 => k_is)
    (case Qc36 => k_is)
    (case Qk36 => k_is)
    (case Qa37 => k_is)
    (case Ql37 => k_is)
    (case Qc37 => k_is)
    (case Qk37 => k_is)
    (case Qa38 => k_is)
    (case Ql38 => k_is)
    (case Qc38 => k_is)
    (case Qk38 => k_is)
    (case Qa39 => k_is)
    (case Ql39 => k_is)
    (case Qc39 => k_is)
    (case Qk39 => k_is)
    (case Qa40 => k_is)
    (case Ql40 => k_is)
    (case Qc40 => k_is)
    (case Qk40 => k_is)
    (case Qa41 => k_is)
    (case Ql41 => k_is)
    (case Qc41 => k_is)
    (case Qk41 => k_is)
    (case Qa42 => k_is)
    (case Ql42 => k_is)
    (case Qc42 => k_is)
    (case Qk42 => k_is)
    (case Qa43 => k_is)
    (case Ql43 => k_is)
    (case Qc43 => k_is)
    (case Qk43 => k_is)
    (case Qa44 => k_is)
    (case Ql44 => k_is)
    (case Qc44 => k_is)
    (case Qk44 => k_is)
    (case Qa45 => k_is)
    (case Ql45 => k_is)
    (case Qc45 => k_is)
    (case Qk45 => k_is)
    (case Qa46 => k_is)
    (case Ql46 => k_is)
    (case Qc46 => k_is)
    (case Qk46 => k_is)
    (case Qa47 => k_is)
    (case Ql47 => k_is)
    (case Qc47 => k_is)
    (case Qk47 => k_is)
    (case QlT18 => k_is)
    (case QoTd18 => rfl)
    (case QlT30 => k_is)
    (case QoTd30 => rfl)
    (case Qlco0 => k_is)
    (case Quel0 => rfl)
    (case Qntb0 => rfl)
    (case Qhrec0 => decide +kernel)
    (case Qlco1 => k_is)
    (case Quel1 => rfl)
    (case Qntb1 => rfl)
    (case Qhrec1 => decide +kernel)
    (case Qz0 => k_is)
    (case Qz1 => k_is)
    (case Qz2 => k_is)
    (case Qz3 => k_is)
    (case Qz4 => k_is)
    (case Qz5 => k_is)
    (case Qz6 => k_is)
    (case Qz7 => k_is)
    (case Qz8 => k_is)
    (case Qz9 => k_is)
    (case Qz10 => k_is)
    (case Qz11 => k_is)
    (case Qz12 => k_is)
    (case Qz13 => k_is)
    (case Qz14 => k_is)
    (case Qz15 => k_is)
    (case Qz16 => k_is)
    (case QaCS => k_is)
    (case QgaCS => k_is)
    (case QrdCS => k_is)
    (case QatCS => k_is)
    (case Qvi => k_is)
    (case QxCNCT => first | kit_is | kernel_rfl | k_is)
    (case QxCWCT => first | kit_is | kernel_rfl | k_is)
    (case QxCWCN => first | kit_is | kernel_rfl | k_is)
    (case QxCPCT => first | kit_is | kernel_rfl | k_is)
    (case QxCPCN => first | kit_is | kernel_rfl | k_is)
    (case QxCPCW => first | kit_is | kernel_rfl | k_is)
    (case QxCFCT => first | kit_is | kernel_rfl | k_is)
    (case QxCFCN => first | kit_is | kernel_rfl | k_is)
    (case QxCFCW => first | kit_is | kernel_rfl | k_is)
    (case QxCFCP => first | kit_is | kernel_rfl | k_is)
    (case QxCECT => first | kit_is | kernel_rfl | k_is)
    (case QxCECN => first | kit_is | kernel_rfl | k_is)
    (case QxCECW => first | kit_is | kernel_rfl | k_is)
    (case QxCECP => first | kit_is | kernel_rfl | k_is)
    (case QxCECF => first | kit_is | kernel_rfl | k_is)
    (case Qcg => k_is)
    (case Qct => k_is)
    (case QsmN => first | rfl | kernel_rfl)

