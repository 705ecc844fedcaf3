import PyProof.Rows.All
import Wide.All
import OpenK.AllK
import Wide.FinOn
import PyProof.EqAt
import PyProof.EqKinds
import PyProof.TupleCall
import HandS.Base
import HandS.Call
import HandS.List
import HandS.Comp
import HandS.Ends
import HandS.Text
import HandS.Exc
import HandS.Words
import HandS.WordsList
import HandS.Iter
import HandS.Dict
import HandS.Wide
import HandS.IsInst
import HandS.AnyAll
import HandS.EndBits
import HandS.EndTab
import KE.GoesMore
import KE.GoesEnum
import HandS.Walk
import HandS.DictComp
import HandS.Conv
import HandS.TryMany
import HandS.ExcOwn
import HandS.WordsExc
import HandS.ExcInit
import HandS.ExcField
import HandS.ExcIs
import KE.KExcIs
import KE.KIsAll
import KE.KEqDict
import PyProof.Rows.RegFStrParts
import PyProof.Rows.ReprShort
import HandS.TupAny
import HandS.Style
import KE.KDictZip
import HandS.Rev
import HandS.NoneIn
import HandS.Deep
import HandS.Finally
import PySem.Challenge.RW_onestaff_k06_other_lines
set_option Elab.async false
set_option linter.all false
set_option maxRecDepth 100000
set_option maxHeartbeats 4000000
/-! Defs that show lists and tuples: they run where no display is under way. -/
namespace Gd
open PySem PySem.Spec PyProof.Rows L2

/-- a def's promise, kept wherever no display is under way -/
structure GOk (P : Program) (w : World) (K : PySem.W.Frag) (mg : Str → Option Value) (base : Heap) (CX : CXT) (k : Nat) (f : Addr) (fd : FuncData) (ps : List Str) (sp : Sp) : Prop where
  size : ∀ vs H Q E, sp vs H Q E → vs.length = ps.length
  go : ∀ (A : Around) (out : List Env) (s : Shared) (H : Hp) (ar : Args) (us : List Value) (vs : List V) (Q : VK) (E : XK), A.guards = some [] →
    Room k A → Env0 P w K mg base A out s H → BindsTo s fd ar (ps.zip us) → Vals vs us → sp vs H Q E →
    codeAny (model P w) A (.call (.ref f) ar) (CR CX out P w H s Q E) s

section
variable {P : Program} {w : World} {K : PySem.W.Frag} {mg : Str → Option Value} {base : Heap}

/-- by its body -/
theorem gok_body {CX : CXT} {k : Nat} {x qual : Str} {st : Stmt} {f : Addr} {fd : FuncData} {N ps : List Str} {sp : Sp} (F : Fun K x qual st f fd) (S : FnScope N ps (defScope st))
    (size : ∀ vs H Q E, sp vs H Q E → vs.length = ps.length)
    (body : ∀ (cd : Value) (A : Around) (out : List Env) (s : Shared) (H : Hp) (vs : List V) (Q : VK) (E : XK), A.guards = some [] →
      Room k (A.deeper (envOfC qual (defScope st) s.heap.objs.size f cd)) → sp vs H Q E →
      ∃ t, PSs (cxOf CX P w K mg base N qual (defScope st) f cd A out s H E) (defBody st) t ∧ t { nx := fun _ H' => Q .non H', rt := Q } (start N vs) H) :
    GOk P w K mg base CX (k + 1) f fd ps sp := by
  obtain ⟨oc, od, kV, doc, pm, an, cd, ct, osl, rfl, lk, hcd⟩ := F.ex
  refine ⟨size, fun A out s H ar us vs Q E gd hr e0 hb r hsp => ?_⟩
  have hl := size _ _ _ _ hsp
  have KX : K.In s.heap := e0.mod.kin.keeps fun b o z => (e0.bs b o z).1
  have kinds : ∀ y ∈ ps.zip us, (defScope st).names.lookup y.1 = some .local ∨
      ((defScope st).names.lookup y.1 = some .cell ∧ ((cellsFrom (s.heap.objs.size + 1) (defScope st).names []).lookup y.1).isSome = true) := by
    rintro ⟨n, v⟩ hy
    have hm := (List.of_mem_zip hy).1
    cases S.par n hm with
    | inl q => exact .inl q
    | inr q => exact .inr ⟨q, PySem.W.cellsFrom_some _ _ _ (.inl q)⟩
  have Z := PySem.W.codeRec_of KX hcd
  refine codeAny_call_function hr.depth (KX _ _ lk) rfl S.co S.gen rfl Z (hb _ _ _ _ ?_)
  refine wpAny_newFunctionEnv_cells S.kind kinds fun env he s1 ic => ?_
  subst he
  have lim : s.heap.NoLimit := e0.mod.nolimit.keeps fun b o z => (e0.bs b o z).1
  refine ⟨lim.keeps ic.toInCall.keep, codeAny_func ?_⟩
  obtain ⟨t, ht, hq⟩ := body cd A out s H vs Q E gd (hr.deeper _) hsp
  have I := inv_start (CX := CX) (E := E) S hr.hd e0 hl r ic
  refine wpAny_mono (ht.run [] s1 (start N vs) H _ I hq) ?_ (fun _ _ z => z)
  intro fl s' hs
  cases fl with
  | brk => obtain ⟨_, _, _, q⟩ := hs; exact q.elim
  | cont => obtain ⟨_, _, _, q⟩ := hs; exact q.elim
  | next =>
    obtain ⟨σ', H', J, q⟩ := hs
    exact ⟨V.non, H', J.os, J.bare, J.base, J.hok, rfl, q⟩
  | ret u =>
    obtain ⟨v, σ', H', J, rv, q⟩ := hs
    exact ⟨v, H', J.os, J.bare, J.base, J.hok, rv, q⟩
/-- the same where nothing is raised -/
theorem gok {k : Nat} {x qual : Str} {st : Stmt} {f : Addr} {fd : FuncData} {N ps : List Str} {sp : Sp} (F : Fun K x qual st f fd) (S : FnScope N ps (defScope st))
    (size : ∀ vs H Q E, sp vs H Q E → vs.length = ps.length)
    (body : ∀ (cd : Value) (A : Around) (out : List Env) (s : Shared) (H : Hp) (vs : List V) (Q : VK) (E : XK), A.guards = some [] →
      Room k (A.deeper (envOfC qual (defScope st) s.heap.objs.size f cd)) → sp vs H Q E →
      ∃ t, PSs (cxOf CX0 P w K mg base N qual (defScope st) f cd A out s H E).nox (defBody st) t ∧ t { nx := fun _ H' => Q .non H', rt := Q } (start N vs) H) :
    GOk P w K mg base CX0 (k + 1) f fd ps sp := by
  refine gok_body F S size fun cd A out s H vs Q E gd hr q => ?_
  obtain ⟨t, h, z⟩ := body cd A out s H vs Q E gd hr q
  exact ⟨t, h.nox, z⟩
theorem GOk.mono {CX : CXT} {j k : Nat} {f : Addr} {fd : FuncData} {ps : List Str} {sp : Sp} (F : GOk P w K mg base CX j f fd ps sp) (h : j ≤ k) : GOk P w K mg base CX k f fd ps sp :=
  ⟨F.size, fun A out s H ar us vs Q E gd hr => F.go A out s H ar us vs Q E gd (hr.mono h)⟩
theorem gok_of {CX : CXT} {k : Nat} {f : Addr} {fd : FuncData} {ps : List Str} {sp : Sp} (F : FnOk P w K mg base CX k f fd ps sp) : GOk P w K mg base CX k f fd ps sp :=
  ⟨F.len, fun A out s H ar us vs Q E _ hr => F.run A out s H ar us vs Q E hr⟩
end

section
variable {X : Cx} {CX : CXT} {k : Nat} {f : Addr} {fd : FuncData} {ps : List Str} {sp : Sp} {dvs : List V} {ds : List Value} {E : XK} {x : Str} {p pos : Pos} {e : Expr} {es : List Expr} {t : TA}
/-- f(e, ..), f such a def, from a body of such a def -/
theorem pe_gcall (gd : X.A.guards = some []) (F : GOk X.prog X.w X.K X.mg X.base CX k f fd ps sp) (hr : Room k X.A) (hg : Gl X x) (hm : X.mg x = some (.ref f)) (hk : PySem.W.keepIn X.K (.ref f) = true)
    (hb : Binds X.K fd ps ds) (hd : Vals dvs ds) (hx : Passes CX X E) (ha : PA X (e :: es) t) (hdb : (x == ("__debug__" : Str)) = false := by decide)
    (he : starEach (e :: es) X.env = (false, eval e X.env) :: starEach es X.env := by rfl) (hpl : (backTo pos (starEach es X.env)).any (·.1) = false := by rfl) :
    PE X (.Call (.Name x p) (e :: es) [] pos) (tCall sp dvs E t) := by
  refine ⟨fun pins s σ H Q I h => wpAny_Call_Name_kw (ld_glob I hg hm ?_ hdb)⟩
  have A1 := ha.run pos pins s σ H _ I h
  refine PySem.W.callWith_K (h₀ := X.base) I.ok.mod.kin hk (thn A1 ?_) he hpl
  rintro us s1 ⟨vs, H1, I1, r, q⟩
  refine ⟨I1.kIn, ?_⟩
  have both := r.append hd
  have hl : (us ++ ds).length = ps.length := (both.length).symm.trans (F.size _ _ _ _ q)
  have run1 := F.go X.A X.stack s1 H1 ⟨us, []⟩ (us ++ ds) (vs ++ dvs) Q E gd hr I1.env0 (hb s1 us I1.kIn hl) both q
  refine wpAny_call (codeAny_mono run1 ?_)
  intro res s' hq
  match res, hq with
  | .error e, hq => exact hx pins σ H1 s1 e s' I1 hq
  | .ok (.ret u), hq => exact I1.after hq
  | .ok .next, hq => exact hq.elim
  | .ok .brk, hq => exact hq.elim
  | .ok .cont, hq => exact hq.elim

/-! ### repr of data -/
mutual
theorem dp_noDict {K : PySem.W.Frag} {H : Hp} : ∀ {v : V} {d : PyData}, Dp K H v d → d.hasDict = false
  | _, _, .non => by simp only [PyData.hasDict]
  | _, _, .bl _ => by simp only [PyData.hasDict]
  | _, _, .int _ => by simp only [PyData.hasDict]
  | _, _, .str _ => by simp only [PyData.hasDict]
  | _, _, .lst _ h => by simp only [PyData.hasDict]; exact dpAll_noDict h
  | _, _, .tup _ h => by simp only [PyData.hasDict]; exact dpAll_noDict h
theorem dpAll_noDict {K : PySem.W.Frag} {H : Hp} : ∀ {vs : List V} {ds : List PyData}, DpAll K H vs ds → PyData.hasDictAll ds = false
  | _, _, .nil => by simp only [PyData.hasDictAll]
  | _, _, .cons h t => by simp only [PyData.hasDictAll, dp_noDict h, dpAll_noDict t, Bool.or_self]
end
/-- repr(v), v some data d -/
def rRepr (K : PySem.W.Frag) : List V → Hp → VK → Prop := fun xs H Q => ∃ v d, xs = [v] ∧ Dp K H v d ∧ d.showable = true ∧ d.depth ≤ 100 ∧ d.shown.length ≤ sizeLine ∧ Q (.str d.shown) H
theorem call_repr (gd : X.A.guards = some []) (hr : Room k X.A) : CallR X (.builtin "repr") (rRepr X.K) := by
  intro pins s σ H xs us Q I r h
  obtain ⟨v, d, rfl, dp, hs, hdep, hsz, q⟩ := h
  cases r with
  | cons rv rn =>
    cases rn
    have hun := hr.un
    cases dp with
    | non =>
      cases rv
      refine PySem.P.repr_of_none ⟨.str _, H, I.tok _, ⟨_, rfl⟩, ?_⟩
      simpa only [PyData.shown] using q
    | bl b =>
      cases rv
      refine PySem.P.repr_of_bool ⟨.str _, H, I.tok _, ⟨_, rfl⟩, ?_⟩
      simpa only [PyData.shown] using q
    | int i =>
      obtain ⟨t, rfl⟩ := rv
      refine PySem.P.repr_of_int (by simpa [PyData.showable] using hs) ⟨.str _, H, I.tok _, ⟨_, rfl⟩, ?_⟩
      simpa only [PyData.shown] using q
    | str z =>
      obtain ⟨t, rfl⟩ := rv
      refine PySem.P.repr_of_str ⟨.str _, H, I.tok _, ⟨_, rfl⟩, ?_⟩ (by simpa only [PyData.shown] using hsz)
      simpa only [PyData.shown] using q
    | lst hl ha =>
      cases rv
      obtain ⟨as, rd⟩ := Dp.reads I _ _ _ (.lst hl ha) rfl
      refine repr_of_reads' rd hs (PyData.noDict_hsm (dp_noDict (.lst hl ha))) gd (by omega) (fun _ _ z => z) (fun h' u tk hk => ?_) hsz
      exact ⟨.str _, H, I.kept hk, ⟨_, rfl⟩, q⟩
    | tup hl ha =>
      cases rv
      obtain ⟨as, rd⟩ := Dp.reads I _ _ _ (.tup hl ha) rfl
      refine repr_of_reads' rd hs (PyData.noDict_hsm (dp_noDict (.tup hl ha))) gd (by omega) (fun _ _ z => z) (fun h' u tk hk => ?_) hsz
      exact ⟨.str _, H, I.kept hk, ⟨_, rfl⟩, q⟩
end
end Gd

set_option maxRecDepth 100000
set_option maxHeartbeats 4000000
/-! The end of a law whose own def shows data: no display is under way at its call. -/
namespace Gd
open PySem PySem.Spec PyProof.Rows L2 GxR

/-- the script's own object -/
def scriptO (vs : List Value) : Obj := { cls := .type "list", data := .seq vs.toArray }
def tabO : Obj := { cls := .none, data := .fields #[] }
open Classical in
/-- what is tracked at the law's call: the script (where the written part hasn't it), the tables -/
noncomputable def h0 (K : PySem.W.Frag) (a : Addr) (vs : List Value) (ns : List Int) (T : List Addr) : Hp := fun b =>
  if b = a ∧ K.lookup a = none then some (.frz (scriptO vs) (.lst (ns.map V.int))) else if b ∈ T then some (.tbl #[]) else none

theorem h0_inv {K : PySem.W.Frag} {a b : Addr} {vs : List Value} {ns : List Int} {T : List Addr} {u : HO} (h : h0 K a vs ns T b = some u) :
    (b = a ∧ K.lookup a = none ∧ u = .frz (scriptO vs) (.lst (ns.map V.int))) ∨ (b ∈ T ∧ u = .tbl #[]) := by
  unfold h0 at h
  by_cases c1 : b = a ∧ K.lookup a = none
  · rw [if_pos c1] at h
    exact .inl ⟨c1.1, c1.2, (Option.some.inj h).symm⟩
  · rw [if_neg c1] at h
    by_cases c2 : b ∈ T
    · rw [if_pos c2] at h
      exact .inr ⟨c2, (Option.some.inj h).symm⟩
    · rw [if_neg c2] at h
      cases h

section
variable {P : Program} {w : World} {K : PySem.W.Frag} {mg mb : Str → Option Value} {CX : CXT} {k : Nat} {fa a : Addr} {cs : List (Addr × Addr)} {fd : FuncData} {x : Str} {sp : Sp} {s1 : Shared} {vs : List Value} {ns : List Int}
theorem law_gcall (KX : K.In s1.heap) (nsG : s1.heap.Ns mainGlobals mg) (nsB : s1.heap.Ns builtinsNs mb) (isB : ∀ x : Str, x ≠ "__name__" → mb x = bootBuiltins x) (lim : s1.heap.NoLimit) (gens : s1.gens = #[])
    (tabs : ∀ p ∈ cs, s1.heap.get? p.2 = some tabO) (tabK : ∀ p ∈ cs, K.lookup p.2 = none) (codes : ∀ p ∈ cs, PySem.W.CodeHd s1.heap p.1 p.2)
    (bmain : ∃ (bm : Addr) (ob : Obj), mg "__builtins__" = some (.ref bm) ∧ bm ≠ builtinsNs ∧ s1.heap.get? bm = some ob ∧ ob.cls = .type "module" ∧ ob.dict = some builtinsNs ∧ ob.data = .plain)
    (ha : s1.heap.get? a = some (scriptO vs)) (hi : IntsAre vs ns) (hl : ns.length ≤ sizeLine) (hr : Room k callerA)
    (F : ∀ base : Heap, K.In base → base.Ns mainGlobals mg → (∀ p ∈ cs, TabB base mg p.1 p.2) → GOk P w K mg base CX k fa fd [x] sp)
    (hbind : ∀ (s : Shared) (u : Value), BindsTo s fd ⟨[u], []⟩ [(x, u)])
    (hsp : ∀ H : Hp, (∀ p ∈ cs, H p.2 = some (.tbl #[])) → SqL K H a (ns.map V.int) → sp [.ref a] H (fun v _ => v = .bl true) fun _ _ _ => False)
    (hCX : ∀ H e s', CX [] H s1 (fun _ _ _ => False) e s' → False) :
    codeAny (model P w) callerA (.call (.ref fa) ⟨[.ref a], []⟩) (fun r s' => r = .ok (.ret (.bool true)) ∧ OldK s1.heap s'.heap ∧ s'.os = s1.os ∧ AllBare s'.gens) s1 := by
  have rv := vals_ints hi
  have hlen := hi.length
  let T := cs.map Prod.snd
  have inT : ∀ p ∈ cs, p.2 ∈ T := fun p hp => List.mem_map.mpr ⟨p, hp, rfl⟩
  have ofT : ∀ b ∈ T, s1.heap.get? b = some tabO ∧ K.lookup b = none := by
    intro b hb
    obtain ⟨p, hp, rfl⟩ := List.mem_map.mp hb
    exact ⟨tabs p hp, tabK p hp⟩
  have neT : a ∉ T := fun z => by
    have q := (ofT a z).1
    rw [ha] at q
    cases q
  let H := h0 K a vs ns T
  -- a tracked object is the script or a table
  have seen : ∀ {b : Addr} {o : Obj}, s1.heap.get? b = some o → (∀ us n, o.data ≠ .seq us n) → o.data ≠ .fields #[] → H b = none := by
    intro b o e n1 n2
    cases q : H b with
    | none => rfl
    | some u =>
      exfalso
      rcases h0_inv q with ⟨rfl, _, _⟩ | ⟨hb, _⟩
      · rw [ha] at e
        cases e
        exact n1 _ _ rfl
      · rw [(ofT b hb).1] at e
        cases e
        exact n2 rfl
  have keepHid : ∀ {b : Addr} {o : Obj}, s1.heap.get? b = some o → H b = none → (hidT s1.heap H).get? b = some o := fun e n => hidT_get e n
  have dictHid : ∀ {b : Addr} {o : Obj} {es : Array DictEntry} {ep : Nat}, s1.heap.get? b = some o → o.data = .dict es ep → (hidT s1.heap H).get? b = some o := by
    intro b o es ep e d
    refine keepHid e (seen e (fun us n z => ?_) fun z => ?_) <;> (rw [d] at z; cases z)
  have nsHid : ∀ {b : Addr} {m : Str → Option Value}, s1.heap.Ns b m → (hidT s1.heap H).Ns b m := by
    rintro b m ⟨o, es, ep, e, d, rest⟩
    exact ⟨o, es, ep, dictHid e d, d, rest⟩
  have KH : K.In (hidT s1.heap H) := by
    intro b o e
    refine keepHid (KX b o e) ?_
    cases q : H b with
    | none => rfl
    | some u =>
      exfalso
      rcases h0_inv q with ⟨rfl, z, _⟩ | ⟨hb, _⟩
      · rw [z] at e
        cases e
      · rw [(ofT b hb).2] at e
        cases e
  have limH : (hidT s1.heap H).NoLimit := by
    obtain ⟨mc, h1, h2⟩ := lim
    exact ⟨mc, nsHid h1, h2⟩
  have M : L2.Mod K mg (hidT s1.heap H) := ⟨KH, nsHid nsG, ⟨mb, nsHid nsB, isB⟩, limH⟩
  have TB : ∀ p ∈ cs, TabB (hidT s1.heap H) mg p.1 p.2 := by
    intro p hp
    have tp := tabs p hp
    refine ⟨?_, ?_, ?_⟩
    · obtain ⟨o, us, file, tf, flags, tg, inF, text, tt, e1, r1, r2, r3, rest⟩ := codes p hp
      refine ⟨o, us, file, tf, flags, tg, inF, text, tt, keepHid e1 (seen e1 (fun vs n z => ?_) fun z => ?_), r1, r2, r3, rest⟩
      · rw [r2] at z
        cases z
      · rw [r2] at z
        cases z
        simp at r3
    · obtain ⟨bm, ob, b1, b2, b3, b4, b5, b6⟩ := bmain
      have g1 : bm ≠ mainGlobals := by
        rintro rfl
        obtain ⟨o, es, ep, e, d, _⟩ := nsG
        rw [b3] at e
        cases e
        rw [b6] at d
        cases d
      have g2 : bm ≠ p.2 := by
        rintro rfl
        rw [tp] at b3
        cases b3
        cases b6
      refine ⟨bm, ob, b1, b2, g1, g2, keepHid b3 (seen b3 (fun vs n z => ?_) fun z => ?_), b4, b5, b6⟩ <;> (rw [b6] at z; cases z)
    · intro z
      obtain ⟨o, es, ep, e, d, _⟩ := nsG
      rw [z, tp] at e
      cases e
      cases d
  have hH : ∀ p ∈ cs, H p.2 = some (.tbl #[]) := by
    intro p hp
    have n1 : ¬ (p.2 = a ∧ K.lookup a = none) := fun z => neT (z.1 ▸ inT p hp)
    exact (if_neg n1).trans (if_pos (inT p hp))
  have hS : SqL K H a (ns.map V.int) := by
    cases q : K.lookup a with
    | none => exact .inl (.inr ⟨scriptO vs, if_pos ⟨rfl, q⟩⟩)
    | some o =>
      have e := KX a o q
      rw [ha] at e
      cases e
      exact .inr ⟨_, vs.toArray, _, q, rfl, rfl, rfl, by rw [List.size_toArray, hlen]; exact hl, by simpa using rv⟩
  have hok : HOk P w H s1.heap := by
    intro b u q
    rcases h0_inv q with ⟨rfl, _, rfl⟩ | ⟨hb, rfl⟩
    · exact ⟨ha, by rw [List.length_map]; exact hl, vs, _, rv, ha⟩
    · exact (ofT b hb).1
  have e0 : Env0 P w K mg (hidT s1.heap H) callerA [] s1 H :=
    ⟨rfl, M, fun b o e => of_hidT e, Nat.le_of_eq (hidT_size _ _), trivial, (fun b hb => by cases (show b ∈ ([] : List Addr) from hb)), hok, .of_eq gens⟩
  have run := (F _ KH (nsHid nsG) TB).go callerA [] s1 H ⟨[.ref a], []⟩ [.ref a] [.ref a] (fun v _ => v = .bl true) (fun _ _ _ => False) rfl hr e0 (hbind s1 (.ref a)) (.cons rfl .nil) (hsp H hH hS)
  refine codeAny_mono run ?_
  intro r s' h
  match r, h with
  | .error e, h => exact (hCX H e s' h).elim
  | .ok .next, h => exact h.elim
  | .ok .brk, h => exact h.elim
  | .ok .cont, h => exact h.elim
  | .ok (.ret u), h =>
    obtain ⟨v, H', os, bare, un, hok', r', q⟩ := h
    obtain rfl : v = .bl true := q
    obtain rfl : u = Value.bool true := r'
    have plain : ∀ b o, b ∉ T → s1.heap.get? b = some o → s'.heap.get? b = some o := by
      intro b o nb e
      cases q : H b with
      | none => exact un.keep b o e q (fun z => by cases (show b ∈ ([] : List Addr) from z)) (by simp)
      | some y =>
        rcases h0_inv q with ⟨rfl, _, rfl⟩ | ⟨hb, _⟩
        · obtain ⟨e2, _⟩ := hok' b _ (un.frzs b _ _ q)
          rw [ha] at e
          cases e
          exact e2
        · exact absurd hb nb
    have grown : ∀ p ∈ cs, ∃ more : Array Value, s'.heap.get? p.2 = some { cls := .none, data := .fields more } := by
      intro p hp
      obtain ⟨more, z⟩ := un.tbls p.2 #[] (hH p hp)
      exact ⟨_, hok' p.2 _ z⟩
    refine ⟨rfl, ⟨fun b o e => ?_, fun b o e => ?_⟩, os, bare⟩ <;> by_cases hb : b ∈ T
    · obtain ⟨p, hp, rfl⟩ := List.mem_map.mp hb
      obtain ⟨more, hm⟩ := grown p hp
      rw [tabs p hp] at e
      cases e
      exact .inr (.inl ⟨((codes p hp).tab (tabs p hp)).isCodeTable, rfl, #[], more, rfl, by rw [Array.empty_append]; exact hm⟩)
    · exact .inl (plain b o hb e)
    · obtain ⟨p, hp, rfl⟩ := List.mem_map.mp hb
      obtain ⟨more, hm⟩ := grown p hp
      exact ⟨_, hm⟩
    · exact ⟨o, plain b o hb e⟩
end

/-- the tables of the text's own defs are empty behind the top -/
def Empt (q : Program) (K : PySem.W.Frag) (h : Heap) : Prop := ∀ (x : Str) (f c t : Addr) (o : Obj) (fd : FuncData) (e : Value) (dd : Option Addr) (us : Array Value) (sl : Array (Option Value)),
  ((PyProof.Rows.recsOf q).any fun r => r.name == x) = true → PySem.W.nsIn K mainGlobals x = some (some (.ref f)) → K.lookup f = some o → o.data = .func fd → fd.code = .ref c →
  K.lookup c = some ⟨e, dd, .fields us, sl⟩ → us[11]? = some (.ref t) → PySem.W.CodeHd h c t ∧ h.get? t = some tabO
/-- what is to be known of the law at the head's heap -/
def GLaw (l : PySem.W.OpenLaw) (w : World) (K : PySem.W.Frag) (CX : CXT) (k n : Nat) (x : Str) (mg : Str → Option Value) (fa : Addr) (h : Heap) : Prop :=
  ∃ (fd : FuncData) (cs : List (Addr × Addr)) (sp : Sp), (∀ p ∈ cs, h.get? p.2 = some tabO) ∧ (∀ p ∈ cs, K.lookup p.2 = none) ∧ (∀ p ∈ cs, PySem.W.CodeHd h p.1 p.2) ∧
    (∀ (s : Shared) (u : Value), BindsTo s fd ⟨[u], []⟩ [(x, u)]) ∧
    (∀ (H : Hp) (a : Addr) (ns : List Int), ns.length ≤ n → (∀ z ∈ ns, Builtin.Int.intBits z ≤ 1048576) → (∀ p ∈ cs, H p.2 = some (.tbl #[])) → SqL K H a (ns.map V.int) →
      sp [.ref a] H (fun v _ => v = .bl true) fun _ _ _ => False) ∧
    ∀ base : Heap, K.In base → base.Ns mainGlobals mg → (∀ p ∈ cs, TabB base mg p.1 p.2) → GOk l.prog w K mg base CX k fa fd [x] sp
theorem walk_g {l : PySem.W.OpenLaw} {n k : Nat} {q : Program} {loose : List Str} {XP : (Str → Option Value) → Heap → Prop} {YP : World → Heap → Prop} {d : DefRec} {K : Params → PySem.W.Frag} {CX : World → CXT} {x : Str}
    (hn : l.most = some n) (small : n ≤ sizeLine) (hdf : d.params.defaults = []) (hr : Room k callerA) (hY : ∀ (w : World) (h : Heap), YP w h → (K w.params).In h)
    (F : ∀ (w : World) (mg : Str → Option Value) (fa : Addr) (h : Heap), YP w h → (K w.params).In h → h.Ns mainGlobals mg → mg d.name = some (.ref fa) → Empt q (K w.params) h → GLaw l w (K w.params) (CX w) k n x mg fa h)
    (hCX : ∀ (w : World) (H : Hp) (s : Shared) (e : Value) (s' : Shared), CX w [] H s (fun _ _ _ => False) e s' → False) :
    PySem.W.WalkO q loose XP YP l.row.toRowW d [] (fun f vs => PySem.call f vs) := by
  refine Att.attach_callB hn hdf ?_
  intro w sA s1 mg mb fa o pm cd doc a vs ns G Y ho hd hcd hmg hobj hints hlen hbits hg
  have KX := hY w _ Y
  have em : Empt q (K w.params) s1.heap := by
    intro x f c t o1 fd1 e dd us sl hx k1 k2 k3 k4 k5 k6
    obtain ⟨r, hr1, hr2⟩ := List.any_eq_true.mp hx
    have hn1 : r.name = x := beq_iff_eq.mp hr2
    obtain ⟨a1, o2, fd2, c2, t2, y1, y2, y3, y4, y5, y6⟩ := G.T.tab r hr1
    have z1 := PySem.W.mg_of KX G.T.g k1
    rw [hn1, z1] at y1
    cases y1
    have z2 := KX _ _ k2
    rw [z2] at y2
    cases y2
    rw [k3] at y3
    cases y3
    rw [k4] at y4
    cases y4
    have y6b := y6
    obtain ⟨⟨oc, vc, e1, e2, e3, e4⟩, hP⟩ := y6b
    have z5 := KX _ _ k5
    rw [z5] at e1
    cases e1
    cases e3
    rw [k6] at e4
    cases e4
    exact ⟨PySem.W.CodeHd.of y5 y6, hP⟩
  obtain ⟨fd, cs, sp, t1, t2, t3, hb, hsp, hF⟩ := F w mg fa _ Y KX G.T.g hmg em
  exact law_gcall KX G.T.g G.T.b G.T.builtins G.T.nolimit hg t1 t2 t3 G.T.bmain hobj hints (Nat.le_trans hlen small) hr hF hb (fun H a1 a2 => hsp H a ns hlen hbits a1 a2) (fun H e s' => hCX w H s1 e s')
end Gd

set_option maxRecDepth 100000
set_option maxHeartbeats 4000000
/-! Things, boxes, texts: what the laws share, over no program. -/
namespace My
open PySem PySem.Spec PyProof.Rows L2 GxR Gd TL
/-! ### things -/
def Good (z : Str) : Prop := ∀ c ∈ z.cps.toList, c < 1114112
inductive Th (H : Hp) : V → Prop
  | non : Th H .non
  | bl (b : Bool) : Th H (.bl b)
  | int (i : Int) : Th H (.int i)
  | str (z : Str) (h : z.length ≤ 1000000) (g : Good z) : Th H (.str z)
  | lst (a : Addr) (xs : List V) (h : H a = some (.lst xs)) : Th H (.ref a)
  | tup (a : Addr) (xs : List V) (h : H a = some (.tup xs)) : Th H (.ref a)
  | dic (a : Addr) {kvs : List (Key × V)} (h : H a = some (.dK kvs)) : Th H (.ref a)
def lc (c : Nat) : Bool := decide (97 ≤ c) && decide (c ≤ 122)
def nm : V → Bool
  | .str z => decide (1 ≤ z.length) && decide (z.length ≤ 6) && z.cps.toList.all lc
  | _ => false
def wh (lo hi : Int) : V → Bool
  | .int i => decide (lo ≤ i) && decide (i ≤ hi)
  | _ => false
/-- its kind -/
theorem Th.ty {K : PySem.W.Frag} {H : Hp} {v : V} (h : Th H v) : ∃ t, TyX K H v (.type t) ∧
    ((∃ i, v = .int i ∧ t = "int") ∨ (∃ b, v = .bl b ∧ t = "bool") ∨ (∃ z, v = .str z ∧ (z.length ≤ 1000000 ∧ Good z) ∧ t = "str") ∨
     ((∀ i, v ≠ .int i) ∧ (∀ b, v ≠ .bl b) ∧ (∀ z, v ≠ .str z) ∧ (t = "NoneType" ∨ t = "list" ∨ t = "tuple" ∨ t = "dict"))) := by
  cases h with
  | non => exact ⟨_, .base .non, .inr (.inr (.inr ⟨by simp, by simp, by simp, .inl rfl⟩))⟩
  | bl b => exact ⟨_, .base (.bl b), .inr (.inl ⟨b, rfl, rfl⟩)⟩
  | int i => exact ⟨_, .base (.int i), .inl ⟨i, rfl, rfl⟩⟩
  | str z h g => exact ⟨_, .base (.str z), .inr (.inr (.inl ⟨z, rfl, ⟨h, g⟩, rfl⟩))⟩
  | lst a xs h => exact ⟨_, .base (.lst h), .inr (.inr (.inr ⟨by simp, by simp, by simp, .inr (.inl rfl)⟩))⟩
  | tup a xs h => exact ⟨_, .base (.tup h), .inr (.inr (.inr ⟨by simp, by simp, by simp, .inr (.inr (.inl rfl))⟩))⟩
  | dic a h => exact ⟨_, .base (.dK h), .inr (.inr (.inr ⟨by simp, by simp, by simp, .inr (.inr (.inr rfl))⟩))⟩
/-- all but the table stays -/
structure KT (P : Addr) (H H' : Hp) : Prop where
  keep : ∀ c o, c ≠ P → H c = some o → H' c = some o
  tab : TabG H' P
theorem TabG.at {H : Hp} {P : Addr} (t : TabG H P) : ∃ ps, H P = some (.tbl ps) := let ⟨ps, h, _⟩ := t; ⟨ps, h⟩
theorem ne_tab {H : Hp} {P a : Addr} {o : HO} (t : TabG H P) (h : H a = some o) (n : ∀ ps, o ≠ .tbl ps) : a ≠ P := by
  rintro rfl
  obtain ⟨ps, e⟩ := TabG.at t
  rw [h] at e
  exact n ps (Option.some.inj e)
theorem KT.refl {P : Addr} {H : Hp} (t : TabG H P) : KT P H H := ⟨fun _ _ _ h => h, t⟩
theorem KT.trans {P : Addr} {H H1 H2 : Hp} (a : KT P H H1) (b : KT P H1 H2) : KT P H H2 := ⟨fun c o n h => b.keep c o n (a.keep c o n h), b.tab⟩
theorem KT.of {P : Addr} {H H' : Hp} (t : Tabbed P H H') : KT P H H' := ⟨fun c o n h => by rw [t.2 c n]; exact h, t.1⟩
theorem KT.alloc {P p : Addr} {H : Hp} {o : HO} (t : TabG H P) (n : H p = none) : KT P H (upd H p o) := by
  obtain ⟨ps, e, ht⟩ := t
  refine ⟨fun c q _ h => by rw [upd_ne (ne_of_none h n)]; exact h, ps, by rw [upd_ne (ne_of_none e n)]; exact e, ht⟩
theorem Th.kt {P : Addr} {H H' : Hp} (t : TabG H P) (k : KT P H H') {v : V} (h : Th H v) : Th H' v := by
  cases h with
  | non => exact .non
  | bl b => exact .bl b
  | int i => exact .int i
  | str z h g => exact .str z h g
  | lst a xs h => exact .lst a xs (k.keep _ _ (ne_tab t h (by simp)) h)
  | tup a xs h => exact .tup a xs (k.keep _ _ (ne_tab t h (by simp)) h)
  | dic a h => exact .dic a (k.keep _ _ (ne_tab t h (by simp)) h)

theorem elt_between {prog : Program} {w : World} {scope : Scope} {x a b : Str} {j1 j2 : Nat} {p1 p2 p3 p4 : Pos} (hk : scope.kind = .function) (hl : scope.names.lookup x = some .local)
    (hd : (x == ("__debug__" : Str)) = false := by decide) :
    EltP prog w scope x (.Compare (.Constant (.str a) j1 p1) [.LtE, .LtE] [.Name x p2, .Constant (.str b) j2 p3] p4) (fun c => !decide ([c] < a.cps.toList) && !decide (b.cps.toList < [c])) := by
  intro cenv A' E' c t s2 m2 hs hn hm
  refine Compare_chain ?_ (by with_unfolding_all rfl)
  refine Calls.Constant_str (chain_link ?_)
  refine wpAny_Name (wpAny_loadName_local (by rw [hs]; exact hk) (show cenv.scope.names.lookup x = some .local by rw [hs]; exact hl) hn hm ?_) hd
  refine PySem.P.le_str ?_
  refine wpAny_truthy_bool ?_
  cases q : decide ([c] < a.cps.toList) with
  | true =>
    refine ite_ff ⟨?_, keeps_tok _ _⟩
    have q' : decide ((⟨#[c]⟩ : Str).cps.toList < a.cps.toList) = true := q
    simp [q']
  | false =>
    refine ite_tt (chain_last ?_)
    refine Calls.Constant_str ?_
    refine PySem.P.le_str ⟨?_, keeps_tok _ _⟩
    have q2 : ¬ [c] < a.cps.toList := of_decide_eq_false q
    simp [List.not_lt.mp q2]
def genSc : Scope := { kind := ScopeKind.function, names := [(Str.ofString ".0", NameKind.local), (Str.ofString "sign", NameKind.local)], isGenerator := true, isCoroutine := false }
theorem no_free : ∀ y ∈ genSc.names, y.2 ≠ NameKind.free := by decide +kernel
theorem one_lt (c d : Nat) : [c] < [d] ↔ c < d := by
  rw [List.cons_lt_cons_iff]
  constructor
  · rintro (h | ⟨_, h⟩)
    · exact h
    · exact absurd h (List.not_lt_nil _)
  · exact .inl
theorem lc_eq (c : Nat) : (!decide ([c] < [97]) && !decide ([122] < [c])) = lc c := by
  unfold lc
  rw [Bool.eq_iff_iff]
  simp only [Bool.and_eq_true, Bool.not_eq_true', decide_eq_false_iff_not, decide_eq_true_eq, one_lt]
  omega
/-! ### the box -/
def Bx (b : Addr) (n : Int) (H : Hp) : Prop := ∃ x y z : Int, H b = some (.lst [.int x, .int y, .int z]) ∧ 0 ≤ x ∧ 0 ≤ y ∧ y < 2147483629 ∧ 0 ≤ z ∧ z ≤ n
theorem Bx.same {b : Addr} {n : Int} {H H' : Hp} (h : Bx b n H) (e : H' b = H b) : Bx b n H' := by
  obtain ⟨x, y, z, h1, r⟩ := h
  exact ⟨x, y, z, e.trans h1, r⟩
theorem Bx.mono {b : Addr} {n m : Int} {H : Hp} (h : Bx b n H) (e : n ≤ m) : Bx b m H := by
  obtain ⟨x, y, z, h1, h2, h3, h4, h5, h6⟩ := h
  exact ⟨x, y, z, h1, h2, h3, h4, h5, by omega⟩
theorem i0 (a b c : V) : atI [a, b, c] 0 = some a := rfl
theorem i1 (a b c : V) : atI [a, b, c] 1 = some b := rfl
theorem i2 (a b c : V) : atI [a, b, c] 2 = some c := rfl
theorem j0 : ixN 3 0 = some 0 := rfl
theorem j2 : ixN 3 2 = some 2 := rfl
/-! ### lists and texts -/
theorem atI_ex {α : Type} {xs : List α} {d : Int} (h0 : 0 ≤ d) (h1 : d < xs.length) : ∃ v, v ∈ xs ∧ atI xs d = some v := by
  obtain ⟨j, rfl⟩ := Int.eq_ofNat_of_zero_le h0
  have hj : j < xs.length := by omega
  exact ⟨xs[j], List.getElem_mem hj, atI_nat (List.getElem?_eq_getElem hj)⟩
theorem joinL_len (S : List Nat) : ∀ ps : List (List Nat), (joinL S ps).length ≤ (ps.map List.length).sum + ps.length * S.length
  | [] => by simp [joinL]
  | [p] => by simp [joinL]
  | p :: q :: r => by
    have ih := joinL_len S (q :: r)
    have e : joinL S (p :: q :: r) = p ++ (S ++ joinL S (q :: r)) := rfl
    rw [e, List.length_append, List.length_append, List.map_cons, List.sum_cons, List.length_cons, Nat.succ_mul]
    omega
theorem tl_len (z : Str) : (tl z).length = z.length := by
  show z.cps.toList.length = z.cps.size
  simp
theorem join_len (y : Str) (ps : List Str) : (Txt.join y ps).length ≤ (ps.map (·.length)).sum + ps.length * y.length := by
  have h := joinL_len (tl y) (ps.map tl)
  rw [← tl_len, join_eq, tl_join]
  have e : (ps.map tl).map List.length = ps.map (·.length) := by
    rw [List.map_map]
    exact List.map_congr_left fun z _ => tl_len z
  rw [e, List.length_map, tl_len] at h
  exact h
theorem sum_ones (ps : List Str) (h : ∀ z ∈ ps, z.length ≤ 1) : (ps.map (·.length)).sum ≤ ps.length := by
  induction ps with
  | nil => simp
  | cons a r ih =>
    have h1 := h a List.mem_cons_self
    have h2 := ih fun z hz => h z (List.mem_cons_of_mem _ hz)
    simp only [List.map_cons, List.sum_cons, List.length_cons]
    omega
theorem lcY {A : TE} {σ : L2.St} {H : Hp} {G : VK} {B : Hp → Prop} (h : A σ H G) : tYes σ H (fun b H3 => if b = true then A σ H3 G else B H3) := by
  show if true = true then A σ H G else B H
  exact iteT h
theorem good_app {a b : Str} (h : Good a) (k : Good b) : Good (a ++ b) := fun c hc => by
  have e : (a ++ b).cps.toList = a.cps.toList ++ b.cps.toList := tl_append a b
  rw [e] at hc
  exact (List.mem_append.mp hc).elim (h c) (k c)
theorem good_cut {a : Str} (h : Good a) (lo hi : Option Int) : Good (cutS a lo hi) := fun c hc => by
  unfold cutS at hc
  exact h c (List.mem_of_mem_drop (List.mem_of_mem_take (by simpa using hc)))
theorem good_joinL {S : List Nat} (hS : ∀ c ∈ S, c < 1114112) : ∀ ps : List (List Nat), (∀ p ∈ ps, ∀ c ∈ p, c < 1114112) → ∀ c ∈ joinL S ps, c < 1114112
  | [], _, c, h => by simp [joinL] at h
  | [p], hp, c, h => hp p List.mem_cons_self c (by simpa [joinL] using h)
  | p :: q :: r, hp, c, h => by
    have e : joinL S (p :: q :: r) = p ++ (S ++ joinL S (q :: r)) := rfl
    rw [e, List.mem_append, List.mem_append] at h
    rcases h with h | h | h
    · exact hp p List.mem_cons_self c h
    · exact hS c h
    · exact good_joinL hS (q :: r) (fun z hz => hp z (List.mem_cons_of_mem _ hz)) c h
theorem good_join {y : Str} {ps : List Str} (hy : Good y) (h : ∀ z ∈ ps, Good z) : Good (Txt.join y ps) := fun c hc => by
  have e : (Txt.join y ps).cps.toList = joinL (tl y) (ps.map tl) := by rw [join_eq]; exact tl_join y ps
  rw [e] at hc
  refine good_joinL hy _ (fun p hp => ?_) c hc
  obtain ⟨z, hz, rfl⟩ := List.mem_map.mp hp
  exact h z hz
theorem good_of (x : String) : Good (Str.ofString x) := fun c hc => by
  have e : (Str.ofString x).cps.toList = x.toList.map Char.toNat := by
    rw [Str.ofString_eq_toList]
  rw [e] at hc
  obtain ⟨d, _, rfl⟩ := List.mem_map.mp hc
  have := d.valid
  unfold UInt32.isValidChar Nat.isValidChar at this
  show d.val.toNat < 1114112
  omega
theorem good_one {z : Str} {c : Nat} (h : Good z) (hc : c ∈ z.cps.toList) : Good ⟨#[c]⟩ := fun d hd => by
  have e : d = c := by simpa using hd
  rw [e]
  exact h c hc
/-- all but the box stays -/
def KB (b : Addr) (H H' : Hp) : Prop := ∀ c o, c ≠ b → H c = some o → H' c = some o
theorem KB.refl (b : Addr) (H : Hp) : KB b H H := fun _ _ _ h => h
theorem KB.trans {b : Addr} {H H1 H2 : Hp} (a : KB b H H1) (c : KB b H1 H2) : KB b H H2 := fun x o n h => c x o n (a x o n h)
theorem KB.off {b : Addr} {H H' : Hp} (h : ∀ a, a ≠ b → H' a = H a) : KB b H H' := fun c o n e => (h c n).trans e
theorem KB.alloc {b p : Addr} {H : Hp} {o : HO} (n : H p = none) : KB b H (upd H p o) := fun c u _ h => by rw [upd_ne (ne_of_none h n)]; exact h
theorem Bx.alloc {b p : Addr} {n : Int} {H : Hp} {o : HO} (h : Bx b n H) (f : H p = none) : Bx b n (upd H p o) := by
  obtain ⟨x, y, z, h1, r⟩ := h
  exact ⟨x, y, z, by rw [upd_ne (ne_of_none h1 f)]; exact h1, r⟩
theorem Bx.put {b p : Addr} {n : Int} {H : Hp} {o : HO} (h : Bx b n H) (f : p ≠ b) : Bx b n (upd H p o) := by
  obtain ⟨x, y, z, h1, r⟩ := h
  exact ⟨x, y, z, by rw [upd_ne f.symm]; exact h1, r⟩
/-- a comprehension over a text's signs -/
theorem lc_text {z : Str} {g : TG} {tt : TT} {te : TE} {vs : List Nat} {σ : L2.St} {H1 : Hp} {D : Addr} {Qd : Hp → Prop} (Pv : Nat → Hp → Prop) (h0 : Pv 0 (upd H1 D (.lst [])))
    (hs : ∀ i c H, z.cps.toList[i]? = some c → Pv i H → g (.str ⟨#[c]⟩) (wipe σ vs) H fun σ2 H2 => wipe σ2 vs = wipe σ vs ∧ tt σ2 H2 fun b H3 =>
      if b = true then te σ2 H3 fun y H4 => ∃ acc, H4 D = some (.lst acc) ∧ acc.length < sizeLine ∧ Pv (i + 1) (upd H4 D (.lst (acc ++ [y]))) else Pv (i + 1) H3) (hd : ∀ H, Pv z.length H → Qd H) :
    ∃ W : Nat → Nat → Hp → Prop, (∃ m, W 0 m (upd H1 D (.lst []))) ∧ ∀ i m H, W i m H →
      ((Its z).stop i H ∧ Qd H) ∨ ((Its z).go i H ∧ ∃ Nx : Hp → Prop, (∀ H', Nx H' → ∃ m', m' < m ∧ W (i + 1) m' H') ∧ ∀ x H', (Its z).yld i H x H' → g x (wipe σ vs) H' fun σ2 H2 => wipe σ2 vs = wipe σ vs ∧ tt σ2 H2 fun b H3 =>
        if b = true then te σ2 H3 fun y H4 => ∃ acc, H4 D = some (.lst acc) ∧ acc.length < sizeLine ∧ Nx (upd H4 D (.lst (acc ++ [y]))) else Nx H3) := by
  refine ⟨fun i m H => i + m = z.cps.size ∧ Pv i H, ⟨z.cps.size, by simp, h0⟩, fun i m H hW => ?_⟩
  obtain ⟨e, p⟩ := hW
  cases m with
  | zero =>
    have ei : i = z.cps.size := e
    subst ei
    exact .inl ⟨Nat.le_refl _, hd H p⟩
  | succ m =>
    refine .inr ⟨show i < z.cps.size by omega, Pv (i + 1), fun H' q => ⟨m, Nat.lt_succ_self m, by omega, q⟩, ?_⟩
    rintro x H' ⟨rfl, c, hc, rfl⟩
    exact hs i c _ (by rw [← hc]; simp) p
def badOf (l : List Nat) : List V := (l.filter fun c => !lc c).map fun c => V.str ⟨#[c]⟩
theorem bad_data {K : PySem.W.Frag} {H : Hp} : ∀ l : List Nat, DpAll K H (l.map fun c => V.str ⟨#[c]⟩) (l.map fun c => PyData.str ⟨#[c]⟩)
  | [] => .nil
  | c :: r => .cons (.str _) (bad_data r)
theorem one_ok {c : Nat} (h : c < 1114112) : PyData.strOk ⟨#[c]⟩ = true := by
  simp [PyData.strOk, h]
theorem bad_shaped : ∀ l : List Nat, (∀ c ∈ l, c < 1114112) → PyData.canLayAll0 (l.map fun c => PyData.str ⟨#[c]⟩) = true
  | [], _ => by simp [PyData.canLayAll0]
  | c :: r, h => by
    simp only [List.map_cons, PyData.canLayAll0, PyData.canLay0, Bool.and_eq_true]
    exact ⟨one_ok (h c List.mem_cons_self), bad_shaped r fun d hd => h d (List.mem_cons_of_mem _ hd)⟩
theorem bad_depth : ∀ l : List Nat, PyData.depthAll (l.map fun c => PyData.str ⟨#[c]⟩) = 0
  | [] => by simp [PyData.depthAll]
  | c :: r => by
    simp only [List.map_cons, PyData.depthAll, PyData.depth, bad_depth r]
    rfl
theorem letters_mem (c : Nat) : decide (c ∈ (Str.ofString "abcdefghijklmnopqrstuvwxyz").cps.toList) = lc c := by
  have e : (Str.ofString "abcdefghijklmnopqrstuvwxyz").cps.toList = (List.range 26).map (· + 97) := by decide +kernel
  rw [e]
  unfold lc
  rw [Bool.eq_iff_iff]
  simp only [decide_eq_true_eq, List.mem_map, List.mem_range, Bool.and_eq_true]
  constructor
  · rintro ⟨a, h, rfl⟩
    omega
  · intro h
    exact ⟨c - 97, by omega, by omega⟩
/-- a fresh place is no box -/
theorem Bx.fresh {b p : Addr} {n : Int} {H : Hp} (h : Bx b n H) (f : H p = none) : p ≠ b := by
  rintro rfl
  obtain ⟨x, y, z, e, _⟩ := h
  rw [f] at e
  cases e
theorem dec9000 {m : Int} (h0 : 0 < m) (h : m ≤ 10 ^ 30) : m.natAbs.log2 < 9000 := by
  have h1 : m.natAbs ≤ 10 ^ 30 := by omega
  have h2 : m.natAbs < 2 ^ 100 := Nat.lt_of_le_of_lt h1 (by decide)
  have h3 := (Nat.log2_lt (by omega)).mpr h2
  omega
theorem log1900 {m : Int} (h : m.natAbs ≤ 10 ^ 31) : m.natAbs.log2 < 1900 := by
  by_cases h0 : m.natAbs = 0
  · rw [h0]
    decide
  · have h2 : m.natAbs < 2 ^ 110 := Nat.lt_of_le_of_lt h (by decide)
    have h3 := (Nat.log2_lt h0).mpr h2
    omega
/-- a place in a list of the script stays -/
theorem seq_kt {K : PySem.W.Frag} {P a : Addr} {H H' : Hp} {xs : List V} (t : TabG H P) (k : KT P H H') (h : SqL K H a xs) : SqL K H' a xs := by
  rcases h with (h | ⟨o, h⟩) | h
  · exact .inl (.inl (k.keep _ _ (ne_tab t h (by simp)) h))
  · exact .inl (.inr ⟨o, k.keep _ _ (ne_tab t h (by simp)) h⟩)
  · exact .inr h
/-- what a row of steps with the box does to all else -/
theorem KT.box {P b : Addr} {H H' H1 : Hp} (t : TabG H P) (f : H b = none) (e : ∀ a, a ≠ b → H1 a = H a) (k : KB b H1 H') : KT P H H' := by
  obtain ⟨ps, ht, tr⟩ := t
  have nb : P ≠ b := ne_of_none ht f
  exact ⟨fun c o _ h => k c o (ne_of_none h f) ((e c (ne_of_none h f)).trans h), ps, k P _ nb ((e P nb).trans ht), tr⟩
theorem two_bools (a b : Bool) : (PyData.list [.bool a, .bool b]).shown.length ≤ sizeLine := by
  cases a <;> cases b <;> decide +kernel
end My

set_option maxRecDepth 100000
set_option maxHeartbeats 4000000
namespace K6
open PySem PySem.Spec PyProof.Rows L2 GxR Gd TL My
/-! ### the text -/
def top (i : Nat) : Stmt := PySem.Challenge.pw_onestaff_k06_other_lines.main.body.getD i (.Pass ⟨0, 0, 0, 0⟩)
abbrev sWhole : Stmt := top 12
abbrev sName : Stmt := top 13
abbrev sList : Stmt := top 14
abbrev sTuple : Stmt := top 15
abbrev sCell : Stmt := top 25
abbrev sBox : Stmt := top 26
abbrev sTake : Stmt := top 27
structure Txt (mg : Str → Option Value) : Prop where
  isinstance_ : mg "isinstance" = none
  int_ : mg "int" = none
  bool_ : mg "bool" = none
  str_ : mg "str" = none
  len_ : mg "len" = none
  all_ : mg "all" = none
  max_ : mg "max" = none
  min_ : mg "min" = none
  range_ : mg "range" = none
  repr_ : mg "repr" = none
  list_ : mg "list" = none
  tuple_ : mg "tuple" = none
  enumerate_ : mg "enumerate" = none
  sorted_ : mg "sorted" = none
  dict_ : mg "dict" = none
  zip_ : mg "zip" = none
  reversed_ : mg "reversed" = none
structure Fn (K : PySem.W.Frag) (mg : Str → Option Value) (x : Str) (st : Stmt) (ps : List Str) (f : Addr) (fd : FuncData) : Prop where
  fn : Fun K x x st f fd
  g : mg x = some (.ref f)
  b : Binds K fd ps []
theorem Fn.kp {K : PySem.W.Frag} {mg : Str → Option Value} {x : Str} {st : Stmt} {ps : List Str} {f : Addr} {fd : FuncData} (h : Fn K mg x st ps f fd) : PySem.W.keepIn K (.ref f) = true := h.fn.kp
section
variable {P : Program} {w : World} {K : PySem.W.Frag} {mg : Str → Option Value} {base : Heap}
def spWhole : Sp := fun vs H Q _ => ∃ (v : V) (lo hi : Int), vs = [v, .int lo, .int hi] ∧ Th H v ∧ Q (.bl (wh lo hi v)) H
theorem scWhole : FnScope ["thing", "low", "high"] ["thing", "low", "high"] (defScope sWhole) := ⟨rfl, rfl, rfl, by decide +kernel, rfl, by decide +kernel, by decide +kernel⟩
theorem ok_whole {f : Addr} {fd : FuncData} (F : Fun K "is_whole" "is_whole" sWhole f fd) (T : Txt mg) : FnOk P w K mg base CX0 1 f fd ["thing", "low", "high"] spWhole := by
  refine F.ok scWhole (fun vs H Q E h => ?_) (fun cdv A outer s H vs Q E hr h => ?_)
  · obtain ⟨v, lo, hi, rfl, _⟩ := h
    rfl
  · obtain ⟨v, lo, hi, rfl, th, k⟩ := h
    obtain ⟨t, ty, cs⟩ := th.ty (K := K)
    refine ⟨_, pss_cons (ps_if (PW.pt (pw_or (pt_not (pt_val (pe_callB call_isi (by rfl) T.isinstance_ (by decide +kernel) (pa_cons (pv 0) (pa_cons (pe_bltn (v := .ty "int") (by rfl) T.int_ (by decide +kernel) rfl) pa_nil)))))
        (pw_or1 (pt_val (pe_callB call_isi (by rfl) T.isinstance_ (by decide +kernel) (pa_cons (pv 0) (pa_cons (pe_bltn (v := .ty "bool") (by rfl) T.bool_ (by decide +kernel) rfl) pa_nil)))))))
        (pss_one (ps_ret pe_bl)) pss_nil)
      (pss_one (ps_ret (pe_chain op_le op_le (pv 1) (pv 0) (pv 2)))), ?_⟩
    rcases cs with ⟨i, rfl, rfl⟩ | ⟨b, rfl, rfl⟩ | ⟨z, rfl, _, rfl⟩ | ⟨n1, n2, n3, ht⟩
    · refine ⟨_, rfl, _, _, _, _, true, rfl, .ty "int", ty, (by rfl), _, rfl, iteF ?_⟩
      refine ⟨_, rfl, _, _, _, _, false, rfl, .ty "bool", ty, (by rfl), _, rfl, iteF ?_⟩
      refine ⟨_, rfl, _, rfl, _, _, rfl, rfl, _, rfl, ?_⟩
      refine ite2 (fun c => ?_) (fun c => ?_)
      · refine ⟨_, rfl, _, _, rfl, rfl, ?_⟩
        have e : (decide (i ≤ hi)) = wh lo hi (.int i) := by simp [wh, of_decide_eq_true c]
        show Q (.bl (decide (i ≤ hi))) H
        rw [e]; exact k
      · have e : false = wh lo hi (.int i) := by simp at c; simp [wh]; omega
        rw [e]; exact k
    · refine ⟨_, rfl, _, _, _, _, true, rfl, .ty "int", ty, (by rfl), _, rfl, iteF ?_⟩
      refine ⟨_, rfl, _, _, _, _, true, rfl, .ty "bool", ty, (by rfl), _, rfl, iteT ?_⟩
      exact k
    · refine ⟨_, rfl, _, _, _, _, false, rfl, .ty "int", ty, (by rfl), _, rfl, iteT (iteT ?_)⟩
      exact k
    · have e : wh lo hi v = false := by
        cases v with
        | int i => exact absurd rfl (n1 i)
        | _ => rfl
      rw [e] at k
      rcases ht with rfl | rfl | rfl | rfl
      · exact ⟨_, rfl, _, _, _, _, false, rfl, .ty "int", ty, (by rfl), _, rfl, iteT (iteT k)⟩
      · exact ⟨_, rfl, _, _, _, _, false, rfl, .ty "int", ty, (by rfl), _, rfl, iteT (iteT k)⟩
      · exact ⟨_, rfl, _, _, _, _, false, rfl, .ty "int", ty, (by rfl), _, rfl, iteT (iteT k)⟩
      · exact ⟨_, rfl, _, _, _, _, false, rfl, .ty "int", ty, (by rfl), _, rfl, iteT (iteT k)⟩

/-! ### is_name -/
theorem scName : FnScope ["thing"] ["thing"] (defScope sName) := ⟨rfl, rfl, rfl, by decide +kernel, rfl, by decide +kernel, by decide +kernel⟩
def spName (Pt : Addr) : Sp := fun vs H Q _ => ∃ (v : V), vs = [v] ∧ Th H v ∧ TabG H Pt ∧ ∀ H', KT Pt H H' → Q (.bl (nm v)) H'
theorem ok_name {f Pt c : Addr} {oc kV doc pm ct : Value} {od an : Option Addr} {osl : Array (Option Value)}
    (lk : K.lookup f = some ⟨oc, od, .func (PySem.W.fnOf "is_name" "is_name" (defArgs sName) (defBody sName) (defScope sName) .none kV doc pm an (.ref c) ct), osl⟩) (hcd : PySem.W.codeIn K (.ref c) "is_name" = true)
    (T : Txt mg) (TB : TabB base mg c Pt) : FnOk P w K mg base CX0 2 f (PySem.W.fnOf "is_name" "is_name" (defArgs sName) (defBody sName) (defScope sName) .none kV doc pm an (.ref c) ct) ["thing"] (spName Pt) := by
  refine fn_of lk hcd scName (fun vs H Q E h => ?_) (fun A outer s H vs Q E hr h => ?_)
  · obtain ⟨v, rfl, _⟩ := h
    rfl
  · obtain ⟨v, rfl, th, tb, k⟩ := h
    obtain ⟨t, ty, cs⟩ := th.ty (K := K)
    refine ⟨_, (pss_cons (ps_if (PW.pt (pw_or (pt_not (pt_val (pe_callB call_isi (by rfl) T.isinstance_ (by decide +kernel) (pa_cons (pv 0) (pa_cons (pe_bltn (v := .ty "str") (by rfl) T.str_ (by decide +kernel) rfl) pa_nil)))))
        (pw_or1 (pt_not (pt_chain op_le op_le pe_int (pe_callB call_len_str (by rfl) T.len_ PySem.boot_len (pa_cons (pv 0) pa_nil)) pe_int)))))
        (pss_one (ps_ret pe_bl)) pss_nil)
      (pss_one (ps_ret (pe_allS hr (by rfl) T.all_ (by decide +kernel) TB rfl ⟨rfl, rfl, by decide +kernel, by decide +kernel, by decide +kernel, fun y hy e => absurd e (no_free y hy)⟩ (pv 0) (elt_between (by rfl) (by decide +kernel)) (fun _ => rfl))))).nox, ?_⟩
    have no : ∀ e : nm v = false, Q (.bl false) H := fun e => e ▸ k H (KT.refl tb)
    rcases cs with ⟨i, rfl, rfl⟩ | ⟨b, rfl, rfl⟩ | ⟨z, rfl, ⟨hz, _⟩, rfl⟩ | ⟨n1, n2, n3, ht⟩
    · exact ⟨_, rfl, _, _, _, _, false, rfl, .ty "str", ty, (by rfl), _, rfl, iteT (iteT (no rfl))⟩
    · exact ⟨_, rfl, _, _, _, _, false, rfl, .ty "str", ty, (by rfl), _, rfl, iteT (iteT (no rfl))⟩
    · refine ⟨_, rfl, _, _, _, _, true, rfl, .ty "str", ty, (by rfl), _, rfl, iteF ?_⟩
      have hz2 : z.length ≤ sizeLine := Nat.le_trans hz (by decide)
      refine ⟨_, rfl, z, rfl, hz2, _, _, rfl, rfl, _, rfl, ite2 (fun c1 => ?_) (fun c1 => ?_)⟩
      · have c1' : (1 : Int) ≤ z.length := of_decide_eq_true c1
        refine ⟨_, _, rfl, rfl, _, rfl, ?_⟩
        refine ite2 (fun c2 => ?_) (fun c2 => ?_)
        · refine no ?_
          have c2' : ¬ (z.length : Int) ≤ 6 := by simpa using c2
          have n6 : ¬ z.length ≤ 6 := by omega
          simp [nm, n6]
        · have c2' : (z.length : Int) ≤ 6 := by simpa using c2
          have n6 : z.length ≤ 6 := by omega
          have n1 : 1 ≤ z.length := by omega
          refine ⟨_, rfl, z, rfl, tb, fun H2 ht => ?_⟩
          have e : z.cps.toList.all (fun c => !decide ([c] < (Str.ofString "a").cps.toList) && !decide ((Str.ofString "z").cps.toList < [c])) = nm (.str z) := by
            have ea : (Str.ofString "a").cps.toList = [97] := by decide +kernel
            have ez : (Str.ofString "z").cps.toList = [122] := by decide +kernel
            rw [ea, ez]
            simp only [lc_eq]
            simp [nm, n6, n1]
          show Q (.bl (z.cps.toList.all _)) H2
          rw [e]
          exact k H2 (KT.of ht)
      · refine ⟨_, rfl, iteT (no ?_)⟩
        have c1' : ¬ (1 : Int) ≤ z.length := by simpa using c1
        have n1 : ¬ 1 ≤ z.length := by omega
        simp [nm, n1]
    · have e : nm v = false := by
        cases v with
        | str z => exact absurd rfl (n3 z)
        | _ => rfl
      rcases ht with rfl | rfl | rfl | rfl
      · exact ⟨_, rfl, _, _, _, _, false, rfl, .ty "str", ty, (by rfl), _, rfl, iteT (iteT (no e))⟩
      · exact ⟨_, rfl, _, _, _, _, false, rfl, .ty "str", ty, (by rfl), _, rfl, iteT (iteT (no e))⟩
      · exact ⟨_, rfl, _, _, _, _, false, rfl, .ty "str", ty, (by rfl), _, rfl, iteT (iteT (no e))⟩
      · exact ⟨_, rfl, _, _, _, _, false, rfl, .ty "str", ty, (by rfl), _, rfl, iteT (iteT (no e))⟩
def spCell (K : PySem.W.Frag) : Sp := fun vs H Q _ => ∃ (l : Addr) (ns : List Int) (j : Nat), vs = [.ref l, .int (j : Int)] ∧ SqL K H l (ns.map V.int) ∧ ∀ i : Int, Q (.int i) H
theorem scCell : FnScope ["_law_script", "_law_k"] ["_law_script", "_law_k"] (defScope sCell) := ⟨rfl, rfl, rfl, by decide +kernel, rfl, by decide +kernel, by decide +kernel⟩
theorem ok_cell {f : Addr} {fd : FuncData} (F : Fun K "_law_cell" "_law_cell" sCell f fd) (T : Txt mg) : FnOk P w K mg base CX0 1 f fd ["_law_script", "_law_k"] (spCell K) := by
  refine F.ok scCell (fun vs H Q E h => ?_) (fun cdv A outer s H vs Q E hr h => ?_)
  · obtain ⟨l, ns, j, rfl, _⟩ := h
    rfl
  · obtain ⟨l, ns, j, rfl, hS, k⟩ := h
    refine ⟨_, pss_cons (ps_if (pt_cmpR op_lt (pv 1) (pe_callB call_len_seq (by rfl) T.len_ PySem.boot_len (pa_cons (pv 0) pa_nil)) (nomark _)) (pss_one (ps_ret (pe_ix ix_list (pv 0) (pv 1) (fun _ _ => rfl)))) pss_nil)
      (pss_one (ps_ret (pe_op op_add (pe_op op_mul pe_int (pv 1)) pe_int))), ?_⟩
    refine ⟨_, rfl, _, rfl, l, _, rfl, .inl hS, _, _, rfl, rfl, _, rfl, ite2 (fun c => ?_) (fun c => ?_)⟩
    · have c1 : (j : Int) < ((ns.map V.int).length : Nat) := of_decide_eq_true c
      have c2 : j < ns.length := by rw [List.length_map] at c1; omega
      refine ⟨_, rfl, _, rfl, l, _, _, _, rfl, rfl, hS, atI_nat (v := .int ns[j]) ?_, k _⟩
      rw [List.getElem?_map, List.getElem?_eq_getElem c2]
      rfl
    · exact ⟨_, rfl, _, _, rfl, rfl, .inl ⟨by decide, by decide⟩, _, _, rfl, rfl, k _⟩
def spBox : Sp := fun vs H Q _ => ∃ c : Int, vs = [.int c] ∧ ∀ b H', H b = none → (∀ a, a ≠ b → H' a = H a) → Bx b 0 H' → Q (.ref b) H'
theorem scBox : FnScope ["_law_cell_here"] ["_law_cell_here"] (defScope sBox) := ⟨rfl, rfl, rfl, by decide +kernel, rfl, by decide +kernel, by decide +kernel⟩
theorem ok_box {f : Addr} {fd : FuncData} (F : Fun K "_law_box" "_law_box" sBox f fd) (T : Txt mg) : FnOk P w K mg base CX0 1 f fd ["_law_cell_here"] spBox := by
  refine F.ok scBox (fun vs H Q E h => ?_) (fun cdv A outer s H vs Q E hr h => ?_)
  · obtain ⟨c, rfl, _⟩ := h
    rfl
  · obtain ⟨c, rfl, k⟩ := h
    refine ⟨_, pss_one (ps_ret (pe_lst (pa_cons (pe_callB (call_max2 rfl) (by rfl) T.max_ (by decide +kernel) (pa_cons pe_int (pa_cons (pe_op op_sub (pv 0) (pe_op op_pow pe_int pe_int)) pa_nil))) (pa_cons (pe_op op_mod (pv 0) pe_int) (pa_cons pe_int pa_nil))))), ?_⟩
    refine ⟨_, rfl, _, _, rfl, rfl, ⟨by decide, by decide, by decide⟩, _, _, rfl, rfl, _, _, rfl, ?_⟩
    refine ⟨_, rfl, _, _, rfl, rfl, (by show (0 : Int) < 2147483629; decide), ?_⟩
    refine ⟨(by show 3 ≤ sizeLine; decide), fun b hb => ?_⟩
    refine k b _ hb (fun a na => upd_ne na) ⟨_, _, 0, upd_same, ?_, ?_, ?_, Int.le_refl _, Int.le_refl _⟩
    · split <;> omega
    · exact Int.emod_nonneg _ (by decide)
    · exact Int.emod_lt_of_pos _ (by decide)
def spTake : Sp := fun vs H Q _ => ∃ (b : Addr) (many n : Int), vs = [.ref b, .int many] ∧ Bx b n H ∧ n ≤ 100000 ∧ 0 < many ∧ many.natAbs.log2 < 9000 ∧
  ∀ d H', 0 ≤ d → d < many → (∀ a, a ≠ b → H' a = H a) → Bx b (n + 1) H' → Q (.int d) H'
theorem scTake : FnScope ["_law_box_here", "_law_many", "_law_digit", "_law_number"] ["_law_box_here", "_law_many"] (defScope sTake) := ⟨rfl, rfl, rfl, by decide +kernel, rfl, by decide +kernel, by decide +kernel⟩
theorem ok_take {f : Addr} {fd : FuncData} (F : Fun K "_law_take" "_law_take" sTake f fd) : FnOk P w K mg base CX0 1 f fd ["_law_box_here", "_law_many"] spTake := by
  refine F.ok scTake (fun vs H Q E h => ?_) (fun cdv A outer s H vs Q E hr h => ?_)
  · obtain ⟨b, many, n, rfl, _⟩ := h
    rfl
  · obtain ⟨b, many, n, rfl, ⟨x, y, z, hb, x0, y0, y1, z0, zn⟩, hn, m0, ml, k⟩ := h
    refine ⟨_, pss_cons (ps_if (pt_cmpR op_gt (pe_ix ix_list (pv 0) pe_int (fun _ _ => rfl)) pe_int (nomark _))
        (pss_cons (ps_set (i := 2) scTake.nd rfl (Or.inl rfl) (pe_op op_mod (pe_ix ix_list (pv 0) pe_int (fun _ _ => rfl)) (pv 1)))
        (pss_cons (ps_asg (pe_op op_fdivW (pe_ix ix_list (pv 0) pe_int (fun _ _ => rfl)) (pv 1)) (pg_sub (pv 0) pe_int set_list))
        (pss_one (ps_ret (pv 2))))) pss_nil)
      (pss_cons (ps_asg (pe_op op_add (pe_ix ix_list (pv 0) pe_int (fun _ _ => rfl)) pe_int) (pg_sub (pv 0) pe_int set_list))
      (pss_cons (ps_set (i := 3) scTake.nd rfl (Or.inl rfl) (pe_op op_mod (pe_op op_pow (pe_op op_add (pe_op op_add (pe_ix ix_list (pv 0) pe_int (fun _ _ => rfl)) (pe_op op_mul pe_int (pe_ix ix_list (pv 0) pe_int (fun _ _ => rfl)))) pe_int) pe_int) pe_int))
      (pss_cons (ps_set (i := 3) scTake.nd rfl (Or.inl rfl) (pe_op op_mod (pe_op op_pow (pe_op op_add (pv 3) (pe_op op_mul pe_int (pe_ix ix_list (pv 0) pe_int (fun _ _ => rfl)))) pe_int) pe_int))
      (pss_one (ps_ret (pe_op op_mod (pe_op op_fdiv (pv 3) pe_int) (pv 1))))))), ?_⟩
    have hL : SqL K H b [.int x, .int y, .int z] := SqL.of hb
    refine ⟨_, rfl, b, _, _, _, rfl, rfl, hL, i0 _ _ _, _, _, rfl, rfl, _, rfl, ite2 (fun c => ?_) (fun c => ?_)⟩
    · refine ⟨_, rfl, b, _, _, _, rfl, rfl, hL, i0 _ _ _, _, rfl, _, _, rfl, rfl, m0, ?_⟩
      refine ⟨_, rfl, b, _, _, _, rfl, rfl, hL, i0 _ _ _, _, rfl, _, _, rfl, rfl, ⟨m0, ml⟩, ?_⟩
      refine ⟨_, rfl, b, _, _, _, rfl, rfl, hb, j0, ?_⟩
      refine ⟨_, rfl, ?_⟩
      exact k _ _ (Int.emod_nonneg _ (by omega)) (Int.emod_lt_of_pos _ m0) (fun a na => upd_ne na) ⟨_, _, _, upd_same, Int.ediv_nonneg x0 (by omega), y0, y1, z0, by omega⟩
    · refine ⟨_, rfl, b, _, _, _, rfl, rfl, hL, i2 _ _ _, _, _, rfl, rfl, ?_⟩
      refine ⟨_, rfl, b, _, _, _, rfl, rfl, hb, j2, ?_⟩
      have h1 : upd H b (.lst ([V.int x, .int y, .int z].set 2 (.int (z + 1)))) b = some (.lst [.int x, .int y, .int (z + 1)]) := upd_same
      have hL1 : SqL K (upd H b (.lst ([V.int x, .int y, .int z].set 2 (.int (z + 1))))) b [.int x, .int y, .int (z + 1)] := SqL.of h1
      refine ⟨_, rfl, b, _, _, _, rfl, rfl, hL1, i1 _ _ _, _, rfl, b, _, _, _, rfl, rfl, hL1, i2 _ _ _, _, _, rfl, rfl, .inl ⟨by decide, by decide⟩, _, _, rfl, rfl, _, _, rfl, rfl,
        _, _, rfl, rfl, ⟨by decide, by decide, ?_⟩, _, _, rfl, rfl, (by show (0 : Int) < 2147483647; decide), ?_⟩
      · omega
      refine ⟨_, rfl, _, rfl, b, _, _, _, rfl, rfl, hL1, i2 _ _ _, _, _, rfl, rfl, .inl ⟨by decide, by decide⟩, _, _, rfl, rfl,
        _, _, rfl, rfl, ⟨by decide, by decide, ?_⟩, _, _, rfl, rfl, (by show (0 : Int) < 2147483587; decide), ?_⟩
      · have g0 := Int.emod_nonneg ((y + 7919 * (z + 1) + 29) ^ (5 : Int).toNat) (show (2147483647 : Int) ≠ 0 by decide)
        have g1 := Int.emod_lt_of_pos ((y + 7919 * (z + 1) + 29) ^ (5 : Int).toNat) (show (0 : Int) < 2147483647 by decide)
        generalize (y + 7919 * (z + 1) + 29) ^ (5 : Int).toNat % 2147483647 = q at g0 g1 ⊢
        omega
      refine ⟨_, rfl, _, _, rfl, rfl, ⟨by decide, by decide⟩, _, rfl, _, _, rfl, rfl, m0, ?_⟩
      exact k _ _ (Int.emod_nonneg _ (by omega)) (Int.emod_lt_of_pos _ m0) (fun a na => upd_ne na) ⟨_, _, _, h1, x0, y0, y1, by omega, by omega⟩
end
end K6


set_option maxRecDepth 100000
set_option maxHeartbeats 4000000
/-! Data in the heap, kept by steps that change a box, a table. -/
namespace My
open PySem PySem.Spec PyProof.Rows L2 GxR Gd TL
/-- all but tables stays -/
def Nt (H H' : Hp) : Prop := ∀ c o, (∀ ps, o ≠ .tbl ps) → H c = some o → H' c = some o
theorem Nt.refl (H : Hp) : Nt H H := fun _ _ _ h => h
theorem Nt.trans {H H1 H2 : Hp} (a : Nt H H1) (b : Nt H1 H2) : Nt H H2 := fun c o n h => b c o n (a c o n h)
theorem KT.nt {P : Addr} {H H' : Hp} (t : TabG H P) (k : KT P H H') : Nt H H' := fun c o n h => k.keep c o (ne_tab t h n) h
theorem Nt.alloc {H : Hp} {p : Addr} {o : HO} (n : H p = none) : Nt H (upd H p o) := fun c u _ h => by rw [upd_ne (ne_of_none h n)]; exact h
/-- the heap but the box -/
def hide (b : Addr) (H : Hp) : Hp := fun c => if c = b then none else H c
theorem hide_ne {b c : Addr} {H : Hp} (h : c ≠ b) : hide b H c = H c := if_neg h
theorem hide_some {b c : Addr} {H : Hp} {o : HO} (h : hide b H c = some o) : c ≠ b ∧ H c = some o := by
  unfold hide at h
  by_cases q : c = b
  · rw [if_pos q] at h
    cases h
  · rw [if_neg q] at h
    exact ⟨q, h⟩
theorem KB.nt {b : Addr} {H H' : Hp} (k : KB b H H') : Nt (hide b H) (hide b H') := fun c o _ h => by
  obtain ⟨n, h⟩ := hide_some h
  rw [hide_ne n]
  exact k c o n h
theorem hide_nt (b : Addr) (H : Hp) : Nt (hide b H) H := fun c o _ h => (hide_some h).2
theorem Nt.seq {K : PySem.W.Frag} {H H' : Hp} {a : Addr} {xs : List V} (e : Nt H H') (h : SqL K H a xs) : SqL K H' a xs := by
  rcases h with (h | ⟨o, h⟩) | h
  · exact .inl (.inl (e _ _ (by simp) h))
  · exact .inl (.inr ⟨o, e _ _ (by simp) h⟩)
  · exact .inr h
theorem Nt.seqT {K : PySem.W.Frag} {H H' : Hp} {a : Addr} {xs : List V} (e : Nt H H') (h : SqT K H a xs) : SqT K H' a xs := by
  rcases h with (h | ⟨o, h⟩) | h
  · exact .inl (.inl (e _ _ (by simp) h))
  · exact .inl (.inr ⟨o, e _ _ (by simp) h⟩)
  · exact .inr h
section
variable {K : PySem.W.Frag} {H H' : Hp}
mutual
theorem dp_nt (e : Nt H H') : ∀ {v : V} {d : PyData}, Dp K H v d → Dp K H' v d
  | _, _, .non => .non
  | _, _, .bl b => .bl b
  | _, _, .int i => .int i
  | _, _, .str z => .str z
  | _, _, .lst h a => .lst (e.seq h) (dpAll_nt e a)
  | _, _, .tup h a => .tup (e.seqT h) (dpAll_nt e a)
theorem dpAll_nt (e : Nt H H') : ∀ {vs : List V} {ds : List PyData}, DpAll K H vs ds → DpAll K H' vs ds
  | _, _, .nil => .nil
  | _, _, .cons h t => .cons (dp_nt e h) (dpAll_nt e t)
end
theorem dp_list {v : V} {ds : List PyData} (h : Dp K H v (.list ds)) : ∃ a xs, v = .ref a ∧ SqL K H a xs ∧ DpAll K H xs ds := by
  cases h with
  | lst h a => exact ⟨_, _, rfl, h, a⟩
theorem dp_tuple {v : V} {ds : List PyData} (h : Dp K H v (.tuple ds)) : ∃ a xs, v = .ref a ∧ SqT K H a xs ∧ DpAll K H xs ds := by
  cases h with
  | tup h a => exact ⟨_, _, rfl, h, a⟩
theorem dp_str {v : V} {z : Str} (h : Dp K H v (.str z)) : v = .str z := by
  cases h
  rfl
theorem dp_int {v : V} {i : Int} (h : Dp K H v (.int i)) : v = .int i := by
  cases h
  rfl
theorem dp_none {v : V} (h : Dp K H v .none) : v = .non := by
  cases h
  rfl
theorem dpAll_len : ∀ {xs : List V} {ds : List PyData}, DpAll K H xs ds → xs.length = ds.length
  | _, _, .nil => rfl
  | _, _, .cons _ t => congrArg (· + 1) (dpAll_len t)
theorem dpAll_get : ∀ {xs : List V} {ds : List PyData}, DpAll K H xs ds → ∀ {i : Nat} {x : V}, xs[i]? = some x → ∃ d, ds[i]? = some d ∧ Dp K H x d
  | _, _, .nil, _, _, h => by simp at h
  | _, _, .cons a _, 0, _, h => by simp at h; subst h; exact ⟨_, rfl, a⟩
  | _, _, .cons _ t, i + 1, x, h => by
    obtain ⟨d, h1, h2⟩ := dpAll_get t (i := i) (x := x) (by simpa using h)
    exact ⟨d, by simpa using h1, h2⟩
theorem dpAll_at : ∀ {xs : List V} {ds : List PyData}, DpAll K H xs ds → ∀ {i : Nat} {d : PyData}, ds[i]? = some d → ∃ x, xs[i]? = some x ∧ Dp K H x d
  | _, _, .nil, _, _, h => by simp at h
  | _, _, .cons a _, 0, _, h => by simp at h; subst h; exact ⟨_, rfl, a⟩
  | _, _, .cons _ t, i + 1, d, h => by
    obtain ⟨x, h1, h2⟩ := dpAll_at t (i := i) (d := d) (by simpa using h)
    exact ⟨x, by simpa using h1, h2⟩
theorem dpAll_app : ∀ {xs ys : List V} {ds es : List PyData}, DpAll K H xs ds → DpAll K H ys es → DpAll K H (xs ++ ys) (ds ++ es)
  | _, _, _, _, .nil, h => h
  | _, _, _, _, .cons a t, h => .cons a (dpAll_app t h)
theorem dp_two {v : V} {c d : PyData} (h : Dp K H v (.tuple [c, d])) : ∃ a x y, v = .ref a ∧ SqT K H a [x, y] ∧ Dp K H x c ∧ Dp K H y d := by
  obtain ⟨a, xs, rfl, h1, h2⟩ := dp_tuple h
  cases h2 with
  | cons p t =>
    cases t with
    | cons q t =>
      cases t
      exact ⟨a, _, _, rfl, h1, p, q⟩
theorem dp_three {v : V} {c d e : PyData} (h : Dp K H v (.tuple [c, d, e])) : ∃ a x y z, v = .ref a ∧ SqT K H a [x, y, z] ∧ Dp K H x c ∧ Dp K H y d ∧ Dp K H z e := by
  obtain ⟨a, xs, rfl, h1, h2⟩ := dp_tuple h
  cases h2 with
  | cons p t =>
    cases t with
    | cons q t =>
      cases t with
      | cons r t =>
        cases t
        exact ⟨a, _, _, _, rfl, h1, p, q, r⟩
theorem dp_four {v : V} {c d e f : PyData} (h : Dp K H v (.list [c, d, e, f])) : ∃ a x y z u, v = .ref a ∧ SqL K H a [x, y, z, u] ∧ Dp K H x c ∧ Dp K H y d ∧ Dp K H z e ∧ Dp K H u f := by
  obtain ⟨a, xs, rfl, h1, h2⟩ := dp_list h
  cases h2 with
  | cons p t =>
    cases t with
    | cons q t =>
      cases t with
      | cons r t =>
        cases t with
        | cons s t =>
          cases t
          exact ⟨a, _, _, _, _, rfl, h1, p, q, r, s⟩
end
/-! ### names that are good, worlds of lines -/
def NameOk (z : Str) : Prop := 1 ≤ z.length ∧ z.length ≤ 6 ∧ z.cps.toList.all lc = true
theorem NameOk.good {z : Str} (h : NameOk z) : Good z := fun c hc => by
  have := List.all_eq_true.mp h.2.2 c hc
  unfold lc at this
  simp at this
  omega
theorem NameOk.nm {z : Str} (h : NameOk z) : nm (.str z) = true := by
  obtain ⟨h1, h2, h3⟩ := h
  simp [My.nm, h1, h2, h3]
theorem NameOk.th {z : Str} {H : Hp} (h : NameOk z) : Th H (.str z) := .str z (by have := h.2.1; omega) h.good
structure Wd where
  ps : List (Str × Int)
  st : List (Str × Int)
  lo : List (Int × Int × Int)
  sp : Str
def longsOk (top : Int) : Int → List (Int × Int × Int) → Prop
  | _, [] => True
  | low, (f, l, h) :: r => low ≤ f ∧ f + 2 ≤ l ∧ l ≤ top ∧ 0 ≤ h ∧ h ≤ 1 ∧ longsOk top l r
structure Wd.Ok (w : Wd) : Prop where
  p2 : 2 ≤ w.ps.length
  p6 : w.ps.length ≤ 6
  nm : ∀ p ∈ w.ps, NameOk p.1 ∧ 1 ≤ p.2 ∧ p.2 ≤ 3
  nd : (w.ps.map (·.1)).Nodup
  sl : w.st.length + 1 = w.ps.length
  st : ∀ p ∈ w.st, (p.1 = "staff" ∨ p.1 = "ticket") ∧ 0 ≤ p.2 ∧ p.2 ≤ 1
  ll : w.lo.length ≤ 2
  lo : longsOk (w.ps.length - 1 : Nat) 0 w.lo
  sn : NameOk w.sp
  s0 : w.sp ∉ w.ps.map (·.1)
def dP (p : Str × Int) : PyData := .tuple [.str p.1, .int p.2]
def dL (p : Int × Int × Int) : PyData := .tuple [.int p.1, .int p.2.1, .int p.2.2]
def Wd.data (w : Wd) : PyData := .list [.list (w.ps.map dP), .list (w.st.map dP), .list (w.lo.map dL), .str w.sp]
end My

set_option maxRecDepth 100000
set_option maxHeartbeats 4000000
namespace K6
open PySem PySem.Spec PyProof.Rows L2 GxR Gd TL My
/-- a list or a tuple -/
def SqX (K : PySem.W.Frag) (H : Hp) (a : Addr) (xs : List V) : Prop := SqL K H a xs ∨ SqT K H a xs
theorem same_nt {H H' : Hp} (e : Same H H') : Nt H H' := fun c o _ h => e c o h
theorem same_alloc {H : Hp} {p : Addr} {o : HO} (n : H p = none) : Same H (upd H p o) := fun c u h => by rw [upd_ne (ne_of_none h n)]; exact h
theorem same_kt {Pt : Addr} {H H' : Hp} (t : TabG H Pt) (e : Same H H') : KT Pt H H' := by
  obtain ⟨ps, h1, h2⟩ := t
  exact ⟨fun c o _ h => e c o h, ps, e _ _ h1, h2⟩
theorem SqX.nt {K : PySem.W.Frag} {H H' : Hp} {a : Addr} {xs : List V} (e : Nt H H') (h : SqX K H a xs) : SqX K H' a xs := h.elim (fun q => .inl (e.seq q)) fun q => .inr (e.seqT q)
theorem ty_seqL {K : PySem.W.Frag} {H : Hp} {a : Addr} {xs : List V} (h : SqL K H a xs) : TyX K H (.ref a) (.type "list") := by
  rcases h with (h | ⟨o, h⟩) | ⟨o, its, n, h1, h2, _⟩
  · exact .base (.lst h)
  · exact .base (.frz h)
  · exact .kList h1 h2
theorem ty_seqT {K : PySem.W.Frag} {H : Hp} {a : Addr} {xs : List V} (h : SqT K H a xs) : TyX K H (.ref a) (.type "tuple") := by
  rcases h with (h | ⟨o, h⟩) | ⟨o, its, n, h1, h2, _⟩
  · exact .base (.tup h)
  · exact .fTuple h
  · exact .kTuple h1 h2
section
variable {P : Program} {w : World} {K : PySem.W.Frag} {mg : Str → Option Value} {base : Heap}
abbrev s_is_list : Stmt := top 14
theorem sc_is_list : FnScope ["thing", "low", "high"] ["thing", "low", "high"] (defScope s_is_list) := ⟨rfl, rfl, rfl, by decide +kernel, rfl, by decide +kernel, by decide +kernel⟩
def spIsList (K : PySem.W.Frag) : Sp := fun vs H Q _ => ∃ (a : Addr) (lo hi : Int) (xs : List V), vs = [.ref a, .int lo, .int hi] ∧ SqX K H a xs ∧ ∀ H', Same H H' → Q (.bl (decide (lo ≤ (xs.length : Int)) && decide ((xs.length : Int) ≤ hi))) H'
theorem ok_is_list {f : Addr} {fd : FuncData} (F : Fun K "is_list" "is_list" s_is_list f fd) (T : Txt mg) : FnOk P w K mg base CX0 1 f fd ["thing", "low", "high"] (spIsList K) := by
  refine F.ok sc_is_list (fun vs H Q E h => ?_) (fun cdv A outer s H vs Q E hr h => ?_)
  · obtain ⟨a, lo, hi, xs, rfl, _⟩ := h
    rfl
  · obtain ⟨a, lo, hi, xs, rfl, hX, k⟩ := h
    refine ⟨_, pss_one (ps_ret (pe_and (pe_callB call_isiT (by rfl) T.isinstance_ (by decide +kernel) (pa_cons (pv 0) (pa_cons (pe_tup (pa_cons (pe_bltn (v := .ty "list") (by rfl) T.list_ (by decide +kernel) rfl) (pa_cons (pe_bltn (v := .ty "tuple") (by rfl) T.tuple_ (by decide +kernel) rfl) pa_nil))) pa_nil))) (pe_one (pe_chain op_le op_le (pv 1) (pe_callB call_len_seq (by rfl) T.len_ PySem.boot_len (pa_cons (pv 0) pa_nil)) (pv 2))))), ?_⟩
    refine ⟨_, rfl, (by show 2 ≤ sizeLine; decide), fun t ht => ?_⟩
    have e := same_alloc (o := .tup [.ty "list", .ty "tuple"]) ht
    have hX' := SqX.nt (same_nt e) hX
    have fin : ∃ c, V.bl true = .bl c ∧ if c = true then tChain (rI0 fun i j => .bl (decide (i ≤ j))) (rI0 fun i j => .bl (decide (i ≤ j))) (tVar 1) (tCB (fun xs H Q => ∃ p ys, xs = [.ref p] ∧ (SqL K H p ys ∨ SqT K H p ys) ∧ Q (.int ys.length) H) (tCons (tVar 0) tNil)) (tVar 2) [some (.ref a), some (.int lo), some (.int hi)] (upd H t (.tup [.ty "list", .ty "tuple"])) Q else Q (.bl false) (upd H t (.tup [.ty "list", .ty "tuple"])) := by
      refine ⟨_, rfl, iteT ?_⟩
      refine ⟨_, rfl, _, rfl, a, xs, rfl, hX', _, _, rfl, rfl, _, rfl, ite2 (fun c => ?_) (fun c => ?_)⟩
      · refine ⟨_, rfl, _, _, rfl, rfl, ?_⟩
        have q := k _ e
        rw [c, Bool.true_and] at q
        exact q
      · have q := k _ e
        rw [show decide (lo ≤ (xs.length : Int)) = false by simpa using c, Bool.false_and] at q
        exact q
    rcases hX' with hL | hT
    · exact ⟨_, t, _, _, [.type "list", .type "tuple"], true, rfl, upd_same, .cons (.ty _) (.cons (.ty _) .nil), ty_seqL hL, (by rfl), fin⟩
    · exact ⟨_, t, _, _, [.type "list", .type "tuple"], true, rfl, upd_same, .cons (.ty _) (.cons (.ty _) .nil), ty_seqT hT, (by rfl), fin⟩
abbrev s_is_tuple : Stmt := top 15
theorem sc_is_tuple : FnScope ["thing", "many"] ["thing", "many"] (defScope s_is_tuple) := ⟨rfl, rfl, rfl, by decide +kernel, rfl, by decide +kernel, by decide +kernel⟩
def spIsTuple (K : PySem.W.Frag) : Sp := fun vs H Q _ => ∃ (a : Addr) (n : Int) (xs : List V), vs = [.ref a, .int n] ∧ SqT K H a xs ∧ Q (.bl (decide ((xs.length : Int) = n))) H
theorem ok_is_tuple {f : Addr} {fd : FuncData} (F : Fun K "is_tuple" "is_tuple" s_is_tuple f fd) (T : Txt mg) : FnOk P w K mg base CX0 1 f fd ["thing", "many"] (spIsTuple K) := by
  refine F.ok sc_is_tuple (fun vs H Q E h => ?_) (fun cdv A outer s H vs Q E hr h => ?_)
  · obtain ⟨a, n, xs, rfl, _⟩ := h
    rfl
  · obtain ⟨a, n, xs, rfl, hT, k⟩ := h
    refine ⟨_, pss_one (ps_ret (pe_and (pe_callB call_isi (by rfl) T.isinstance_ (by decide +kernel) (pa_cons (pv 0) (pa_cons (pe_bltn (v := .ty "tuple") (by rfl) T.tuple_ (by decide +kernel) rfl) pa_nil))) (pe_one (pe_cmpR op_eq (pe_callB call_len_seq (by rfl) T.len_ PySem.boot_len (pa_cons (pv 0) pa_nil)) (pv 1) (nomark _))))), ?_⟩
    refine ⟨_, rfl, _, _, _, _, true, rfl, .ty "tuple", ty_seqT hT, (by rfl), _, rfl, iteT ?_⟩
    refine ⟨_, rfl, a, xs, rfl, .inr hT, _, rfl, rfl, ?_⟩
    have e : decide (V.int (xs.length : Int) = V.int n) = decide ((xs.length : Int) = n) := by simp
    show Q (.bl (decide (V.int (xs.length : Int) = V.int n))) H
    rw [e]
    exact k
abbrev s_check_place : Stmt := top 18
theorem sc_check_place : FnScope ["place", "ahead", "name", "roads"] ["place", "ahead"] (defScope s_check_place) := ⟨rfl, rfl, rfl, by decide +kernel, rfl, by decide +kernel, by decide +kernel⟩
def spCheckPlace (K : PySem.W.Frag) (Pt : Addr) : Sp := fun vs H Q _ => ∃ (t l : Addr) (z : Str) (r : Int) (as : List Str), vs = [.ref t, .ref l] ∧ SqT K H t [.str z, .int r] ∧ NameOk z ∧ 1 ≤ r ∧ r ≤ 3 ∧ SqL K H l (as.map V.str) ∧ z ∉ as ∧ TabG H Pt ∧ ∀ H', KT Pt H H' → Q .non H'
theorem flat_strs (as : List Str) : (as.map V.str).all flatV = true := by
  induction as with
  | nil => rfl
  | cons a r ih => simpa [flatV] using ih
theorem inV_strs {z : Str} {as : List Str} (h : z ∉ as) : inV (.str z) (as.map V.str) = false := by
  unfold inV
  rw [List.any_map, ← Bool.not_eq_true, List.any_eq_true]
  rintro ⟨y, hy, e⟩
  have e' : (y == z) = true := e
  exact h (eq_of_beq e' ▸ hy)
theorem ok_check_place {f fTu fNa fWh Pt : Addr} {fd fdTu fdNa fdWh : FuncData} (F : Fun K "_check_place" "_check_place" s_check_place f fd) (T : Txt mg)
    (Nis_tuple : Fn K mg "is_tuple" s_is_tuple ["thing", "many"] fTu fdTu) (Gis_tuple : FnOk P w K mg base CX0 1 fTu fdTu ["thing", "many"] (spIsTuple K))
    (Nis_name : Fn K mg "is_name" sName ["thing"] fNa fdNa) (Gis_name : FnOk P w K mg base CX0 2 fNa fdNa ["thing"] (spName Pt))
    (Nis_whole : Fn K mg "is_whole" sWhole ["thing", "low", "high"] fWh fdWh) (Gis_whole : FnOk P w K mg base CX0 1 fWh fdWh ["thing", "low", "high"] spWhole) :
    FnOk P w K mg base CX0 3 f fd ["place", "ahead"] (spCheckPlace K Pt) := by
  refine F.ok sc_check_place (fun vs H Q E h => ?_) (fun cdv A outer s H vs Q E hr h => ?_)
  · obtain ⟨t, l, z, r, as, rfl, _⟩ := h
    rfl
  · obtain ⟨t, l, z, r, as, rfl, hT, hz, r1, r3, hl, hn, tb, k⟩ := h
    refine ⟨_, pss_cons (ps_if (pt_not (pt_val (pe_call Gis_tuple (hr.mono (by decide)) (by rfl) Nis_tuple.g Nis_tuple.kp Nis_tuple.b .nil pass0 (pa_cons (pv 0) (pa_cons pe_int pa_nil))))) (pss_one ps_never) pss_nil)
      (pss_cons (ps_asg (pv 0) (pg_tup (by rfl) (pgs_cons (pg_name (i := 2) sc_check_place.nd rfl (Or.inl rfl)) (pgs_cons (pg_name (i := 3) sc_check_place.nd rfl (Or.inl rfl)) pgs_nil))))
      (pss_cons (ps_if (pt_not (pt_val (pe_call Gis_name (hr.mono (by decide)) (by rfl) Nis_name.g Nis_name.kp Nis_name.b .nil pass0 (pa_cons (pv 2) pa_nil)))) (pss_one ps_never) pss_nil)
      (pss_cons (ps_if (pt_cmpR op_in_seq (pv 2) (pv 1) rfl) (pss_one ps_never) pss_nil)
      (pss_one (ps_if (pt_not (pt_val (pe_call Gis_whole (hr.mono (by decide)) (by rfl) Nis_whole.g Nis_whole.kp Nis_whole.b .nil pass0 (pa_cons (pv 3) (pa_cons pe_int (pa_cons pe_int pa_nil)))))) (pss_one ps_never) pss_nil))))), ?_⟩
    refine ⟨_, rfl, t, 2, _, rfl, hT, _, rfl, iteF ?_⟩
    refine ⟨_, rfl, t, _, rfl, hT, rfl, _, _, rfl, _, _, rfl, rfl, ?_⟩
    refine ⟨_, rfl, .str z, rfl, hz.th, tb, fun H1 k1 => ?_⟩
    rw [hz.nm]
    refine ⟨_, rfl, iteF ?_⟩
    have n1 := KT.nt tb k1
    refine ⟨_, rfl, _, rfl, l, _, rfl, .inl (n1.seq hl), rfl, flat_strs as, ?_⟩
    refine ⟨_, rfl, ?_⟩
    show if inV (.str z) (as.map V.str) = true then _ else _
    rw [inV_strs hn]
    refine iteF ?_
    refine ⟨_, rfl, .int r, 1, 3, rfl, .int r, ?_⟩
    have e : wh 1 3 (.int r) = true := by simp [wh, r1, r3]
    rw [e]
    exact ⟨_, rfl, iteF (k H1 k1)⟩
end
end K6

set_option maxRecDepth 100000
set_option maxHeartbeats 4000000
namespace K6
open PySem PySem.Spec PyProof.Rows L2 GxR Gd TL My
theorem get_map {α β : Type} {f : α → β} {l : List α} {i : Nat} {d : β} (h : (l.map f)[i]? = some d) : ∃ p, l[i]? = some p ∧ d = f p := by
  rw [List.getElem?_map] at h
  cases e : l[i]? with
  | none =>
    rw [e] at h
    cases h
  | some p =>
    rw [e] at h
    exact ⟨p, rfl, (Option.some.inj h).symm⟩
theorem take_at {α : Type} {l : List α} {i : Nat} {x : α} (h : l[i]? = some x) : l.take (i + 1) = l.take i ++ [x] := by
  rw [List.take_add_one, h]
  rfl
theorem fresh_name {ps : List (Str × Int)} (nd : (ps.map (·.1)).Nodup) {i : Nat} {p : Str × Int} (h : ps[i]? = some p) : p.1 ∉ (ps.take i).map (·.1) := by
  have hi := (List.getElem?_eq_some_iff.mp h).1
  intro hm
  obtain ⟨q, hq, e⟩ := List.mem_map.mp hm
  obtain ⟨j, hj, eq⟩ := List.getElem_of_mem hq
  have hj' : j < i := by
    have := hj
    rw [List.length_take] at this
    omega
  rw [List.getElem_take] at eq
  have e1 : (ps.map (·.1))[j]? = some p.1 := by
    rw [List.getElem?_map, List.getElem?_eq_getElem (by omega), eq]
    simp [e]
  have e2 : (ps.map (·.1))[i]? = some p.1 := by
    rw [List.getElem?_map, h]
    rfl
  have nd2 : (ps.map (·.1)).Pairwise (· ≠ ·) := nd
  have hjl : j < (ps.map (·.1)).length := by rw [List.length_map]; omega
  have hil : i < (ps.map (·.1)).length := by rw [List.length_map]; exact hi
  have z := List.pairwise_iff_getElem.mp nd2 j i hjl hil hj'
  rw [List.getElem?_eq_getElem hjl] at e1
  rw [List.getElem?_eq_getElem hil] at e2
  exact z ((Option.some.inj e1).trans (Option.some.inj e2).symm)
theorem KT.put {Pt L : Addr} {H H' : Hp} {o : HO} (k : KT Pt H H') (n : H L = none) (np : L ≠ Pt) : KT Pt H (upd H' L o) := by
  obtain ⟨k1, ps, e, t⟩ := k
  exact ⟨fun c u q h => by rw [upd_ne (ne_of_none h n)]; exact k1 c u q h, ps, by rw [upd_ne np.symm]; exact e, t⟩
theorem longs_get {top : Int} : ∀ {low : Int} {lo : List (Int × Int × Int)}, longsOk top low lo → ∀ {i : Nat} {p : Int × Int × Int}, lo[i]? = some p →
    (((lo.take i).getLast?.map fun q => q.2.1).getD low) ≤ p.1 ∧ p.1 + 2 ≤ p.2.1 ∧ p.2.1 ≤ top ∧ 0 ≤ p.2.2 ∧ p.2.2 ≤ 1
  | _, [], _, _, _, h => by simp at h
  | low, (f, l, h) :: r, hk, 0, p, e => by
    simp at e
    subst e
    obtain ⟨h1, h2, h3, h4, h5, _⟩ := hk
    exact ⟨by simpa using h1, h2, h3, h4, h5⟩
  | low, (f, l, h) :: r, hk, i + 1, p, e => by
    obtain ⟨h1, h2, h3, h4, h5, h6⟩ := hk
    have ih := longs_get h6 (i := i) (p := p) (by simpa using e)
    refine ⟨?_, ih.2⟩
    have e1 : ((f, l, h) :: r).take (i + 1) = (f, l, h) :: r.take i := rfl
    rw [e1, List.getLast?_cons]
    cases q : (r.take i).getLast? with
    | none =>
      have := ih.1
      rw [q] at this
      simpa using this
    | some z =>
      have := ih.1
      rw [q] at this
      simpa using this
section
variable {P : Program} {w : World} {K : PySem.W.Frag} {mg : Str → Option Value} {base : Heap}
abbrev s_check_places : Stmt := top 17
theorem sc_check_places : FnScope ["places", "ahead", "place"] ["places"] (defScope s_check_places) := ⟨rfl, rfl, rfl, by decide +kernel, rfl, by decide +kernel, by decide +kernel⟩
def spCheckPlaces (K : PySem.W.Frag) (Pt : Addr) : Sp := fun vs H Q _ => ∃ (a : Addr) (xs : List V) (ps : List (Str × Int)), vs = [.ref a] ∧ SqX K H a xs ∧ DpAll K H xs (ps.map dP) ∧ 2 ≤ ps.length ∧ ps.length ≤ 6 ∧
  (∀ p ∈ ps, NameOk p.1 ∧ 1 ≤ p.2 ∧ p.2 ≤ 3) ∧ (ps.map (·.1)).Nodup ∧ TabG H Pt ∧ ∀ H', KT Pt H H' → Q .non H'
theorem ok_check_places {f fL fC Pt : Addr} {fd fdL fdC : FuncData} (F : Fun K "_check_places" "_check_places" s_check_places f fd) (T : Txt mg)
    (Nis_list : Fn K mg "is_list" s_is_list ["thing", "low", "high"] fL fdL) (Gis_list : FnOk P w K mg base CX0 1 fL fdL ["thing", "low", "high"] (spIsList K))
    (Ncheck_place : Fn K mg "_check_place" s_check_place ["place", "ahead"] fC fdC) (Gcheck_place : FnOk P w K mg base CX0 3 fC fdC ["place", "ahead"] (spCheckPlace K Pt)) :
    FnOk P w K mg base CX0 4 f fd ["places"] (spCheckPlaces K Pt) := by
  refine F.ok sc_check_places (fun vs H Q E h => ?_) (fun cdv A outer s H vs Q E hr h => ?_)
  · obtain ⟨a, xs, ps, rfl, _⟩ := h
    rfl
  · obtain ⟨a, xs, ps, rfl, hX, hd, p2, p6, ok, nd, tb, k⟩ := h
    rcases id hX with hL | hT
    · skip
      refine ⟨_, pss_cons (ps_if (pt_not (pt_val (pe_call Gis_list (hr.mono (by decide)) (by rfl) Nis_list.g Nis_list.kp Nis_list.b .nil pass0 (pa_cons (pv 0) (pa_cons pe_int (pa_cons pe_int pa_nil)))))) (pss_one ps_never) pss_nil)
      (pss_cons (ps_set (i := 1) sc_check_places.nd rfl (Or.inl rfl) (pe_lst pa_nil))
      (pss_one (ps_for PassesOwn.never rfl (pi_list (pv 0)) (pg_name (i := 2) sc_check_places.nd rfl (Or.inl rfl)) (pss_cons (ps_expr (pe_call Gcheck_place (hr.mono (by decide)) (by rfl) Ncheck_place.g Ncheck_place.kp Ncheck_place.b .nil pass0 (pa_cons (pv 2) (pa_cons (pv 1) pa_nil))))
          (pss_one (ps_expr (pe_bm PySem.F.plainAttrs_list PySem.F.slot_list_append PySem.F.type_list_append mt_append (pv 1) (pa_cons (pe_ix ix_tup (pv 2) pe_int (fun _ _ => rfl)) pa_nil)))))))), ?_⟩
      refine ⟨_, rfl, a, 2, 6, xs, rfl, hX, fun H1 s1 => ?_⟩
      have el : (xs.length : Int) = (ps.length : Int) := by rw [dpAll_len hd, List.length_map]
      rw [el, show decide ((2 : Int) ≤ (ps.length : Int)) = true from decide_eq_true (by omega), show decide ((ps.length : Int) ≤ 6) = true from decide_eq_true (by omega)]
      refine ⟨_, rfl, iteF ?_⟩
      refine ⟨Nat.zero_le _, fun L hL0 => ?_⟩
      have hLn : H L = none := s1.free hL0
      have kA := (same_kt tb s1).trans (KT.alloc (o := .lst []) (same_kt tb s1).tab hL0)
      have HX := Nt.seq (KT.nt tb kA) hL
      refine ⟨_, rfl, a, rfl, ⟨_, HX⟩, for_list (K := K) (a := a) (xs := xs) (fun i σ H' => ∃ v : Option V, σ = [some (.ref a), some (.ref L), v] ∧ H' L = some (.lst (((ps.take i).map (·.1)).map V.str)) ∧ KT Pt H H')
        ⟨_, rfl, upd_same, kA⟩ (fun i σ H' _ ⟨_, _, _, q⟩ => Nt.seq (KT.nt tb q) hL) ?_ ?_⟩
      · rintro i x σ H2 hx ⟨v, rfl, eL, k2⟩
        obtain ⟨d, hd1, hd2⟩ := dpAll_get hd hx
        obtain ⟨p, hp, rfl⟩ := get_map hd1
        obtain ⟨t, x1, x2, rfl, ht, q1, q2⟩ := dp_two hd2
        obtain rfl := dp_str q1
        obtain rfl := dp_int q2
        have ht2 := Nt.seqT (KT.nt tb k2) ht
        have hpm := List.mem_of_getElem? hp
        obtain ⟨m1, m2, m3⟩ := ok p hpm
        refine ⟨_, rfl, _, rfl, t, L, p.1, p.2, (ps.take i).map (·.1), rfl, ht2, m1, m2, m3, SqL.of eL, fresh_name nd hp, k2.tab, fun H3 k3 => ?_⟩
        have eL3 : H3 L = some (.lst (((ps.take i).map (·.1)).map V.str)) := KT.nt k2.tab k3 L _ (by simp) eL
        have ht3 := Nt.seqT (KT.nt tb (k2.trans k3)) ht
        have nLP : L ≠ Pt := ne_tab k3.tab eL3 (by simp)
        have hi := (List.getElem?_eq_some_iff.mp hp).1
        refine ⟨_, rfl, .inl ⟨rfl, _, SqL.of eL3⟩, _, rfl, t, _, 0, .str p.1, rfl, rfl, ht3, rfl, L, _, _, rfl, rfl, eL3, ?_, ?_⟩
        · rw [List.length_map, List.length_map, List.length_take]
          exact small1000 (by omega)
        · refine ⟨_, rfl, ?_, KT.put (k2.trans k3) hLn nLP⟩
          rw [upd_same, take_at hp, List.map_append, List.map_append]
          rfl
      · rintro σ H2 ⟨v, rfl, eL, k2⟩
        exact k H2 k2
    · skip
      refine ⟨_, pss_cons (ps_if (pt_not (pt_val (pe_call Gis_list (hr.mono (by decide)) (by rfl) Nis_list.g Nis_list.kp Nis_list.b .nil pass0 (pa_cons (pv 0) (pa_cons pe_int (pa_cons pe_int pa_nil)))))) (pss_one ps_never) pss_nil)
      (pss_cons (ps_set (i := 1) sc_check_places.nd rfl (Or.inl rfl) (pe_lst pa_nil))
      (pss_one (ps_for PassesOwn.never rfl (pi_tup (pv 0)) (pg_name (i := 2) sc_check_places.nd rfl (Or.inl rfl)) (pss_cons (ps_expr (pe_call Gcheck_place (hr.mono (by decide)) (by rfl) Ncheck_place.g Ncheck_place.kp Ncheck_place.b .nil pass0 (pa_cons (pv 2) (pa_cons (pv 1) pa_nil))))
          (pss_one (ps_expr (pe_bm PySem.F.plainAttrs_list PySem.F.slot_list_append PySem.F.type_list_append mt_append (pv 1) (pa_cons (pe_ix ix_tup (pv 2) pe_int (fun _ _ => rfl)) pa_nil)))))))), ?_⟩
      refine ⟨_, rfl, a, 2, 6, xs, rfl, hX, fun H1 s1 => ?_⟩
      have el : (xs.length : Int) = (ps.length : Int) := by rw [dpAll_len hd, List.length_map]
      rw [el, show decide ((2 : Int) ≤ (ps.length : Int)) = true from decide_eq_true (by omega), show decide ((ps.length : Int) ≤ 6) = true from decide_eq_true (by omega)]
      refine ⟨_, rfl, iteF ?_⟩
      refine ⟨Nat.zero_le _, fun L hL0 => ?_⟩
      have hLn : H L = none := s1.free hL0
      have kA := (same_kt tb s1).trans (KT.alloc (o := .lst []) (same_kt tb s1).tab hL0)
      have HX := Nt.seqT (KT.nt tb kA) hT
      refine ⟨_, rfl, a, rfl, ⟨_, HX⟩, for_tup (K := K) (a := a) (xs := xs) (fun i σ H' => ∃ v : Option V, σ = [some (.ref a), some (.ref L), v] ∧ H' L = some (.lst (((ps.take i).map (·.1)).map V.str)) ∧ KT Pt H H')
        ⟨_, rfl, upd_same, kA⟩ (fun i σ H' _ ⟨_, _, _, q⟩ => Nt.seqT (KT.nt tb q) hT) ?_ ?_⟩
      · rintro i x σ H2 hx ⟨v, rfl, eL, k2⟩
        obtain ⟨d, hd1, hd2⟩ := dpAll_get hd hx
        obtain ⟨p, hp, rfl⟩ := get_map hd1
        obtain ⟨t, x1, x2, rfl, ht, q1, q2⟩ := dp_two hd2
        obtain rfl := dp_str q1
        obtain rfl := dp_int q2
        have ht2 := Nt.seqT (KT.nt tb k2) ht
        have hpm := List.mem_of_getElem? hp
        obtain ⟨m1, m2, m3⟩ := ok p hpm
        refine ⟨_, rfl, _, rfl, t, L, p.1, p.2, (ps.take i).map (·.1), rfl, ht2, m1, m2, m3, SqL.of eL, fresh_name nd hp, k2.tab, fun H3 k3 => ?_⟩
        have eL3 : H3 L = some (.lst (((ps.take i).map (·.1)).map V.str)) := KT.nt k2.tab k3 L _ (by simp) eL
        have ht3 := Nt.seqT (KT.nt tb (k2.trans k3)) ht
        have nLP : L ≠ Pt := ne_tab k3.tab eL3 (by simp)
        have hi := (List.getElem?_eq_some_iff.mp hp).1
        refine ⟨_, rfl, .inl ⟨rfl, _, SqL.of eL3⟩, _, rfl, t, _, 0, .str p.1, rfl, rfl, ht3, rfl, L, _, _, rfl, rfl, eL3, ?_, ?_⟩
        · rw [List.length_map, List.length_map, List.length_take]
          exact small1000 (by omega)
        · refine ⟨_, rfl, ?_, KT.put (k2.trans k3) hLn nLP⟩
          rw [upd_same, take_at hp, List.map_append, List.map_append]
          rfl
      · rintro σ H2 ⟨v, rfl, eL, k2⟩
        exact k H2 k2
abbrev s_is_stretch : Stmt := top 20
theorem sc_is_stretch : FnScope ["thing", "kind", "home"] ["thing"] (defScope s_is_stretch) := ⟨rfl, rfl, rfl, by decide +kernel, rfl, by decide +kernel, by decide +kernel⟩
def spIsStretch (K : PySem.W.Frag) : Sp := fun vs H Q _ => ∃ (t : Addr) (z : Str) (h : Int), vs = [.ref t] ∧ SqT K H t [.str z, .int h] ∧ (z = "staff" ∨ z = "ticket") ∧ 0 ≤ h ∧ h ≤ 1 ∧ ∀ H', Same H H' → Q (.bl true) H'
theorem ok_is_stretch {f fTu fWh : Addr} {fd fdTu fdWh : FuncData} (F : Fun K "_is_stretch" "_is_stretch" s_is_stretch f fd) (T : Txt mg)
    (Nis_tuple : Fn K mg "is_tuple" s_is_tuple ["thing", "many"] fTu fdTu) (Gis_tuple : FnOk P w K mg base CX0 1 fTu fdTu ["thing", "many"] (spIsTuple K))
    (Nis_whole : Fn K mg "is_whole" sWhole ["thing", "low", "high"] fWh fdWh) (Gis_whole : FnOk P w K mg base CX0 1 fWh fdWh ["thing", "low", "high"] spWhole) :
    FnOk P w K mg base CX0 2 f fd ["thing"] (spIsStretch K) := by
  refine F.ok sc_is_stretch (fun vs H Q E h => ?_) (fun cdv A outer s H vs Q E hr h => ?_)
  · obtain ⟨t, z, h, rfl, _⟩ := h
    rfl
  · obtain ⟨t, z, h, rfl, hT, hz, h0, h1, k⟩ := h
    refine ⟨_, pss_cons (ps_if (pt_not (pt_val (pe_call Gis_tuple (hr.mono (by decide)) (by rfl) Nis_tuple.g Nis_tuple.kp Nis_tuple.b .nil pass0 (pa_cons (pv 0) (pa_cons pe_int pa_nil))))) (pss_one (ps_ret pe_bl)) pss_nil)
      (pss_cons (ps_asg (pv 0) (pg_tup (by rfl) (pgs_cons (pg_name (i := 1) sc_is_stretch.nd rfl (Or.inl rfl)) (pgs_cons (pg_name (i := 2) sc_is_stretch.nd rfl (Or.inl rfl)) pgs_nil))))
      (pss_one (ps_ret (pe_and (pe_cmpR op_in_seq (pv 1) (pe_tup (pa_cons pe_str (pa_cons pe_str pa_nil))) rfl) (pe_one (pe_call Gis_whole (hr.mono (by decide)) (by rfl) Nis_whole.g Nis_whole.kp Nis_whole.b .nil pass0 (pa_cons (pv 2) (pa_cons pe_int (pa_cons pe_int pa_nil))))))))), ?_⟩
    refine ⟨_, rfl, t, 2, _, rfl, hT, _, rfl, iteF ?_⟩
    refine ⟨_, rfl, t, _, rfl, hT, rfl, _, _, rfl, _, _, rfl, rfl, ?_⟩
    refine ⟨_, rfl, (by show 2 ≤ sizeLine; decide), fun u hu => ?_⟩
    have e := same_alloc (o := .tup [.str "staff", .str "ticket"]) hu
    refine ⟨u, _, rfl, .inr (SqT.of upd_same), rfl, rfl, _, rfl, ?_⟩
    have ei : inV (.str z) [.str "staff", .str "ticket"] = true := by
      rcases hz with rfl | rfl <;> decide +kernel
    show if inV (.str z) [.str "staff", .str "ticket"] = true then _ else _
    rw [ei]
    refine iteT ?_
    refine ⟨_, rfl, .int h, 0, 1, rfl, .int h, ?_⟩
    have e2 : wh 0 1 (.int h) = true := by simp [wh, h0, h1]
    rw [e2]
    exact k _ e
abbrev s_check_stretches : Stmt := top 19
theorem sc_check_stretches : FnScope ["stretches", "many", "stretch"] ["stretches", "many"] (defScope s_check_stretches) := ⟨rfl, rfl, rfl, by decide +kernel, rfl, by decide +kernel, by decide +kernel⟩
def spCheckStretches (K : PySem.W.Frag) : Sp := fun vs H Q _ => ∃ (a : Addr) (n : Int) (xs : List V) (st : List (Str × Int)), vs = [.ref a, .int n] ∧ SqX K H a xs ∧ DpAll K H xs (st.map dP) ∧ n = st.length ∧
  (∀ p ∈ st, (p.1 = "staff" ∨ p.1 = "ticket") ∧ 0 ≤ p.2 ∧ p.2 ≤ 1) ∧ ∀ H', Same H H' → Q .non H'
theorem ok_check_stretches {f fL fC : Addr} {fd fdL fdC : FuncData} (F : Fun K "_check_stretches" "_check_stretches" s_check_stretches f fd) (T : Txt mg)
    (Nis_list : Fn K mg "is_list" s_is_list ["thing", "low", "high"] fL fdL) (Gis_list : FnOk P w K mg base CX0 1 fL fdL ["thing", "low", "high"] (spIsList K))
    (Nis_stretch : Fn K mg "_is_stretch" s_is_stretch ["thing"] fC fdC) (Gis_stretch : FnOk P w K mg base CX0 2 fC fdC ["thing"] (spIsStretch K)) :
    FnOk P w K mg base CX0 3 f fd ["stretches", "many"] (spCheckStretches K) := by
  refine F.ok sc_check_stretches (fun vs H Q E h => ?_) (fun cdv A outer s H vs Q E hr h => ?_)
  · obtain ⟨a, n, xs, st, rfl, _⟩ := h
    rfl
  · obtain ⟨a, n, xs, st, rfl, hX, hd, hn, ok, k⟩ := h
    rcases id hX with hL | hT
    · skip
      refine ⟨_, pss_cons (ps_if (pt_not (pt_val (pe_call Gis_list (hr.mono (by decide)) (by rfl) Nis_list.g Nis_list.kp Nis_list.b .nil pass0 (pa_cons (pv 0) (pa_cons (pv 1) (pa_cons (pv 1) pa_nil)))))) (pss_one ps_never) pss_nil)
      (pss_one (ps_for PassesOwn.never rfl (pi_list (pv 0)) (pg_name (i := 2) sc_check_stretches.nd rfl (Or.inl rfl)) (pss_one (ps_if (pt_not (pt_val (pe_call Gis_stretch (hr.mono (by decide)) (by rfl) Nis_stretch.g Nis_stretch.kp Nis_stretch.b .nil pass0 (pa_cons (pv 2) pa_nil)))) (pss_one ps_never) pss_nil)))), ?_⟩
      refine ⟨_, rfl, _, rfl, _, rfl, a, n, n, xs, rfl, hX, fun H1 s1 => ?_⟩
      have el : (xs.length : Int) = n := by rw [dpAll_len hd, List.length_map, hn]
      rw [el, show decide (n ≤ n) = true from decide_eq_true (Int.le_refl n)]
      refine ⟨_, rfl, iteF ?_⟩
      refine ⟨_, rfl, a, rfl, ⟨_, Nt.seq (same_nt s1) hL⟩, for_list (K := K) (a := a) (xs := xs) (fun i σ H' => ∃ v : Option V, σ = [some (.ref a), some (.int n), v] ∧ Same H H')
        ⟨_, rfl, s1⟩ (fun i σ H' _ ⟨_, _, q⟩ => Nt.seq (same_nt q) hL) ?_ ?_⟩
      · rintro i x σ H2 hx ⟨v, rfl, k2⟩
        obtain ⟨d, hd1, hd2⟩ := dpAll_get hd hx
        obtain ⟨p, hp, rfl⟩ := get_map hd1
        obtain ⟨t, x1, x2, rfl, ht, q1, q2⟩ := dp_two hd2
        obtain rfl := dp_str q1
        obtain rfl := dp_int q2
        obtain ⟨m1, m2, m3⟩ := ok p (List.mem_of_getElem? hp)
        exact ⟨_, rfl, t, p.1, p.2, rfl, Nt.seqT (same_nt k2) ht, m1, m2, m3, fun H3 k3 => ⟨_, rfl, iteF ⟨_, rfl, k2.trans k3⟩⟩⟩
      · rintro σ H2 ⟨v, rfl, k2⟩
        exact k H2 k2
    · skip
      refine ⟨_, pss_cons (ps_if (pt_not (pt_val (pe_call Gis_list (hr.mono (by decide)) (by rfl) Nis_list.g Nis_list.kp Nis_list.b .nil pass0 (pa_cons (pv 0) (pa_cons (pv 1) (pa_cons (pv 1) pa_nil)))))) (pss_one ps_never) pss_nil)
      (pss_one (ps_for PassesOwn.never rfl (pi_tup (pv 0)) (pg_name (i := 2) sc_check_stretches.nd rfl (Or.inl rfl)) (pss_one (ps_if (pt_not (pt_val (pe_call Gis_stretch (hr.mono (by decide)) (by rfl) Nis_stretch.g Nis_stretch.kp Nis_stretch.b .nil pass0 (pa_cons (pv 2) pa_nil)))) (pss_one ps_never) pss_nil)))), ?_⟩
      refine ⟨_, rfl, _, rfl, _, rfl, a, n, n, xs, rfl, hX, fun H1 s1 => ?_⟩
      have el : (xs.length : Int) = n := by rw [dpAll_len hd, List.length_map, hn]
      rw [el, show decide (n ≤ n) = true from decide_eq_true (Int.le_refl n)]
      refine ⟨_, rfl, iteF ?_⟩
      refine ⟨_, rfl, a, rfl, ⟨_, Nt.seqT (same_nt s1) hT⟩, for_tup (K := K) (a := a) (xs := xs) (fun i σ H' => ∃ v : Option V, σ = [some (.ref a), some (.int n), v] ∧ Same H H')
        ⟨_, rfl, s1⟩ (fun i σ H' _ ⟨_, _, q⟩ => Nt.seqT (same_nt q) hT) ?_ ?_⟩
      · rintro i x σ H2 hx ⟨v, rfl, k2⟩
        obtain ⟨d, hd1, hd2⟩ := dpAll_get hd hx
        obtain ⟨p, hp, rfl⟩ := get_map hd1
        obtain ⟨t, x1, x2, rfl, ht, q1, q2⟩ := dp_two hd2
        obtain rfl := dp_str q1
        obtain rfl := dp_int q2
        obtain ⟨m1, m2, m3⟩ := ok p (List.mem_of_getElem? hp)
        exact ⟨_, rfl, t, p.1, p.2, rfl, Nt.seqT (same_nt k2) ht, m1, m2, m3, fun H3 k3 => ⟨_, rfl, iteF ⟨_, rfl, k2.trans k3⟩⟩⟩
      · rintro σ H2 ⟨v, rfl, k2⟩
        exact k H2 k2
abbrev s_is_long : Stmt := top 22
theorem sc_is_long : FnScope ["thing", "low", "top", "first", "last", "home"] ["thing", "low", "top"] (defScope s_is_long) := ⟨rfl, rfl, rfl, by decide +kernel, rfl, by decide +kernel, by decide +kernel⟩
def spIsLong (K : PySem.W.Frag) : Sp := fun vs H Q _ => ∃ (t : Addr) (f l h low tp : Int), vs = [.ref t, .int low, .int tp] ∧ SqT K H t [.int f, .int l, .int h] ∧ low ≤ f ∧ f + 2 ≤ l ∧ l ≤ tp ∧ 0 ≤ h ∧ h ≤ 1 ∧ Q (.bl true) H
theorem ok_is_long {f fTu fWh : Addr} {fd fdTu fdWh : FuncData} (F : Fun K "_is_long" "_is_long" s_is_long f fd) (T : Txt mg)
    (Nis_tuple : Fn K mg "is_tuple" s_is_tuple ["thing", "many"] fTu fdTu) (Gis_tuple : FnOk P w K mg base CX0 1 fTu fdTu ["thing", "many"] (spIsTuple K))
    (Nis_whole : Fn K mg "is_whole" sWhole ["thing", "low", "high"] fWh fdWh) (Gis_whole : FnOk P w K mg base CX0 1 fWh fdWh ["thing", "low", "high"] spWhole) :
    FnOk P w K mg base CX0 2 f fd ["thing", "low", "top"] (spIsLong K) := by
  refine F.ok sc_is_long (fun vs H Q E h => ?_) (fun cdv A outer s H vs Q E hr h => ?_)
  · obtain ⟨t, fi, la, h, low, tp, rfl, _⟩ := h
    rfl
  · obtain ⟨t, fi, la, h, low, tp, rfl, hT, a1, a2, a3, a4, a5, k⟩ := h
    refine ⟨_, pss_cons (ps_if (pt_not (pt_val (pe_call Gis_tuple (hr.mono (by decide)) (by rfl) Nis_tuple.g Nis_tuple.kp Nis_tuple.b .nil pass0 (pa_cons (pv 0) (pa_cons pe_int pa_nil))))) (pss_one (ps_ret pe_bl)) pss_nil)
      (pss_cons (ps_asg (pv 0) (pg_tup (by rfl) (pgs_cons (pg_name (i := 3) sc_is_long.nd rfl (Or.inl rfl)) (pgs_cons (pg_name (i := 4) sc_is_long.nd rfl (Or.inl rfl)) (pgs_cons (pg_name (i := 5) sc_is_long.nd rfl (Or.inl rfl)) pgs_nil)))))
      (pss_one (ps_ret (pe_and (pe_call Gis_whole (hr.mono (by decide)) (by rfl) Nis_whole.g Nis_whole.kp Nis_whole.b .nil pass0 (pa_cons (pv 3) (pa_cons (pv 1) (pa_cons (pv 2) pa_nil)))) (pe_and (pe_call Gis_whole (hr.mono (by decide)) (by rfl) Nis_whole.g Nis_whole.kp Nis_whole.b .nil pass0 (pa_cons (pv 4) (pa_cons (pe_op op_add (pv 3) pe_int) (pa_cons (pv 2) pa_nil)))) (pe_one (pe_call Gis_whole (hr.mono (by decide)) (by rfl) Nis_whole.g Nis_whole.kp Nis_whole.b .nil pass0 (pa_cons (pv 5) (pa_cons pe_int (pa_cons pe_int pa_nil)))))))))), ?_⟩
    refine ⟨_, rfl, t, 3, _, rfl, hT, _, rfl, iteF ?_⟩
    refine ⟨_, rfl, t, _, rfl, hT, rfl, _, _, rfl, _, _, rfl, _, _, rfl, rfl, ?_⟩
    refine ⟨_, rfl, _, rfl, _, rfl, .int fi, low, tp, rfl, .int fi, ?_⟩
    rw [show wh low tp (.int fi) = true by simp [wh]; omega]
    refine ⟨_, rfl, iteT ?_⟩
    refine ⟨_, rfl, _, rfl, _, _, rfl, rfl, _, rfl, .int la, fi + 2, tp, rfl, .int la, ?_⟩
    rw [show wh (fi + 2) tp (.int la) = true by simp [wh]; omega]
    refine ⟨_, rfl, iteT ?_⟩
    refine ⟨_, rfl, .int h, 0, 1, rfl, .int h, ?_⟩
    rw [show wh 0 1 (.int h) = true by simp [wh]; omega]
    exact k
abbrev s_check_longs : Stmt := top 21
theorem sc_check_longs : FnScope ["longs", "top", "low", "long"] ["longs", "top"] (defScope s_check_longs) := ⟨rfl, rfl, rfl, by decide +kernel, rfl, by decide +kernel, by decide +kernel⟩
def spCheckLongs (K : PySem.W.Frag) : Sp := fun vs H Q _ => ∃ (a : Addr) (tp : Int) (xs : List V) (lo : List (Int × Int × Int)), vs = [.ref a, .int tp] ∧ SqX K H a xs ∧ DpAll K H xs (lo.map dL) ∧ lo.length ≤ 2 ∧ longsOk tp 0 lo ∧ ∀ H', Same H H' → Q .non H'
def lastOf (lo : List (Int × Int × Int)) (i : Nat) : Int := ((lo.take i).getLast?.map fun q => q.2.1).getD 0
theorem ok_check_longs {f fL fC : Addr} {fd fdL fdC : FuncData} (F : Fun K "_check_longs" "_check_longs" s_check_longs f fd) (T : Txt mg)
    (Nis_list : Fn K mg "is_list" s_is_list ["thing", "low", "high"] fL fdL) (Gis_list : FnOk P w K mg base CX0 1 fL fdL ["thing", "low", "high"] (spIsList K))
    (Nis_long : Fn K mg "_is_long" s_is_long ["thing", "low", "top"] fC fdC) (Gis_long : FnOk P w K mg base CX0 2 fC fdC ["thing", "low", "top"] (spIsLong K)) :
    FnOk P w K mg base CX0 3 f fd ["longs", "top"] (spCheckLongs K) := by
  refine F.ok sc_check_longs (fun vs H Q E h => ?_) (fun cdv A outer s H vs Q E hr h => ?_)
  · obtain ⟨a, n, xs, st, rfl, _⟩ := h
    rfl
  · obtain ⟨a, tp, xs, lo, rfl, hX, hd, l2, ok, k⟩ := h
    rcases id hX with hL | hT
    · skip
      refine ⟨_, pss_cons (ps_if (pt_not (pt_val (pe_call Gis_list (hr.mono (by decide)) (by rfl) Nis_list.g Nis_list.kp Nis_list.b .nil pass0 (pa_cons (pv 0) (pa_cons pe_int (pa_cons pe_int pa_nil)))))) (pss_one ps_never) pss_nil)
      (pss_cons (ps_set (i := 2) sc_check_longs.nd rfl (Or.inl rfl) pe_int)
      (pss_one (ps_for PassesOwn.never rfl (pi_list (pv 0)) (pg_name (i := 3) sc_check_longs.nd rfl (Or.inl rfl)) (pss_cons (ps_if (pt_not (pt_val (pe_call Gis_long (hr.mono (by decide)) (by rfl) Nis_long.g Nis_long.kp Nis_long.b .nil pass0 (pa_cons (pv 3) (pa_cons (pv 2) (pa_cons (pv 1) pa_nil)))))) (pss_one ps_never) pss_nil)
          (pss_one (ps_set (i := 2) sc_check_longs.nd rfl (Or.inl rfl) (pe_ix ix_tup (pv 3) pe_int (fun _ _ => rfl)))))))), ?_⟩
      refine ⟨_, rfl, a, 0, 2, xs, rfl, hX, fun H1 s1 => ?_⟩
      have el : (xs.length : Int) = (lo.length : Int) := by rw [dpAll_len hd, List.length_map]
      rw [el, show decide ((0 : Int) ≤ (lo.length : Int)) = true from decide_eq_true (by omega), show decide ((lo.length : Int) ≤ 2) = true from decide_eq_true (by omega)]
      refine ⟨_, rfl, iteF ?_⟩
      refine ⟨_, rfl, a, rfl, ⟨_, Nt.seq (same_nt s1) hL⟩, for_list (K := K) (a := a) (xs := xs) (fun i σ H' => ∃ v : Option V, σ = [some (.ref a), some (.int tp), some (.int (lastOf lo i)), v] ∧ Same H H')
        ⟨_, rfl, s1⟩ (fun i σ H' _ ⟨_, _, q⟩ => Nt.seq (same_nt q) hL) ?_ ?_⟩
      · rintro i x σ H2 hx ⟨v, rfl, k2⟩
        obtain ⟨d, hd1, hd2⟩ := dpAll_get hd hx
        obtain ⟨p, hp, rfl⟩ := get_map hd1
        obtain ⟨t, x1, x2, x3, rfl, ht, q1, q2, q3⟩ := dp_three hd2
        obtain rfl := dp_int q1
        obtain rfl := dp_int q2
        obtain rfl := dp_int q3
        obtain ⟨m1, m2, m3, m4, m5⟩ := longs_get ok hp
        have ht2 := Nt.seqT (same_nt k2) ht
        refine ⟨_, rfl, _, rfl, _, rfl, t, _, _, _, _, _, rfl, ht2, m1, m2, m3, m4, m5, _, rfl, iteF ?_⟩
        refine ⟨_, rfl, t, _, 1, .int p.2.1, rfl, rfl, ht2, rfl, some (.ref t), ?_, k2⟩
        have e : lastOf lo (i + 1) = p.2.1 := by
          unfold lastOf
          rw [take_at hp, List.getLast?_append]
          simp
        rw [e]
        rfl
      · rintro σ H2 ⟨v, rfl, k2⟩
        exact k H2 k2
    · skip
      refine ⟨_, pss_cons (ps_if (pt_not (pt_val (pe_call Gis_list (hr.mono (by decide)) (by rfl) Nis_list.g Nis_list.kp Nis_list.b .nil pass0 (pa_cons (pv 0) (pa_cons pe_int (pa_cons pe_int pa_nil)))))) (pss_one ps_never) pss_nil)
      (pss_cons (ps_set (i := 2) sc_check_longs.nd rfl (Or.inl rfl) pe_int)
      (pss_one (ps_for PassesOwn.never rfl (pi_tup (pv 0)) (pg_name (i := 3) sc_check_longs.nd rfl (Or.inl rfl)) (pss_cons (ps_if (pt_not (pt_val (pe_call Gis_long (hr.mono (by decide)) (by rfl) Nis_long.g Nis_long.kp Nis_long.b .nil pass0 (pa_cons (pv 3) (pa_cons (pv 2) (pa_cons (pv 1) pa_nil)))))) (pss_one ps_never) pss_nil)
          (pss_one (ps_set (i := 2) sc_check_longs.nd rfl (Or.inl rfl) (pe_ix ix_tup (pv 3) pe_int (fun _ _ => rfl)))))))), ?_⟩
      refine ⟨_, rfl, a, 0, 2, xs, rfl, hX, fun H1 s1 => ?_⟩
      have el : (xs.length : Int) = (lo.length : Int) := by rw [dpAll_len hd, List.length_map]
      rw [el, show decide ((0 : Int) ≤ (lo.length : Int)) = true from decide_eq_true (by omega), show decide ((lo.length : Int) ≤ 2) = true from decide_eq_true (by omega)]
      refine ⟨_, rfl, iteF ?_⟩
      refine ⟨_, rfl, a, rfl, ⟨_, Nt.seqT (same_nt s1) hT⟩, for_tup (K := K) (a := a) (xs := xs) (fun i σ H' => ∃ v : Option V, σ = [some (.ref a), some (.int tp), some (.int (lastOf lo i)), v] ∧ Same H H')
        ⟨_, rfl, s1⟩ (fun i σ H' _ ⟨_, _, q⟩ => Nt.seqT (same_nt q) hT) ?_ ?_⟩
      · rintro i x σ H2 hx ⟨v, rfl, k2⟩
        obtain ⟨d, hd1, hd2⟩ := dpAll_get hd hx
        obtain ⟨p, hp, rfl⟩ := get_map hd1
        obtain ⟨t, x1, x2, x3, rfl, ht, q1, q2, q3⟩ := dp_three hd2
        obtain rfl := dp_int q1
        obtain rfl := dp_int q2
        obtain rfl := dp_int q3
        obtain ⟨m1, m2, m3, m4, m5⟩ := longs_get ok hp
        have ht2 := Nt.seqT (same_nt k2) ht
        refine ⟨_, rfl, _, rfl, _, rfl, t, _, _, _, _, _, rfl, ht2, m1, m2, m3, m4, m5, _, rfl, iteF ?_⟩
        refine ⟨_, rfl, t, _, 1, .int p.2.1, rfl, rfl, ht2, rfl, some (.ref t), ?_, k2⟩
        have e : lastOf lo (i + 1) = p.2.1 := by
          unfold lastOf
          rw [take_at hp, List.getLast?_append]
          simp
        rw [e]
        rfl
      · rintro σ H2 ⟨v, rfl, k2⟩
        exact k H2 k2
end
end K6

set_option maxRecDepth 100000
set_option maxHeartbeats 4000000
/-! enumerate(a tuple) -/
namespace My
open PySem PySem.Spec PyProof.Rows L2
open Builtin in
set_option maxHeartbeats 1000000 in
theorem meets_enum_of {v : Value} {o : Obj} {H : Heap → Prop} (B : Begins v o H) :
    Meets (Builtin.«enumerate.__new__» ⟨[.type "enumerate", v], []⟩) (fun _ R s => H s.heap ∧
      R (.ok (.ret (.ref (s.heap.push o).objs.size))) { s with heap := (s.heap.push o).push { cls := .type "enumerate", data := .fields #[.none, .bool false, .ref s.heap.objs.size, rawInt 0, .none, .none] } }) :=
  .of_wp fun prog w A R s hh => by
    obtain ⟨hp, g, d, tk, os⟩ := s
    obtain ⟨hB, hR⟩ := hh
    have hsub := sub_enumerate
    have it1 : ∀ {A' : Around} {E : Value → Shared → Prop} {Q : Value → Shared → Prop}, Q (.ref hp.objs.size) ⟨hp.push o, g, d, tk, os⟩ → wpAny (model prog w) A' (pyIter v) Q E ⟨hp, g, d, tk, os⟩ :=
      fun z => B.iter prog w _ _ ⟨hp, g, d, tk, os⟩ _ hB z
    wp_walk using it1
    refine wpAny_stack_any fun st => wpAny_pure ?_
    split
    · rename_i c _ _ _ _ _
      cases (c == Value.type "enumerate") <;> (wp_walk using it1; exact ⟨_, rfl, hR⟩)
    · wp_walk using it1
      exact ⟨_, rfl, hR⟩
theorem call_enum_tuple {prog : Program} {w : World} {A : Around} {E : Value → Shared → Prop} {s : Shared} {a : Addr} {items : Array Value} {Q : Value → Shared → Prop} (ht : s.heap.IsTuple a items)
    (h : ∀ h', IsEnum h' (s.heap.objs.size + 1) s.heap.objs.size 0 .none → h'.IsTupleIter s.heap.objs.size a 0 → (∀ b o, s.heap.get? b = some o → h'.get? b = some o) →
      Q (.ref (s.heap.objs.size + 1)) { s with heap := h' }) : wpAny (model prog w) A (call (.type "enumerate") [.ref a]) Q E s := by
  refine callType_new F.called_enumerate (by decide) (F.typeCall_enumerate_1 _) (F.newCall_enumerate_1 _) (fun obj => F.args_object_init_2 obj _) F.entry_enumerate_new (meets_enum_of (begins_tuple a items)) ⟨ht, ?_⟩
  have z1 : (s.heap.push { cls := .type "tuple_iterator", data := .fields #[.ref a, .int 0 0] }).objs.size = s.heap.objs.size + 1 := Heap.size_push ..
  have ge := Heap.get?_push_size (s.heap.push { cls := .type "tuple_iterator", data := .fields #[.ref a, .int 0 0] }) (o := { cls := .type "enumerate", data := .fields #[.none, .bool false, .ref s.heap.objs.size, rawInt 0, .none, .none] }) rfl
  rw [z1] at ge
  show _ ∧ _
  rw [z1]
  exact ⟨⟨_, ge, rfl⟩, h _ ge ⟨_, Heap.get?_push_of_some _ (Heap.get?_push_size _ rfl), rfl, rfl⟩ fun b o x => Heap.get?_push_of_some _ (Heap.get?_push_of_some _ x)⟩
/-- the tuple at a, each item in a new pair with its number -/
def IteT (K : PySem.W.Frag) (a : Addr) : It :=
  ⟨fun i H => ∃ (xs : List V) (x : V), SqT K H a xs ∧ xs[i]? = some x,
   fun i H v H' => ∃ T x, v = .ref T ∧ H T = none ∧ H' = upd H T (.tup [.int (i : Nat), x]) ∧ ∀ xs, SqT K H a xs → xs[i]? = some x,
   fun i H => ∃ xs : List V, SqT K H a xs ∧ xs.length ≤ i⟩
theorem turn_enumT {P : Program} {w : World} {K : PySem.W.Frag} {elts : List Expr} {kk : Nat} {tp : Pos} (a e it : Addr) :
    Turn P w K (.Tuple elts kk tp) (IteT K a) [e, it] e (fun i h => (∃ old, IsEnum h e it ((i : Nat) : Int) old) ∧ h.IsTupleIter it a i ∧ e ≠ it) := by
  have two : ∀ {b : Addr}, b ∈ [e, it] → b = e ∨ b = it := fun {b} hb => by simpa using hb
  constructor
  case mem => exact List.mem_cons_self
  case obj =>
    rintro i h ⟨⟨old, he⟩, ⟨o, ho, hc, hd⟩, hne⟩ b hb
    rcases two hb with rfl | rfl
    · exact ⟨_, he, fun v q => nomatch q⟩
    · exact ⟨o, ho, fun v q => by rw [hd] at q; cases q⟩
  case keep =>
    rintro i h h' ⟨⟨old, he⟩, ⟨o, ho, r⟩, hne⟩ k
    exact ⟨⟨old, k e List.mem_cons_self _ he⟩, ⟨o, k it (by simp) _ ho, r⟩, hne⟩
  case self =>
    rintro A i s Q E ⟨⟨_, he⟩, _⟩ hQ
    exact wpAny_pyIter_enum he hQ
  case item =>
    rintro X rfl rfl rfl hc i pins s σ H E I hf ⟨⟨old, he⟩, hit, hne⟩ ⟨xs, x, hq, hx⟩
    obtain ⟨its, rv, p, hz⟩ := I.tuple hq
    have pt : s.heap.IsTuple a its.toArray := let ⟨o, h1, h2, n, h3⟩ := p; ⟨o, h1, h2, n, h3⟩
    obtain ⟨u, hu, ru⟩ := rv.get hx
    have hi : i < its.toArray.size := by
      have := (List.getElem?_eq_some_iff.mp hu).1
      simpa using this
    have ane : a ≠ it := by
      rintro rfl
      obtain ⟨o1, h1, h2, _⟩ := hit
      obtain ⟨o2, h3, h4, _⟩ := pt
      rw [h1] at h3
      cases h3
      rw [h2] at h4
      simp at h4
    have aee : a ≠ e := by
      rintro rfl
      obtain ⟨o2, h3, h4, _⟩ := pt
      have h1 : s.heap.get? a = some _ := he
      rw [h1] at h3
      cases h3
      simp at h4
    have le : e < s.heap.objs.size := Heap.lt_size he
    have li : it < s.heap.objs.size := by
      obtain ⟨_, q, _⟩ := hit
      exact Heap.lt_size q
    have D := Draws.tuple (prog := X.prog) (w := X.w) (A := X.A.in1) (show X.A.in1.handled = none from I.ok.hd hc) it a ane its.toArray
    refine wpAny_pyNext_enum_itemD D he ⟨hit, pt⟩ hi hne (fun z => ?_) fun y h' tk hy ho hst hT hsz hk => ?_
    · rcases List.mem_cons.mp z with z | z
      · exact hne z
      · exact aee (List.mem_singleton.mp z).symm
    · have ey : y = u := by
        have z : its.toArray[i]? = some u := by simpa using hu
        exact Option.some.inj (hy.symm.trans z)
      subst ey
      refine ⟨_, rfl, wpAny_letOwnedTupleGo_enum (s := { s with heap := h', toks := tk + 1 }) ho fun h2 he2 sb => ?_⟩
      have hT2 : h2.get? s.heap.objs.size = some { cls := .type "tuple", data := .seq #[.int i tk, y] } := (sb.2 _ (Nat.ne_of_gt le)).trans hT
      have new : ObjOk X.prog X.w (upd H s.heap.objs.size (.tup [.int (i : Nat), x])) h2 s.heap.objs.size (.tup [.int (i : Nat), x]) :=
        ⟨(by show 2 ≤ sizeLine; decide), [.int i tk, y], .cons ⟨_, rfl⟩ (.cons ru .nil), ⟨_, hT2, rfl, _, rfl⟩⟩
      have I1 := I.turnedNew (t' := tk + 1) (ch := [e, it]) (h' := h2) (fun b o hb q => (sb.2 b (fun z => hb (by simp [z]))).trans (hk b o (fun z => hb (by simp [z])) (fun z => hb (by simp [z])) q)) hf (Nat.le_refl _) new
      refine ⟨.ref s.heap.objs.size, _, I1, rfl, ⟨_, x, rfl, I.hok.fresh (Nat.le_refl _), rfl, fun ys hy => by rw [I.tuple_inj hy hq]; exact hx⟩, ⟨⟨y, ?_⟩, ?_, hne⟩, fun b hb => ?_⟩
      · have e1 : ((i + 1 : Nat) : Int) = (i : Int) + 1 := by omega
        rw [e1]
        exact he2
      · obtain ⟨o, q1, q2⟩ := hst.1
        exact ⟨o, (sb.2 it (Ne.symm hne)).trans q1, q2⟩
      · have lb : b < s.heap.objs.size := by
          rcases two hb with rfl | rfl
          · exact le
          · exact li
        rw [upd_ne (Nat.ne_of_lt lb)]
        exact (hf b hb).1
  case done =>
    rintro X rfl rfl rfl hc i pins s σ H E I hf ⟨⟨old, he⟩, hit, hne⟩ ⟨xs, hq, hx⟩
    obtain ⟨its, rv, p, hz⟩ := I.tuple hq
    have pt : s.heap.IsTuple a its.toArray := let ⟨o, h1, h2, n, h3⟩ := p; ⟨o, h1, h2, n, h3⟩
    have ane : a ≠ it := by
      rintro rfl
      obtain ⟨o1, h1, h2, _⟩ := hit
      obtain ⟨o2, h3, h4, _⟩ := pt
      rw [h1] at h3
      cases h3
      rw [h2] at h4
      simp at h4
    obtain ⟨f0, f1, f2, f3, f4, f5⟩ := hf it (by simp)
    have hl := rv.length
    -- at the end the place is not told by Draws (it stands at any i ≥ the size): the library's end of a tuple's iterator
    have D : Draws X.prog X.w X.A.in1 it [it, a] i (fun _ _ => False) (fun j h => j = i ∧ h.IsTupleIter it a i ∧ h.IsTuple a its.toArray) := by
      constructor
      case live => rintro j h ⟨_, ⟨o, ho, _⟩, _⟩; exact ⟨o, ho⟩
      case frame => rintro j h h' ⟨ej, st1, st2⟩ hk; exact ⟨ej, st1.at fun o e => hk it (by simp) o e, st2.at fun o e => hk a (by simp) o e⟩
      case item => rintro j s Q E hj ⟨ej, _⟩ _; exact absurd hj (by omega)
      case done => rintro s Q E ⟨_, st1, st2⟩ hE; exact wpAny_nextOf_tuple_end (show X.A.in1.handled = none from I.ok.hd hc) st1 st2 (by simp; omega) hE
    exact wpAny_pyNext_enum_endD D he ⟨rfl, hit, pt⟩ fun h' eb => ⟨rfl, I.turned (t' := s.toks) (fun b o hb q => eb b o hb q) f0 f1 f3 f4 f5⟩
def iEnumT (K : PySem.W.Frag) (ta : TA) : TI := fun σ H R => ta σ H fun vs H1 => ∃ a xs, vs = [.ref a] ∧ SqT K H1 a xs ∧ R (IteT K a) H1
theorem pi_enumT {X : Cx} {e : Expr} {ta : TA} {p pos tp : Pos} {elts : List Expr} {kk : Nat} (hg : Gl X "enumerate") (hm : X.mg "enumerate" = none) (ha : PA X [e] ta) (hs : starEach [e] X.env = [(false, eval e X.env)] := by rfl) :
    PI X (.Tuple elts kk tp) (.Call (.Name "enumerate" p) [e] [] pos) (iEnumT X.K ta) := by
  refine ⟨fun pins s σ H R I h => Call_ (ld_blt I hg hm boot_enumerate (PyProof.Rows.callWith_type1 (thn (ha.run pos pins s σ H _ I h) ?_) hs rfl))⟩
  rintro us s1 ⟨vs, H1, I1, r1, a, xs, rfl, hq, q⟩
  cases r1 with
  | cons r rr =>
    cases rr
    cases r
    obtain ⟨its, rv, p, hz⟩ := I1.tuple hq
    have pt : s1.heap.IsTuple a its.toArray := let ⟨o, h1, h2, n, h3⟩ := p; ⟨o, h1, h2, n, h3⟩
    refine call_enum_tuple pt fun h' he hit hk => wpAny_pyIter_enum he ?_
    have I2 : Inv X pins σ H1 { s1 with heap := h' } := I1.kept (t' := s1.toks) hk
    refine ⟨s1.heap.objs.size + 1, [s1.heap.objs.size + 1, s1.heap.objs.size], _, _, H1, rfl, I2, turn_enumT a (s1.heap.objs.size + 1) s1.heap.objs.size, ⟨⟨.none, he⟩, hit, Nat.succ_ne_self _⟩, fun b hb => ?_, q⟩
    have lb : s1.heap.objs.size ≤ b := by
      have e' : b = s1.heap.objs.size + 1 ∨ b = s1.heap.objs.size := by simpa using hb
      rcases e' with z | z
      · rw [z]; exact Nat.le_add_right _ _
      · rw [z]; exact Nat.le_refl _
    exact I1.fpOk lb (I1.hok.fresh lb)
theorem walk_enumT {K : PySem.W.Frag} {a : Addr} {xs : List V} : Walk (IteT K a) xs.length (fun H => SqT K H a xs) (YPair (fun i => some (.int (i : Nat))) (fun i => xs[i]?)) := by
  refine ⟨fun i _ hi q => ⟨xs, xs[i], q, by simp [hi]⟩, fun _ q => ⟨xs, q, Nat.le_refl _⟩, ?_⟩
  rintro i H v H' _ q ⟨T, x, h1, h2, h3, h4⟩
  exact ⟨T, .int (i : Nat), x, h1, h2, h3, rfl, h4 xs q⟩
/-- a dict comprehension over a walk -/
theorem dc_it {J : It} {n : Nat} {G : Hp → Prop} {Y : Nat → Hp → V → Hp → Prop} (w : Walk J n G Y) {g : TG} {tt : TT} {tk tv : TE} {vs : List Nat} {σ : L2.St} {H1 : Hp} {D : Addr} {Qd : Hp → Prop} (Pv : Nat → Hp → Prop) (h0 : Pv 0 (upd H1 D (.dK [])))
    (hG : ∀ i H, i ≤ n → Pv i H → G H)
    (hs : ∀ i x H H', i < n → Pv i H → Y i H x H' → g x (wipe σ vs) H' fun σ2 H2 => wipe σ2 vs = wipe σ vs ∧ tt σ2 H2 fun b H3 =>
      if b = true then tk σ2 H3 fun y H4 => tv σ2 H4 fun z H5 => ∃ kvs k, y = kV k ∧ H5 D = some (.dK kvs) ∧ kvs.length < sizeLine ∧ Pv (i + 1) (upd H5 D (.dK (putK kvs k z))) else Pv (i + 1) H3) (hd : ∀ H, Pv n H → Qd H) :
    ∃ W : Nat → Nat → Hp → Prop, (∃ m, W 0 m (upd H1 D (.dK []))) ∧ ∀ i m H, W i m H →
      (J.stop i H ∧ Qd H) ∨ (J.go i H ∧ ∃ Nx : Hp → Prop, (∀ H', Nx H' → ∃ m', m' < m ∧ W (i + 1) m' H') ∧ ∀ x H', J.yld i H x H' → g x (wipe σ vs) H' fun σ2 H2 => wipe σ2 vs = wipe σ vs ∧ tt σ2 H2 fun b H3 =>
        if b = true then tk σ2 H3 fun y H4 => tv σ2 H4 fun z H5 => ∃ kvs k, y = kV k ∧ H5 D = some (.dK kvs) ∧ kvs.length < sizeLine ∧ Nx (upd H5 D (.dK (putK kvs k z))) else Nx H3) := by
  refine ⟨fun i m H => i + m = n ∧ Pv i H, ⟨n, by simp, h0⟩, ?_⟩
  rintro i m H ⟨ei, p⟩
  have g1 := hG i H (by omega) p
  cases m with
  | zero =>
    have e : i = n := by omega
    subst e
    exact .inl ⟨w.stops H g1, hd H p⟩
  | succ m =>
    refine .inr ⟨w.goes i H (by omega) g1, Pv (i + 1), fun H' q => ⟨m, Nat.lt_succ_self m, by omega, q⟩, fun x H' y => hs i x H H' (by omega) p (w.yields i H x H' (by omega) g1 y)⟩
end My

set_option maxRecDepth 100000
set_option maxHeartbeats 4000000
namespace K6
open PySem PySem.Spec PyProof.Rows L2 GxR Gd TL My
/-! ### a line in the heap -/
def lf (p1 p2 p3 d : Addr) : List (Str × V) := putF "_numbers" (.ref d) (putF "_longs" (.ref p3) (putF "_stretches" (.ref p2) (putF "_places" (.ref p1) [])))
theorem lf_get (p1 p2 p3 d : Addr) (g : Str) : (lf p1 p2 p3 d).lookup g = if g = "_numbers" then some (.ref d) else if g = "_longs" then some (.ref p3) else if g = "_stretches" then some (.ref p2) else if g = "_places" then some (.ref p1) else none := by
  unfold lf
  rw [lookup_putF, lookup_putF, lookup_putF, lookup_putF]
  rfl
def posOf (ps : List (Str × Int)) (z : Str) : Option Nat := ps.findIdx? fun p => decide (p.1 = z)
/-- what stands in the dict of numbers -/
def NumsAt (H : Hp) (d : Addr) (ps : List (Str × Int)) : Prop := ∃ kvs : List (Key × V), H d = some (.dK kvs) ∧ kvs.length ≤ ps.length ∧ ∀ z, valV kvs (Sum.inr z) = (posOf ps z).map fun j => V.int (j : Nat)
structure LineAt (K : PySem.W.Frag) (C : Addr) (w : Wd) (H : Hp) (x : Addr) : Prop where
  ex : ∃ dx p1 p2 p3 d xs1 xs2 xs3, H x = some (.ins C dx (lf p1 p2 p3 d)) ∧ SqT K H p1 xs1 ∧ DpAll K H xs1 (w.ps.map dP) ∧ SqT K H p2 xs2 ∧ DpAll K H xs2 (w.st.map dP) ∧ SqT K H p3 xs3 ∧ DpAll K H xs3 (w.lo.map dL) ∧ NumsAt H d w.ps
theorem NumsAt.nt {H H' : Hp} {d : Addr} {ps : List (Str × Int)} (e : Nt H H') (h : NumsAt H d ps) : NumsAt H' d ps := by
  obtain ⟨kvs, h1, h2⟩ := h
  exact ⟨kvs, e _ _ (by simp) h1, h2⟩
theorem LineAt.nt {K : PySem.W.Frag} {C : Addr} {w : Wd} {H H' : Hp} {x : Addr} (e : Nt H H') (h : LineAt K C w H x) : LineAt K C w H' x := by
  obtain ⟨dx, p1, p2, p3, d, xs1, xs2, xs3, h1, h2, h3, h4, h5, h6, h7, h8⟩ := h
  exact ⟨dx, p1, p2, p3, d, xs1, xs2, xs3, e _ _ (by simp) h1, e.seqT h2, dpAll_nt e h3, e.seqT h4, dpAll_nt e h5, e.seqT h6, dpAll_nt e h7, h8.nt e⟩
structure ClsT (K : PySem.W.Frag) (C : Addr) : Prop where
  cl : Cls K C
  n1 : NoAttr K C "_places"
  n2 : NoAttr K C "_stretches"
  n3 : NoAttr K C "_longs"
  n4 : NoAttr K C "_numbers"
theorem tup_of {K : PySem.W.Frag} {H : Hp} {a : Addr} {xs : List V} {G : VK} (h : SqX K H a xs) (k : ∀ p H', Same H H' → SqT K H' p xs → G (.ref p) H') :
    ∃ p ys, [V.ref a] = [V.ref p] ∧ ((SqL K H p ys ∧ ∀ l, H l = none → G (.ref l) (upd H l (.tup ys))) ∨ (SqT K H p ys ∧ G (.ref p) H)) := by
  rcases h with h | h
  · exact ⟨a, xs, rfl, .inl ⟨h, fun l hl => k l _ (same_alloc hl) (SqT.of upd_same)⟩⟩
  · exact ⟨a, xs, rfl, .inr ⟨h, k a H (Same.refl H) h⟩⟩
/-- lists and tuples stay -/
def Ls (H H' : Hp) : Prop := ∀ c o, (∀ ps, o ≠ .tbl ps) → (∀ C d fs, o ≠ .ins C d fs) → H c = some o → H' c = some o
theorem Ls.trans {H H1 H2 : Hp} (a : Ls H H1) (b : Ls H1 H2) : Ls H H2 := fun c o n m h => b c o n m (a c o n m h)
theorem Ls.seq {K : PySem.W.Frag} {H H' : Hp} {a : Addr} {xs : List V} (e : Ls H H') (h : SqL K H a xs) : SqL K H' a xs := by
  rcases h with (h | ⟨o, h⟩) | h
  · exact .inl (.inl (e _ _ (by simp) (by simp) h))
  · exact .inl (.inr ⟨o, e _ _ (by simp) (by simp) h⟩)
  · exact .inr h
theorem Ls.seqT {K : PySem.W.Frag} {H H' : Hp} {a : Addr} {xs : List V} (e : Ls H H') (h : SqT K H a xs) : SqT K H' a xs := by
  rcases h with (h | ⟨o, h⟩) | h
  · exact .inl (.inl (e _ _ (by simp) (by simp) h))
  · exact .inl (.inr ⟨o, e _ _ (by simp) (by simp) h⟩)
  · exact .inr h
theorem Ls.seqX {K : PySem.W.Frag} {H H' : Hp} {a : Addr} {xs : List V} (e : Ls H H') (h : SqX K H a xs) : SqX K H' a xs := h.elim (fun q => .inl (e.seq q)) fun q => .inr (e.seqT q)
section
variable {K : PySem.W.Frag} {H H' : Hp}
mutual
theorem dp_ls (e : Ls H H') : ∀ {v : V} {d : PyData}, Dp K H v d → Dp K H' v d
  | _, _, .non => .non
  | _, _, .bl b => .bl b
  | _, _, .int i => .int i
  | _, _, .str z => .str z
  | _, _, .lst h a => .lst (e.seq h) (dpAll_ls e a)
  | _, _, .tup h a => .tup (e.seqT h) (dpAll_ls e a)
theorem dpAll_ls (e : Ls H H') : ∀ {vs : List V} {ds : List PyData}, DpAll K H vs ds → DpAll K H' vs ds
  | _, _, .nil => .nil
  | _, _, .cons h t => .cons (dp_ls e h) (dpAll_ls e t)
end
end
/-- all but the new line and the table stays -/
structure KI (x Pt : Addr) (H H' : Hp) : Prop where
  keep : ∀ c o, c ≠ x → c ≠ Pt → H c = some o → H' c = some o
  tab : TabG H' Pt
theorem KI.ls {x Pt C dx : Addr} {fs : List (Str × V)} {H H' : Hp} (hx : H x = some (.ins C dx fs)) (t : TabG H Pt) (k : KI x Pt H H') : Ls H H' := fun c o n m h => by
  refine k.keep c o ?_ (ne_tab t h n) h
  rintro rfl
  rw [hx] at h
  exact m _ _ _ (Option.some.inj h).symm
theorem KI.trans {x Pt : Addr} {H H1 H2 : Hp} (a : KI x Pt H H1) (b : KI x Pt H1 H2) : KI x Pt H H2 := ⟨fun c o n1 n2 h => b.keep c o n1 n2 (a.keep c o n1 n2 h), b.tab⟩
theorem KI.of {x Pt : Addr} {H H' : Hp} (k : KT Pt H H') : KI x Pt H H' := ⟨fun c o _ n h => k.keep c o n h, k.tab⟩
theorem KI.same {x Pt : Addr} {H H' : Hp} (t : TabG H Pt) (s : Same H H') : KI x Pt H H' := KI.of (same_kt t s)
theorem KI.put {x Pt : Addr} {H : Hp} {o : HO} (t : TabG H Pt) (n : x ≠ Pt) : KI x Pt H (upd H x o) := by
  obtain ⟨ps, e, ht⟩ := t
  exact ⟨fun c u nx _ h => by rw [upd_ne nx]; exact h, ps, by rw [upd_ne n.symm]; exact e, ht⟩
theorem posOf_nil (z : Str) : posOf [] z = none := rfl
theorem posOf_snoc (ps : List (Str × Int)) (p : Str × Int) (z : Str) (h : p.1 ∉ ps.map (·.1)) : posOf (ps ++ [p]) z = if p.1 = z then some ps.length else posOf ps z := by
  unfold posOf
  rw [List.findIdx?_append]
  by_cases e : p.1 = z
  · rw [if_pos e]
    have n : ps.findIdx? (fun p => decide (p.1 = z)) = none := by
      rw [List.findIdx?_eq_none_iff]
      intro q hq
      have : q.1 ≠ z := fun eq => h (List.mem_map.mpr ⟨q, hq, eq.trans e.symm⟩)
      simpa using this
    rw [n]
    simp [List.findIdx?_cons, e]
  · rw [if_neg e]
    simp [List.findIdx?_cons, e]
theorem same_ls {H H' : Hp} (e : Same H H') : Ls H H' := fun c o _ _ h => e c o h
theorem KB.seq' {D : Addr} {H H' : Hp} (n : H D = none) (k : KB D H H') : Ls H H' := fun c o _ _ h => k c o (fun e => by rw [e, n] at h; cases h) h
section
variable {P : Program} {w : World} {K : PySem.W.Frag} {mg : Str → Option Value} {base : Heap}
abbrev s_init : Stmt := inClass (top 23) 0
theorem sc_init : FnScope ["self", "places", "stretches", "longs", "top", "rows", "number", "name", "_"] ["self", "places", "stretches", "longs"] (defScope s_init) := ⟨rfl, rfl, rfl, by decide +kernel, rfl, by decide +kernel, by decide +kernel⟩
/-- a def that may have defaults -/
structure FunV (K : PySem.W.Frag) (x qual : Str) (st : Stmt) (f : Addr) (fd : FuncData) : Prop where
  ex : ∃ (oc : Value) (od : Option Addr) (dV kV doc pm : Value) (an : Option Addr) (cdv ct : Value) (osl : Array (Option Value)),
    fd = PySem.W.fnOf x qual (defArgs st) (defBody st) (defScope st) dV kV doc pm an cdv ct ∧ K.lookup f = some ⟨oc, od, .func fd, osl⟩ ∧ PySem.W.codeIn K cdv qual = true
theorem FunV.ok {x qual : Str} {st : Stmt} {f : Addr} {fd : FuncData} {N ps : List Str} {k : Nat} {sp : Sp} (F : FunV K x qual st f fd) (S : FnScope N ps (defScope st)) (len : ∀ vs H Q E, sp vs H Q E → vs.length = ps.length)
    (hbody : ∀ (cdv : Value) (A : Around) (outer : List Env) (s : Shared) (H : Hp) (vs : List V) (Q : VK) (E : XK), Room k (A.deeper (envOfC qual (defScope st) s.heap.objs.size f cdv)) → sp vs H Q E →
      ∃ t, PSs (cxOf CX0 P w K mg base N qual (defScope st) f cdv A outer s H E).nox (defBody st) t ∧ t { nx := fun _ H' => Q .non H', rt := Q } (start N vs) H) : FnOk P w K mg base CX0 (k + 1) f fd ps sp := by
  obtain ⟨oc, od, dV, kV, doc, pm, an, cdv, ct, osl, rfl, lk, hcd⟩ := F.ex
  refine fn_of lk hcd S len fun A outer s H vs Q E hr hsp => ?_
  obtain ⟨t, h, q⟩ := hbody cdv A outer s H vs Q E hr hsp
  exact ⟨t, h.nox, q⟩
/-- what is handed in where longs stand -/
def LongsIn (K : PySem.W.Frag) (H : Hp) (v : V) (lo : List (Int × Int × Int)) : Prop := (v = .non ∧ lo = []) ∨ ∃ a xs, v = .ref a ∧ SqX K H a xs ∧ DpAll K H xs (lo.map dL)
/-- the line's own dict is new -/
def NewD (H H' : Hp) (x : Addr) : Prop := ∀ C dx fs d, H' x = some (.ins C dx fs) → fs.lookup (Str.ofString "_numbers") = some (V.ref d) → H d = none
theorem KI.none {x Pt D : Addr} {H H' : Hp} (k : KI x Pt H H') (hx : H' x ≠ none) (h : H' D = none) : H D = none := by
  cases e : H D with
  | none => rfl
  | some o =>
    have h1 : D ≠ x := fun q => hx (q ▸ h)
    have h2 : D ≠ Pt := fun q => by
      obtain ⟨ps, z, _⟩ := k.tab
      rw [← q, h] at z
      cases z
    have := k.keep D o h1 h2 e
    rw [h] at this
    cases this
theorem newD {x Pt C dx p1 p2 p3 D : Addr} {H HA H' : Hp} {o : HO} (k : KI x Pt H HA) (hx : HA x = some o) (h : HA D = none) : NewD H (upd H' x (.ins C dx (lf p1 p2 p3 D))) x := by
  intro C' dx' fs d e l
  rw [upd_same] at e
  injection Option.some.inj e with e1 e2 e3
  subst e3
  rw [lf_get, if_pos rfl] at l
  obtain rfl := V.ref.inj (Option.some.inj l)
  exact k.none (by rw [hx]; simp) h
def spInit (K : PySem.W.Frag) (C Pt : Addr) : Sp := fun vs H Q _ => ∃ (x dx a1 a2 : Addr) (v3 : V) (xs1 xs2 : List V) (wd : Wd), vs = [.ref x, .ref a1, .ref a2, v3] ∧ H x = some (.ins C dx []) ∧
  SqX K H a1 xs1 ∧ DpAll K H xs1 (wd.ps.map dP) ∧ SqX K H a2 xs2 ∧ DpAll K H xs2 (wd.st.map dP) ∧ LongsIn K H v3 wd.lo ∧ wd.Ok ∧ TabG H Pt ∧
  ∀ H', KI x Pt H H' → LineAt K C wd H' x → NewD H H' x → Q .non H'
theorem rows_read {σ : L2.St} {H : Hp} {v : V} {lo : List (Int × Int × Int)} {G : VK} (hv : σ[3]? = some (some v)) (hL : LongsIn K H v lo)
    (k : ∀ a xs H', Same H H' → SqX K H' a xs → DpAll K H' xs (lo.map dL) → G (.ref a) H') :
    tIf (tTest (tOp (fun x y H Q => y = V.non ∧ Q (V.bl (decide (x = V.non))) H) (tVar 3) (tC V.non))) (tTup tNil) (tVar 3) σ H G := by
  refine ⟨v, hv, rfl, _, rfl, ?_⟩
  rcases hL with ⟨rfl, rfl⟩ | ⟨a, xs, rfl, h1, h2⟩
  · refine iteT ⟨Nat.zero_le _, fun p hp => ?_⟩
    exact k p [] _ (same_alloc hp) (.inr (SqT.of upd_same)) .nil
  · have e : decide (V.ref a = V.non) = false := decide_eq_false (by simp)
    rw [e]
    exact iteF ⟨_, hv, k a xs H (Same.refl H) h1 h2⟩
theorem tup_read {σ : L2.St} {H : Hp} {i : Nat} {a : Addr} {xs : List V} {G : VK} (hv : σ[i]? = some (some (.ref a))) (h : SqX K H a xs) (k : ∀ p H', Same H H' → SqT K H' p xs → G (.ref p) H') :
    tCB (fun xs H Q => ∃ p ys, xs = [V.ref p] ∧ ((SqL K H p ys ∧ ∀ l, H l = none → Q (.ref l) (upd H l (.tup ys))) ∨ (SqT K H p ys ∧ Q (.ref p) H))) (tCons (tVar i) tNil) σ H G := by
  refine ⟨_, hv, a, xs, rfl, ?_⟩
  rcases h with h | h
  · exact .inl ⟨h, fun l hl => k l _ (same_alloc hl) (SqT.of upd_same)⟩
  · exact .inr ⟨h, k a H (Same.refl H) h⟩
theorem fld_read {D : Ends} {σ : L2.St} {H : Hp} {i : Nat} {a x C dx : Addr} {xs : List V} {f : Str} {fs : List (Str × V)} (h0 : σ[0]? = some (some (.ref x))) (hv : σ[i]? = some (some (.ref a))) (hx : H x = some (.ins C dx fs)) (c : Cls K C) (n : NoAttr K C f) (l : fs.length < 1000)
    (h : SqX K H a xs) (k : ∀ p H', Same H H' → SqT K H' p xs → D.nx σ (upd H' x (.ins C dx (putF f (.ref p) fs)))) :
    sFld K (tVar 0) (tCB (fun xs H Q => ∃ p ys, xs = [V.ref p] ∧ ((SqL K H p ys ∧ ∀ l, H l = none → Q (.ref l) (upd H l (.tup ys))) ∨ (SqT K H p ys ∧ Q (.ref p) H))) (tCons (tVar i) tNil)) f D σ H :=
  tup_read hv h fun p H' s hp => ⟨_, h0, x, C, dx, fs, rfl, s _ _ hx, c, n, l, k p H' s hp⟩
theorem LongsIn.ls {H H' : Hp} {v : V} {lo : List (Int × Int × Int)} (e : Ls H H') (h : LongsIn K H v lo) : LongsIn K H' v lo := by
  rcases h with ⟨rfl, rfl⟩ | ⟨a, xs, rfl, h1, h2⟩
  · exact .inl ⟨rfl, rfl⟩
  · exact .inr ⟨a, xs, rfl, e.seqX h1, dpAll_ls e h2⟩
theorem ok_init {f fP fS fL C Pt : Addr} {fd fdP fdS fdL : FuncData} (F : FunV K "__init__" "Line.__init__" s_init f fd) (T : Txt mg) (TC : ClsT K C)
    (Ncheck_places : Fn K mg "_check_places" s_check_places ["places"] fP fdP) (Gcheck_places : FnOk P w K mg base CX0 4 fP fdP ["places"] (spCheckPlaces K Pt))
    (Ncheck_stretches : Fn K mg "_check_stretches" s_check_stretches ["stretches", "many"] fS fdS) (Gcheck_stretches : FnOk P w K mg base CX0 3 fS fdS ["stretches", "many"] (spCheckStretches K))
    (Ncheck_longs : Fn K mg "_check_longs" s_check_longs ["longs", "top"] fL fdL) (Gcheck_longs : FnOk P w K mg base CX0 3 fL fdL ["longs", "top"] (spCheckLongs K)) :
    FnOk P w K mg base CX0 5 f fd ["self", "places", "stretches", "longs"] (spInit K C Pt) := by
  refine F.ok sc_init (fun vs H Q E h => ?_) (fun cdv A outer s H vs Q E hr h => ?_)
  · obtain ⟨x, dx, a1, a2, v3, xs1, xs2, wd, rfl, _⟩ := h
    rfl
  · obtain ⟨x, dx, a1, a2, v3, xs1, xs2, wd, rfl, hx, hX1, hd1, hX2, hd2, hX3, ok, tb, k⟩ := h
    have nxP : x ≠ Pt := ne_tab tb hx (by simp)
    have ok' := ok
    have l1 : xs1.length = wd.ps.length := by rw [dpAll_len hd1, List.length_map]
    rcases id hX1 with hL | hT
    · skip
      refine ⟨_, pss_cons (ps_expr (pe_call Gcheck_places (hr.mono (by decide)) (by rfl) Ncheck_places.g Ncheck_places.kp Ncheck_places.b .nil pass0 (pa_cons (pv 1) pa_nil)))
      (pss_cons (ps_set (i := 4) sc_init.nd rfl (Or.inl rfl) (pe_op op_sub (pe_callB call_len_seq (by rfl) T.len_ PySem.boot_len (pa_cons (pv 1) pa_nil)) pe_int))
      (pss_cons (ps_expr (pe_call Gcheck_stretches (hr.mono (by decide)) (by rfl) Ncheck_stretches.g Ncheck_stretches.kp Ncheck_stretches.b .nil pass0 (pa_cons (pv 2) (pa_cons (pv 4) pa_nil))))
      (pss_cons (ps_set (i := 5) sc_init.nd rfl (Or.inl rfl) (pe_ifExp (pt_cmpR op_isN (pv 3) pe_non (nomark _)) (pe_tup pa_nil) (pv 3)))
      (pss_cons (ps_expr (pe_call Gcheck_longs (hr.mono (by decide)) (by rfl) Ncheck_longs.g Ncheck_longs.kp Ncheck_longs.b .nil pass0 (pa_cons (pv 5) (pa_cons (pv 4) pa_nil))))
      (pss_cons (ps_fld (pv 0) (pe_callTy call_tuple_of (by rfl) T.tuple_ (by decide +kernel) (pa_cons (pv 1) pa_nil)) rfl)
      (pss_cons (ps_fld (pv 0) (pe_callTy call_tuple_of (by rfl) T.tuple_ (by decide +kernel) (pa_cons (pv 2) pa_nil)) rfl)
      (pss_cons (ps_fld (pv 0) (pe_callTy call_tuple_of (by rfl) T.tuple_ (by decide +kernel) (pa_cons (pv 5) pa_nil)) rfl)
      (pss_one (ps_fld (pv 0) (pe_dc (own := [("number", 6), ("name", 7), ("_", 8)]) (g := gTup K 2 (gCons (gName 6) (gCons (gTup K 2 (gCons (gName 7) (gCons (gName 8) gNil))) gNil))) (tt := tYes) rfl sc_init.nd (pi_enum (by rfl) T.enumerate_ (pa_cons (pv 1) pa_nil)) (blkOk_by (own := [("number", 6), ("name", 7), ("_", 8)]) (N := ["self", "places", "stretches", "longs", "top", "rows", "number", "name", "_"]) (sc := defScope s_init) (by decide +kernel)) (fun _ _ _ _ _ => (pg_tup (by rfl) (pgs_cons (pg_name (i := 6) sc_init.nd rfl (Or.inl rfl)) (pgs_cons (pg_tup (by rfl) (pgs_cons (pg_name (i := 7) sc_init.nd rfl (Or.inl rfl)) (pgs_cons (pg_name (i := 8) sc_init.nd rfl (Or.inl rfl)) pgs_nil))) pgs_nil)))) (fun _ _ _ _ _ => pts_nil) (fun _ _ _ _ _ => pv 7) (fun _ _ _ _ _ => pv 6)) rfl))))))))), ?_⟩
      refine ⟨_, rfl, a1, xs1, wd.ps, rfl, hX1, hd1, ok.p2, ok.p6, ok.nm, ok.nd, tb, fun H1 k1 => ?_⟩
      have i1 : KI x Pt H H1 := KI.of k1
      have e1 := i1.ls hx tb
      have hx1 := KT.nt tb k1 x _ (by simp) hx
      refine ⟨_, rfl, a1, xs1, rfl, e1.seqX hX1, _, _, rfl, rfl, ?_⟩
      refine ⟨_, rfl, _, rfl, a2, _, xs2, wd.st, rfl, e1.seqX hX2, dpAll_ls e1 hd2, (by have := ok.sl; omega), ok.st, fun H2 s2 => ?_⟩
      have i2 := i1.trans (KI.same (x := x) i1.tab s2)
      have e2 := i2.ls hx tb
      refine rows_read (σ := _) rfl (hX3.ls e2) (fun a3 xs3 H3 s3 hX3' hd3' => ?_)
      have i3 := i2.trans (KI.same (x := x) i2.tab s3)
      refine ⟨_, rfl, _, rfl, a3, _, xs3, wd.lo, rfl, hX3', hd3', ok.ll, (by have q := ok.lo; rw [show ((xs1.length : Int) - 1) = ((wd.ps.length - 1 : Nat) : Int) by have := ok.p2; omega]; exact q), fun H4 s4 => ?_⟩
      have i4 := i3.trans (KI.same (x := x) i3.tab s4)
      have e4 := i4.ls hx tb
      have hx4 := s4 _ _ (s3 _ _ (s2 _ _ hx1))
      refine fld_read (i := 1) rfl rfl hx4 TC.cl TC.n1 (by decide) (e4.seqX hX1) (fun p1 H5 s5 hp1 => ?_)
      have j5 := i4.trans (KI.same (x := x) i4.tab s5)
      have i6 := j5.trans (KI.put (o := .ins C dx (putF "_places" (.ref p1) [])) j5.tab nxP)
      have hx6 : (upd H5 x (.ins C dx (putF "_places" (.ref p1) []))) x = some (.ins C dx (putF "_places" (.ref p1) [])) := upd_same
      have u6 : Ls H5 (upd H5 x (.ins C dx (putF "_places" (.ref p1) []))) := (KI.put j5.tab nxP).ls (s5 _ _ hx4) j5.tab
      generalize upd H5 x (.ins C dx (putF "_places" (.ref p1) [])) = H6 at i6 hx6 u6 ⊢
      have e6 := i6.ls hx tb
      refine fld_read (i := 2) rfl rfl hx6 TC.cl TC.n2 (Nat.lt_of_le_of_lt (length_putF _ _ _) (by decide)) (e6.seqX hX2) (fun p2 H7 s7 hp2 => ?_)
      have j7 := i6.trans (KI.same (x := x) i6.tab s7)
      have i8 := j7.trans (KI.put (o := .ins C dx (putF "_stretches" (.ref p2) (putF "_places" (.ref p1) []))) j7.tab nxP)
      have hx8 : (upd H7 x (.ins C dx (putF "_stretches" (.ref p2) (putF "_places" (.ref p1) [])))) x = some (.ins C dx (putF "_stretches" (.ref p2) (putF "_places" (.ref p1) []))) := upd_same
      have u8 : Ls H7 (upd H7 x (.ins C dx (putF "_stretches" (.ref p2) (putF "_places" (.ref p1) [])))) := (KI.put j7.tab nxP).ls (s7 _ _ hx6) j7.tab
      generalize upd H7 x (.ins C dx (putF "_stretches" (.ref p2) (putF "_places" (.ref p1) []))) = H8 at i8 hx8 u8 ⊢
      have e8 := i8.ls hx tb
      have lf8 : (putF "_stretches" (.ref p2) (putF "_places" (.ref p1) [])).length ≤ 2 := Nat.le_trans (length_putF _ _ _) (Nat.succ_le_succ (length_putF _ _ _))
      have e34 : Ls H3 H8 := (((((same_ls s4).trans (same_ls s5)).trans u6).trans (same_ls s7)).trans u8)
      refine fld_read (i := 5) rfl rfl hx8 TC.cl TC.n3 (Nat.lt_of_le_of_lt lf8 (by decide)) (e34.seqX hX3') (fun p3 H9 s9 hp3 => ?_)
      have j9 := i8.trans (KI.same (x := x) i8.tab s9)
      have iA := j9.trans (KI.put (o := .ins C dx (putF "_longs" (.ref p3) (putF "_stretches" (.ref p2) (putF "_places" (.ref p1) [])))) j9.tab nxP)
      have hxA : (upd H9 x (.ins C dx (putF "_longs" (.ref p3) (putF "_stretches" (.ref p2) (putF "_places" (.ref p1) []))))) x = some (.ins C dx (putF "_longs" (.ref p3) (putF "_stretches" (.ref p2) (putF "_places" (.ref p1) [])))) := upd_same
      have uA : Ls H9 (upd H9 x (.ins C dx (putF "_longs" (.ref p3) (putF "_stretches" (.ref p2) (putF "_places" (.ref p1) []))))) := (KI.put j9.tab nxP).ls (s9 _ _ hx8) j9.tab
      generalize upd H9 x (.ins C dx (putF "_longs" (.ref p3) (putF "_stretches" (.ref p2) (putF "_places" (.ref p1) [])))) = HA at iA hxA uA ⊢
      have eA := iA.ls hx tb
      have hp1A : SqT K HA p1 xs1 := uA.seqT ((same_ls s9).seqT (u8.seqT ((same_ls s7).seqT (u6.seqT hp1))))
      have hp2A : SqT K HA p2 xs2 := uA.seqT ((same_ls s9).seqT (u8.seqT hp2))
      have hp3A : SqT K HA p3 xs3 := uA.seqT hp3
      have hd3A := dpAll_ls (e34.trans ((same_ls s9).trans uA)) hd3'
      have hd1A := dpAll_ls eA hd1
      have hd2A := dpAll_ls eA hd2
      refine ⟨_, rfl, a1, xs1, rfl, eA.seq hL, fun D hD => dc_it (walk_enum (K := K) (xs := xs1)) (fun i H' => KB D HA H' ∧ ∃ kvs : List (Key × V), H' D = some (.dK kvs) ∧ kvs.length ≤ i ∧ ∀ z, valV kvs (Sum.inr z) = (posOf (wd.ps.take i) z).map fun j => V.int (j : Nat)) ?_ ?_ ?_ ?_⟩
      · exact ⟨KB.alloc hD, [], upd_same, Nat.zero_le _, fun z => rfl⟩
      · rintro i H' hi ⟨kb, _⟩
        exact (KB.seq' hD kb).seq (eA.seq hL)
      · rintro i v H' H'' hi ⟨kb, kvs, hk1, hk2, hk3⟩ ⟨T1, X, Y, rfl, hT1, rfl, q1, q2⟩
        obtain rfl := Option.some.inj q1
        obtain ⟨d, hg1, hg2⟩ := dpAll_get hd1A q2
        obtain ⟨p, hp, rfl⟩ := get_map hg1
        obtain ⟨t, x1, x2, rfl, ht, r1, r2⟩ := dp_two hg2
        obtain rfl := dp_str r1
        obtain rfl := dp_int r2
        have nD : D ≠ T1 := fun e => by rw [← e, hk1] at hT1; cases hT1
        have ht1 : SqT K (upd H' T1 (.tup [.int (i : Nat), .ref t])) t [.str p.1, .int p.2] := (same_ls (same_alloc hT1)).seqT ((KB.seq' hD kb).seqT ht)
        refine ⟨T1, _, rfl, SqT.of upd_same, rfl, _, _, rfl, _, _, rfl, t, _, rfl, ht1, rfl, _, _, rfl, _, _, rfl, rfl, rfl, rfl, ?_⟩
        refine lcY ⟨_, rfl, _, rfl, kvs, Sum.inr p.1, rfl, by rw [upd_ne nD]; exact hk1, (by show kvs.length < sizeLine; have := ok.p6; exact Nat.lt_of_le_of_lt hk2 (Nat.lt_trans (Nat.lt_of_lt_of_le hi (by omega : xs1.length ≤ 6)) (by decide))), ?_⟩
        refine ⟨fun c o n h => by rw [upd_ne n]; exact (same_alloc hT1) _ _ (kb c o n h), _, upd_same, Nat.le_trans (length_putK _ _ _) (Nat.succ_le_succ hk2), fun z => ?_⟩
        rw [valV_put, take_at hp, posOf_snoc _ _ _ (fresh_name ok.nd hp)]
        have li : (wd.ps.take i).length = i := by rw [List.length_take]; have := (List.getElem?_eq_some_iff.mp hp).1; omega
        by_cases ez : p.1 = z
        · rw [if_pos ez, if_pos (by rw [ez]), li]
          rfl
        · rw [if_neg ez, if_neg (fun e => ez (Sum.inr.inj e).symm)]
          exact hk3 z
      · rintro H' ⟨kb, kvs, hk1, hk2, hk3⟩
        have nxD : x ≠ D := fun e => by rw [← e, hxA] at hD; cases hD
        have sB : Same HA H' := fun c o h => kb c o (fun e => by rw [e, hD] at h; cases h) h
        have jB := iA.trans (KI.same (x := x) iA.tab sB)
        have iB := jB.trans (KI.put (o := .ins C dx (lf p1 p2 p3 D)) jB.tab nxP)
        have uB : Ls H' (upd H' x (.ins C dx (lf p1 p2 p3 D))) := (KI.put jB.tab nxP).ls (sB _ _ hxA) jB.tab
        have eB := (same_ls sB).trans uB
        refine ⟨_, rfl, x, C, dx, _, rfl, sB _ _ hxA, TC.cl, TC.n4, (Nat.lt_of_le_of_lt (Nat.le_trans (length_putF _ _ _) (Nat.succ_le_succ lf8)) (by decide)), k _ iB ⟨dx, p1, p2, p3, D, xs1, xs2, xs3, upd_same, eB.seqT hp1A, dpAll_ls eB hd1A, eB.seqT hp2A, dpAll_ls eB hd2A, eB.seqT hp3A, dpAll_ls eB hd3A, kvs, ?_, ?_, fun z => ?_⟩ (newD iA hxA hD)⟩
        · rw [upd_ne nxD.symm]
          exact hk1
        · omega
        · rw [hk3 z, List.take_of_length_le (by omega)]
    · skip
      refine ⟨_, pss_cons (ps_expr (pe_call Gcheck_places (hr.mono (by decide)) (by rfl) Ncheck_places.g Ncheck_places.kp Ncheck_places.b .nil pass0 (pa_cons (pv 1) pa_nil)))
      (pss_cons (ps_set (i := 4) sc_init.nd rfl (Or.inl rfl) (pe_op op_sub (pe_callB call_len_seq (by rfl) T.len_ PySem.boot_len (pa_cons (pv 1) pa_nil)) pe_int))
      (pss_cons (ps_expr (pe_call Gcheck_stretches (hr.mono (by decide)) (by rfl) Ncheck_stretches.g Ncheck_stretches.kp Ncheck_stretches.b .nil pass0 (pa_cons (pv 2) (pa_cons (pv 4) pa_nil))))
      (pss_cons (ps_set (i := 5) sc_init.nd rfl (Or.inl rfl) (pe_ifExp (pt_cmpR op_isN (pv 3) pe_non (nomark _)) (pe_tup pa_nil) (pv 3)))
      (pss_cons (ps_expr (pe_call Gcheck_longs (hr.mono (by decide)) (by rfl) Ncheck_longs.g Ncheck_longs.kp Ncheck_longs.b .nil pass0 (pa_cons (pv 5) (pa_cons (pv 4) pa_nil))))
      (pss_cons (ps_fld (pv 0) (pe_callTy call_tuple_of (by rfl) T.tuple_ (by decide +kernel) (pa_cons (pv 1) pa_nil)) rfl)
      (pss_cons (ps_fld (pv 0) (pe_callTy call_tuple_of (by rfl) T.tuple_ (by decide +kernel) (pa_cons (pv 2) pa_nil)) rfl)
      (pss_cons (ps_fld (pv 0) (pe_callTy call_tuple_of (by rfl) T.tuple_ (by decide +kernel) (pa_cons (pv 5) pa_nil)) rfl)
      (pss_one (ps_fld (pv 0) (pe_dc (own := [("number", 6), ("name", 7), ("_", 8)]) (g := gTup K 2 (gCons (gName 6) (gCons (gTup K 2 (gCons (gName 7) (gCons (gName 8) gNil))) gNil))) (tt := tYes) rfl sc_init.nd (pi_enumT (by rfl) T.enumerate_ (pa_cons (pv 1) pa_nil)) (blkOk_by (own := [("number", 6), ("name", 7), ("_", 8)]) (N := ["self", "places", "stretches", "longs", "top", "rows", "number", "name", "_"]) (sc := defScope s_init) (by decide +kernel)) (fun _ _ _ _ _ => (pg_tup (by rfl) (pgs_cons (pg_name (i := 6) sc_init.nd rfl (Or.inl rfl)) (pgs_cons (pg_tup (by rfl) (pgs_cons (pg_name (i := 7) sc_init.nd rfl (Or.inl rfl)) (pgs_cons (pg_name (i := 8) sc_init.nd rfl (Or.inl rfl)) pgs_nil))) pgs_nil)))) (fun _ _ _ _ _ => pts_nil) (fun _ _ _ _ _ => pv 7) (fun _ _ _ _ _ => pv 6)) rfl))))))))), ?_⟩
      refine ⟨_, rfl, a1, xs1, wd.ps, rfl, hX1, hd1, ok.p2, ok.p6, ok.nm, ok.nd, tb, fun H1 k1 => ?_⟩
      have i1 : KI x Pt H H1 := KI.of k1
      have e1 := i1.ls hx tb
      have hx1 := KT.nt tb k1 x _ (by simp) hx
      refine ⟨_, rfl, a1, xs1, rfl, e1.seqX hX1, _, _, rfl, rfl, ?_⟩
      refine ⟨_, rfl, _, rfl, a2, _, xs2, wd.st, rfl, e1.seqX hX2, dpAll_ls e1 hd2, (by have := ok.sl; omega), ok.st, fun H2 s2 => ?_⟩
      have i2 := i1.trans (KI.same (x := x) i1.tab s2)
      have e2 := i2.ls hx tb
      refine rows_read (σ := _) rfl (hX3.ls e2) (fun a3 xs3 H3 s3 hX3' hd3' => ?_)
      have i3 := i2.trans (KI.same (x := x) i2.tab s3)
      refine ⟨_, rfl, _, rfl, a3, _, xs3, wd.lo, rfl, hX3', hd3', ok.ll, (by have q := ok.lo; rw [show ((xs1.length : Int) - 1) = ((wd.ps.length - 1 : Nat) : Int) by have := ok.p2; omega]; exact q), fun H4 s4 => ?_⟩
      have i4 := i3.trans (KI.same (x := x) i3.tab s4)
      have e4 := i4.ls hx tb
      have hx4 := s4 _ _ (s3 _ _ (s2 _ _ hx1))
      refine fld_read (i := 1) rfl rfl hx4 TC.cl TC.n1 (by decide) (e4.seqX hX1) (fun p1 H5 s5 hp1 => ?_)
      have j5 := i4.trans (KI.same (x := x) i4.tab s5)
      have i6 := j5.trans (KI.put (o := .ins C dx (putF "_places" (.ref p1) [])) j5.tab nxP)
      have hx6 : (upd H5 x (.ins C dx (putF "_places" (.ref p1) []))) x = some (.ins C dx (putF "_places" (.ref p1) [])) := upd_same
      have u6 : Ls H5 (upd H5 x (.ins C dx (putF "_places" (.ref p1) []))) := (KI.put j5.tab nxP).ls (s5 _ _ hx4) j5.tab
      generalize upd H5 x (.ins C dx (putF "_places" (.ref p1) [])) = H6 at i6 hx6 u6 ⊢
      have e6 := i6.ls hx tb
      refine fld_read (i := 2) rfl rfl hx6 TC.cl TC.n2 (Nat.lt_of_le_of_lt (length_putF _ _ _) (by decide)) (e6.seqX hX2) (fun p2 H7 s7 hp2 => ?_)
      have j7 := i6.trans (KI.same (x := x) i6.tab s7)
      have i8 := j7.trans (KI.put (o := .ins C dx (putF "_stretches" (.ref p2) (putF "_places" (.ref p1) []))) j7.tab nxP)
      have hx8 : (upd H7 x (.ins C dx (putF "_stretches" (.ref p2) (putF "_places" (.ref p1) [])))) x = some (.ins C dx (putF "_stretches" (.ref p2) (putF "_places" (.ref p1) []))) := upd_same
      have u8 : Ls H7 (upd H7 x (.ins C dx (putF "_stretches" (.ref p2) (putF "_places" (.ref p1) [])))) := (KI.put j7.tab nxP).ls (s7 _ _ hx6) j7.tab
      generalize upd H7 x (.ins C dx (putF "_stretches" (.ref p2) (putF "_places" (.ref p1) []))) = H8 at i8 hx8 u8 ⊢
      have e8 := i8.ls hx tb
      have lf8 : (putF "_stretches" (.ref p2) (putF "_places" (.ref p1) [])).length ≤ 2 := Nat.le_trans (length_putF _ _ _) (Nat.succ_le_succ (length_putF _ _ _))
      have e34 : Ls H3 H8 := (((((same_ls s4).trans (same_ls s5)).trans u6).trans (same_ls s7)).trans u8)
      refine fld_read (i := 5) rfl rfl hx8 TC.cl TC.n3 (Nat.lt_of_le_of_lt lf8 (by decide)) (e34.seqX hX3') (fun p3 H9 s9 hp3 => ?_)
      have j9 := i8.trans (KI.same (x := x) i8.tab s9)
      have iA := j9.trans (KI.put (o := .ins C dx (putF "_longs" (.ref p3) (putF "_stretches" (.ref p2) (putF "_places" (.ref p1) [])))) j9.tab nxP)
      have hxA : (upd H9 x (.ins C dx (putF "_longs" (.ref p3) (putF "_stretches" (.ref p2) (putF "_places" (.ref p1) []))))) x = some (.ins C dx (putF "_longs" (.ref p3) (putF "_stretches" (.ref p2) (putF "_places" (.ref p1) [])))) := upd_same
      have uA : Ls H9 (upd H9 x (.ins C dx (putF "_longs" (.ref p3) (putF "_stretches" (.ref p2) (putF "_places" (.ref p1) []))))) := (KI.put j9.tab nxP).ls (s9 _ _ hx8) j9.tab
      generalize upd H9 x (.ins C dx (putF "_longs" (.ref p3) (putF "_stretches" (.ref p2) (putF "_places" (.ref p1) [])))) = HA at iA hxA uA ⊢
      have eA := iA.ls hx tb
      have hp1A : SqT K HA p1 xs1 := uA.seqT ((same_ls s9).seqT (u8.seqT ((same_ls s7).seqT (u6.seqT hp1))))
      have hp2A : SqT K HA p2 xs2 := uA.seqT ((same_ls s9).seqT (u8.seqT hp2))
      have hp3A : SqT K HA p3 xs3 := uA.seqT hp3
      have hd3A := dpAll_ls (e34.trans ((same_ls s9).trans uA)) hd3'
      have hd1A := dpAll_ls eA hd1
      have hd2A := dpAll_ls eA hd2
      refine ⟨_, rfl, a1, xs1, rfl, eA.seqT hT, fun D hD => dc_it (walk_enumT (K := K) (xs := xs1)) (fun i H' => KB D HA H' ∧ ∃ kvs : List (Key × V), H' D = some (.dK kvs) ∧ kvs.length ≤ i ∧ ∀ z, valV kvs (Sum.inr z) = (posOf (wd.ps.take i) z).map fun j => V.int (j : Nat)) ?_ ?_ ?_ ?_⟩
      · exact ⟨KB.alloc hD, [], upd_same, Nat.zero_le _, fun z => rfl⟩
      · rintro i H' hi ⟨kb, _⟩
        exact (KB.seq' hD kb).seqT (eA.seqT hT)
      · rintro i v H' H'' hi ⟨kb, kvs, hk1, hk2, hk3⟩ ⟨T1, X, Y, rfl, hT1, rfl, q1, q2⟩
        obtain rfl := Option.some.inj q1
        obtain ⟨d, hg1, hg2⟩ := dpAll_get hd1A q2
        obtain ⟨p, hp, rfl⟩ := get_map hg1
        obtain ⟨t, x1, x2, rfl, ht, r1, r2⟩ := dp_two hg2
        obtain rfl := dp_str r1
        obtain rfl := dp_int r2
        have nD : D ≠ T1 := fun e => by rw [← e, hk1] at hT1; cases hT1
        have ht1 : SqT K (upd H' T1 (.tup [.int (i : Nat), .ref t])) t [.str p.1, .int p.2] := (same_ls (same_alloc hT1)).seqT ((KB.seq' hD kb).seqT ht)
        refine ⟨T1, _, rfl, SqT.of upd_same, rfl, _, _, rfl, _, _, rfl, t, _, rfl, ht1, rfl, _, _, rfl, _, _, rfl, rfl, rfl, rfl, ?_⟩
        refine lcY ⟨_, rfl, _, rfl, kvs, Sum.inr p.1, rfl, by rw [upd_ne nD]; exact hk1, (by show kvs.length < sizeLine; have := ok.p6; exact Nat.lt_of_le_of_lt hk2 (Nat.lt_trans (Nat.lt_of_lt_of_le hi (by omega : xs1.length ≤ 6)) (by decide))), ?_⟩
        refine ⟨fun c o n h => by rw [upd_ne n]; exact (same_alloc hT1) _ _ (kb c o n h), _, upd_same, Nat.le_trans (length_putK _ _ _) (Nat.succ_le_succ hk2), fun z => ?_⟩
        rw [valV_put, take_at hp, posOf_snoc _ _ _ (fresh_name ok.nd hp)]
        have li : (wd.ps.take i).length = i := by rw [List.length_take]; have := (List.getElem?_eq_some_iff.mp hp).1; omega
        by_cases ez : p.1 = z
        · rw [if_pos ez, if_pos (by rw [ez]), li]
          rfl
        · rw [if_neg ez, if_neg (fun e => ez (Sum.inr.inj e).symm)]
          exact hk3 z
      · rintro H' ⟨kb, kvs, hk1, hk2, hk3⟩
        have nxD : x ≠ D := fun e => by rw [← e, hxA] at hD; cases hD
        have sB : Same HA H' := fun c o h => kb c o (fun e => by rw [e, hD] at h; cases h) h
        have jB := iA.trans (KI.same (x := x) iA.tab sB)
        have iB := jB.trans (KI.put (o := .ins C dx (lf p1 p2 p3 D)) jB.tab nxP)
        have uB : Ls H' (upd H' x (.ins C dx (lf p1 p2 p3 D))) := (KI.put jB.tab nxP).ls (sB _ _ hxA) jB.tab
        have eB := (same_ls sB).trans uB
        refine ⟨_, rfl, x, C, dx, _, rfl, sB _ _ hxA, TC.cl, TC.n4, (Nat.lt_of_le_of_lt (Nat.le_trans (length_putF _ _ _) (Nat.succ_le_succ lf8)) (by decide)), k _ iB ⟨dx, p1, p2, p3, D, xs1, xs2, xs3, upd_same, eB.seqT hp1A, dpAll_ls eB hd1A, eB.seqT hp2A, dpAll_ls eB hd2A, eB.seqT hp3A, dpAll_ls eB hd3A, kvs, ?_, ?_, fun z => ?_⟩ (newD iA hxA hD)⟩
        · rw [upd_ne nxD.symm]
          exact hk1
        · omega
        · rw [hk3 z, List.take_of_length_le (by omega)]
end
end K6

set_option maxRecDepth 100000
set_option maxHeartbeats 4000000
namespace K6
open PySem PySem.Spec PyProof.Rows L2 GxR Gd TL My
structure Mt (K : PySem.W.Frag) (C : Addr) (m q : Str) (st : Stmt) (ps : List Str) (f : Addr) (fd : FuncData) : Prop where
  fn : Fun K m q st f fd
  m : Meth K C m f
  b : Binds K fd ps []
def betw (i j : Nat) : V := if j = i + 1 then .int (i : Nat) else if i = j + 1 then .int (j : Nat) else .non
def lbt (lo : List (Int × Int × Int)) (a b : Int) : V := match lo.findIdx? fun p => decide (p.1 = a) && decide (p.2.1 = b) with
  | some j => .int (j : Nat)
  | none => .non
theorem lf_numbers (p1 p2 p3 d : Addr) : (lf p1 p2 p3 d).lookup (Str.ofString "_numbers") = some (V.ref d) := by rw [lf_get, if_pos rfl]
theorem lf_longs (p1 p2 p3 d : Addr) : (lf p1 p2 p3 d).lookup (Str.ofString "_longs") = some (V.ref p3) := by rw [lf_get, if_neg (by decide +kernel), if_pos rfl]
theorem lf_no (p1 p2 p3 d : Addr) {m : Str} (h : (decide (m = "_numbers") || decide (m = "_longs") || decide (m = "_stretches") || decide (m = "_places")) = false) : (lf p1 p2 p3 d).lookup m = none := by
  rw [lf_get]
  rw [Bool.or_eq_false_iff, Bool.or_eq_false_iff, Bool.or_eq_false_iff, decide_eq_false_iff_not, decide_eq_false_iff_not, decide_eq_false_iff_not, decide_eq_false_iff_not] at h
  obtain ⟨⟨⟨h1, h2⟩, h3⟩, h4⟩ := h
  rw [if_neg h1, if_neg h2, if_neg h3, if_neg h4]
section
variable {P : Program} {w : World} {K : PySem.W.Frag} {mg : Str → Option Value} {base : Heap}
abbrev s_number_of : Stmt := inClass (top 23) 3
theorem sc_number_of : FnScope ["self", "name"] ["self", "name"] (defScope s_number_of) := ⟨rfl, rfl, rfl, by decide +kernel, rfl, by decide +kernel, by decide +kernel⟩
def spNum (K : PySem.W.Frag) (C : Addr) : Sp := fun vs H Q _ => ∃ (x : Addr) (z : Str) (wd : Wd) (j : Nat), vs = [.ref x, .str z] ∧ LineAt K C wd H x ∧ posOf wd.ps z = some j ∧ Q (.int j) H
theorem ok_num {f C : Addr} {fd : FuncData} (F : Fun K "number_of" "Line.number_of" s_number_of f fd) (T : Txt mg) (TC : ClsT K C) : FnOk P w K mg base CX0 1 f fd ["self", "name"] (spNum K C) := by
  refine F.ok sc_number_of (fun vs H Q E h => ?_) (fun cdv A outer s H vs Q E hr h => ?_)
  · obtain ⟨x, z, wd, j, rfl, _⟩ := h
    rfl
  · obtain ⟨x, z, wd, j, rfl, ⟨dx, p1, p2, p3, d, xs1, xs2, xs3, hx, _, _, _, _, _, _, kvs, hk, hl, hv⟩, hj, k⟩ := h
    have hu := hr.units
    have hu1 := Nat.lt_of_le_of_lt (Nat.add_le_add_left (by decide : 1 ≤ 64) _) hu
    refine ⟨_, pss_cons (ps_if (PW.pt (pw_or (pt_not (pt_val (pe_callB call_isi (by rfl) T.isinstance_ (by decide +kernel) (pa_cons (pv 1) (pa_cons (pe_bltn (v := .ty "str") (by rfl) T.str_ (by decide +kernel) rfl) pa_nil))))) (pw_or1 (pt_cmp (pc_dnotin (hu_of hr) (pv 1) (pe_fld (pv 0) rfl)))))) (pss_one ps_never) pss_nil)
      (pss_one (ps_ret (pe_dget (hu_of hr) (pe_fld (pv 0) rfl) (pv 1) (fun _ _ => rfl)))), ?_⟩
    have e := hv z
    rw [hj] at e
    refine ⟨_, rfl, _, _, _, _, true, rfl, .ty "str", .base (.str z), (by rfl), _, rfl, iteF ?_⟩
    refine ⟨_, rfl, _, rfl, x, C, dx, _, _, rfl, hx, TC.cl, TC.n4, lf_numbers _ _ _ _, d, some (.int j), rfl, .inl ⟨kvs, Sum.inr z, Rd.of hk, rfl, e.symm⟩, _, rfl, iteF ?_⟩
    exact ⟨_, rfl, x, C, dx, _, _, rfl, hx, TC.cl, TC.n4, lf_numbers _ _ _ _, _, rfl, d, .int j, rfl, .inl ⟨kvs, Sum.inr z, Rd.of hk, rfl, e.symm⟩, k⟩
abbrev s_between : Stmt := inClass (top 23) 9
theorem sc_between : FnScope ["self", "one", "other", "number", "apart"] ["self", "one", "other"] (defScope s_between) := ⟨rfl, rfl, rfl, by decide +kernel, rfl, by decide +kernel, by decide +kernel⟩
def spBetween (K : PySem.W.Frag) (C : Addr) : Sp := fun vs H Q _ => ∃ (x : Addr) (z1 z2 : Str) (wd : Wd) (i j : Nat), vs = [.ref x, .str z1, .str z2] ∧ LineAt K C wd H x ∧ posOf wd.ps z1 = some i ∧ posOf wd.ps z2 = some j ∧ Q (betw i j) H
theorem ok_between {f fN C : Addr} {fd fdN : FuncData} (F : Fun K "between" "Line.between" s_between f fd) (T : Txt mg) (TC : ClsT K C)
    (Mnumber_of : Mt K C "number_of" "Line.number_of" s_number_of ["self", "name"] fN fdN) (Gnumber_of : FnOk P w K mg base CX0 1 fN fdN ["self", "name"] (spNum K C)) :
    FnOk P w K mg base CX0 2 f fd ["self", "one", "other"] (spBetween K C) := by
  refine F.ok sc_between (fun vs H Q E h => ?_) (fun cdv A outer s H vs Q E hr h => ?_)
  · obtain ⟨x, z1, z2, wd, i, j, rfl, _⟩ := h
    rfl
  · obtain ⟨x, z1, z2, wd, i, j, rfl, hL, h1, h2, k⟩ := h
    have hL' := hL
    obtain ⟨dx, p1, p2, p3, d, xs1, xs2, xs3, hx, _⟩ := hL'
    refine ⟨_, pss_cons (ps_set (i := 3) sc_between.nd rfl (Or.inl rfl) (pe_meth (pv 0) TC.cl Mnumber_of.m Gnumber_of (hr.mono (by decide)) Mnumber_of.b .nil pass0 (pa_cons (pv 1) pa_nil)))
      (pss_cons (ps_set (i := 4) sc_between.nd rfl (Or.inl rfl) (pe_op op_sub (pe_meth (pv 0) TC.cl Mnumber_of.m Gnumber_of (hr.mono (by decide)) Mnumber_of.b .nil pass0 (pa_cons (pv 2) pa_nil)) (pv 3)))
      (pss_cons (ps_if (pt_cmpR op_eq (pv 4) pe_int (nomark _)) (pss_one (ps_ret (pv 3))) pss_nil)
      (pss_cons (ps_if (pt_cmpR op_eq (pv 4) (pe_un un_neg pe_int) (nomark _)) (pss_one (ps_ret (pe_op op_sub (pv 3) pe_int))) pss_nil)
      (pss_one (ps_ret pe_non))))), ?_⟩
    have no : (lf p1 p2 p3 d).lookup (Str.ofString "number_of") = none := lf_no _ _ _ _ (by decide +kernel)
    refine ⟨_, rfl, x, dx, _, rfl, hx, no, _, rfl, x, z1, wd, i, rfl, hL, h1, ?_⟩
    refine ⟨_, rfl, x, dx, _, rfl, hx, no, _, rfl, x, z2, wd, j, rfl, hL, h2, _, rfl, _, _, rfl, rfl, ?_⟩
    refine ⟨_, rfl, rfl, _, rfl, ite2 (fun c => ?_) (fun c => ?_)⟩
    · have c' : ((j : Int) - i) = 1 := by simpa using c
      have e : betw i j = .int (i : Nat) := by unfold betw; rw [if_pos (by omega)]
      rw [e] at k
      exact ⟨_, rfl, k⟩
    · have c' : ((j : Int) - i) ≠ 1 := by simpa using c
      refine ⟨_, rfl, _, rfl, rfl, _, rfl, ite2 (fun c2 => ?_) (fun c2 => ?_)⟩
      · have c2' : ((j : Int) - i) = -1 := by simpa using c2
        have e : betw i j = .int (j : Nat) := by unfold betw; rw [if_neg (by omega), if_pos (by omega)]
        rw [e] at k
        refine ⟨_, rfl, _, _, rfl, rfl, ?_⟩
        have e3 : ((i : Int) - 1) = (j : Nat) := by omega
        show Q (.int ((i : Int) - 1)) H
        rw [e3]
        exact k
      · have c2' : ((j : Int) - i) ≠ -1 := by simpa using c2
        have e : betw i j = .non := by unfold betw; rw [if_neg (by omega), if_neg (by omega)]
        rw [e] at k
        exact k
abbrev s_long_between : Stmt := inClass (top 23) 15
theorem sc_long_between : FnScope ["self", "one", "other", "asked", "j", "first", "last", "_"] ["self", "one", "other"] (defScope s_long_between) := ⟨rfl, rfl, rfl, by decide +kernel, rfl, by decide +kernel, by decide +kernel⟩
def spLongBetween (K : PySem.W.Frag) (C : Addr) : Sp := fun vs H Q _ => ∃ (x : Addr) (z1 z2 : Str) (wd : Wd) (i j : Nat), vs = [.ref x, .str z1, .str z2] ∧ LineAt K C wd H x ∧ posOf wd.ps z1 = some i ∧ posOf wd.ps z2 = some j ∧
  ∀ H', Same H H' → Q (lbt wd.lo (min i j : Nat) (max i j : Nat)) H'
theorem perm2 {a b : Int} {l : List Int} (p : l.Perm [a, b]) (s : l.Pairwise (· ≤ ·)) : l = [min a b, max a b] := by
  have hl := p.length_eq
  match l, hl, p, s with
  | [u, v], _, p, s =>
    have su : u ≤ v := by simpa using s
    have m1 : u ∈ [a, b] := p.subset (by simp)
    have m2 : v ∈ [a, b] := p.subset (by simp)
    have m3 : a ∈ [u, v] := p.symm.subset (by simp)
    have m4 : b ∈ [u, v] := p.symm.subset (by simp)
    simp at m1 m2 m3 m4
    have e1 : u = min a b := by omega
    have e2 : v = max a b := by omega
    rw [e1, e2]
theorem eqv2 (a b f l : Int) : PyData.eqv (.list [.int a, .int b]) (.list [.int f, .int l]) = (decide (a = f) && decide (b = l)) := by
  simp [PyData.eqv, PyData.eqvAll]
  rw [Bool.eq_iff_iff]
  simp
theorem ok_long_between {f fN C : Addr} {fd fdN : FuncData} (F : Fun K "long_between" "Line.long_between" s_long_between f fd) (T : Txt mg) (TC : ClsT K C)
    (Mnumber_of : Mt K C "number_of" "Line.number_of" s_number_of ["self", "name"] fN fdN) (Gnumber_of : FnOk P w K mg base CX0 1 fN fdN ["self", "name"] (spNum K C)) :
    FnOk P w K mg base CX0 2 f fd ["self", "one", "other"] (spLongBetween K C) := by
  refine F.ok sc_long_between (fun vs H Q E h => ?_) (fun cdv A outer s H vs Q E hr h => ?_)
  · obtain ⟨x, z1, z2, wd, i, j, rfl, _⟩ := h
    rfl
  · obtain ⟨x, z1, z2, wd, i, j, rfl, hL, h1, h2, k⟩ := h
    have hL' := hL
    obtain ⟨dx, p1, p2, p3, d, xs1, xs2, xs3, hx, hp1, hd1, hp2, hd2, hp3, hd3, hN⟩ := hL'
    have hu := hr.units
    refine ⟨_, pss_cons (ps_set (i := 3) sc_long_between.nd rfl (Or.inl rfl) (pe_callB cr_sorted (by rfl) T.sorted_ (by decide +kernel) (pa_cons (pe_lst (pa_cons (pe_meth (pv 0) TC.cl Mnumber_of.m Gnumber_of (hr.mono (by decide)) Mnumber_of.b .nil pass0 (pa_cons (pv 1) pa_nil)) (pa_cons (pe_meth (pv 0) TC.cl Mnumber_of.m Gnumber_of (hr.mono (by decide)) Mnumber_of.b .nil pass0 (pa_cons (pv 2) pa_nil)) pa_nil))) pa_nil)))
      (pss_cons (ps_for PassesOwn.never rfl (pi_enumT (by rfl) T.enumerate_ (pa_cons (pe_fld (pv 0) rfl) pa_nil)) (pg_tup (by rfl) (pgs_cons (pg_name (i := 4) sc_long_between.nd rfl (Or.inl rfl)) (pgs_cons (pg_tup (by rfl) (pgs_cons (pg_name (i := 5) sc_long_between.nd rfl (Or.inl rfl)) (pgs_cons (pg_name (i := 6) sc_long_between.nd rfl (Or.inl rfl)) (pgs_cons (pg_name (i := 7) sc_long_between.nd rfl (Or.inl rfl)) pgs_nil)))) pgs_nil))) (pss_one (ps_if (pt_cmpR (op_eqD hu) (pv 3) (pe_lst (pa_cons (pv 5) (pa_cons (pv 6) pa_nil))) (nomark _)) (pss_one (ps_ret (pv 4))) pss_nil)))
      (pss_one (ps_ret pe_non))), ?_⟩
    have no : (lf p1 p2 p3 d).lookup (Str.ofString "number_of") = none := lf_no _ _ _ _ (by decide +kernel)
    refine ⟨_, rfl, x, dx, _, rfl, hx, no, _, rfl, x, z1, wd, i, rfl, hL, h1, ?_⟩
    refine ⟨_, rfl, x, dx, _, rfl, hx, no, _, rfl, x, z2, wd, j, rfl, hL, h2, ?_⟩
    refine ⟨(by show 2 ≤ sizeLine; decide), fun L hL0 => ?_⟩
    have e1 := same_alloc (o := .lst [.int (i : Nat), .int (j : Nat)]) hL0
    refine ⟨L, [(i : Nat), (j : Nat)], rfl, SqL.of upd_same, (by show 2 < 64; decide), fun ns q pm ps hq => ?_⟩
    obtain rfl := perm2 pm ps
    have e2 := same_alloc (o := .lst ([min (i : Int) j, max (i : Int) j].map V.int)) hq
    have e12 : Same H _ := e1.trans e2
    have hs2 : (upd (upd H L (.lst [.int (i : Nat), .int (j : Nat)])) q (.lst ([min (i : Int) j, max (i : Int) j].map V.int))) q = some (.lst ([min (i : Int) j, max (i : Int) j].map V.int)) := upd_same
    generalize upd (upd H L (.lst [.int (i : Nat), .int (j : Nat)])) q (.lst ([min (i : Int) j, max (i : Int) j].map V.int)) = H2 at e12 hs2 ⊢
    have hp3' := (same_nt e12).seqT hp3
    have k' : ∀ H', Same H H' → Q (lbt wd.lo (min (i : Int) j) (max (i : Int) j)) H' := by
      have a1 : ((min i j : Nat) : Int) = min (i : Int) j := by omega
      have a2 : ((max i j : Nat) : Int) = max (i : Int) j := by omega
      rw [← a1, ← a2]
      exact k
    generalize min (i : Int) j = mn at hs2 k' ⊢
    generalize max (i : Int) j = mx at hs2 k' ⊢
    refine ⟨_, rfl, x, C, dx, _, _, rfl, e12 _ _ hx, TC.cl, TC.n3, lf_longs _ _ _ _, p3, xs3, rfl, hp3', for_it (walk_enumT (K := K) (xs := xs3)) (fun i σ H' => ∃ v4 v5 v6 v7 : Option V, σ = [some (.ref x), some (.str z1), some (.str z2), some (.ref q), v4, v5, v6, v7] ∧ Same H2 H' ∧ ∀ (j : Nat) (p : Int × Int × Int), j < i → wd.lo[j]? = some p → ¬ (p.1 = mn ∧ p.2.1 = mx)) ?_ ?_ ?_ ?_⟩
    · exact ⟨_, _, _, _, rfl, Same.refl _, fun j p h => absurd h (Nat.not_lt_zero j)⟩
    · rintro i' σ H' hi ⟨_, _, _, _, _, s, _⟩
      exact (same_nt s).seqT hp3'
    · rintro i' v σ H' H'' hi ⟨_, _, _, _, rfl, s, hn⟩ ⟨T1, X, Y, rfl, hT1, rfl, q1, q2⟩
      obtain rfl := Option.some.inj q1
      obtain ⟨d', hg1, hg2⟩ := dpAll_get hd3 q2
      obtain ⟨p, hp, rfl⟩ := get_map hg1
      obtain ⟨t, x1, x2, x3, rfl, ht, r1, r2, r3⟩ := dp_three hg2
      obtain rfl := dp_int r1
      obtain rfl := dp_int r2
      obtain rfl := dp_int r3
      have s2 := s.trans (same_alloc (o := .tup [.int (i' : Nat), .ref t]) hT1)
      have ht2 := (same_nt (e12.trans s2)).seqT ht
      refine ⟨T1, _, rfl, SqT.of upd_same, rfl, _, _, rfl, _, _, rfl, t, _, rfl, ht2, rfl, _, _, rfl, _, _, rfl, _, _, rfl, rfl, rfl, ?_⟩
      refine ⟨_, rfl, _, rfl, _, rfl, (by show 2 ≤ sizeLine; decide), fun u hu0 => ?_⟩
      have s3 := s2.trans (same_alloc (o := .lst [.int p.1, .int p.2.1]) hu0)
      refine ⟨.list [.int mn, .int mx], .list [.int p.1, .int p.2.1], .lst (SqL.of (s3 _ _ hs2)) (.cons (.int _) (.cons (.int _) .nil)), .lst (SqL.of upd_same) (.cons (.int _) (.cons (.int _) .nil)), rfl, rfl, _, rfl, ?_⟩
      rw [eqv2]
      refine ite2 (fun c => ?_) (fun c => ?_)
      · simp at c
        refine ⟨_, rfl, ?_⟩
        have e : lbt wd.lo mn mx = .int (i' : Nat) := by
          unfold lbt
          have f : wd.lo.findIdx? (fun p => decide (p.1 = mn) && decide (p.2.1 = mx)) = some i' := by
            rw [List.findIdx?_eq_some_iff_getElem]
            obtain ⟨hi1, hi2⟩ := List.getElem?_eq_some_iff.mp hp
            refine ⟨hi1, by rw [hi2]; simp [c.1, c.2], fun j hj hc => ?_⟩
            refine hn j wd.lo[j] hj (List.getElem?_eq_getElem _) ?_
            simpa using hc
          rw [f]
        have z := k' _ (e12.trans s3)
        rw [e] at z
        exact z
      · refine ⟨_, _, _, _, rfl, s3, fun j p' hj hp' hc => ?_⟩
        rcases Nat.lt_succ_iff_lt_or_eq.mp hj with h | rfl
        · exact hn j p' h hp' hc
        · rw [hp] at hp'
          obtain rfl := Option.some.inj hp'
          simp [hc.1, hc.2] at c
    · rintro σ H' ⟨_, _, _, _, rfl, s, hn⟩
      have e : lbt wd.lo mn mx = .non := by
        unfold lbt
        have f : wd.lo.findIdx? (fun p => decide (p.1 = mn) && decide (p.2.1 = mx)) = none := by
          rw [List.findIdx?_eq_none_iff]
          intro p hp
          obtain ⟨j, hj, e⟩ := List.getElem_of_mem hp
          have z := hn j p (by rw [dpAll_len hd3, List.length_map]; exact hj) (by rw [List.getElem?_eq_getElem hj, e])
          simpa using z
        rw [f]
      have z := k' _ (e12.trans s)
      rw [e] at z
      exact z
end
end K6

set_option maxRecDepth 100000
set_option maxHeartbeats 4000000
/-! the names that a law draws: three ways, all good, all apart -/
namespace My
open PySem PySem.Spec PyProof.Rows L2 GxR Gd TL
theorem tl_inj {a b : Str} (h : tl a = tl b) : a = b := by
  obtain ⟨⟨x⟩⟩ := a
  obtain ⟨⟨y⟩⟩ := b
  have e : x = y := h
  rw [e]
theorem name_of {z : Str} (h1 : 1 ≤ (tl z).length) (h2 : (tl z).length ≤ 6) (h3 : ∀ c ∈ tl z, lc c = true) : NameOk z := by
  rw [tl_len] at h1 h2
  exact ⟨h1, h2, List.all_eq_true.mpr h3⟩
theorem tl_to {z : Str} {j : Nat} (h : j ≤ (tl z).length) : tl (cutS z none (some (j : Int))) = (tl z).take j := by
  show (((tl z).drop (HT.sIx z.length 0 none)).take (HT.sIx z.length z.length (some (j : Int)) - HT.sIx z.length 0 none)) = _
  rw [HT.sIx_none, HT.sIx_nat, ← tl_len, Nat.min_eq_left h]
  simp
theorem tl_cut {z : Str} {a b : Nat} (h : b ≤ (tl z).length) (ha : a ≤ b) : tl (cutS z (some (a : Int)) (some (b : Int))) = ((tl z).drop a).take (b - a) := by
  show (((tl z).drop (HT.sIx z.length 0 (some (a : Int)))).take (HT.sIx z.length z.length (some (b : Int)) - HT.sIx z.length 0 (some (a : Int)))) = _
  rw [HT.sIx_nat, HT.sIx_nat, ← tl_len, Nat.min_eq_left h, Nat.min_eq_left (Nat.le_trans ha h)]
theorem joinL_ones : ∀ cs : List Nat, joinL [] (cs.map fun c => [c]) = cs
  | [] => rfl
  | [c] => rfl
  | c :: d :: r => by
    have ih := joinL_ones (d :: r)
    show [c] ++ ([] ++ joinL [] ((d :: r).map fun c => [c])) = _
    rw [ih]
    rfl
theorem tl_ones (cs : List Nat) : tl (Txt.join (Str.ofString "") (cs.map fun c => ⟨#[c]⟩)) = cs := by
  rw [join_eq, tl_join, List.map_map]
  have e : tl (Str.ofString "") = [] := by decide +kernel
  rw [e]
  exact joinL_ones cs
/-- all good, all apart -/
structure Nms (ns : List Str) : Prop where
  ok : ∀ z ∈ ns, NameOk z
  nd : ns.Nodup
theorem nms_of {f : Nat → Str} {n : Nat} (ok : ∀ k, k < n → NameOk (f k)) (ap : ∀ j k, j < k → k < n → f j ≠ f k) : Nms ((List.range n).map f) := by
  refine ⟨fun z hz => ?_, ?_⟩
  · obtain ⟨k, hk, rfl⟩ := List.mem_map.mp hz
    exact ok k (List.mem_range.mp hk)
  · show ((List.range n).map f).Pairwise (· ≠ ·)
    rw [List.pairwise_map]
    have p : (List.range n).Pairwise (fun a b => a < b) := List.pairwise_lt_range
    refine List.Pairwise.imp_of_mem ?_ p
    intro a b ha hb hab
    exact ap a b hab (List.mem_range.mp hb)
/-! the first way -/
def wds : List Str := ["place", "staff", "ticket", "low", "high", "long", "pilot", "train", "at", "to", "in", "get", "a"]
theorem wds_ok : ∀ z ∈ wds, NameOk z := by
  intro z hz
  have h : (wds.all fun z => decide (1 ≤ (tl z).length) && decide ((tl z).length ≤ 6) && (tl z).all lc) = true := by decide +kernel
  have q := List.all_eq_true.mp h z hz
  rw [Bool.and_eq_true, Bool.and_eq_true, decide_eq_true_eq, decide_eq_true_eq] at q
  exact name_of q.1.1 q.1.2 (List.all_eq_true.mp q.2)
theorem wds_nd : wds.Nodup := by decide +kernel
def nm0 (a : Int) (k : Nat) : Str := (wds[((a + 5 * (k : Int)) % 13).toNat]?).getD ⟨#[]⟩
theorem nm0_at (a : Int) (k : Nat) : atI wds ((a + 5 * (k : Int)) % 13) = some (nm0 a k) := by
  have h0 := Int.emod_nonneg (a + 5 * (k : Int)) (by decide : (13 : Int) ≠ 0)
  have h1 := Int.emod_lt_of_pos (a + 5 * (k : Int)) (by decide : (0 : Int) < 13)
  have hl : wds.length = 13 := by decide +kernel
  generalize e : (a + 5 * (k : Int)) % 13 = m at h0 h1
  obtain ⟨j, rfl⟩ := Int.eq_ofNat_of_zero_le h0
  have hj : j < wds.length := by omega
  unfold nm0
  rw [e, Int.toNat_natCast, List.getElem?_eq_getElem hj]
  exact atI_nat (List.getElem?_eq_getElem hj)
theorem nm0_ok (a : Int) (n : Nat) (hn : n ≤ 7) : Nms ((List.range n).map (nm0 a)) := by
  have hl : wds.length = 13 := by decide +kernel
  have key : ∀ k : Nat, ∃ j : Nat, ((j : Nat) : Int) = (a + 5 * (k : Int)) % 13 ∧ ∃ h : j < wds.length, nm0 a k = wds[j] := fun k => by
    have h0 := Int.emod_nonneg (a + 5 * (k : Int)) (by decide : (13 : Int) ≠ 0)
    have h1 := Int.emod_lt_of_pos (a + 5 * (k : Int)) (by decide : (0 : Int) < 13)
    unfold nm0
    generalize (a + 5 * (k : Int)) % 13 = m at h0 h1
    obtain ⟨j, rfl⟩ := Int.eq_ofNat_of_zero_le h0
    have hj : j < wds.length := by omega
    exact ⟨j, rfl, hj, by rw [Int.toNat_natCast, List.getElem?_eq_getElem hj]; rfl⟩
  refine nms_of (fun k hk => ?_) (fun j k hjk hk e => ?_)
  · obtain ⟨j, _, hj, e⟩ := key k
    rw [e]
    exact wds_ok _ (List.getElem_mem hj)
  · obtain ⟨j1, a1, b1, c1⟩ := key j
    obtain ⟨j2, a2, b2, c2⟩ := key k
    rw [c1, c2] at e
    have nd : wds.Pairwise (· ≠ ·) := wds_nd
    rcases Nat.lt_trichotomy j1 j2 with h | h | h
    · exact List.pairwise_iff_getElem.mp nd j1 j2 b1 b2 h e
    · omega
    · exact List.pairwise_iff_getElem.mp nd j2 j1 b2 b1 h e.symm
/-! the second way -/
structure Stem (z : Str) : Prop where
  len : (tl z).length = 6
  ok : ∀ c ∈ tl z, lc c = true
def nm1 (z : Str) (a : Int) (k : Nat) : Str := cutS z none (some (1 + (a + 5 * (k : Int)) % 6))
theorem nm1_ok {z : Str} (h : Stem z) (a : Int) (n : Nat) (hn : n < 7) : Nms ((List.range n).map (nm1 z a)) := by
  have key : ∀ k : Nat, ∃ j : Nat, ((j : Nat) : Int) = 1 + (a + 5 * (k : Int)) % 6 ∧ 1 ≤ j ∧ j ≤ 6 ∧ tl (nm1 z a k) = (tl z).take j := fun k => by
    have h0 := Int.emod_nonneg (a + 5 * (k : Int)) (by decide : (6 : Int) ≠ 0)
    have h1 := Int.emod_lt_of_pos (a + 5 * (k : Int)) (by decide : (0 : Int) < 6)
    unfold nm1
    generalize (a + 5 * (k : Int)) % 6 = m at h0 h1
    obtain ⟨j, rfl⟩ := Int.eq_ofNat_of_zero_le h0
    refine ⟨1 + j, by omega, by omega, by omega, ?_⟩
    have e : (1 + (j : Int)) = ((1 + j : Nat) : Int) := by omega
    rw [e]
    exact tl_to (by rw [h.len]; omega)
  refine nms_of (fun k hk => ?_) (fun j k hjk hk e => ?_)
  · obtain ⟨j, _, j1, j6, e⟩ := key k
    have hl := h.len
    refine name_of ?_ ?_ (fun c hc => h.ok c (by rw [e] at hc; exact List.mem_of_mem_take hc)) <;> rw [e, List.length_take] <;> omega
  · obtain ⟨j1, a1, _, b1, c1⟩ := key j
    obtain ⟨j2, a2, _, b2, c2⟩ := key k
    have l := congrArg (fun z => (tl z).length) e
    have hl := h.len
    simp only [c1, c2, List.length_take] at l
    omega
/-! the third way -/
def abc : Str := "abcdefghijklmnopqrstuvwxyz"
def lt1 (a : Int) (k : Nat) : Nat := 97 + ((a + 7 * (k : Int)) % 26).toNat
theorem abc_at {i : Int} (h0 : 0 ≤ i) (h1 : i < 26) : atI abc.cps.toList i = some (97 + i.toNat) := by
  obtain ⟨j, rfl⟩ := Int.eq_ofNat_of_zero_le h0
  have h : ∀ j : Fin 26, abc.cps.toList[j.1]? = some (97 + j.1) := by decide +kernel
  rw [Int.toNat_natCast]
  exact atI_nat (h ⟨j, by omega⟩)
theorem lt1_at (a : Int) (k : Nat) : atI abc.cps.toList ((a + 7 * (k : Int)) % 26) = some (lt1 a k) := abc_at (Int.emod_nonneg _ (by decide)) (Int.emod_lt_of_pos _ (by decide))
theorem lt1_lc (a : Int) (k : Nat) : lc (lt1 a k) = true := by
  have h0 := Int.emod_nonneg (a + 7 * (k : Int)) (by decide : (26 : Int) ≠ 0)
  have h1 := Int.emod_lt_of_pos (a + 7 * (k : Int)) (by decide : (0 : Int) < 26)
  unfold lt1 lc
  rw [Bool.and_eq_true, decide_eq_true_eq, decide_eq_true_eq]
  omega
def nm2 (z : Str) (a t : Int) (k : Nat) : Str := cutS z none (some t) ++ ⟨#[lt1 a k]⟩ ++ cutS z (some t) (some (t + (a + (k : Int)) % (6 - t)))
theorem nm2_ok {z : Str} (h : Stem z) (a t : Int) (t0 : 0 ≤ t) (t6 : t < 6) (n : Nat) (hn : n ≤ 7) : Nms ((List.range n).map (nm2 z a t)) := by
  obtain ⟨t, rfl⟩ := Int.eq_ofNat_of_zero_le t0
  have hl := h.len
  have key : ∀ k : Nat, ∃ m : Nat, t + m < 6 ∧ tl (nm2 z a t k) = (tl z).take t ++ ([lt1 a k] ++ ((tl z).drop t).take m) := fun k => by
    have h0 := Int.emod_nonneg (a + (k : Int)) (show (6 - (t : Int)) ≠ 0 by omega)
    have h1 := Int.emod_lt_of_pos (a + (k : Int)) (show (0 : Int) < 6 - (t : Int) by omega)
    unfold nm2
    generalize (a + (k : Int)) % (6 - (t : Int)) = m at h0 h1
    obtain ⟨m, rfl⟩ := Int.eq_ofNat_of_zero_le h0
    refine ⟨m, by omega, ?_⟩
    rw [tl_append, tl_append, tl_to (by omega), show ((t : Int) + (m : Int)) = ((t + m : Nat) : Int) by omega, tl_cut (by omega) (by omega), show t + m - t = m by omega, List.append_assoc]
  refine nms_of (fun k hk => ?_) (fun j k hjk hk e => ?_)
  · obtain ⟨m, hm, e⟩ := key k
    refine name_of ?_ ?_ (fun c hc => ?_)
    · rw [e, List.length_append, List.length_append]
      simp
      omega
    · rw [e, List.length_append, List.length_append, List.length_take, List.length_take, List.length_drop]
      simp
      omega
    · rw [e] at hc
      rcases List.mem_append.mp hc with q | q
      · exact h.ok c (List.mem_of_mem_take q)
      · rcases List.mem_append.mp q with q | q
        · rw [List.mem_singleton.mp q]
          exact lt1_lc a k
        · exact h.ok c (List.mem_of_mem_drop (List.mem_of_mem_take q))
  · obtain ⟨m1, hm1, c1⟩ := key j
    obtain ⟨m2, hm2, c2⟩ := key k
    have l := congrArg (fun z => (tl z)[t]?) e
    simp only [c1, c2] at l
    have lt : ((tl z).take t).length = t := by rw [List.length_take]; omega
    have g : ∀ (c : Nat) (r : List Nat), ((tl z).take t ++ ([c] ++ r))[t]? = some c := fun c r => by
      rw [List.getElem?_append_right (by omega), lt, Nat.sub_self]
      rfl
    rw [g, g] at l
    have l := Option.some.inj l
    unfold lt1 at l
    have h0 := Int.emod_nonneg (a + 7 * (j : Int)) (by decide : (26 : Int) ≠ 0)
    have h1 := Int.emod_nonneg (a + 7 * (k : Int)) (by decide : (26 : Int) ≠ 0)
    omega
end My

set_option maxRecDepth 100000
set_option maxHeartbeats 4000000
namespace K6
open PySem PySem.Spec PyProof.Rows L2 GxR Gd TL My
theorem range_snoc (f : Nat → Str) (i : Nat) : ((List.range (i + 1)).map f).map V.str = ((List.range i).map f).map V.str ++ [V.str (f i)] := by
  rw [List.range_succ, List.map_append, List.map_append]
  rfl
theorem ixL {X : Cx} {K : PySem.W.Frag} (h : X.K = K) : IxR X (rIxL K) := h ▸ ix_list
theorem cmul {m : Nat} (i : Nat) (h : i < m) (hm : m ≤ 7) : CMul 5 (0 + (i : Int)) := .inl ⟨by decide, by decide⟩
theorem cmul7 (i : Nat) : CMul 7 (0 + (i : Int)) := .inl ⟨by decide, by decide⟩
theorem atI_map {α β : Type} {f : α → β} {xs : List α} {i : Int} {v : α} (h : atI xs i = some v) : atI (xs.map f) i = some (f v) := by
  unfold atI at h ⊢
  rw [List.length_map]
  cases e : ixN xs.length i with
  | none => rw [e] at h; cases h
  | some j =>
    rw [e] at h
    show (xs.map f)[j]? = _
    rw [List.getElem?_map, show xs[j]? = some v from h]
    rfl
theorem lt_line (i : Nat) (h : i ≤ 100) : i < sizeLine := Nat.lt_of_le_of_lt h (by decide)
section
variable {P : Program} {w : World} {K : PySem.W.Frag} {mg : Str → Option Value} {base : Heap}
abbrev s_law_names : Stmt := top 28
theorem sc_law_names : FnScope ["_law_box_here", "_law_many", "_law_letters", "_law_words", "_law_way", "_law_first", "_law_stem", "_law_at", "_law_k"] ["_law_box_here", "_law_many"] (defScope s_law_names) := ⟨rfl, rfl, rfl, by decide +kernel, rfl, by decide +kernel, by decide +kernel⟩
def spNames : Sp := fun vs H Q _ => ∃ (b : Addr) (m : Nat) (n : Int), vs = [.ref b, .int (m : Nat)] ∧ Bx b n H ∧ n ≤ 90000 ∧ m ≤ 7 ∧
  ∀ (ns : List Str) (a : Addr) (H' : Hp), KB b H H' → Bx b (n + 20) H' → H' a = some (.lst (ns.map V.str)) → ns.length = m → Nms ns → Q (.ref a) H'
theorem ok_names {f fT : Addr} {fd fdT : FuncData} (F : Fun K "_law_names" "_law_names" s_law_names f fd) (T : Txt mg)
    (Nlaw_take : Fn K mg "_law_take" sTake ["_law_box_here", "_law_many"] fT fdT) (Glaw_take : FnOk P w K mg base CX0 1 fT fdT ["_law_box_here", "_law_many"] spTake) :
    FnOk P w K mg base CX0 2 f fd ["_law_box_here", "_law_many"] spNames := by
  refine F.ok sc_law_names (fun vs H Q E h => ?_) (fun cdv A outer s H vs Q E hr h => ?_)
  · obtain ⟨b, m, n, rfl, _⟩ := h
    rfl
  · obtain ⟨b, m, n, rfl, hB, hn, hm, k⟩ := h
    refine ⟨_, pss_cons (ps_set (i := 2) sc_law_names.nd rfl (Or.inr rfl) pe_str)
      (pss_cons (ps_set (i := 3) sc_law_names.nd rfl (Or.inr rfl) (pe_lst (pa_cons pe_str (pa_cons pe_str (pa_cons pe_str (pa_cons pe_str (pa_cons pe_str (pa_cons pe_str (pa_cons pe_str (pa_cons pe_str (pa_cons pe_str (pa_cons pe_str (pa_cons pe_str (pa_cons pe_str (pa_cons pe_str pa_nil)))))))))))))))
      (pss_cons (ps_set (i := 4) sc_law_names.nd rfl (Or.inl rfl) (pe_call Glaw_take (hr.mono (by decide)) (by rfl) Nlaw_take.g Nlaw_take.kp Nlaw_take.b .nil pass0 (pa_cons (pv 0) (pa_cons pe_int pa_nil))))
      (pss_cons (ps_set (i := 5) sc_law_names.nd rfl (Or.inr rfl) (pe_call Glaw_take (hr.mono (by decide)) (by rfl) Nlaw_take.g Nlaw_take.kp Nlaw_take.b .nil pass0 (pa_cons (pv 0) (pa_cons pe_int pa_nil))))
      (pss_cons (ps_if (pt_cmpR op_eq (pv 4) pe_int (nomark _)) (pss_one (ps_ret (pe_lc (own := [("_law_k", 8)]) (g := gName 8) (tt := tYes) rfl sc_law_names.nd (pi_range1 (by rfl) T.range_ (pa_cons (pv 1) pa_nil)) (blkOk_by (own := [("_law_k", 8)]) (N := ["_law_box_here", "_law_many", "_law_letters", "_law_words", "_law_way", "_law_first", "_law_stem", "_law_at", "_law_k"]) (sc := defScope s_law_names) (by decide +kernel)) (fun _ _ _ _ _ => (pg_name (i := 8) sc_law_names.nd rfl (Or.inl rfl))) (fun _ _ _ _ _ => pts_nil) (fun _ _ _ _ _ => (pe_ix (ixL (K := K) rfl) (pv 3) (pe_op op_mod (pe_op op_add (pv 5) (pe_op op_mul pe_int (pv 8))) pe_int) (fun _ _ => rfl)))))) pss_nil)
      (pss_cons (ps_set (i := 6) sc_law_names.nd rfl (Or.inr rfl) (pe_join pe_str (pe_lc (own := [("_law_k", 8)]) (g := gName 8) (tt := tYes) rfl sc_law_names.nd (pi_range1 (by rfl) T.range_ (pa_cons pe_int pa_nil)) (blkOk_by (own := [("_law_k", 8)]) (N := ["_law_box_here", "_law_many", "_law_letters", "_law_words", "_law_way", "_law_first", "_law_stem", "_law_at", "_law_k"]) (sc := defScope s_law_names) (by decide +kernel)) (fun _ _ _ _ _ => (pg_name (i := 8) sc_law_names.nd rfl (Or.inl rfl))) (fun _ _ _ _ _ => pts_nil) (fun _ _ _ _ _ => (pe_ix ix_str (pv 2) (pe_call Glaw_take (hr.mono (by decide)) (by rfl) Nlaw_take.g Nlaw_take.kp Nlaw_take.b .nil pass0 (pa_cons (pv 0) (pa_cons pe_int pa_nil))) (fun _ _ => rfl))))))
      (pss_cons (ps_if (PW.pt (pw_and (pt_cmpR op_eq (pv 4) pe_int (nomark _)) (pw_and1 (pt_cmpR op_lt (pv 1) pe_int (nomark _))))) (pss_one (ps_ret (pe_lc (own := [("_law_k", 8)]) (g := gName 8) (tt := tYes) rfl sc_law_names.nd (pi_range1 (by rfl) T.range_ (pa_cons (pv 1) pa_nil)) (blkOk_by (own := [("_law_k", 8)]) (N := ["_law_box_here", "_law_many", "_law_letters", "_law_words", "_law_way", "_law_first", "_law_stem", "_law_at", "_law_k"]) (sc := defScope s_law_names) (by decide +kernel)) (fun _ _ _ _ _ => (pg_name (i := 8) sc_law_names.nd rfl (Or.inl rfl))) (fun _ _ _ _ _ => pts_nil) (fun _ _ _ _ _ => (pe_slice sl_str (pv 6) po_none (po_some (pe_op op_add pe_int (pe_op op_mod (pe_op op_add (pv 5) (pe_op op_mul pe_int (pv 8))) pe_int)))))))) pss_nil)
      (pss_cons (ps_set (i := 7) sc_law_names.nd rfl (Or.inr rfl) (pe_call Glaw_take (hr.mono (by decide)) (by rfl) Nlaw_take.g Nlaw_take.kp Nlaw_take.b .nil pass0 (pa_cons (pv 0) (pa_cons pe_int pa_nil))))
      (pss_one (ps_ret (pe_lc (own := [("_law_k", 8)]) (g := gName 8) (tt := tYes) rfl sc_law_names.nd (pi_range1 (by rfl) T.range_ (pa_cons (pv 1) pa_nil)) (blkOk_by (own := [("_law_k", 8)]) (N := ["_law_box_here", "_law_many", "_law_letters", "_law_words", "_law_way", "_law_first", "_law_stem", "_law_at", "_law_k"]) (sc := defScope s_law_names) (by decide +kernel)) (fun _ _ _ _ _ => (pg_name (i := 8) sc_law_names.nd rfl (Or.inl rfl))) (fun _ _ _ _ _ => pts_nil) (fun _ _ _ _ _ => (pe_op op_add_str (pe_op op_add_str (pe_slice sl_str (pv 6) po_none (po_some (pv 7))) (pe_ix ix_str (pv 2) (pe_op op_mod (pe_op op_add (pv 5) (pe_op op_mul pe_int (pv 8))) pe_int) (fun _ _ => rfl))) (pe_slice sl_str (pv 6) (po_some (pv 7)) (po_some (pe_op op_add (pv 7) (pe_op op_mod (pe_op op_add (pv 5) (pv 8)) (pe_op op_sub pe_int (pv 7)))))))))))))))))), ?_⟩
    refine ⟨(by show 13 ≤ sizeLine; decide), fun L hL => ?_⟩
    have k0 : KB b H _ := KB.alloc (o := .lst [.str "place", .str "staff", .str "ticket", .str "low", .str "high", .str "long", .str "pilot", .str "train", .str "at", .str "to", .str "in", .str "get", .str "a"]) hL
    have B0 := hB.alloc (o := .lst [.str "place", .str "staff", .str "ticket", .str "low", .str "high", .str "long", .str "pilot", .str "train", .str "at", .str "to", .str "in", .str "get", .str "a"]) hL
    have nLb : L ≠ b := hB.fresh hL
    have hW : (upd H L (.lst [.str "place", .str "staff", .str "ticket", .str "low", .str "high", .str "long", .str "pilot", .str "train", .str "at", .str "to", .str "in", .str "get", .str "a"])) L = some (.lst (wds.map V.str)) := upd_same
    generalize upd H L (.lst [.str "place", .str "staff", .str "ticket", .str "low", .str "high", .str "long", .str "pilot", .str "train", .str "at", .str "to", .str "in", .str "get", .str "a"]) = H0 at k0 B0 hW ⊢
    refine ⟨_, rfl, b, 4, n, rfl, B0, by omega, by decide, by decide, fun way H1 w0 w1 off1 B1 => ?_⟩
    refine ⟨_, rfl, b, 26, n + 1, rfl, B1, by omega, by decide, by decide, fun a H2 a0 a1 off2 B2 => ?_⟩
    have k2 : KB b H H2 := (k0.trans (KB.off off1)).trans (KB.off off2)
    have hW2 : H2 L = some (.lst (wds.map V.str)) := by rw [off2 L nLb, off1 L nLb]; exact hW
    clear hW k0 B0 B1 off1 off2
    refine ⟨_, rfl, rfl, _, rfl, ite2 (fun c => ?_) (fun c => ?_)⟩
    · refine ⟨_, rfl, m, rfl, by omega, by omega, fun D hD => ?_⟩
      have nD : L ≠ D := ne_of_none hW2 hD
      refine lc_range (lo := 0) (n := m) (fun i H' => H' = upd H2 D (.lst (((List.range i).map (nm0 a)).map V.str))) rfl ?_ ?_
      · rintro i H' hi rfl
        refine ⟨rfl, lcY ?_⟩
        refine ⟨_, rfl, _, rfl, _, rfl, _, _, rfl, rfl, cmul i hi hm, _, _, rfl, rfl, _, _, rfl, rfl, (by show (0 : Int) < 13; decide), L, wds.map V.str, _, .str (nm0 a i), rfl, rfl, SqL.of (by rw [upd_ne nD]; exact hW2), ?_, _, upd_same, ?_, ?_⟩
        · rw [Int.zero_add]
          exact atI_map (nm0_at a i)
        · rw [List.length_map, List.length_map, List.length_range]
          exact lt_line i (by omega)
        · rw [upd_upd, range_snoc]
      · rintro H' rfl
        exact k _ D _ (k2.trans (KB.alloc hD)) ((B2.alloc hD).mono (by omega)) upd_same (by simp) (nm0_ok a m hm)
    · clear c
      refine ⟨⟨_, rfl⟩, 6, rfl, by decide, by decide, fun D hD => ?_⟩
      have nDb : D ≠ b := B2.fresh hD
      refine lc_range (lo := 0) (n := 6) (fun i H' => ∃ cs : List Nat, H' D = some (.lst ((cs.map fun c => (⟨#[c]⟩ : Str)).map V.str)) ∧ cs.length = i ∧ (∀ c ∈ cs, lc c = true) ∧ KB b H2 H' ∧ Bx b (n + 2 + i) H')
        ⟨[], upd_same, rfl, by simp, KB.alloc hD, (B2.alloc hD).mono (by simp; omega)⟩ ?_ ?_
      · rintro i H3 hi ⟨cs, hz, hl, h1, k3, B3⟩
        refine ⟨rfl, lcY ?_⟩
        refine ⟨_, rfl, _, rfl, b, 26, n + 2 + i, rfl, B3, by omega, by decide, by decide, fun d' H4 e0 e1 off4 B4 => ?_⟩
        have hz4 : H4 D = some (.lst ((cs.map fun c => (⟨#[c]⟩ : Str)).map V.str)) := by rw [off4 D nDb]; exact hz
        refine ⟨_, d', 97 + d'.toNat, rfl, rfl, by decide +kernel, abc_at e0 e1, _, hz4, ?_, cs ++ [97 + d'.toNat], ?_, ?_, ?_, ?_, ?_⟩
        · rw [List.length_map, List.length_map, hl]
          exact lt_line i (by omega)
        · rw [upd_same, List.map_append, List.map_append]
          rfl
        · rw [List.length_append, hl]
          rfl
        · intro z hz
          rcases List.mem_append.mp hz with q | q
          · exact h1 z q
          · rw [List.mem_singleton.mp q]
            unfold lc
            rw [Bool.and_eq_true, decide_eq_true_eq, decide_eq_true_eq]
            omega
        · intro c o nc e
          rw [upd_ne (ne_of_none e hD)]
          exact (k3.trans (KB.off off4)) c o nc e
        · exact (B4.put nDb).mono (by push_cast; omega)
      · rintro H3 ⟨cs, hz, hl, h1, k3, B3⟩
        have et := tl_ones cs
        have jl : (Txt.join (Str.ofString "") (cs.map fun c => (⟨#[c]⟩ : Str))).length = 6 := by rw [← tl_len, et, hl]
        have hS : Stem (Txt.join (Str.ofString "") (cs.map fun c => (⟨#[c]⟩ : Str))) := ⟨by rw [et, hl], by rw [et]; exact h1⟩
        refine ⟨_, D, _, rfl, rfl, .inl (SqL.of hz), ?_, ?_⟩
        · have e0 : (Str.ofString "").length = 0 := by decide +kernel
          have hs := sum_ones (cs.map fun c => (⟨#[c]⟩ : Str)) (fun z hz => by obtain ⟨c, _, rfl⟩ := List.mem_map.mp hz; exact Nat.le_refl 1)
          rw [List.length_map] at hs
          rw [e0]
          omega
        generalize Txt.join (Str.ofString "") (cs.map fun c => (⟨#[c]⟩ : Str)) = st at hS jl ⊢
        have hW3 : H3 L = some (.lst (wds.map V.str)) := k3 L _ nLb hW2
        have kH := k2.trans k3
        clear hz et h1 k3
        have w2 : ∀ t : Int, 0 ≤ t → t < 6 → ∀ H4, (∀ a, a ≠ b → H4 a = H3 a) → Bx b (n + 2 + 6 + 1) H4 → tRet (tLc (iRng1 (tCons (tVar 1) tNil)) (gName 8) tYes
            (tOp (fun x y H Q => ∃ i j, x = V.str i ∧ y = V.str j ∧ i.length + j.length ≤ sizeLine ∧ Q (V.str (i ++ j)) H)
              (tOp (fun x y H Q => ∃ i j, x = V.str i ∧ y = V.str j ∧ i.length + j.length ≤ sizeLine ∧ Q (V.str (i ++ j)) H) (tSl rSlS (tVar 6) tNoPart (tPart (tVar 7)))
                (tOp rIxS (tVar 2) (tOp (rI (fun x j => 0 < j) fun i j => V.int (i % j)) (tOp (rI0 fun i j => V.int (i + j)) (tVar 5) (tOp (rI CMul fun i j => V.int (i * j)) (tC (V.int 7)) (tVar 8))) (tC (V.int 26)))))
              (tSl rSlS (tVar 6) (tPart (tVar 7)) (tPart (tOp (rI0 fun i j => V.int (i + j)) (tVar 7) (tOp (rI (fun x j => 0 < j) fun i j => V.int (i % j)) (tOp (rI0 fun i j => V.int (i + j)) (tVar 5) (tVar 8)) (tOp (rI0 fun i j => V.int (i - j)) (tC (V.int 6)) (tVar 7)))))))
            [8]) { nx := fun x H' => Q V.non H', rt := Q } [some (.ref b), some (.int (m : Nat)), some (.str abc), some (.ref L), some (.int way), some (.int a), some (.str st), some (.int t), none] H4 := by
          intro t t0 t6 H4 off4 B4
          refine ⟨_, rfl, m, rfl, by omega, by omega, fun D2 hD2 => ?_⟩
          refine lc_range (lo := 0) (n := m) (fun i H' => H' = upd H4 D2 (.lst (((List.range i).map (nm2 st a t)).map V.str))) rfl ?_ ?_
          · rintro i H' hi rfl
            refine ⟨rfl, lcY ?_⟩
            refine ⟨_, rfl, _, rfl, _, rfl, st, rfl, (by rw [jl]; decide), _, rfl, _, rfl, _, rfl, _, _, rfl, rfl, cmul7 i, _, _, rfl, rfl, _, _, rfl, rfl, (by show (0 : Int) < 26; decide), abc, _, lt1 a i, rfl, rfl, by decide +kernel, ?_, _, _, rfl, rfl, ?_,
              _, rfl, _, rfl, _, rfl, _, rfl, _, rfl, _, rfl, _, _, rfl, rfl, _, rfl, _, _, rfl, rfl, _, _, rfl, rfl, (by show (0 : Int) < 6 - t; omega), _, _, rfl, rfl, _, rfl, st, rfl, (by rw [jl]; decide), _, _, rfl, rfl, ?_, _, upd_same, ?_, ?_⟩
            · rw [Int.zero_add]
              exact lt1_at a i
            · have := cutS_length st none (some t)
              rw [jl] at this
              exact Nat.le_trans (Nat.add_le_add this (Nat.le_refl 1)) (by decide)
            · have q1 := cutS_length st none (some t)
              have q2 := cutS_length st (some t) (some (t + (a + (0 + (i : Int))) % (6 - t)))
              rw [jl] at q1 q2
              rw [← tl_len, tl_append, List.length_append, tl_len]
              exact Nat.le_trans (Nat.add_le_add (Nat.add_le_add q1 (Nat.le_refl 1)) q2) (by decide)
            · rw [List.length_map, List.length_map, List.length_range]
              exact lt_line i (by omega)
            · rw [upd_upd, range_snoc]
              unfold nm2
              rw [Int.zero_add]
          · rintro H' rfl
            exact k _ D2 _ ((kH.trans (KB.off off4)).trans (KB.alloc hD2)) ((B4.alloc hD2).mono (by omega)) upd_same (by simp) (nm2_ok hS a t t0 t6 m hm)
        refine ⟨_, rfl, rfl, _, rfl, ite2 (fun c1 => ⟨_, rfl, _, _, rfl, rfl, _, rfl, ite2 (fun c2 => ?_) (fun c2 => ?_)⟩) (fun c1 => iteF ?_)⟩
        · have c2' : (m : Int) < 7 := of_decide_eq_true c2
          refine ⟨_, rfl, m, rfl, by omega, by omega, fun D2 hD2 => ?_⟩
          refine lc_range (lo := 0) (n := m) (fun i H' => H' = upd H3 D2 (.lst (((List.range i).map (nm1 st a)).map V.str))) rfl ?_ ?_
          · rintro i H' hi rfl
            refine ⟨rfl, lcY ?_⟩
            refine ⟨_, rfl, _, rfl, _, rfl, _, _, rfl, rfl, cmul i hi hm, _, _, rfl, rfl, _, _, rfl, rfl, (by show (0 : Int) < 6; decide), _, _, rfl, rfl, _, rfl, st, rfl, (by rw [jl]; decide), _, upd_same, ?_, ?_⟩
            · rw [List.length_map, List.length_map, List.length_range]
              exact lt_line i (by omega)
            · rw [upd_upd, range_snoc]
              unfold nm1
              rw [Int.zero_add]
          · rintro H' rfl
            exact k _ D2 _ (kH.trans (KB.alloc hD2)) ((B3.alloc hD2).mono (by omega)) upd_same (by simp) (nm1_ok hS a m (by omega))
        · exact ⟨_, rfl, b, 6, n + 2 + 6, rfl, B3, by omega, by decide, by decide, fun t H4 t0 t6 off4 B4 => w2 t t0 t6 H4 off4 B4⟩
        · exact ⟨_, rfl, b, 6, n + 2 + 6, rfl, B3, by omega, by decide, by decide, fun t H4 t0 t6 off4 B4 => w2 t t0 t6 H4 off4 B4⟩
end
end K6

set_option maxRecDepth 100000
set_option maxHeartbeats 400000
/-! Data that stand in the heap themselves: nothing of it is a constant of the program. -/
namespace My
open PySem PySem.Spec PyProof.Rows L2 GxR Gd TL
mutual
inductive Dr (H : Hp) : V → PyData → Prop
  | non : Dr H .non .none
  | bl (b : Bool) : Dr H (.bl b) (.bool b)
  | int (i : Int) : Dr H (.int i) (.int i)
  | str (z : Str) : Dr H (.str z) (.str z)
  | lst {a : Addr} {xs : List V} {ds : List PyData} (e : H a = some (.lst xs)) (h : DrAll H xs ds) : Dr H (.ref a) (.list ds)
  | tup {a : Addr} {xs : List V} {ds : List PyData} (e : H a = some (.tup xs)) (h : DrAll H xs ds) : Dr H (.ref a) (.tuple ds)
inductive DrAll (H : Hp) : List V → List PyData → Prop
  | nil : DrAll H [] []
  | cons {v : V} {vs : List V} {d : PyData} {ds : List PyData} (h : Dr H v d) (t : DrAll H vs ds) : DrAll H (v :: vs) (d :: ds)
end
section
variable {K : PySem.W.Frag} {H H' : Hp}
mutual
theorem Dr.dp : ∀ {v : V} {d : PyData}, Dr H v d → Dp K H v d
  | _, _, .non => .non
  | _, _, .bl b => .bl b
  | _, _, .int i => .int i
  | _, _, .str z => .str z
  | _, _, .lst e h => .lst (SqL.of e) (DrAll.dp h)
  | _, _, .tup e h => .tup (SqT.of e) (DrAll.dp h)
theorem DrAll.dp : ∀ {vs : List V} {ds : List PyData}, DrAll H vs ds → DpAll K H vs ds
  | _, _, .nil => .nil
  | _, _, .cons h t => .cons (Dr.dp h) (DrAll.dp t)
end
mutual
theorem dr_nt (e : Nt H H') : ∀ {v : V} {d : PyData}, Dr H v d → Dr H' v d
  | _, _, .non => .non
  | _, _, .bl b => .bl b
  | _, _, .int i => .int i
  | _, _, .str z => .str z
  | _, _, .lst h a => .lst (e _ _ (by simp) h) (drAll_nt e a)
  | _, _, .tup h a => .tup (e _ _ (by simp) h) (drAll_nt e a)
theorem drAll_nt (e : Nt H H') : ∀ {vs : List V} {ds : List PyData}, DrAll H vs ds → DrAll H' vs ds
  | _, _, .nil => .nil
  | _, _, .cons h t => .cons (dr_nt e h) (drAll_nt e t)
end
theorem drAll_len : ∀ {xs : List V} {ds : List PyData}, DrAll H xs ds → xs.length = ds.length
  | _, _, .nil => rfl
  | _, _, .cons _ t => congrArg Nat.succ (drAll_len t)
theorem drAll_app : ∀ {xs ys : List V} {ds es : List PyData}, DrAll H xs ds → DrAll H ys es → DrAll H (xs ++ ys) (ds ++ es)
  | _, _, _, _, .nil, k => k
  | _, _, _, _, .cons a t, k => .cons a (drAll_app t k)
theorem drAll_mem : ∀ {xs : List V} {ds : List PyData}, DrAll H xs ds → ∀ x ∈ xs, ∃ d ∈ ds, Dr H x d
  | _, _, .nil, x, h => by cases h
  | _, _, .cons a t, x, h => by
    rcases List.mem_cons.mp h with rfl | h
    · exact ⟨_, List.mem_cons_self, a⟩
    · obtain ⟨d, h1, h2⟩ := drAll_mem t x h
      exact ⟨d, List.mem_cons_of_mem _ h1, h2⟩
end
end My

set_option maxRecDepth 100000
set_option maxHeartbeats 4000000
namespace K6
open PySem PySem.Spec PyProof.Rows L2 GxR Gd TL My
theorem hide_mono {D : Addr} {A B : Hp} (e : Nt A B) : Nt (hide D A) (hide D B) := fun c o n h => by
  obtain ⟨q, h⟩ := hide_some h
  rw [hide_ne q]
  exact e c o n h
/-- what is new in H since H0 -/
def nw (H0 H : Hp) : Hp := fun c => match H0 c with
  | none => H c
  | some _ => none
theorem nw_none {H0 H : Hp} {c : Addr} (h : H0 c = none) : nw H0 H c = H c := by unfold nw; rw [h]
theorem nw_some {H0 H : Hp} {c : Addr} {o : HO} (h : nw H0 H c = some o) : H0 c = none ∧ H c = some o := by
  unfold nw at h
  cases e : H0 c with
  | none => rw [e] at h; exact ⟨rfl, h⟩
  | some _ => rw [e] at h; cases h
theorem nw_mono {H0 A B : Hp} {b : Addr} (hb : H0 b ≠ none) (k : KB b A B) : Nt (nw H0 A) (nw H0 B) := fun c o _ h => by
  obtain ⟨h1, h2⟩ := nw_some h
  rw [nw_none h1]
  exact k c o (fun e => hb (e ▸ h1)) h2
theorem nw_put {D : Addr} {H0 H : Hp} {o : HO} : Nt (hide D (nw H0 H)) (hide D (nw H0 (upd H D o))) := fun c u n h => by
  obtain ⟨q, h⟩ := hide_some h
  obtain ⟨h1, h2⟩ := nw_some h
  rw [hide_ne q, nw_none h1, upd_ne q]
  exact h2
theorem nw_new {K : PySem.W.Frag} {p D : Addr} {H0 H : Hp} {xs : List V} (h1 : p ≠ D) (h2 : H0 p = none) : SqT K (hide D (nw H0 (upd H p (.tup xs)))) p xs := SqT.of (by rw [hide_ne h1, nw_none h2]; exact upd_same)
theorem nw_newR {p D : Addr} {H0 H : Hp} {xs : List V} (h1 : p ≠ D) (h2 : H0 p = none) : hide D (nw H0 (upd H p (.tup xs))) p = some (.tup xs) := by rw [hide_ne h1, nw_none h2]; exact upd_same
theorem fresh0 {H A : Hp} {b p : Addr} (k : KB b H A) (n : p ≠ b) (h : A p = none) : H p = none := by
  cases e : H p with
  | none => rfl
  | some o => rw [k p o n e] at h; cases h
theorem hide_put {D b : Addr} {H : Hp} {o : HO} : Nt (hide D (hide b H)) (hide D (hide b (upd H D o))) := fun c u n h => by
  obtain ⟨q, h⟩ := hide_some h
  obtain ⟨q2, h⟩ := hide_some h
  rw [hide_ne q, hide_ne q2, upd_ne q]
  exact h
theorem dp_new {K : PySem.W.Frag} {p D b : Addr} {H : Hp} {xs : List V} (h1 : p ≠ D) (h2 : p ≠ b) : SqT K (hide D (hide b (upd H p (.tup xs)))) p xs := SqT.of (by rw [hide_ne h1, hide_ne h2]; exact upd_same)
theorem cut_last {xs : List V} : cutV xs none (some (-1)) = xs.dropLast := by
  unfold cutV
  rw [List.dropLast_eq_take, HT.sIx_none, List.drop_zero]
  have e : HT.sIx xs.length xs.length (some (-1)) = ((-1 : Int) + (xs.length : Int)).toNat := rfl
  rw [e]
  congr 1
  omega
def lastL (l0 : Int) (lo : List (Int × Int × Int)) : Int := (lo.getLast?.map fun q => q.2.1).getD l0
theorem longsOk_snoc {top : Int} : ∀ {l0 : Int} {lo : List (Int × Int × Int)} {f l h : Int}, longsOk top l0 lo → lastL l0 lo ≤ f → f + 2 ≤ l → l ≤ top → 0 ≤ h → h ≤ 1 → longsOk top l0 (lo ++ [(f, l, h)])
  | l0, [], f, l, h, _, a, b, c, d, e => ⟨a, b, c, d, e, True.intro⟩
  | l0, (f0, x, h0) :: r, f, l, h, q, a, b, c, d, e => by
    obtain ⟨q1, q2, q3, q4, q5, q6⟩ := q
    refine ⟨q1, q2, q3, q4, q5, longsOk_snoc q6 ?_ b c d e⟩
    unfold lastL at a ⊢
    rw [List.getLast?_cons] at a
    cases z : r.getLast? with
    | none => rw [z] at a; simpa using a
    | some y => rw [z] at a; simpa using a
theorem lastL_snoc (l0 : Int) (lo : List (Int × Int × Int)) (p : Int × Int × Int) : lastL l0 (lo ++ [p]) = p.2.1 := by
  unfold lastL
  rw [List.getLast?_append]
  simp
theorem last_at {xs : List V} {v : V} (h : xs.getLast? = some v) : atI xs (-1) = some v := by
  unfold atI
  have hp : 0 < xs.length := by
    cases xs with
    | nil => simp at h
    | cons a r => simp
  have e : ixN xs.length (-1) = some (xs.length - 1) := by
    unfold ixN
    rw [if_neg (by decide)]
    split
    · congr 1
      omega
    · omega
  rw [e]
  rw [List.getLast?_eq_getElem?] at h
  exact h
section
variable {P : Program} {w : World} {K : PySem.W.Frag} {mg : Str → Option Value} {base : Heap}
abbrev s_law_world : Stmt := top 29
theorem sc_law_world : FnScope ["_law_box_here", "_law_many", "_law_names_here", "_law_places", "_law_stretches", "_law_longs", "_law_low", "_law_turn", "_law_first", "_law_last", "_law_name", "_law_k"] ["_law_box_here"] (defScope s_law_world) := ⟨rfl, rfl, rfl, by decide +kernel, rfl, by decide +kernel, by decide +kernel⟩
def spWorld (K : PySem.W.Frag) : Sp := fun vs H Q _ => ∃ (b : Addr) (n : Int), vs = [.ref b] ∧ Bx b n H ∧ n ≤ 1000 ∧
  ∀ (wd : Wd) (v : V) (H' : Hp), wd.Ok → KB b H H' → Dr (nw H H') v wd.data → Bx b (n + 100) H' → Q v H'
theorem ok_world {f fT fN : Addr} {fd fdT fdN : FuncData} (F : Fun K "_law_world" "_law_world" s_law_world f fd) (T : Txt mg)
    (Nlaw_take : Fn K mg "_law_take" sTake ["_law_box_here", "_law_many"] fT fdT) (Glaw_take : FnOk P w K mg base CX0 1 fT fdT ["_law_box_here", "_law_many"] spTake)
    (Nlaw_names : Fn K mg "_law_names" s_law_names ["_law_box_here", "_law_many"] fN fdN) (Glaw_names : FnOk P w K mg base CX0 2 fN fdN ["_law_box_here", "_law_many"] spNames) :
    FnOk P w K mg base CX0 3 f fd ["_law_box_here"] (spWorld K) := by
  refine F.ok sc_law_world (fun vs H Q E h => ?_) (fun cdv A outer s H vs Q E hr h => ?_)
  · obtain ⟨b, n, rfl, _⟩ := h
    rfl
  · obtain ⟨b, n, rfl, hB, hn, k⟩ := h
    have hbn : H b ≠ none := by
      obtain ⟨_, _, _, h, _⟩ := hB
      rw [h]
      simp
    refine ⟨_, pss_cons (ps_set (i := 1) sc_law_world.nd rfl (Or.inl rfl) (pe_op op_add pe_int (pe_call Glaw_take (hr.mono (by decide)) (by rfl) Nlaw_take.g Nlaw_take.kp Nlaw_take.b .nil pass0 (pa_cons (pv 0) (pa_cons pe_int pa_nil)))))
      (pss_cons (ps_set (i := 2) sc_law_world.nd rfl (Or.inl rfl) (pe_call Glaw_names (hr.mono (by decide)) (by rfl) Nlaw_names.g Nlaw_names.kp Nlaw_names.b .nil pass0 (pa_cons (pv 0) (pa_cons (pe_op op_add (pv 1) pe_int) pa_nil))))
      (pss_cons (ps_setLc (i := 3) (own := [("_law_name", 10)]) (g := gName 10) (tt := tYes) rfl sc_law_world.nd rfl rfl (sw_true rfl rfl rfl (by decide +kernel)) (pi_list (pe_slice sl_list (pv 2) po_none (po_some (pe_un un_neg pe_int)))) (blkOk_by (own := [("_law_name", 10)]) (N := ["_law_box_here", "_law_many", "_law_names_here", "_law_places", "_law_stretches", "_law_longs", "_law_low", "_law_turn", "_law_first", "_law_last", "_law_name", "_law_k"]) (sc := defScope s_law_world) (by decide +kernel)) (fun _ _ _ _ _ => (pg_name (i := 10) sc_law_world.nd rfl (Or.inl rfl))) (fun _ _ _ _ _ => pts_nil) (fun _ _ _ _ _ => (pe_tup (pa_cons (pv 10) (pa_cons (pe_op op_add pe_int (pe_call Glaw_take (hr.mono (by decide)) (by rfl) Nlaw_take.g Nlaw_take.kp Nlaw_take.b .nil pass0 (pa_cons (pv 0) (pa_cons pe_int pa_nil)))) pa_nil)))))
      (pss_cons (ps_setLc (i := 4) (own := [("_law_k", 11)]) (g := gName 11) (tt := tYes) rfl sc_law_world.nd rfl rfl (sw_true rfl rfl rfl (by decide +kernel)) (pi_range1 (by rfl) T.range_ (pa_cons (pe_op op_sub (pv 1) pe_int) pa_nil)) (blkOk_by (own := [("_law_k", 11)]) (N := ["_law_box_here", "_law_many", "_law_names_here", "_law_places", "_law_stretches", "_law_longs", "_law_low", "_law_turn", "_law_first", "_law_last", "_law_name", "_law_k"]) (sc := defScope s_law_world) (by decide +kernel)) (fun _ _ _ _ _ => (pg_name (i := 11) sc_law_world.nd rfl (Or.inl rfl))) (fun _ _ _ _ _ => pts_nil) (fun _ _ _ _ _ => (pe_tup (pa_cons (pe_ix (ixL (K := K) rfl) (pe_lst (pa_cons pe_str (pa_cons pe_str pa_nil))) (pe_call Glaw_take (hr.mono (by decide)) (by rfl) Nlaw_take.g Nlaw_take.kp Nlaw_take.b .nil pass0 (pa_cons (pv 0) (pa_cons pe_int pa_nil))) (fun _ _ => rfl)) (pa_cons (pe_call Glaw_take (hr.mono (by decide)) (by rfl) Nlaw_take.g Nlaw_take.kp Nlaw_take.b .nil pass0 (pa_cons (pv 0) (pa_cons pe_int pa_nil))) pa_nil)))))
      (pss_cons (ps_set (i := 5) sc_law_world.nd rfl (Or.inl rfl) (pe_lst pa_nil))
      (pss_cons (ps_set (i := 6) sc_law_world.nd rfl (Or.inl rfl) pe_int)
      (pss_cons (ps_for PassesOwn.never rfl (pi_range1 (by rfl) T.range_ (pa_cons (pe_call Glaw_take (hr.mono (by decide)) (by rfl) Nlaw_take.g Nlaw_take.kp Nlaw_take.b .nil pass0 (pa_cons (pv 0) (pa_cons pe_int pa_nil))) pa_nil)) (pg_name (i := 7) sc_law_world.nd rfl (Or.inl rfl)) (pss_one (ps_if (pt_cmpR op_lt (pe_op op_add (pv 6) pe_int) (pv 1) (nomark _)) (pss_cons (ps_set (i := 8) sc_law_world.nd rfl (Or.inl rfl) (pe_op op_add (pv 6) (pe_call Glaw_take (hr.mono (by decide)) (by rfl) Nlaw_take.g Nlaw_take.kp Nlaw_take.b .nil pass0 (pa_cons (pv 0) (pa_cons (pe_op op_sub (pe_op op_sub (pv 1) pe_int) (pv 6)) pa_nil)))))
              (pss_cons (ps_set (i := 9) sc_law_world.nd rfl (Or.inl rfl) (pe_op op_add (pe_op op_add (pv 8) pe_int) (pe_call Glaw_take (hr.mono (by decide)) (by rfl) Nlaw_take.g Nlaw_take.kp Nlaw_take.b .nil pass0 (pa_cons (pv 0) (pa_cons (pe_op op_sub (pe_op op_sub (pv 1) pe_int) (pv 8)) pa_nil)))))
              (pss_cons (ps_expr (pe_bm PySem.F.plainAttrs_list PySem.F.slot_list_append PySem.F.type_list_append mt_append (pv 5) (pa_cons (pe_tup (pa_cons (pv 8) (pa_cons (pv 9) (pa_cons (pe_call Glaw_take (hr.mono (by decide)) (by rfl) Nlaw_take.g Nlaw_take.kp Nlaw_take.b .nil pass0 (pa_cons (pv 0) (pa_cons pe_int pa_nil))) pa_nil)))) pa_nil)))
              (pss_one (ps_set (i := 6) sc_law_world.nd rfl (Or.inl rfl) (pv 9)))))) pss_nil)))
      (pss_one (ps_ret (pe_lst (pa_cons (pv 3) (pa_cons (pv 4) (pa_cons (pv 5) (pa_cons (pe_ix ix_list (pv 2) (pe_un un_neg pe_int) (fun _ _ => rfl)) pa_nil))))))))))))), ?_⟩
    refine ⟨_, rfl, b, 5, n, rfl, hB, by omega, by decide, by decide, fun d H1 d0 d1 off1 B1 => ?_⟩
    obtain ⟨d, rfl⟩ := Int.eq_ofNat_of_zero_le d0
    refine ⟨_, _, rfl, rfl, ?_⟩
    have em : (2 + (d : Int)) = ((2 + d : Nat) : Int) := by omega
    have hm7 : 2 + d + 1 ≤ 7 := by omega
    have hm2 : 2 ≤ 2 + d := by omega
    show tSeq _ _ _ (List.set _ 1 (some (.int (2 + (d : Int))))) H1
    rw [em]
    generalize 2 + d = m at hm7 hm2
    refine ⟨_, rfl, _, rfl, _, _, rfl, rfl, b, m + 1, n + 1, rfl, B1, by omega, hm7, fun ns La H2 k2 B2 hLa hl hns => ?_⟩
    obtain ⟨nm, sp, rfl⟩ : ∃ nm sp, ns = nm ++ [sp] := by
      rcases List.eq_nil_or_concat ns with e | ⟨nm, sp, e⟩
      · rw [e] at hl
        cases hl
      · exact ⟨nm, sp, by rw [e, List.concat_eq_append]⟩
    have hlm : nm.length = m := by rw [List.length_append] at hl; exact Nat.succ.inj hl
    have hnd := List.nodup_append.mp hns.nd
    have hsp : sp ∉ nm := fun h => hnd.2.2 sp h sp (List.mem_singleton.mpr rfl) rfl
    have ecut : cutV ((nm ++ [sp]).map V.str) none (some (-1)) = nm.map V.str := by
      rw [cut_last, List.map_append]
      exact List.dropLast_concat
    have nLb : La ≠ b := fun e => by
      obtain ⟨_, _, _, h, _⟩ := B1
      obtain ⟨_, _, _, h2, _⟩ := B2
      rw [e, h2] at hLa
      cases nm with
      | nil => simp at hLa
      | cons a r => simp at hLa
    have k02 : KB b H H2 := (KB.off off1).trans k2
    refine ⟨_, rfl, _, rfl, _, rfl, La, _, rfl, SqL.of hLa, fun p1 hp1 => ⟨p1, rfl, ⟨_, SqL.of upd_same⟩, fun D hD => ?_⟩⟩
    have n1b : p1 ≠ b := B2.fresh hp1
    have hp1' : (upd H2 p1 (.lst (cutV ((nm ++ [sp]).map V.str) none (some (-1))))) p1 = some (.lst (nm.map V.str)) := by rw [upd_same, ecut]
    have k03 : KB b H2 (upd H2 p1 (.lst (cutV ((nm ++ [sp]).map V.str) none (some (-1))))) := KB.alloc hp1
    have B3 := B2.alloc (o := .lst (cutV ((nm ++ [sp]).map V.str) none (some (-1)))) hp1
    generalize upd H2 p1 (.lst (cutV ((nm ++ [sp]).map V.str) none (some (-1)))) = H3 at hp1' k03 B3 hD ⊢
    have nDb : D ≠ b := B3.fresh hD
    have nD0 : H D = none := fresh0 (k02.trans k03) nDb hD
    refine lc_it (walk_list (K := K) (xs := nm.map V.str)) (fun i H' => ∃ (ps : List (Str × Int)) (xs : List V), ps.map (·.1) = nm.take i ∧ (∀ p ∈ ps, 1 ≤ p.2 ∧ p.2 ≤ 3) ∧ H' D = some (.lst xs) ∧ DrAll (hide D (nw H H')) xs (ps.map dP) ∧ KB b H3 H' ∧ Bx b (n + 21 + i) H')
      ⟨[], [], by simp, by simp, upd_same, .nil, KB.alloc hD, (B3.alloc hD).mono (by simp; omega)⟩ ?_ ?_ ?_
    · rintro i H' hi ⟨ps, xs, _, _, _, _, kb, _⟩
      exact SqL.of (kb _ _ n1b hp1')
    · rintro i x H' H'' hi ⟨ps, xs, e1, e2, e3, e4, kb, B'⟩ ⟨rfl, hx⟩
      obtain ⟨z, hz, rfl⟩ := get_map hx
      rw [List.length_map] at hi
      have lx : xs.length = i := by
        rw [drAll_len e4, List.length_map, ← List.length_map (f := (·.1)), e1, List.length_take]
        omega
      refine ⟨rfl, lcY ?_⟩
      refine ⟨_, rfl, _, rfl, b, 3, _, rfl, B', by omega, by decide, by decide, fun r H4 r0 r1 off4 B4 => ⟨_, _, rfl, rfl, (by show 2 ≤ sizeLine; decide), fun p hp => ?_⟩⟩
      have e34 : H4 D = some (.lst xs) := by rw [off4 D nDb]; exact e3
      have npD : D ≠ p := ne_of_none e34 hp
      have npb : p ≠ b := B4.fresh hp
      have np0 : H p = none := fresh0 (((k02.trans k03).trans kb).trans (KB.off off4)) npb hp
      have eN := (hide_mono (D := D) (nw_mono hbn ((KB.off off4).trans (KB.alloc (o := .tup [.str z, .int (1 + r)]) hp)))).trans (nw_put (o := .lst (xs ++ [.ref p])))
      refine ⟨xs, by rw [upd_ne npD]; exact e34, by rw [lx]; exact lt_line i (by omega), ps ++ [(z, 1 + r)], xs ++ [.ref p], ?_, ?_, upd_same, ?_, ?_, ?_⟩
      · rw [List.map_append, e1, take_at hz]
        rfl
      · intro q hq
        rcases List.mem_append.mp hq with h | h
        · exact e2 q h
        · rw [List.mem_singleton.mp h]
          exact ⟨by show 1 ≤ 1 + r; omega, by show 1 + r ≤ 3; omega⟩
      · rw [List.map_append]
        exact drAll_app (drAll_nt eN e4) (.cons (.tup (nw_put _ _ (by simp) (nw_newR npD.symm np0)) (.cons (.str _) (.cons (.int _) .nil))) .nil)
      · intro c o nc e
        rw [upd_ne (ne_of_none e hD)]
        exact ((kb.trans (KB.off off4)).trans (KB.alloc hp)) c o nc e
      · exact ((B4.alloc hp).put nDb).mono (by push_cast; omega)
    · rintro H4 ⟨ps, xsP, e1, e2, e3, e4, kb4, B4⟩
      rw [List.length_map, List.take_of_length_le (Nat.le_refl _)] at e1
      rw [List.length_map, hlm] at B4
      have dpP := drAll_nt (hide_nt D _) e4
      have lps : ps.length = m := by rw [← List.length_map (f := (·.1)), e1, hlm]
      have k04 := (k02.trans k03).trans kb4
      have hLa4 := (k03.trans kb4) _ _ nLb hLa
      clear e4 k02 k03 kb4 hp1' hD hLa k2 B3 B2 B1 hB
      have em1 : ((m : Int) - 1) = ((m - 1 : Nat) : Int) := by omega
      refine ⟨_, rfl, _, _, rfl, rfl, ((m - 1 : Nat) : Int), (by show [V.int ((m : Int) - 1)] = _; rw [em1]), by omega, by omega, fun D2 hD2 => ?_⟩
      have nD2b : D2 ≠ b := B4.fresh hD2
      have nD20 : H D2 = none := fresh0 k04 nD2b hD2
      refine lc_range (lo := 0) (n := m - 1) (fun i H' => ∃ (st : List (Str × Int)) (xs : List V), st.length = i ∧ (∀ p ∈ st, (p.1 = "staff" ∨ p.1 = "ticket") ∧ 0 ≤ p.2 ∧ p.2 ≤ 1) ∧ H' D2 = some (.lst xs) ∧ DrAll (hide D2 (nw H H')) xs (st.map dP) ∧ KB b H4 H' ∧ Bx b (n + 40 + 2 * i) H')
        ⟨[], [], rfl, by simp, upd_same, .nil, KB.alloc hD2, (B4.alloc hD2).mono (by omega)⟩ ?_ ?_
      · rintro i H' hi ⟨st, xs, e1, e2, e3, e4, kb, B'⟩
        have lx : xs.length = i := by rw [drAll_len e4, List.length_map, e1]
        refine ⟨rfl, lcY ?_⟩
        refine ⟨(by show 2 ≤ sizeLine; decide), fun L hL => ⟨_, rfl, b, 2, _, rfl, B'.alloc hL, by omega, by decide, by decide, fun i1 H5 i0 i2 off5 B5 => ?_⟩⟩
        have hL5 : H5 L = some (.lst [.str "staff", .str "ticket"]) := by rw [off5 L (B'.fresh hL)]; exact upd_same
        have hz : ∃ z : Str, atI [V.str "staff", V.str "ticket"] i1 = some (.str z) ∧ (z = "staff" ∨ z = "ticket") := by
          rcases (by omega : i1 = 0 ∨ i1 = 1) with rfl | rfl
          · exact ⟨_, rfl, .inl rfl⟩
          · exact ⟨_, rfl, .inr rfl⟩
        obtain ⟨z, hz1, hz2⟩ := hz
        refine ⟨L, _, i1, .str z, rfl, rfl, SqL.of hL5, hz1, _, rfl, b, 2, _, rfl, B5, by omega, by decide, by decide, fun h6 H6 h0 h1 off6 B6 => ⟨(by show 2 ≤ sizeLine; decide), fun p hp => ?_⟩⟩
        have k5 : KB b H' H6 := ((KB.alloc (o := .lst [.str "staff", .str "ticket"]) hL).trans (KB.off off5)).trans (KB.off off6)
        have e36 : H6 D2 = some (.lst xs) := k5 _ _ nD2b e3
        have npD : D2 ≠ p := ne_of_none e36 hp
        have npb : p ≠ b := B6.fresh hp
        have np0 : H p = none := fresh0 ((k04.trans kb).trans k5) npb hp
        have eN := (hide_mono (D := D2) (nw_mono hbn (k5.trans (KB.alloc (o := .tup [.str z, .int h6]) hp)))).trans (nw_put (o := .lst (xs ++ [.ref p])))
        refine ⟨xs, by rw [upd_ne npD]; exact e36, by rw [lx]; exact lt_line i (by omega), st ++ [(z, h6)], xs ++ [.ref p], ?_, ?_, upd_same, ?_, ?_, ?_⟩
        · rw [List.length_append, e1]
          rfl
        · intro q hq
          rcases List.mem_append.mp hq with h | h
          · exact e2 q h
          · rw [List.mem_singleton.mp h]
            exact ⟨hz2, h0, by show h6 ≤ 1; omega⟩
        · rw [List.map_append]
          exact drAll_app (drAll_nt eN e4) (.cons (.tup (nw_put _ _ (by simp) (nw_newR npD.symm np0)) (.cons (.str _) (.cons (.int _) .nil))) .nil)
        · intro c o nc e
          rw [upd_ne (ne_of_none e hD2)]
          exact ((kb.trans k5).trans (KB.alloc hp)) c o nc e
        · exact ((B6.alloc hp).put nD2b).mono (by push_cast; omega)
      · rintro H5 ⟨st, xsS, f1, f2, f3, f4, kb5, B5⟩
        have dpS := drAll_nt (hide_nt D2 _) f4
        have dpP5 := drAll_nt (nw_mono hbn kb5) dpP
        have e35 := kb5 _ _ nDb e3
        have hLa5 := kb5 _ _ nLb hLa4
        have k05 := k04.trans kb5
        clear f4 dpP e3 hLa4 k04 kb5 B4 hD2
        refine ⟨Nat.zero_le _, fun L5 h5 => ?_⟩
        have nL5b : L5 ≠ b := B5.fresh h5
        have nL50 : H L5 = none := fresh0 k05 nL5b h5
        have kA : KB b H5 (upd H5 L5 (.lst [])) := KB.alloc h5
        have hL5' : (upd H5 L5 (.lst [])) L5 = some (.lst []) := upd_same
        have BA := B5.alloc (o := .lst []) h5
        have nhL5 : ∀ c o, H5 c = some o → c ≠ L5 := fun c o h => ne_of_none h h5
        generalize upd H5 L5 (.lst []) = HA at kA hL5' BA ⊢
        refine ⟨_, rfl, b, 3, _, rfl, BA, by omega, by decide, by decide, fun tn H6 t0 t3 off6 B6 => ?_⟩
        have kA6 := kA.trans (KB.off off6)
        have hL56 : H6 L5 = some (.lst []) := by rw [off6 L5 nL5b]; exact hL5'
        refine ⟨tn, rfl, by omega, by omega, for_it (walk_range (lo := 0) (n := tn.toNat)) (fun i σ H' => ∃ (v7 v8 v9 v10 v11 : Option V) (lo : List (Int × Int × Int)) (xs : List V), σ = [some (.ref b), some (.int (m : Nat)), some (.ref La), some (.ref D), some (.ref D2), some (.ref L5), some (.int (lastL 0 lo)), v7, v8, v9, v10, v11] ∧
          H' L5 = some (.lst xs) ∧ DrAll (hide L5 (nw H H')) xs (lo.map dL) ∧ lo.length ≤ i ∧ longsOk ((m - 1 : Nat) : Int) 0 lo ∧ 0 ≤ lastL 0 lo ∧ lastL 0 lo ≤ ((m - 1 : Nat) : Int) ∧ (∀ c o, c ≠ L5 → c ≠ b → H6 c = some o → H' c = some o) ∧ Bx b (n + 60 + 3 * i) H') ?_ ?_ ?_ ?_⟩
        · refine ⟨_, _, _, _, _, [], [], rfl, hL56, .nil, Nat.zero_le _, True.intro, Int.le_refl 0, ?_, fun c o _ _ h => h, B6.mono (by omega)⟩
          show (0 : Int) ≤ _
          omega
        · intros; trivial
        · rintro i x σ H' H'' hi ⟨v7, v8, v9, v10, v11, lo, xs, rfl, e1, e2, e3, e4, e5, e6, e7, B'⟩ ⟨rfl, rfl⟩
          have lx : xs.length = lo.length := by rw [drAll_len e2, List.length_map]
          refine ⟨_, rfl, _, _, rfl, rfl, _, rfl, _, _, rfl, rfl, _, rfl, ite2 (fun c => ?_) (fun c => ?_)⟩
          · have c' : lastL 0 lo + 2 < (m : Int) := of_decide_eq_true c
            generalize hlow : lastL 0 lo = low at e5 e6 c' ⊢
            refine ⟨_, rfl, _, rfl, _, rfl, _, _, rfl, rfl, _, rfl, _, _, rfl, rfl, b, (m : Int) - 2 - low, _, rfl, B', by omega, by omega, dec9000 (by omega) (by omega), fun r1 H7 r10 r11 off7 B7 => ⟨_, _, rfl, rfl, ?_⟩⟩
            refine ⟨_, rfl, _, _, rfl, rfl, _, rfl, _, rfl, _, _, rfl, rfl, _, rfl, _, _, rfl, rfl, b, (m : Int) - 2 - (low + r1), _, rfl, B7, by omega, by omega, dec9000 (by omega) (by omega), fun r2 H8 r20 r21 off8 B8 => ⟨_, _, rfl, rfl, ?_⟩⟩
            have e18 : H8 L5 = some (.lst xs) := by rw [off8 L5 nL5b, off7 L5 nL5b]; exact e1
            refine ⟨_, rfl, .inl ⟨rfl, _, SqL.of e18⟩, _, rfl, _, rfl, _, rfl, b, 2, _, rfl, B8, by omega, by decide, by decide, fun h H9 h0 h1 off9 B9 => ⟨(by show 3 ≤ sizeLine; decide), fun p hp => ?_⟩⟩
            have e19 : H9 L5 = some (.lst xs) := by rw [off9 L5 nL5b]; exact e18
            have npL : L5 ≠ p := ne_of_none e19 hp
            have npb : p ≠ b := B9.fresh hp
            have k9 : KB b _ H9 := ((KB.off off7).trans (KB.off off8)).trans (KB.off off9)
            have np0 : H p = none := by
              cases e : H p with
              | none => rfl
              | some o =>
                have z5 := k05 _ _ npb e
                have z9 := k9 _ _ npb (e7 _ _ (nhL5 _ _ z5) npb (kA6 _ _ npb z5))
                rw [z9] at hp
                cases hp
            have eN := (hide_mono (D := L5) (nw_mono hbn (k9.trans (KB.alloc (o := .tup [.int (low + r1), .int (low + r1 + 2 + r2), .int h]) hp)))).trans (nw_put (o := .lst (xs ++ [.ref p])))
            refine ⟨L5, xs, .ref p, rfl, rfl, by rw [upd_ne npL]; exact e19, by rw [lx]; exact lt_line _ (by omega), ?_⟩
            refine ⟨_, rfl, some (.int (0 + (i : Nat))), some (.int (low + r1)), some (.int (low + r1 + 2 + r2)), v10, v11, lo ++ [(low + r1, low + r1 + 2 + r2, h)], xs ++ [.ref p], ?_, upd_same, ?_, ?_, ?_, ?_, ?_, ?_, ?_⟩
            · rw [lastL_snoc]
              rfl
            · rw [List.map_append]
              exact drAll_app (drAll_nt eN e2) (.cons (.tup (nw_put _ _ (by simp) (nw_newR npL.symm np0)) (.cons (.int _) (.cons (.int _) (.cons (.int _) .nil)))) .nil)
            · rw [List.length_append]
              exact Nat.succ_le_succ e3
            · refine longsOk_snoc e4 (by rw [hlow]; omega) (by omega) (by omega) h0 (by omega)
            · rw [lastL_snoc]
              show 0 ≤ low + r1 + 2 + r2
              omega
            · rw [lastL_snoc]
              show low + r1 + 2 + r2 ≤ _
              omega
            · intro c o nc nb e
              rw [upd_ne nc]
              have z := k9 _ _ nb (e7 c o nc nb e)
              rw [upd_ne (ne_of_none z hp)]
              exact z
            · exact ((B9.alloc hp).put nL5b).mono (by push_cast; omega)
          · exact ⟨_, _, _, _, _, lo, xs, rfl, e1, e2, Nat.le_succ_of_le e3, e4, e5, e6, e7, B'.mono (by push_cast; omega)⟩
        · rintro σ H7 ⟨v7, v8, v9, v10, v11, lo, xsL, rfl, g1, g2, g3, g4, g5, g6, g7, B7⟩
          have k57 : KB b H5 H7 := fun c o nc h => g7 c o (nhL5 c o h) nc (kA6 c o nc h)
          have dpL := drAll_nt (hide_nt L5 _) g2
          have dpP7 := drAll_nt (nw_mono hbn k57) dpP5
          have dpS7 := drAll_nt (nw_mono hbn k57) dpS
          have e37 := k57 _ _ nDb e35
          have f37 := k57 _ _ nD2b f3
          have hLa7 := k57 _ _ nLb hLa5
          refine ⟨_, rfl, _, rfl, _, rfl, _, rfl, _, rfl, La, _, _, .str sp, rfl, rfl, SqL.of hLa7, last_at (by rw [List.map_append]; simp), (by show 4 ≤ sizeLine; decide), fun R hR => ?_⟩
          have eR := nw_mono hbn (KB.alloc (b := b) (o := .lst [.ref D, .ref D2, .ref L5, .str sp]) hR)
          have nR0 : H R = none := fresh0 (k05.trans k57) (B7.fresh hR) hR
          refine k ⟨ps, st, lo, sp⟩ _ _ ?_ ((k05.trans k57).trans (KB.alloc hR)) (.lst (by rw [nw_none nR0]; exact upd_same) (.cons (.lst (eR _ _ (by simp) (by rw [nw_none nD0]; exact e37)) (drAll_nt eR dpP7)) (.cons (.lst (eR _ _ (by simp) (by rw [nw_none nD20]; exact f37)) (drAll_nt eR dpS7)) (.cons (.lst (eR _ _ (by simp) (by rw [nw_none nL50]; exact g1)) (drAll_nt eR dpL)) (.cons (.str _) .nil))))) ((B7.alloc hR).mono (by omega))
          refine ⟨?_, ?_, ?_, ?_, ?_, f2, ?_, ?_, hns.ok sp (by simp), ?_⟩
          · show 2 ≤ ps.length
            omega
          · show ps.length ≤ 6
            omega
          · intro p hp
            refine ⟨hns.ok p.1 (List.mem_append_left _ ?_), e2 p hp⟩
            rw [← e1]
            exact List.mem_map.mpr ⟨p, hp, rfl⟩
          · show (ps.map (·.1)).Nodup
            rw [e1]
            exact hnd.1
          · show st.length + 1 = ps.length
            omega
          · show lo.length ≤ 2
            omega
          · show longsOk ((ps.length - 1 : Nat) : Int) 0 lo
            rw [lps]
            exact g4
          · show sp ∉ ps.map (·.1)
            rw [e1]
            exact hsp
end
end K6

set_option maxRecDepth 100000
set_option maxHeartbeats 400000
namespace K6
open PySem PySem.Spec PyProof.Rows L2 GxR Gd TL My
theorem lf_places (p1 p2 p3 d : Addr) : (lf p1 p2 p3 d).lookup (Str.ofString "_places") = some (V.ref p1) := by rw [lf_get, if_neg (by decide +kernel), if_neg (by decide +kernel), if_neg (by decide +kernel), if_pos rfl]
theorem lf_stretches (p1 p2 p3 d : Addr) : (lf p1 p2 p3 d).lookup (Str.ofString "_stretches") = some (V.ref p2) := by rw [lf_get, if_neg (by decide +kernel), if_neg (by decide +kernel), if_pos rfl]
theorem pair_at {K : PySem.W.Frag} {H : Hp} {xs : List V} {ps : List (Str × Int)} (h : DpAll K H xs (ps.map dP)) {i : Nat} {p : Str × Int} (e : ps[i]? = some p) : ∃ t, xs[i]? = some (.ref t) ∧ SqT K H t [.str p.1, .int p.2] := by
  obtain ⟨x, h1, h2⟩ := dpAll_at h (i := i) (d := dP p) (by rw [List.getElem?_map, e]; rfl)
  obtain ⟨t, y1, y2, rfl, ht, q1, q2⟩ := dp_two h2
  obtain rfl := dp_str q1
  obtain rfl := dp_int q2
  exact ⟨t, h1, ht⟩
theorem long_at {K : PySem.W.Frag} {H : Hp} {xs : List V} {lo : List (Int × Int × Int)} (h : DpAll K H xs (lo.map dL)) {i : Nat} {p : Int × Int × Int} (e : lo[i]? = some p) : ∃ t, xs[i]? = some (.ref t) ∧ SqT K H t [.int p.1, .int p.2.1, .int p.2.2] := by
  obtain ⟨x, h1, h2⟩ := dpAll_at h (i := i) (d := dL p) (by rw [List.getElem?_map, e]; rfl)
  obtain ⟨t, y1, y2, y3, rfl, ht, q1, q2, q3⟩ := dp_three h2
  obtain rfl := dp_int q1
  obtain rfl := dp_int q2
  obtain rfl := dp_int q3
  exact ⟨t, h1, ht⟩
section
variable {P : Program} {w : World} {K : PySem.W.Frag} {mg : Str → Option Value} {base : Heap}
abbrev s_check_stretch : Stmt := inClass (top 23) 8
theorem sc_check_stretch : FnScope ["self", "k"] ["self", "k"] (defScope s_check_stretch) := ⟨rfl, rfl, rfl, by decide +kernel, rfl, by decide +kernel, by decide +kernel⟩
abbrev s_kind : Stmt := inClass (top 23) 6
theorem sc_kind : FnScope ["self", "k"] ["self", "k"] (defScope s_kind) := ⟨rfl, rfl, rfl, by decide +kernel, rfl, by decide +kernel, by decide +kernel⟩
abbrev s_ends : Stmt := inClass (top 23) 5
theorem sc_ends : FnScope ["self", "k"] ["self", "k"] (defScope s_ends) := ⟨rfl, rfl, rfl, by decide +kernel, rfl, by decide +kernel, by decide +kernel⟩
abbrev s_roads : Stmt := inClass (top 23) 2
theorem sc_roads : FnScope ["self", "name"] ["self", "name"] (defScope s_roads) := ⟨rfl, rfl, rfl, by decide +kernel, rfl, by decide +kernel, by decide +kernel⟩
def spCheckStretch (K : PySem.W.Frag) (C : Addr) : Sp := fun vs H Q _ => ∃ (x : Addr) (wd : Wd) (i : Nat), vs = [.ref x, .int (i : Nat)] ∧ LineAt K C wd H x ∧ i < wd.st.length ∧ Q .non H
theorem ok_check_stretch {f fW C : Addr} {fd fdW : FuncData} (F : Fun K "_check_stretch" "Line._check_stretch" s_check_stretch f fd) (T : Txt mg) (TC : ClsT K C)
    (Nis_whole : Fn K mg "is_whole" sWhole ["thing", "low", "high"] fW fdW) (Gis_whole : FnOk P w K mg base CX0 1 fW fdW ["thing", "low", "high"] spWhole) : FnOk P w K mg base CX0 2 f fd ["self", "k"] (spCheckStretch K C) := by
  refine F.ok sc_check_stretch (fun vs H Q E h => ?_) (fun cdv A outer s H vs Q E hr h => ?_)
  · obtain ⟨x, wd, i, rfl, _⟩ := h
    rfl
  · obtain ⟨x, wd, i, rfl, ⟨dx, p1, p2, p3, d, xs1, xs2, xs3, hx, hp1, hd1, hp2, hd2, hp3, hd3, hN⟩, hi, k⟩ := h
    have l2 : xs2.length = wd.st.length := by rw [dpAll_len hd2, List.length_map]
    refine ⟨_, pss_one (ps_if (pt_not (pt_val (pe_call Gis_whole (hr.mono (by decide)) (by rfl) Nis_whole.g Nis_whole.kp Nis_whole.b .nil pass0 (pa_cons (pv 1) (pa_cons pe_int (pa_cons (pe_op op_sub (pe_callB call_len_seq (by rfl) T.len_ PySem.boot_len (pa_cons (pe_fld (pv 0) rfl) pa_nil)) pe_int) pa_nil)))))) (pss_one ps_never) pss_nil), ?_⟩
    refine ⟨_, rfl, _, rfl, x, C, dx, _, _, rfl, hx, TC.cl, TC.n2, lf_stretches _ _ _ _, p2, xs2, rfl, .inr hp2, _, _, rfl, rfl, .int (i : Nat), 0, (xs2.length : Int) - 1, rfl, .int _, ?_⟩
    rw [show wh 0 ((xs2.length : Int) - 1) (.int (i : Nat)) = true by simp [wh]; omega]
    exact ⟨_, rfl, iteF k⟩
def spKind (K : PySem.W.Frag) (C : Addr) : Sp := fun vs H Q _ => ∃ (x : Addr) (wd : Wd) (i : Nat) (p : Str × Int), vs = [.ref x, .int (i : Nat)] ∧ LineAt K C wd H x ∧ wd.st[i]? = some p ∧ Q (.str p.1) H
theorem ok_kind {f fC C : Addr} {fd fdC : FuncData} (F : Fun K "kind" "Line.kind" s_kind f fd) (T : Txt mg) (TC : ClsT K C)
    (Mcheck_stretch : Mt K C "_check_stretch" "Line._check_stretch" s_check_stretch ["self", "k"] fC fdC) (Gcheck_stretch : FnOk P w K mg base CX0 2 fC fdC ["self", "k"] (spCheckStretch K C)) : FnOk P w K mg base CX0 3 f fd ["self", "k"] (spKind K C) := by
  refine F.ok sc_kind (fun vs H Q E h => ?_) (fun cdv A outer s H vs Q E hr h => ?_)
  · obtain ⟨x, wd, i, p, rfl, _⟩ := h
    rfl
  · obtain ⟨x, wd, i, p, rfl, hL, hi, k⟩ := h
    obtain ⟨dx, p1, p2, p3, d, xs1, xs2, xs3, hx, hp1, hd1, hp2, hd2, hp3, hd3, hN⟩ := id hL
    obtain ⟨t, a1, a2⟩ := pair_at hd2 hi
    refine ⟨_, pss_cons (ps_expr (pe_meth (pv 0) TC.cl Mcheck_stretch.m Gcheck_stretch (hr.mono (by decide)) Mcheck_stretch.b .nil pass0 (pa_cons (pv 1) pa_nil)))
      (pss_one (ps_ret (pe_ix ix_tup (pe_ix ix_tup (pe_fld (pv 0) rfl) (pv 1) (fun _ _ => rfl)) pe_int (fun _ _ => rfl)))), ?_⟩
    refine ⟨_, rfl, x, dx, _, rfl, hx, lf_no _ _ _ _ (by decide +kernel), _, rfl, x, wd, i, rfl, hL, (List.getElem?_eq_some_iff.mp hi).1, ?_⟩
    exact ⟨_, rfl, x, C, dx, _, _, rfl, hx, TC.cl, TC.n2, lf_stretches _ _ _ _, _, rfl, p2, xs2, _, .ref t, rfl, rfl, hp2, atI_nat a1, t, _, 0, _, rfl, rfl, a2, rfl, k⟩
def spEnds (K : PySem.W.Frag) (C : Addr) : Sp := fun vs H Q _ => ∃ (x : Addr) (wd : Wd) (i : Nat) (p q : Str × Int), vs = [.ref x, .int (i : Nat)] ∧ LineAt K C wd H x ∧ i < wd.st.length ∧ wd.ps[i]? = some p ∧ wd.ps[i + 1]? = some q ∧
  ∀ t H', Same H H' → H' t = some (.tup [.str p.1, .str q.1]) → Q (.ref t) H'
theorem ok_ends {f fC C : Addr} {fd fdC : FuncData} (F : Fun K "ends" "Line.ends" s_ends f fd) (T : Txt mg) (TC : ClsT K C)
    (Mcheck_stretch : Mt K C "_check_stretch" "Line._check_stretch" s_check_stretch ["self", "k"] fC fdC) (Gcheck_stretch : FnOk P w K mg base CX0 2 fC fdC ["self", "k"] (spCheckStretch K C)) : FnOk P w K mg base CX0 3 f fd ["self", "k"] (spEnds K C) := by
  refine F.ok sc_ends (fun vs H Q E h => ?_) (fun cdv A outer s H vs Q E hr h => ?_)
  · obtain ⟨x, wd, i, p, q, rfl, _⟩ := h
    rfl
  · obtain ⟨x, wd, i, p, q, rfl, hL, hi, ep, eq, k⟩ := h
    obtain ⟨dx, p1, p2, p3, d, xs1, xs2, xs3, hx, hp1, hd1, hp2, hd2, hp3, hd3, hN⟩ := id hL
    obtain ⟨t, a1, a2⟩ := pair_at hd1 ep
    obtain ⟨u, c1, c2⟩ := pair_at hd1 eq
    refine ⟨_, pss_cons (ps_expr (pe_meth (pv 0) TC.cl Mcheck_stretch.m Gcheck_stretch (hr.mono (by decide)) Mcheck_stretch.b .nil pass0 (pa_cons (pv 1) pa_nil)))
      (pss_one (ps_ret (pe_tup (pa_cons (pe_ix ix_tup (pe_ix ix_tup (pe_fld (pv 0) rfl) (pv 1) (fun _ _ => rfl)) pe_int (fun _ _ => rfl)) (pa_cons (pe_ix ix_tup (pe_ix ix_tup (pe_fld (pv 0) rfl) (pe_op op_add (pv 1) pe_int) (fun _ _ => rfl)) pe_int (fun _ _ => rfl)) pa_nil))))), ?_⟩
    refine ⟨_, rfl, x, dx, _, rfl, hx, lf_no _ _ _ _ (by decide +kernel), _, rfl, x, wd, i, rfl, hL, hi, ?_⟩
    refine ⟨_, rfl, x, C, dx, _, _, rfl, hx, TC.cl, TC.n1, lf_places _ _ _ _, _, rfl, p1, xs1, _, .ref t, rfl, rfl, hp1, atI_nat a1, t, _, 0, _, rfl, rfl, a2, rfl, ?_⟩
    refine ⟨_, rfl, x, C, dx, _, _, rfl, hx, TC.cl, TC.n1, lf_places _ _ _ _, _, rfl, _, _, rfl, rfl, p1, xs1, ((i + 1 : Nat) : Int), .ref u, rfl, (by show V.int ((i : Int) + 1) = _; rw [show ((i : Int) + 1) = ((i + 1 : Nat) : Int) by omega]), hp1, atI_nat c1, u, _, 0, _, rfl, rfl, c2, rfl, ?_⟩
    exact ⟨(by show 2 ≤ sizeLine; decide), fun z hz => k z _ (same_alloc hz) upd_same⟩
def spRoads (K : PySem.W.Frag) (C : Addr) : Sp := fun vs H Q _ => ∃ (x : Addr) (wd : Wd) (z : Str) (i : Nat) (p : Str × Int), vs = [.ref x, .str z] ∧ LineAt K C wd H x ∧ posOf wd.ps z = some i ∧ wd.ps[i]? = some p ∧ Q (.int p.2) H
theorem ok_roads {f fN C : Addr} {fd fdN : FuncData} (F : Fun K "roads" "Line.roads" s_roads f fd) (T : Txt mg) (TC : ClsT K C)
    (Mnumber_of : Mt K C "number_of" "Line.number_of" s_number_of ["self", "name"] fN fdN) (Gnumber_of : FnOk P w K mg base CX0 1 fN fdN ["self", "name"] (spNum K C)) : FnOk P w K mg base CX0 2 f fd ["self", "name"] (spRoads K C) := by
  refine F.ok sc_roads (fun vs H Q E h => ?_) (fun cdv A outer s H vs Q E hr h => ?_)
  · obtain ⟨x, wd, z, i, p, rfl, _⟩ := h
    rfl
  · obtain ⟨x, wd, z, i, p, rfl, hL, hz, ep, k⟩ := h
    obtain ⟨dx, p1, p2, p3, d, xs1, xs2, xs3, hx, hp1, hd1, hp2, hd2, hp3, hd3, hN⟩ := id hL
    obtain ⟨t, a1, a2⟩ := pair_at hd1 ep
    refine ⟨_, pss_one (ps_ret (pe_ix ix_tup (pe_ix ix_tup (pe_fld (pv 0) rfl) (pe_meth (pv 0) TC.cl Mnumber_of.m Gnumber_of (hr.mono (by decide)) Mnumber_of.b .nil pass0 (pa_cons (pv 1) pa_nil)) (fun _ _ => rfl)) pe_int (fun _ _ => rfl))), ?_⟩
    refine ⟨_, rfl, x, C, dx, _, _, rfl, hx, TC.cl, TC.n1, lf_places _ _ _ _, _, rfl, x, dx, _, rfl, hx, lf_no _ _ _ _ (by decide +kernel), _, rfl, x, z, wd, i, rfl, hL, hz, ?_⟩
    exact ⟨p1, xs1, _, .ref t, rfl, rfl, hp1, atI_nat a1, t, _, 1, _, rfl, rfl, a2, rfl, k⟩
end
end K6

set_option maxRecDepth 100000
set_option maxHeartbeats 400000
namespace K6
open PySem PySem.Spec PyProof.Rows L2 GxR Gd TL My
section
variable {P : Program} {w : World} {K : PySem.W.Frag} {mg : Str → Option Value} {base : Heap}
abbrev s_home : Stmt := inClass (top 23) 7
theorem sc_home : FnScope ["self", "k"] ["self", "k"] (defScope s_home) := ⟨rfl, rfl, rfl, by decide +kernel, rfl, by decide +kernel, by decide +kernel⟩
abbrev s_long : Stmt := inClass (top 23) 14
theorem sc_long : FnScope ["self", "j"] ["self", "j"] (defScope s_long) := ⟨rfl, rfl, rfl, by decide +kernel, rfl, by decide +kernel, by decide +kernel⟩
abbrev s_long_ends : Stmt := inClass (top 23) 11
theorem sc_long_ends : FnScope ["self", "j", "first", "last", "_"] ["self", "j"] (defScope s_long_ends) := ⟨rfl, rfl, rfl, by decide +kernel, rfl, by decide +kernel, by decide +kernel⟩
abbrev s_long_home : Stmt := inClass (top 23) 13
theorem sc_long_home : FnScope ["self", "j"] ["self", "j"] (defScope s_long_home) := ⟨rfl, rfl, rfl, by decide +kernel, rfl, by decide +kernel, by decide +kernel⟩
abbrev s_long_stretches : Stmt := inClass (top 23) 12
theorem sc_long_stretches : FnScope ["self", "j", "first", "last", "_"] ["self", "j"] (defScope s_long_stretches) := ⟨rfl, rfl, rfl, by decide +kernel, rfl, by decide +kernel, by decide +kernel⟩
abbrev s_told : Stmt := inClass (top 23) 17
theorem sc_told : FnScope ["self"] ["self"] (defScope s_told) := ⟨rfl, rfl, rfl, by decide +kernel, rfl, by decide +kernel, by decide +kernel⟩
def pick (h : Int) (a b : Str) : Str := if h = 0 then a else b
theorem pick_at {h : Int} (h0 : 0 ≤ h) (h1 : h ≤ 1) (a b : Str) : atI [V.str a, V.str b] h = some (.str (pick h a b)) := by
  rcases (by omega : h = 0 ∨ h = 1) with rfl | rfl <;> rfl
def spHome (K : PySem.W.Frag) (C : Addr) : Sp := fun vs H Q _ => ∃ (x : Addr) (wd : Wd) (i : Nat) (r p q : Str × Int), vs = [.ref x, .int (i : Nat)] ∧ LineAt K C wd H x ∧ wd.st[i]? = some r ∧ 0 ≤ r.2 ∧ r.2 ≤ 1 ∧ wd.ps[i]? = some p ∧ wd.ps[i + 1]? = some q ∧
  ∀ H', Same H H' → Q (.str (pick r.2 p.1 q.1)) H'
theorem ok_home {f fE C : Addr} {fd fdE : FuncData} (F : Fun K "home" "Line.home" s_home f fd) (T : Txt mg) (TC : ClsT K C)
    (Mends : Mt K C "ends" "Line.ends" s_ends ["self", "k"] fE fdE) (Gends : FnOk P w K mg base CX0 3 fE fdE ["self", "k"] (spEnds K C)) : FnOk P w K mg base CX0 4 f fd ["self", "k"] (spHome K C) := by
  refine F.ok sc_home (fun vs H Q E h => ?_) (fun cdv A outer s H vs Q E hr h => ?_)
  · obtain ⟨x, wd, i, r, p, q, rfl, _⟩ := h
    rfl
  · obtain ⟨x, wd, i, r, p, q, rfl, hL, hi, r0, r1, ep, eq, k⟩ := h
    obtain ⟨dx, p1, p2, p3, d, xs1, xs2, xs3, hx, hp1, hd1, hp2, hd2, hp3, hd3, hN⟩ := id hL
    obtain ⟨t, a1, a2⟩ := pair_at hd2 hi
    refine ⟨_, pss_one (ps_ret (pe_ix ix_tup (pe_meth (pv 0) TC.cl Mends.m Gends (hr.mono (by decide)) Mends.b .nil pass0 (pa_cons (pv 1) pa_nil)) (pe_ix ix_tup (pe_ix ix_tup (pe_fld (pv 0) rfl) (pv 1) (fun _ _ => rfl)) pe_int (fun _ _ => rfl)) (fun _ _ => rfl))), ?_⟩
    refine ⟨_, rfl, x, dx, _, rfl, hx, lf_no _ _ _ _ (by decide +kernel), _, rfl, x, wd, i, p, q, rfl, hL, (List.getElem?_eq_some_iff.mp hi).1, ep, eq, fun u H' s hu => ?_⟩
    exact ⟨_, rfl, x, C, dx, _, _, rfl, s _ _ hx, TC.cl, TC.n2, lf_stretches _ _ _ _, _, rfl, p2, xs2, _, .ref t, rfl, rfl, (same_nt s).seqT hp2, atI_nat a1, t, _, 1, _, rfl, rfl, (same_nt s).seqT a2, rfl, u, _, r.2, _, rfl, rfl, SqT.of hu, pick_at r0 r1 _ _, k _ s⟩
def spLongJ (K : PySem.W.Frag) (C : Addr) : Sp := fun vs H Q _ => ∃ (x : Addr) (wd : Wd) (j : Nat) (l : Int × Int × Int), vs = [.ref x, .int (j : Nat)] ∧ LineAt K C wd H x ∧ wd.lo[j]? = some l ∧ ∀ t, SqT K H t [.int l.1, .int l.2.1, .int l.2.2] → Q (.ref t) H
theorem ok_long {f fW C : Addr} {fd fdW : FuncData} (F : Fun K "_long" "Line._long" s_long f fd) (T : Txt mg) (TC : ClsT K C)
    (Nis_whole : Fn K mg "is_whole" sWhole ["thing", "low", "high"] fW fdW) (Gis_whole : FnOk P w K mg base CX0 1 fW fdW ["thing", "low", "high"] spWhole) : FnOk P w K mg base CX0 2 f fd ["self", "j"] (spLongJ K C) := by
  refine F.ok sc_long (fun vs H Q E h => ?_) (fun cdv A outer s H vs Q E hr h => ?_)
  · obtain ⟨x, wd, j, l, rfl, _⟩ := h
    rfl
  · obtain ⟨x, wd, j, l, rfl, ⟨dx, p1, p2, p3, d, xs1, xs2, xs3, hx, hp1, hd1, hp2, hd2, hp3, hd3, hN⟩, hj, k⟩ := h
    have l3 : xs3.length = wd.lo.length := by rw [dpAll_len hd3, List.length_map]
    have hj' := (List.getElem?_eq_some_iff.mp hj).1
    obtain ⟨t, a1, a2⟩ := long_at hd3 hj
    refine ⟨_, pss_cons (ps_if (pt_not (pt_val (pe_call Gis_whole (hr.mono (by decide)) (by rfl) Nis_whole.g Nis_whole.kp Nis_whole.b .nil pass0 (pa_cons (pv 1) (pa_cons pe_int (pa_cons (pe_op op_sub (pe_callB call_len_seq (by rfl) T.len_ PySem.boot_len (pa_cons (pe_fld (pv 0) rfl) pa_nil)) pe_int) pa_nil)))))) (pss_one ps_never) pss_nil)
      (pss_one (ps_ret (pe_ix ix_tup (pe_fld (pv 0) rfl) (pv 1) (fun _ _ => rfl)))), ?_⟩
    refine ⟨_, rfl, _, rfl, x, C, dx, _, _, rfl, hx, TC.cl, TC.n3, lf_longs _ _ _ _, p3, xs3, rfl, .inr hp3, _, _, rfl, rfl, .int (j : Nat), 0, (xs3.length : Int) - 1, rfl, .int _, ?_⟩
    rw [show wh 0 ((xs3.length : Int) - 1) (.int (j : Nat)) = true by simp [wh]; omega]
    exact ⟨_, rfl, iteF ⟨_, rfl, x, C, dx, _, _, rfl, hx, TC.cl, TC.n3, lf_longs _ _ _ _, _, rfl, p3, xs3, _, .ref t, rfl, rfl, hp3, atI_nat a1, k t a2⟩⟩
def spLongEnds (K : PySem.W.Frag) (C : Addr) : Sp := fun vs H Q _ => ∃ (x : Addr) (wd : Wd) (j a c : Nat) (h : Int) (p q : Str × Int), vs = [.ref x, .int (j : Nat)] ∧ LineAt K C wd H x ∧ wd.lo[j]? = some ((a : Int), (c : Int), h) ∧ wd.ps[a]? = some p ∧ wd.ps[c]? = some q ∧
  ∀ t H', Same H H' → H' t = some (.tup [.str p.1, .str q.1]) → Q (.ref t) H'
theorem ok_long_ends {f fL C : Addr} {fd fdL : FuncData} (F : Fun K "long_ends" "Line.long_ends" s_long_ends f fd) (T : Txt mg) (TC : ClsT K C)
    (Mlong : Mt K C "_long" "Line._long" s_long ["self", "j"] fL fdL) (Glong : FnOk P w K mg base CX0 2 fL fdL ["self", "j"] (spLongJ K C)) : FnOk P w K mg base CX0 3 f fd ["self", "j"] (spLongEnds K C) := by
  refine F.ok sc_long_ends (fun vs H Q E h => ?_) (fun cdv A outer s H vs Q E hr h => ?_)
  · obtain ⟨x, wd, j, a, c, h, p, q, rfl, _⟩ := h
    rfl
  · obtain ⟨x, wd, j, a, c, h, p, q, rfl, hL, hj, ep, eq, k⟩ := h
    obtain ⟨dx, p1, p2, p3, d, xs1, xs2, xs3, hx, hp1, hd1, hp2, hd2, hp3, hd3, hN⟩ := id hL
    obtain ⟨t, a1, a2⟩ := pair_at hd1 ep
    obtain ⟨u, c1, c2⟩ := pair_at hd1 eq
    refine ⟨_, pss_cons (ps_asg (pe_meth (pv 0) TC.cl Mlong.m Glong (hr.mono (by decide)) Mlong.b .nil pass0 (pa_cons (pv 1) pa_nil)) (pg_tup (by rfl) (pgs_cons (pg_name (i := 2) sc_long_ends.nd rfl (Or.inl rfl)) (pgs_cons (pg_name (i := 3) sc_long_ends.nd rfl (Or.inl rfl)) (pgs_cons (pg_name (i := 4) sc_long_ends.nd rfl (Or.inl rfl)) pgs_nil)))))
      (pss_one (ps_ret (pe_tup (pa_cons (pe_ix ix_tup (pe_ix ix_tup (pe_fld (pv 0) rfl) (pv 2) (fun _ _ => rfl)) pe_int (fun _ _ => rfl)) (pa_cons (pe_ix ix_tup (pe_ix ix_tup (pe_fld (pv 0) rfl) (pv 3) (fun _ _ => rfl)) pe_int (fun _ _ => rfl)) pa_nil))))), ?_⟩
    refine ⟨_, rfl, x, dx, _, rfl, hx, lf_no _ _ _ _ (by decide +kernel), _, rfl, x, wd, j, _, rfl, hL, hj, fun tl ht => ?_⟩
    refine ⟨tl, _, rfl, ht, rfl, _, _, rfl, _, _, rfl, _, _, rfl, rfl, ?_⟩
    refine ⟨_, rfl, x, C, dx, _, _, rfl, hx, TC.cl, TC.n1, lf_places _ _ _ _, _, rfl, p1, xs1, _, .ref t, rfl, rfl, hp1, atI_nat a1, t, _, 0, _, rfl, rfl, a2, rfl, ?_⟩
    refine ⟨_, rfl, x, C, dx, _, _, rfl, hx, TC.cl, TC.n1, lf_places _ _ _ _, _, rfl, p1, xs1, _, .ref u, rfl, rfl, hp1, atI_nat c1, u, _, 0, _, rfl, rfl, c2, rfl, ?_⟩
    exact ⟨(by show 2 ≤ sizeLine; decide), fun z hz => k z _ (same_alloc hz) upd_same⟩
def spLongHome (K : PySem.W.Frag) (C : Addr) : Sp := fun vs H Q _ => ∃ (x : Addr) (wd : Wd) (j a c : Nat) (h : Int) (p q : Str × Int), vs = [.ref x, .int (j : Nat)] ∧ LineAt K C wd H x ∧ wd.lo[j]? = some ((a : Int), (c : Int), h) ∧ 0 ≤ h ∧ h ≤ 1 ∧ wd.ps[a]? = some p ∧ wd.ps[c]? = some q ∧
  ∀ H', Same H H' → Q (.str (pick h p.1 q.1)) H'
theorem ok_long_home {f fE C : Addr} {fd fdE : FuncData} (F : Fun K "long_home" "Line.long_home" s_long_home f fd) (T : Txt mg) (TC : ClsT K C)
    (Mlong_ends : Mt K C "long_ends" "Line.long_ends" s_long_ends ["self", "j"] fE fdE) (Glong_ends : FnOk P w K mg base CX0 3 fE fdE ["self", "j"] (spLongEnds K C)) : FnOk P w K mg base CX0 4 f fd ["self", "j"] (spLongHome K C) := by
  refine F.ok sc_long_home (fun vs H Q E h => ?_) (fun cdv A outer s H vs Q E hr h => ?_)
  · obtain ⟨x, wd, j, a, c, h, p, q, rfl, _⟩ := h
    rfl
  · obtain ⟨x, wd, j, a, c, h, p, q, rfl, hL, hj, h0, h1, ep, eq, k⟩ := h
    obtain ⟨dx, p1, p2, p3, d, xs1, xs2, xs3, hx, hp1, hd1, hp2, hd2, hp3, hd3, hN⟩ := id hL
    obtain ⟨t, a1, a2⟩ := long_at hd3 hj
    refine ⟨_, pss_one (ps_ret (pe_ix ix_tup (pe_meth (pv 0) TC.cl Mlong_ends.m Glong_ends (hr.mono (by decide)) Mlong_ends.b .nil pass0 (pa_cons (pv 1) pa_nil)) (pe_ix ix_tup (pe_ix ix_tup (pe_fld (pv 0) rfl) (pv 1) (fun _ _ => rfl)) pe_int (fun _ _ => rfl)) (fun _ _ => rfl))), ?_⟩
    refine ⟨_, rfl, x, dx, _, rfl, hx, lf_no _ _ _ _ (by decide +kernel), _, rfl, x, wd, j, a, c, h, p, q, rfl, hL, hj, ep, eq, fun u H' s hu => ?_⟩
    exact ⟨_, rfl, x, C, dx, _, _, rfl, s _ _ hx, TC.cl, TC.n3, lf_longs _ _ _ _, _, rfl, p3, xs3, _, .ref t, rfl, rfl, (same_nt s).seqT hp3, atI_nat a1, t, _, 2, _, rfl, rfl, (same_nt s).seqT a2, rfl, u, _, h, _, rfl, rfl, SqT.of hu, pick_at h0 h1 _ _, k _ s⟩
def spLongStretches (K : PySem.W.Frag) (C : Addr) : Sp := fun vs H Q _ => ∃ (x : Addr) (wd : Wd) (j : Nat) (l : Int × Int × Int), vs = [.ref x, .int (j : Nat)] ∧ LineAt K C wd H x ∧ wd.lo[j]? = some l ∧ RgOk l.1 l.2.1 ∧ ∀ a, H a = none → Q (.ref a) (upd H a (.lst (rgV l.1 l.2.1)))
theorem ok_long_stretches {f fL C : Addr} {fd fdL : FuncData} (F : Fun K "long_stretches" "Line.long_stretches" s_long_stretches f fd) (T : Txt mg) (TC : ClsT K C)
    (Mlong : Mt K C "_long" "Line._long" s_long ["self", "j"] fL fdL) (Glong : FnOk P w K mg base CX0 2 fL fdL ["self", "j"] (spLongJ K C)) : FnOk P w K mg base CX0 3 f fd ["self", "j"] (spLongStretches K C) := by
  refine F.ok sc_long_stretches (fun vs H Q E h => ?_) (fun cdv A outer s H vs Q E hr h => ?_)
  · obtain ⟨x, wd, j, l, rfl, _⟩ := h
    rfl
  · obtain ⟨x, wd, j, l, rfl, hL, hj, ho, k⟩ := h
    obtain ⟨dx, p1, p2, p3, d, xs1, xs2, xs3, hx, _⟩ := id hL
    refine ⟨_, pss_cons (ps_asg (pe_meth (pv 0) TC.cl Mlong.m Glong (hr.mono (by decide)) Mlong.b .nil pass0 (pa_cons (pv 1) pa_nil)) (pg_tup (by rfl) (pgs_cons (pg_name (i := 2) sc_long_stretches.nd rfl (Or.inl rfl)) (pgs_cons (pg_name (i := 3) sc_long_stretches.nd rfl (Or.inl rfl)) (pgs_cons (pg_name (i := 4) sc_long_stretches.nd rfl (Or.inl rfl)) pgs_nil)))))
      (pss_one (ps_ret (pe_listRg rfl (by rfl) T.list_ (prg_2 (by rfl) T.range_ (pv 2) (pv 3))))), ?_⟩
    refine ⟨_, rfl, x, dx, _, rfl, hx, lf_no _ _ _ _ (by decide +kernel), _, rfl, x, wd, j, l, rfl, hL, hj, fun tl ht => ?_⟩
    exact ⟨tl, _, rfl, ht, rfl, _, _, rfl, _, _, rfl, _, _, rfl, rfl, _, rfl, _, rfl, _, _, rfl, rfl, ho, fun q hq => k q hq⟩
def spTold (K : PySem.W.Frag) (C : Addr) : Sp := fun vs H Q _ => ∃ (x : Addr) (wd : Wd), vs = [.ref x] ∧ LineAt K C wd H x ∧ ∀ t H', Same H H' → Dp K H' (.ref t) (.tuple [.tuple (wd.ps.map dP), .tuple (wd.st.map dP), .tuple (wd.lo.map dL)]) → Q (.ref t) H'
theorem ok_told {f C : Addr} {fd : FuncData} (F : Fun K "told" "Line.told" s_told f fd) (T : Txt mg) (TC : ClsT K C) : FnOk P w K mg base CX0 1 f fd ["self"] (spTold K C) := by
  refine F.ok sc_told (fun vs H Q E h => ?_) (fun cdv A outer s H vs Q E hr h => ?_)
  · obtain ⟨x, wd, rfl, _⟩ := h
    rfl
  · obtain ⟨x, wd, rfl, ⟨dx, p1, p2, p3, d, xs1, xs2, xs3, hx, hp1, hd1, hp2, hd2, hp3, hd3, hN⟩, k⟩ := h
    refine ⟨_, pss_one (ps_ret (pe_tup (pa_cons (pe_fld (pv 0) rfl) (pa_cons (pe_fld (pv 0) rfl) (pa_cons (pe_fld (pv 0) rfl) pa_nil))))), ?_⟩
    refine ⟨_, rfl, x, C, dx, _, _, rfl, hx, TC.cl, TC.n1, lf_places _ _ _ _, _, rfl, x, C, dx, _, _, rfl, hx, TC.cl, TC.n2, lf_stretches _ _ _ _, _, rfl, x, C, dx, _, _, rfl, hx, TC.cl, TC.n3, lf_longs _ _ _ _, (by show 3 ≤ sizeLine; decide), fun t ht => ?_⟩
    have e := same_nt (same_alloc (o := .tup [.ref p1, .ref p2, .ref p3]) ht)
    exact k t _ (same_alloc ht) (.tup (SqT.of upd_same) (.cons (.tup (e.seqT hp1) (dpAll_nt e hd1)) (.cons (.tup (e.seqT hp2) (dpAll_nt e hd2)) (.cons (.tup (e.seqT hp3) (dpAll_nt e hd3)) .nil))))
end
end K6

set_option maxRecDepth 100000
set_option maxHeartbeats 400000
namespace K6
open PySem PySem.Spec PyProof.Rows L2 GxR Gd TL My
/-- the long stretch of whose own ones it is -/
def lof (lo : List (Int × Int × Int)) (k : Int) : V := match lo.findIdx? fun p => decide (p.1 ≤ k) && decide (k < p.2.1) with
  | some j => .int (j : Nat)
  | none => .non
section
variable {P : Program} {w : World} {K : PySem.W.Frag} {mg : Str → Option Value} {base : Heap}
abbrev s_long_of : Stmt := inClass (top 23) 16
theorem sc_long_of : FnScope ["self", "k", "j", "first", "last", "_"] ["self", "k"] (defScope s_long_of) := ⟨rfl, rfl, rfl, by decide +kernel, rfl, by decide +kernel, by decide +kernel⟩
def spLongOf (K : PySem.W.Frag) (C : Addr) : Sp := fun vs H Q _ => ∃ (x : Addr) (wd : Wd) (i : Nat), vs = [.ref x, .int (i : Nat)] ∧ LineAt K C wd H x ∧ i < wd.st.length ∧ ∀ H', Same H H' → Q (lof wd.lo (i : Nat)) H'
theorem ok_long_of {f fC C : Addr} {fd fdC : FuncData} (F : Fun K "long_of" "Line.long_of" s_long_of f fd) (T : Txt mg) (TC : ClsT K C)
    (Mcheck_stretch : Mt K C "_check_stretch" "Line._check_stretch" s_check_stretch ["self", "k"] fC fdC) (Gcheck_stretch : FnOk P w K mg base CX0 2 fC fdC ["self", "k"] (spCheckStretch K C)) : FnOk P w K mg base CX0 3 f fd ["self", "k"] (spLongOf K C) := by
  refine F.ok sc_long_of (fun vs H Q E h => ?_) (fun cdv A outer s H vs Q E hr h => ?_)
  · obtain ⟨x, wd, i, rfl, _⟩ := h
    rfl
  · obtain ⟨x, wd, n, rfl, hL, hi, k⟩ := h
    obtain ⟨dx, p1, p2, p3, d, xs1, xs2, xs3, hx, hp1, hd1, hp2, hd2, hp3, hd3, hN⟩ := id hL
    refine ⟨_, pss_cons (ps_expr (pe_meth (pv 0) TC.cl Mcheck_stretch.m Gcheck_stretch (hr.mono (by decide)) Mcheck_stretch.b .nil pass0 (pa_cons (pv 1) pa_nil)))
      (pss_cons (ps_for PassesOwn.never rfl (pi_enumT (by rfl) T.enumerate_ (pa_cons (pe_fld (pv 0) rfl) pa_nil)) (pg_tup (by rfl) (pgs_cons (pg_name (i := 2) sc_long_of.nd rfl (Or.inl rfl)) (pgs_cons (pg_tup (by rfl) (pgs_cons (pg_name (i := 3) sc_long_of.nd rfl (Or.inl rfl)) (pgs_cons (pg_name (i := 4) sc_long_of.nd rfl (Or.inl rfl)) (pgs_cons (pg_name (i := 5) sc_long_of.nd rfl (Or.inl rfl)) pgs_nil)))) pgs_nil))) (pss_one (ps_if (pt_chain op_le op_lt (pv 3) (pv 1) (pv 4)) (pss_one (ps_ret (pv 2))) pss_nil)))
      (pss_one (ps_ret pe_non))), ?_⟩
    refine ⟨_, rfl, x, dx, _, rfl, hx, lf_no _ _ _ _ (by decide +kernel), _, rfl, x, wd, n, rfl, hL, hi, ?_⟩
    refine ⟨_, rfl, x, C, dx, _, _, rfl, hx, TC.cl, TC.n3, lf_longs _ _ _ _, p3, xs3, rfl, hp3, for_it (walk_enumT (K := K) (xs := xs3)) (fun i σ H' => ∃ v2 v3 v4 v5 : Option V, σ = [some (.ref x), some (.int (n : Nat)), v2, v3, v4, v5] ∧ Same H H' ∧ ∀ (j : Nat) (p : Int × Int × Int), j < i → wd.lo[j]? = some p → ¬ (p.1 ≤ (n : Int) ∧ (n : Int) < p.2.1)) ?_ ?_ ?_ ?_⟩
    · exact ⟨_, _, _, _, rfl, Same.refl _, fun j p h => absurd h (Nat.not_lt_zero j)⟩
    · rintro i' σ H' hi ⟨_, _, _, _, _, s, _⟩
      exact (same_nt s).seqT hp3
    · rintro i' v σ H' H'' hi ⟨_, _, _, _, rfl, s, hn⟩ ⟨T1, X, Y, rfl, hT1, rfl, q1, q2⟩
      obtain rfl := Option.some.inj q1
      obtain ⟨d', hg1, hg2⟩ := dpAll_get hd3 q2
      obtain ⟨p, hp, rfl⟩ := get_map hg1
      obtain ⟨t, x1, x2, x3, rfl, ht, r1, r2, r3⟩ := dp_three hg2
      obtain rfl := dp_int r1
      obtain rfl := dp_int r2
      obtain rfl := dp_int r3
      have s2 := s.trans (same_alloc (o := .tup [.int (i' : Nat), .ref t]) hT1)
      have ht2 := (same_nt s2).seqT ht
      have nx : ¬ (p.1 ≤ (n : Int) ∧ (n : Int) < p.2.1) → ∀ (j : Nat) (p' : Int × Int × Int), j < i' + 1 → wd.lo[j]? = some p' → ¬ (p'.1 ≤ (n : Int) ∧ (n : Int) < p'.2.1) := by
        intro hc j p' hj hp'
        rcases Nat.lt_succ_iff_lt_or_eq.mp hj with h | rfl
        · exact hn j p' h hp'
        · rw [hp] at hp'
          obtain rfl := Option.some.inj hp'
          exact hc
      refine ⟨T1, _, rfl, SqT.of upd_same, rfl, _, _, rfl, _, _, rfl, t, _, rfl, ht2, rfl, _, _, rfl, _, _, rfl, _, _, rfl, rfl, rfl, ?_⟩
      refine ⟨_, rfl, _, rfl, _, _, rfl, rfl, _, rfl, ite2 (fun c => ?_) (fun c => ?_)⟩
      · have c' : p.1 ≤ (n : Int) := of_decide_eq_true c
        refine ⟨_, rfl, _, _, rfl, rfl, _, rfl, ite2 (fun c2 => ?_) (fun c2 => ?_)⟩
        · have c2' : (n : Int) < p.2.1 := of_decide_eq_true c2
          refine ⟨_, rfl, ?_⟩
          have e : lof wd.lo (n : Nat) = .int (i' : Nat) := by
            unfold lof
            have f : wd.lo.findIdx? (fun p => decide (p.1 ≤ ((n : Nat) : Int)) && decide (((n : Nat) : Int) < p.2.1)) = some i' := by
              rw [List.findIdx?_eq_some_iff_getElem]
              obtain ⟨hi1, hi2⟩ := List.getElem?_eq_some_iff.mp hp
              refine ⟨hi1, by rw [hi2]; simp [c', c2'], fun j hj hc => ?_⟩
              refine hn j wd.lo[j] hj (List.getElem?_eq_getElem _) ?_
              simpa using hc
            rw [f]
          have z := k _ s2
          rw [e] at z
          exact z
        · exact ⟨_, _, _, _, rfl, s2, nx (fun h => c2 (decide_eq_true h.2))⟩
      · exact ⟨_, rfl, iteF ⟨_, _, _, _, rfl, s2, nx (fun h => c (decide_eq_true h.1))⟩⟩
    · rintro σ H' ⟨_, _, _, _, rfl, s, hn⟩
      have e : lof wd.lo (n : Nat) = .non := by
        unfold lof
        have f : wd.lo.findIdx? (fun p => decide (p.1 ≤ ((n : Nat) : Int)) && decide (((n : Nat) : Int) < p.2.1)) = none := by
          rw [List.findIdx?_eq_none_iff]
          intro p hp
          obtain ⟨j, hj, e⟩ := List.getElem_of_mem hp
          have z := hn j p (by rw [dpAll_len hd3, List.length_map]; exact hj) (by rw [List.getElem?_eq_getElem hj, e])
          simpa using z
        rw [f]
      have z := k _ s
      rw [e] at z
      exact z
end
end K6

set_option maxRecDepth 100000
set_option maxHeartbeats 1000000
/-! Refusals: a try with clauses, named or not, in any order; a class's def called by the class; isinstance of what was caught. -/
namespace My
open PySem PySem.Spec PyProof.Rows L2 GxR
/-! ### a try with clauses, named or not -/
abbrev Cl := Value × Option Nat × (Addr → Value → Option Addr → TS)
/-- what follows is the same by two ways: I holds there -/
theorem cutR {A : Prop} {G : Hp → Prop} (I : Hp → Prop) (main : (∀ H, I H → G H) → A) (last : ∀ H, I H → G H) : A := main last
def endsOff (i : Nat) (D : Ends) : Ends :=
  { nx := fun τ G => D.nx (τ.set i none) G, rt := D.rt, bk := fun τ G => D.bk (τ.set i none) G, ct := fun τ G => D.ct (τ.set i none) G }
def suiteOf (i : Option Nat) (t : TS) (a : Addr) (D : Ends) (σ : L2.St) (H : Hp) : Prop :=
  match i with
  | none => t D σ H
  | some i => t (endsOff i D) (σ.set i (some (.ref a))) H
/-- what the clauses wish, one behind the other -/
def wCl (K : PySem.W.Frag) (Wout : WX) (D : Ends) : List Cl → WX
  | [] => Wout
  | p :: l => fun cls d σ H => ∃ b, PySem.W.exmOne K cls p.1 = some b ∧
      (b = true → ∀ a, H a = none → suiteOf p.2.1 (p.2.2 a cls d) a D σ H) ∧ (b = false → wCl K Wout D l cls d σ H)
def SuiteOk (X : Cx) (ss : List Stmt) (ts : Addr → Value → Option Addr → TS) : Prop :=
  ∀ (a : Addr) (oe : Obj) (cls : Value) (d : Option Addr) (pn : List (Addr × Obj)), Zc cls d oe → (∃ fv, oe.data = .fields fv) → PSs (X.suite a ((a, oe) :: pn)) ss (ts a cls d)
inductive Clauses (X : Cx) : List ExceptHandler → List Cl → Prop
  | nil : Clauses X [] []
  | plain {x : Str} {c : Value} {ts : Addr → Value → Option Addr → TS} {st : Stmt} {ss : List Stmt} {p q : Pos} {hds : List ExceptHandler} {l : List Cl}
      (hc : Names X x c) (hsu : SuiteOk X (st :: ss) ts) (r : Clauses X hds l) : Clauses X (.ExceptHandler (some (.Name x p)) none (st :: ss) q :: hds) ((c, none, ts) :: l)
  | named {x n : Str} {i : Nat} {c : Value} {ts : Addr → Value → Option Addr → TS} {st : Stmt} {ss : List Stmt} {p q : Pos} {hds : List ExceptHandler} {l : List Cl}
      (hc : Names X x c) (hi : X.N[i]? = some n) (hn : X.env.kindOf n = some .local) (hsu : SuiteOk X (st :: ss) ts) (r : Clauses X hds l) :
      Clauses X (.ExceptHandler (some (.Name x p)) (some n) (st :: ss) q :: hds) ((c, some i, ts) :: l)
/-- an exception in hand -/
structure InHand (X : Cx) (pins : List (Addr × Obj)) (σ : L2.St) (H : Hp) (cls : Value) (d : Option Addr) (a : Addr) (B : Heap) (sI s : Shared) : Prop where
  inv : Inv X pins σ H sI
  grd : ∀ b o, sI.heap.get? b = some o → b ∉ frs X.stack → B.get? b = some o
  up : sI.heap.UpToSlots s.heap
  fly : HandSPX.FlyingZ B (X.env :: X.outer) a (Zc cls d) s.heap
  new : H a = none
  os : s.os = sI.os
  ag : AllBare s.gens
section
variable {X : Cx} {pins : List (Addr × Obj)} {σ : L2.St} {H : Hp} {cls : Value} {d : Option Addr} {a : Addr} {B : Heap} {sI s : Shared}
theorem InHand.now (h : InHand X pins σ H cls d a B sI s) : Inv X pins σ H s := h.inv.landed h.grd h.fly.1 h.up h.os h.ag
theorem InHand.move (h : InHand X pins σ H cls d a B sI s) {g : Heap} (f : HandSPX.FlyingZ B (X.env :: X.outer) a (Zc cls d) g) (u : s.heap.UpToSlots g) :
    InHand X pins σ H cls d a B sI { s with heap := g } := ⟨h.inv, h.grd, h.up.trans u, f, h.new, h.os, h.ag⟩
theorem InHand.seen (h : InHand X pins σ H cls d a B sI s) (hf : X.env.frame = some X.env.locals) :
    ∃ oe fv, s.heap.get? a = some oe ∧ Zc cls d oe ∧ oe.data = .fields fv ∧ a ≠ X.env.locals ∧ a ∉ X.fs := by
  obtain ⟨oe, fv, e1, e2, e3⟩ := h.fly.there
  have off : a ∉ frs (X.env :: X.outer) := by
    intro m
    obtain ⟨_, o2, e4, no⟩ := h.fly.2.2.1.mem m
    rw [e1] at e4
    obtain rfl := Option.some.inj e4
    exact no _ e3
  refine ⟨oe, fv, e1, e2, e3, fun z => off ?_, fun z => off ?_⟩
  · rw [z]
    exact List.mem_filterMap.mpr ⟨X.env, by simp, hf⟩
  · obtain ⟨v, hv, q⟩ := List.mem_filterMap.mp z
    exact List.mem_filterMap.mpr ⟨v, by simp [hv], q⟩
/-- the suite of a clause behind the try's own end -/
theorem InHand.leave (ok : X.Ok) {oe : Obj} {D : Ends} {f : Flow} {s2 : Shared} (h : SP (X.suite a ((a, oe) :: (X.pn ++ pins))) [] D f s2) : SP X pins D f s2 := by
  cases f with
  | ret u => obtain ⟨v, τ, G, J, r, q⟩ := h; exact ⟨v, τ, G, J.unsuite ok, r, q⟩
  | next => obtain ⟨τ, G, J, q⟩ := h; exact ⟨τ, G, J.unsuite ok, q⟩
  | brk => obtain ⟨τ, G, J, q⟩ := h; exact ⟨τ, G, J.unsuite ok, q⟩
  | cont => obtain ⟨τ, G, J, q⟩ := h; exact ⟨τ, G, J.unsuite ok, q⟩
/-- no clause took it -/
theorem InHand.out (hs : X.stack = X.env :: X.outer) (hf : X.env.frame = some X.env.locals) {Wout : WX} (tk : Takes X Wout) (h : InHand X pins σ H cls d a B sI s) (w : Wout cls d σ H) {Q : Flow → Shared → Prop} :
    wpAny (model X.prog X.w) X.A (handleBy (.ref a) X.env []) Q X.xe s := by
  have fly := h.fly
  refine wpAny_handleBy_nil ?_
  obtain ⟨_, _, _, oe, fv, T, _, _, e1, _, e2, e3, _⟩ := id h.fly
  unfold PySem.passOn
  refine wpAny_bind (wpAny_field e1 e2 e3 ?_)
  rw [if_neg (by simp)]
  have last : wpAny (model X.prog X.w) X.A (setFlight (.ref a) X.env.frame) (fun _ z => wpAny (model X.prog X.w) X.A (throw (.ref a) : Sem Flow) Q X.xe z) X.xe s := by
    rw [hf]
    refine HandSPX.setFlight_upZ fly fun g held up => wpAny_throw (tk _ _ ⟨a, B, sI, pins, σ, H, cls, d, rfl, h.inv, h.grd, h.up.trans up, .inr (.inr ?_), h.new, h.os, h.ag, w⟩)
    rw [hs]
    exact held
  first
    | exact wpAny_bind last
    | exact wpAny_bind (wpAny_pure (wpAny_bind last))
/-- the class that a clause names, told -/
theorem InHand.named (h : InHand X pins σ H cls d a B sI s) (hf : X.env.frame = some X.env.locals) {x : Str} {c : Value} {p : Pos} (hc : Names X x c) {Q : Value → Shared → Prop} {E : Value → Shared → Prop} (q : Q c s) :
    wpAny (model X.prog X.w) (X.A.mark (some (.ref a))) (eval (.Name x p) X.env) Q E s := by
  obtain ⟨oe, fv, e1, _, e3, n1, n2⟩ := h.seen hf
  have S := h.now.suite e1 e3 h.new n1 n2
  obtain ⟨hg, hd, hm | ⟨hm, hv, hn⟩⟩ := hc
  · exact ld_glob (X := X.suite a ((a, oe) :: (X.pn ++ pins))) S hg hm q hd
  · exact ld_blt (X := X.suite a ((a, oe) :: (X.pn ++ pins))) S hg hm hv q hn hd
theorem InHand.through (hs : X.stack = X.env :: X.outer) (hf : X.env.frame = some X.env.locals) (hN : X.N.Nodup) {Wout : WX} (tk : Takes X Wout) {D : Ends} {hds : List ExceptHandler} {l : List Cl}
    (ck : Clauses X hds l) : ∀ {s : Shared}, InHand X pins σ H cls d a B sI s → wCl X.K Wout D l cls d σ H → wpAny (model X.prog X.w) X.A (handleBy (.ref a) X.env hds) (SP X pins D) X.xe s := by
  induction ck with
  | nil => exact fun h w => h.out hs hf tk w
  | @plain x c ts st ss p q hds l hc hsu r ih =>
    rintro s h ⟨b, hb, yes, no⟩
    have fly := h.fly
    obtain ⟨oe, fv, e1, e2, _⟩ := h.seen hf
    have own : PySem.W.Looks (model X.prog X.w) s.heap (typeOf (.ref a)) cls := fun _ _ _ z k q => wpAny_typeOf_ref (k _ _ e1) (by rw [e2.1]; exact q)
    refine wpAny_handleBy_cons (codeAny_handlers_test (h.named hf hc ((PySem.W.exm_one h.now.kIn own hb).here ?_))) (fun z => by cases z)
    cases b with
    | false => exact ih h (no rfl)
    | true =>
      refine codeAny_handlers_suite (HandSPX.lands_againZ fly fun g f2 u2 => ?_)
      have h2 := h.move f2 u2
      obtain ⟨oe2, fv2, i1, i2, i3, i4, i5⟩ := h2.seen hf
      exact wpAny_mono ((hsu a oe2 cls d (X.pn ++ pins) i2 ⟨_, i3⟩).run [] _ _ _ _ (h2.now.suite i1 i3 h.new i4 i5) (yes rfl a h.new)) (fun f z y => InHand.leave h.inv.ok y) fun _ _ z => z.elim
  | @named x n i c ts st ss p q hds l hc hi hn hsu r ih =>
    rintro s h ⟨b, hb, yes, no⟩
    have fly := h.fly
    obtain ⟨oe, fv, e1, e2, _⟩ := h.seen hf
    have own : PySem.W.Looks (model X.prog X.w) s.heap (typeOf (.ref a)) cls := fun _ _ _ z k q => wpAny_typeOf_ref (k _ _ e1) (by rw [e2.1]; exact q)
    refine wpAny_handleBy_cons (codeAny_handlers_test (h.named hf hc ((PySem.W.exm_one h.now.kIn own hb).here ?_))) (fun z => by cases z)
    cases b with
    | false => exact ih h (no rfl)
    | true =>
      refine codeAny_handlers_suite_as (HandSPX.lands_againZ fly fun g f2 u2 => ?_)
      have h2 := h.move f2 u2
      obtain ⟨oe2, fv2, i1, i2, i3, i4, i5⟩ := h2.seen hf
      refine store_ok (X := X.suite a ((a, oe2) :: (X.pn ++ pins))) (v := .ref a) (h2.now.suite i1 i3 h.new i4 i5) hN hi (.inl hn) rfl (fun z J => ?_) (.inr hn)
      refine wpAny_mono ((hsu a oe2 cls d (X.pn ++ pins) i2 ⟨_, i3⟩).run [] z _ _ _ J (yes rfl a h.new)) (fun f y k => ?_) fun _ _ z => z.elim
      have k' := InHand.leave h.inv.ok k
      cases f with
      | next => obtain ⟨τ, G, J2, q2⟩ := k'; exact gone_ok J2 hN hi hn fun _ J3 => ⟨_, _, J3, q2⟩
      | brk => obtain ⟨τ, G, J2, q2⟩ := k'; exact gone_ok J2 hN hi hn fun _ J3 => ⟨_, _, J3, q2⟩
      | cont => obtain ⟨τ, G, J2, q2⟩ := k'; exact gone_ok J2 hN hi hn fun _ J3 => ⟨_, _, J3, q2⟩
      | ret u => obtain ⟨v, τ, G, J2, r2, q2⟩ := k'; exact gone_ok J2 hN hi hn fun _ J3 => ⟨_, _, _, J3, r2, q2⟩
end
/-- try: body, any clauses -/
theorem ps_try_cl {X : Cx} {body : List Stmt} {hd : ExceptHandler} {hds : List ExceptHandler} {l : List Cl} {pos : Pos} {tb : WX → TS} {Wout : WX} (hs : X.stack = X.env :: X.outer) (hf : X.env.frame = some X.env.locals) (hN : X.N.Nodup)
    (tk : Takes X Wout) (ck : Clauses X (hd :: hds) l)
    (hb : ∀ (W : WX) (pn : List (Addr × Obj)) (xe : Value → Shared → Prop), Takes (X.tr pn xe) W → PassesOwn (model X.prog X.w) X.A X.env xe → PSs (X.tr pn xe) body (tb W)) :
    PS X (.Try body (hd :: hds) [] [] pos) (fun D σ H => tb (wCl X.K Wout D l) D σ H) := by
  refine ⟨fun pins s σ H D I h => wpAny_Try_except ?_⟩
  have ok := I.ok
  have fr : X.A.frames = some (X.env :: X.outer) := by rw [ok.frames, hs]
  let xe : Value → Shared → Prop := fun e z => wpAny (model X.prog X.w) X.A (noteFrame e X.env) (fun _ z2 => wpAny (model X.prog X.w) X.A (setFlight e none)
    (fun _ z3 => wpAny (model X.prog X.w) X.A (handleBy e X.env (hd :: hds)) (SP X pins D) X.xe z3) X.xe z2) X.xe z
  have take : Takes (X.tr (X.pn ++ pins) xe) (wCl X.K Wout D l) := by
    rintro _ z ⟨a, B, sI, pn, τ, G, cls, d, rfl, J, grd, up, sky, new, os, ag, w⟩
    rw [show (X.tr (X.pn ++ pins) xe).stack = X.env :: X.outer from hs] at sky
    refine Sky.land Zc.steady fr hf sky fun g fly u => ?_
    exact InHand.through hs hf hN tk ck (s := { z with heap := g }) ⟨J.ofTry ok, grd, up.trans u, fly, new, os, ag⟩ w
  refine wpAny_mono ((hb _ _ xe take PassesOwn.looking).run [] s σ H D (I.toTry _) h) (fun f z k => ?_) fun _ _ z => z
  cases f with
  | next => obtain ⟨τ, G, J, q⟩ := k; exact wpAny_execs_nil ⟨τ, G, J.ofTry ok, q⟩
  | brk => obtain ⟨τ, G, J, q⟩ := k; exact ⟨τ, G, J.ofTry ok, q⟩
  | cont => obtain ⟨τ, G, J, q⟩ := k; exact ⟨τ, G, J.ofTry ok, q⟩
  | ret u => obtain ⟨v, τ, G, J, r, q⟩ := k; exact ⟨v, τ, G, J.ofTry ok, r, q⟩
/-! ### C.m(e, ..), C a class of the program -/
/-- what the written part says of a def f that a class at C tells by its name -/
structure ClsDef (K : PySem.W.Frag) (C f : Addr) (n : Str) : Prop where
  ga : PySem.W.specialIn K (.ref C) "__getattribute__" = some (some (.builtin "type.__getattribute__"))
  rd : PySem.W.readsIn K C (.type "type") = true
  at_ : PySem.W.findCls K (.ref C) (.type "type") n = some (.val (.ref f))
section
variable {X : Cx} {CX : CXT} {k : Nat} {C f : Addr} {fd : FuncData} {ps : List Str} {sp : Sp} {dvs : List V} {ds : List Value} {E : XK} {x n : Str} {p1 p2 pos : Pos} {e : Expr} {es : List Expr} {t : TA}
theorem pe_ccall {pl : Sem Bool} (T : ClsDef X.K C f n) (F : FnOk X.prog X.w X.K X.mg X.base CX k f fd ps sp) (hr : Room k X.A) (hg : Gl X x) (hm : X.mg x = some (.ref C)) (hk : PySem.W.keepIn X.K (.ref f) = true)
    (hb : Binds X.K fd ps ds) (hd : Vals dvs ds) (hx : Passes CX X E) (ha : PA X (e :: es) t) (hdb : (x == ("__debug__" : Str)) = false := by decide)
    (hc : eval (.Call (.Attribute (.Name x p1) n p2) (e :: es) [] pos) X.env = (do
      let ov ← eval (.Name x p1) X.env
      standAt p2.atName
      let (f, first) ← holding [ov] (getMethod ov n pl)
      callWith pos f first (backTo pos (starEach (e :: es) X.env)) (backToKw pos (keywordEach [] X.env))) := by rfl)
    (he : starEach (e :: es) X.env = (false, eval e X.env) :: starEach es X.env := by rfl) (hpl : (backTo pos (starEach es X.env)).any (·.1) = false := by rfl) :
    PE X (.Call (.Attribute (.Name x p1) n p2) (e :: es) [] pos) (tCall sp dvs E t) := by
  refine ⟨fun pins s σ H Q I h => PySem.W.methodCall_KW (ld_glob I hg hm ?_ hdb) hc⟩
  refine PySem.W.method_cls I.kIn T.ga (PySem.W.cls_value I.kIn T.rd T.at_ rfl ?_)
  refine PySem.W.callWith_K (h₀ := X.base) I.ok.mod.kin hk (thn (ha.run pos pins _ σ H _ (I.tok _) h) ?_) he hpl
  rintro us s1 ⟨vs, H1, I1, r, q⟩
  refine ⟨I1.kIn, ?_⟩
  have both := r.append hd
  have len : (us ++ ds).length = ps.length := (both.length).symm.trans (F.len _ _ _ _ q)
  refine wpAny_call (codeAny_mono (F.run X.A X.stack s1 H1 ⟨us, []⟩ (us ++ ds) (vs ++ dvs) Q E hr I1.env0 (hb s1 us I1.kIn len) both q) ?_)
  intro res z hz
  match res, hz with
  | .ok (.ret u), hz => exact I1.after hz
  | .error e, hz => exact hx pins σ H1 s1 e z I1 hz
  | .ok .next, hz => exact hz.elim
  | .ok .brk, hz => exact hz.elim
  | .ok .cont, hz => exact hz.elim
end
/-! ### o.m(e, ..) in a try's body -/
section
variable {X : Cx} {CX : CXT} {k : Nat} {C f : Addr} {fd : FuncData} {ps : List Str} {sp : Sp} {E : L2.St → XK} {m : Str} {pos apos : Pos} {e o : Expr} {es : List Expr} {ta : TE} {t : TA}
def tMethX (C : Addr) (m : Str) (sp : Sp) (E : L2.St → XK) (ta : TE) (t : TA) : TE := fun σ H Q => ta σ H fun x G => ∃ a dx fs, x = .ref a ∧ G a = some (.ins C dx fs) ∧ fs.lookup m = none ∧
  t σ G fun vs G2 => sp (x :: vs) G2 Q (E σ)
theorem pe_methX {pl : Sem Bool} (he : PE X o ta) (c : Cls X.K C) (hm : Meth X.K C m f) (F : FnOk X.prog X.w X.K X.mg X.base CX k f fd ps sp) (hr : Room k X.A) (hb : Binds X.K fd ps []) (hx : ∀ σ, PassesAt CX X σ (E σ)) (ha : PA X (e :: es) t)
    (hst : starEach (e :: es) X.env = (false, eval e X.env) :: starEach es X.env := by rfl) (hpl : (backTo pos (starEach es X.env)).any (·.1) = false := by rfl)
    (ht : eval (.Call (.Attribute o m apos) (e :: es) [] pos) X.env = (do
      let ov ← eval o X.env
      standAt apos.atName
      let (f, first) ← holding [ov] (getMethod ov m pl)
      callWith pos f first (backTo pos (starEach (e :: es) X.env)) (backToKw pos (keywordEach [] X.env))) := by rfl) :
    PE X (.Call (.Attribute o m apos) (e :: es) [] pos) (tMethX C m sp E ta t) := by
  refine ⟨fun pins s σ H Q I h => PySem.W.methodCall_KW (pl := pl) (thn (he.run pins s σ H _ I h) ?_) ht⟩
  rintro u z ⟨x, G, J, rx, a, dx, fs, rfl, ea, l, q⟩
  obtain rfl : u = Value.ref a := rx
  refine getmeth_ok J ea c hm l (PySem.W.callWith_K (first := [.ref a]) (h₀ := X.base) I.ok.mod.kin hm.kp (thn (ha.run pos pins z σ G _ J q) ?_) hst hpl)
  rintro us y ⟨vs, G2, J2, r, q2⟩
  exact ⟨J2.kIn, run_fnS (us := .ref a :: us) (vs := .ref a :: vs) F hr hb (hx σ) J2 (.cons rfl r) q2⟩
end
/-! ### the family: an __init__ over another class's, one field -/
/-- StaffError.__init__(self, text) and the like -/
def spUp (K : PySem.W.Frag) : Sp := fun vs H Q _ => ∃ (a C : Addr) (z : Str), vs = [.ref a, .str z] ∧ OexC K C ∧ H a = some (exo a C none) ∧ Q .non H
/-- C.__init__(self, x), its one field f -/
def spOne (K : PySem.W.Frag) (C : Addr) (f : Str) : Sp := fun vs H Q _ => ∃ (a : Addr) (v : V), vs = [.ref a, v] ∧ H a = some (exo a C none) ∧
  ∀ dx, H dx = none → dx ≠ a → Q .non (upd (upd H dx (exd dx [(f, v)])) a (exo a C (some dx)))
/-- what is left of a made exception: its dict alone -/
theorem made_eq {H : Hp} {a d C : Addr} {fs : List (Str × V)} (n : H a = none) (ne : d ≠ a) :
    upd (del (upd (upd (upd H a (exo a C none)) d (exd d fs)) a (exo a C (some d))) a) d (.xd fs) = upd H d (.xd fs) := by
  funext b
  by_cases hd : b = d
  · rw [hd, upd_same, upd_same]
  · rw [upd_ne hd, upd_ne hd]
    by_cases ha : b = a
    · rw [ha, del_same, n]
    · rw [del_ne ha, upd_ne ha, upd_ne hd, upd_ne ha]
/-- raise C(x): what is to be shown -/
theorem made_one {K : PySem.W.Frag} {C : Addr} {f : Str} {v : V} {H : Hp} {W : Value → Option Addr → Hp → Prop} (k : ∀ d, H d = none → W (.ref C) (some d) (upd H d (.xd [(f, v)]))) :
    ([v] : List V).length ≤ 1000 ∧ ∀ a, H a = none → spOne K C f (.ref a :: ([v] ++ [])) (upd H a (exo a C none))
      (fun u H2 => u = .non ∧ ∃ (d : Addr) (fs : List (Str × V)), H2 a = some (exo a C (some d)) ∧ H2 d = some (exd d fs) ∧ H d = none ∧ W (.ref C) (some d) (upd (del H2 a) d (.xd fs))) (fun _ _ _ => False) := by
  refine ⟨by simp, fun a n => ⟨a, v, rfl, upd_same, fun dx hdx ne => ⟨rfl, dx, [(f, v)], upd_same, ?_, ?_, ?_⟩⟩⟩
  · rw [upd_ne ne, upd_same]
  · rw [upd_ne ne] at hdx
    exact hdx
  · rw [made_eq n ne]
    rw [upd_ne ne] at hdx
    exact k dx hdx
/-- a class is its own -/
theorem sub_self {K : PySem.W.Frag} {C : Addr} {cd : ClassData} {r : List Value} (h : PySem.W.clsIn K C = some cd) (e : cd.mro = .ref C :: r) : PySem.W.subIn K (.ref C) (.ref C) = some true := by
  show PySem.W.mroIn K C (.ref C) = some true
  unfold PySem.W.mroIn
  rw [h]
  simp [e]
/-! ### isinstance of what was caught -/
structure CauC (K : PySem.W.Frag) (D : Addr) : Prop where
  cl : (PySem.W.clsIn K D).isSome = true
  ga : PySem.W.findIn K (.ref D) "__getattribute__" = some (some (.builtin "BaseException.__getattribute__"))
  gg : PySem.W.findIn K (.ref D) "__getattr__" = some none
  sub : PySem.W.subIn K (.ref D) (.type "BaseException") = some true
  co : PySem.W.findIn K (.ref D) "__class__" = some (some (.builtin "object.__class__"))
  cg : PySem.W.specialIn K (.builtin "object.__class__") "__get__" = some (some (.builtin "getset_descriptor.__get__"))
  ct : PySem.W.takesIn K (.builtin "object.__class__") = some true
  mo : PySem.W.mroIn K D (.type "object") = some true
/-- isinstance(e, c), e what the suite holds (cls its class, d its dict) -/
def rIsD (K : PySem.W.Frag) (D a : Addr) (cls : Value) (d : Option Addr) : List V → Hp → VK → Prop := fun xs H Q => ∃ (c : V) (cv : Value) (b : Bool) (dd : Addr) (fs : List (Str × V)),
  xs = [.ref a, c] ∧ (∀ u, RelV c u → u = cv) ∧ PySem.W.kitOne K (.ref D) cv = some b ∧ cls = .ref D ∧ d = some dd ∧ H dd = some (.xd fs) ∧ Q (.bl b) H
theorem call_isD {X : Cx} {a D : Addr} {cls : Value} {d : Option Addr} {oe : Obj} {pn : List (Addr × Obj)} (T : CauC X.K D) (hz : Zc cls d oe) (hf : ∃ fv, oe.data = .fields fv) :
    CallR (X.suite a ((a, oe) :: pn)) (.builtin "isinstance") (rIsD X.K D a cls d) := by
  rintro pins s σ H xs us Q I r ⟨c, cv, b, dd, fs, rfl, hcv, e, rfl, rfl, ed, q⟩
  cases r with
  | cons rx rr =>
    cases rr with
    | cons rt rr =>
      cases rr
      cases rx
      obtain rfl := hcv _ rt
      obtain ⟨hget, _⟩ := I.pin (a, oe) (by simp)
      obtain ⟨fv, hv⟩ := hf
      have hx : ObjOk X.prog X.w H s.heap dd (.xd fs) := I.hok dd _ ed
      obtain ⟨mA, hns, _⟩ := hx
      obtain ⟨od, ho, _⟩ := lookIn_ns hns
      have J : PySem.W.InstAt s.heap a oe D (some od) := ⟨hget, hz.1, by unfold PySem.W.notCls; rw [hv] <;> rfl, by rw [hz.2]; exact ho⟩
      exact PySem.W.kia_one (PySem.W.kitx_exc T.cl T.ga T.gg T.sub T.co T.cg T.ct T.mo) I.kIn J e (fun z => nomatch z) fun tk => ⟨.bl b, H, I.tok _, rfl, q⟩
/-- a call of a def that may raise, where it does not -/
theorem pass_no {X : Cx} : Passes (L2.CX X.prog X.w) X E0 := fun _ _ _ _ _ _ _ ⟨_, _, _, _, _, _, _, _, _, _, _, _, z⟩ => z.elim
theorem takes_never {X : Cx} : Takes X (fun _ _ _ _ => False) := fun _ _ ⟨_, _, _, _, _, _, _, _, _, _, _, _, _, _, _, _, z⟩ => z.elim
end My

set_option maxRecDepth 100000
set_option maxHeartbeats 400000
/-! Several refusals of one family: what the written part says of each. -/
namespace My
open PySem PySem.Spec PyProof.Rows L2 GxR Gd TL
/-- the class above them -/
structure SeT (K : PySem.W.Frag) (mg : Str → Option Value) (CS fS : Addr) (fdS : FuncData) (st : Stmt) : Prop where
  ve : mg "ValueError" = none
  vi : PySem.W.findCls K (.type "ValueError") (.type "type") "__init__" = some (.val (.builtin "ValueError.__init__"))
  g : mg "StaffError" = some (.ref CS)
  c : ClsDef K CS fS "__init__"
  k : PySem.W.keepIn K (.ref fS) = true
  F : Fun K "__init__" "StaffError.__init__" st fS fdS
  b : Binds K fdS ["self", "text"] []
/-- one of them -/
structure ExC (K : PySem.W.Frag) (mg : Str → Option Value) (x q : Str) (st : Stmt) (C f : Addr) (fd : FuncData) : Prop where
  g : mg x = some (.ref C)
  F : Fun K "__init__" q st f fd
  b : Binds K fd ["self", "found"] []
  o : OexC K C
  i : PySem.W.findIn K (.ref C) "__init__" = some (some (.ref f))
  t : PySem.W.typeIn K (.ref f) = some (.type "function")
  n : PySem.W.findIn K (.ref C) "found" = some none
  e : PySem.W.exmOne K (.ref C) (.ref C) = some true
  x : XfC K C
  u : CauC K C
section
variable {X : Cx} {CX : CXT} {k : Nat} {C f : Addr} {fd : FuncData} {ps : List Str} {sp : Sp} {E : L2.St → XK} {m : Str} {pos apos : Pos} {o : Expr} {ta : TE}
def tMethX0 (C : Addr) (m : Str) (sp : Sp) (E : L2.St → XK) (ta : TE) : TE := fun σ H Q => ta σ H fun x G => ∃ a dx fs, x = .ref a ∧ G a = some (.ins C dx fs) ∧ fs.lookup m = none ∧ sp [x] G Q (E σ)
/-- o.m() in a try's body -/
theorem pe_methX0 {pl : Sem Bool} (he : PE X o ta) (c : Cls X.K C) (hm : Meth X.K C m f) (F : FnOk X.prog X.w X.K X.mg X.base CX k f fd ps sp) (hr : Room k X.A) (hb : Binds X.K fd ps []) (hx : ∀ σ, PassesAt CX X σ (E σ))
    (ht : eval (.Call (.Attribute o m apos) [] [] pos) X.env = (do
      let who ← eval o X.env
      standAt apos.atName
      let (g, ahead) ← holding [who] (getMethod who m pl)
      callWith pos g ahead (backTo pos (starEach [] X.env)) (backToKw pos (keywordEach [] X.env))) := by rfl) :
    PE X (.Call (.Attribute o m apos) [] [] pos) (tMethX0 C m sp E ta) := by
  refine ⟨fun pins s σ H Q I h => PySem.W.methodCall_KW (pl := pl) (thn (he.run pins s σ H _ I h) ?_) ht⟩
  rintro u z ⟨x, G, J, rx, a, dx, fs, rfl, ea, l, q⟩
  obtain rfl := show u = Value.ref a from rx
  refine getmeth_ok J ea c hm l ?_
  exact PySem.W.callWith_K0 (first := [.ref a]) J.kIn hm.kp (run_fnS (us := [.ref a]) (vs := [.ref a]) F hr hb (hx σ) J (.cons rfl .nil) q)
end
end My

set_option maxRecDepth 100000
set_option maxHeartbeats 1000000
/-! The end of a law whose own def shows dicts: the module table is tracked, so that no new thing is it. For laws without tables. -/
namespace Gd
open PySem PySem.Spec PyProof.Rows L2 GxR
/-- the module table: it is there -/
def smU : HO := .ext fun h => ∃ o, h.get? sysModules = some o
def SmAt (H : Hp) : Prop := ∃ o, H sysModules = some (.frz o smU)
theorem SmAt.same {H H' : Hp} (h : SmAt H) (s : Same H H') : SmAt H' := let ⟨o, e⟩ := h; ⟨o, s _ _ e⟩
theorem smU_ne {u : HO} (n : ∀ φ, u ≠ .ext φ) : smU ≠ u := fun z => n _ z.symm
open Classical in
noncomputable def hs0 (K : PySem.W.Frag) (a : Addr) (vs : List Value) (ns : List Int) (o1 : Obj) : Hp := fun b =>
  if b = sysModules then some (.frz o1 smU) else if b = a ∧ K.lookup a = none then some (.frz (scriptO vs) (.lst (ns.map V.int))) else none
theorem hs0_inv {K : PySem.W.Frag} {a b : Addr} {vs : List Value} {ns : List Int} {o1 : Obj} {u : HO} (h : hs0 K a vs ns o1 b = some u) :
    (b = sysModules ∧ u = .frz o1 smU) ∨ (b = a ∧ K.lookup a = none ∧ u = .frz (scriptO vs) (.lst (ns.map V.int))) := by
  unfold hs0 at h
  split at h
  · rename_i c
    exact .inl ⟨c, (Option.some.inj h).symm⟩
  · split at h
    · rename_i c
      exact .inr ⟨c.1, c.2, (Option.some.inj h).symm⟩
    · cases h
section
variable {P : Program} {w : World} {K : PySem.W.Frag} {mg mb : Str → Option Value} {CX : CXT} {k : Nat} {fa a : Addr} {fd : FuncData} {x : Str} {sp : Sp} {s1 : Shared} {vs : List Value} {ns : List Int}
theorem law_scall (KX : K.In s1.heap) (nsG : s1.heap.Ns mainGlobals mg) (nsB : s1.heap.Ns builtinsNs mb) (isB : ∀ x : Str, x ≠ "__name__" → mb x = bootBuiltins x) (lim : s1.heap.NoLimit) (gens : s1.gens = #[])
    (hsm : ∃ o, s1.heap.get? sysModules = some o) (k1 : K.lookup sysModules = none) (na : a ≠ sysModules) (ha : s1.heap.get? a = some (scriptO vs)) (hi : IntsAre vs ns) (hl : ns.length ≤ sizeLine) (hr : Room k callerA)
    (F : ∀ base : Heap, K.In base → base.Ns mainGlobals mg → GOk P w K mg base CX k fa fd [x] sp) (hbind : ∀ (s : Shared) (u : Value), BindsTo s fd ⟨[u], []⟩ [(x, u)])
    (hsp : ∀ H : Hp, SmAt H → SqL K H a (ns.map V.int) → sp [.ref a] H (fun v _ => v = .bl true) fun _ _ _ => False) (hCX : ∀ H e s', CX [] H s1 (fun _ _ _ => False) e s' → False) :
    codeAny (model P w) callerA (.call (.ref fa) ⟨[.ref a], []⟩) (fun r s' => r = .ok (.ret (.bool true)) ∧ OldK s1.heap s'.heap ∧ s'.os = s1.os ∧ AllBare s'.gens) s1 := by
  have rv := vals_ints hi
  have hlen := hi.length
  obtain ⟨o1, ho1⟩ := hsm
  let H := hs0 K a vs ns o1
  have off : ∀ {b : Addr}, b ≠ sysModules → b ≠ a → H b = none := fun {b} n1 n2 => by
    cases q : H b with
    | none => rfl
    | some u =>
      rcases hs0_inv q with ⟨e, _⟩ | ⟨e, _⟩
      · exact absurd e n1
      · exact absurd e n2
  have dic : ∀ {b : Addr} {m : Str → Option Value}, b ≠ sysModules → s1.heap.Ns b m → (hidT s1.heap H).Ns b m := by
    rintro b m n1 ⟨o, es, ep, e, d, rest⟩
    refine ⟨o, es, ep, hidT_get e (off n1 ?_), d, rest⟩
    rintro rfl
    rw [ha] at e
    obtain rfl := Option.some.inj e
    cases d
  have KH : K.In (hidT s1.heap H) := by
    intro b o e
    refine hidT_get (KX b o e) ?_
    cases q : H b with
    | none => rfl
    | some u =>
      rcases hs0_inv q with ⟨rfl, _⟩ | ⟨rfl, z, _⟩
      · rw [k1] at e
        cases e
      · rw [z] at e
        cases e
  have limH : (hidT s1.heap H).NoLimit := let ⟨mc, h1, h2⟩ := lim; ⟨mc, dic (by decide) h1, h2⟩
  have M : L2.Mod K mg (hidT s1.heap H) := ⟨KH, dic (by decide) nsG, ⟨mb, dic (by decide) nsB, isB⟩, limH⟩
  have hS : SqL K H a (ns.map V.int) := by
    cases q : K.lookup a with
    | none => exact .inl (.inr ⟨scriptO vs, (if_neg na).trans (if_pos ⟨rfl, q⟩)⟩)
    | some o =>
      have e := KX a o q
      rw [ha] at e
      obtain rfl := Option.some.inj e
      exact .inr ⟨_, vs.toArray, _, q, rfl, rfl, rfl, by rw [List.size_toArray, hlen]; exact hl, by simpa using rv⟩
  have hok : HOk P w H s1.heap := by
    intro b u q
    rcases hs0_inv q with ⟨rfl, rfl⟩ | ⟨rfl, _, rfl⟩
    · exact ⟨ho1, ⟨_, ho1⟩, ⟨_, ho1⟩, fun h1 h2 ⟨o, z⟩ k => ⟨o, k _ z⟩⟩
    · exact ⟨ha, by rw [List.length_map]; exact hl, vs, _, rv, ha⟩
  have e0 : Env0 P w K mg (hidT s1.heap H) callerA [] s1 H :=
    ⟨rfl, M, fun b o e => of_hidT e, Nat.le_of_eq (hidT_size _ _), trivial, (fun b hb => by cases (show b ∈ ([] : List Addr) from hb)), hok, .of_eq gens⟩
  refine codeAny_mono ((F _ KH (dic (by decide) nsG)).go callerA [] s1 H ⟨[.ref a], []⟩ [.ref a] [.ref a] (fun v _ => v = .bl true) (fun _ _ _ => False) rfl hr e0 (hbind s1 (.ref a)) (.cons rfl .nil) (hsp H ⟨o1, if_pos rfl⟩ hS)) ?_
  intro r z h
  match r, h with
  | .ok .next, h => exact h.elim
  | .ok .brk, h => exact h.elim
  | .ok .cont, h => exact h.elim
  | .error e, h => exact (hCX H e z h).elim
  | .ok (.ret u), h =>
    obtain ⟨v, G, os, bare, un, hokG, rv', q⟩ := h
    obtain rfl : v = .bl true := q
    obtain rfl : u = Value.bool true := rv'
    have plain : ∀ b o, s1.heap.get? b = some o → z.heap.get? b = some o := by
      intro b o e
      cases q : H b with
      | none => exact un.keep b o e q (fun y => by cases (show b ∈ ([] : List Addr) from y)) (by simp)
      | some y =>
        rcases hs0_inv q with ⟨rfl, rfl⟩ | ⟨rfl, _, rfl⟩
        · obtain ⟨e2, _⟩ := hokG sysModules _ (un.frzs _ _ _ q)
          rw [ho1] at e
          exact Option.some.inj e ▸ e2
        · obtain ⟨e2, _⟩ := hokG b _ (un.frzs b _ _ q)
          rw [ha] at e
          exact Option.some.inj e ▸ e2
    exact ⟨rfl, ⟨fun b o e => .inl (plain b o e), fun b o e => ⟨o, plain b o e⟩⟩, os, bare⟩
end
/-- what is to be known of such a law -/
def GLawS (l : PySem.W.OpenLaw) (w : World) (K : PySem.W.Frag) (CX : CXT) (k n : Nat) (x : Str) (mg : Str → Option Value) (fa : Addr) : Prop :=
  ∃ (fd : FuncData) (sp : Sp), K.lookup sysModules = none ∧ (∀ (s : Shared) (u : Value), BindsTo s fd ⟨[u], []⟩ [(x, u)]) ∧
    (∀ (H : Hp) (a : Addr) (ns : List Int), ns.length ≤ n → SmAt H → SqL K H a (ns.map V.int) → sp [.ref a] H (fun v _ => v = .bl true) fun _ _ _ => False) ∧
    ∀ base : Heap, K.In base → base.Ns mainGlobals mg → GOk l.prog w K mg base CX k fa fd [x] sp
open PySem.W in
theorem walk_s {l : PySem.W.OpenLaw} {n k : Nat} {q : Program} {loose : List Str} {XP : (Str → Option Value) → Heap → Prop} {YP : World → Heap → Prop} {d : DefRec} {K : Params → PySem.W.Frag} {CX : World → CXT} {x : Str}
    (no : importsNone q = true) (hn : l.most = some n) (small : n ≤ sizeLine) (hdf : d.params.defaults = []) (hr : Room k callerA) (hY : ∀ (w : World) (h : Heap), YP w h → (K w.params).In h)
    (F : ∀ (w : World) (mg : Str → Option Value) (fa : Addr) (h : Heap), YP w h → (K w.params).In h → h.Ns mainGlobals mg → mg d.name = some (.ref fa) → GLawS l w (K w.params) (CX w) k n x mg fa)
    (hCX : ∀ (w : World) (H : Hp) (s : Shared) (e : Value) (s' : Shared), CX w [] H s (fun _ _ _ => False) e s' → False) :
    PySem.W.WalkO q loose XP YP l.row.toRowW d [] (fun f vs => PySem.call f vs) := by
  intro w s0 s1 mg mb G Y fa o pm cd doc dV kV ho hd hcd hD hmg hg args vals as pre lay rd well low
  obtain ⟨a, vs, ns, rfl, rfl, hobj, hints, hlen⟩ := Att.script_of hn pre well
  have na : a ≠ sysModules := by
    cases rd with
    | cons r1 r2 =>
      cases r1 with
      | list _ _ _ _ => exact beq_eq_false_iff_ne.mp (low a (by simp))
  have KX := hY w _ Y
  obtain ⟨fd, sp, k1, hb, hsp, hF⟩ := F w mg fa _ Y KX G.T.g hmg
  have run := law_scall KX G.T.g G.T.b G.T.builtins G.T.nolimit hg (let ⟨_, ⟨o, _, _, e, _⟩, _⟩ := (G.T.seer no).mods; ⟨o, e⟩) k1 na hobj hints (Nat.le_trans hlen small) hr hF hb (fun H a1 a2 => hsp H a ns hlen a1 a2) (fun H e s' => hCX w H s1 e s')
  refine enter_call (codeAny_mono run ?_)
  rintro r z ⟨rfl, old, os, bare⟩
  exact ⟨.inl ⟨.bool true, .bool true, [], rfl, fun _ => rfl, .bool true, Att.post_true l _, fun _ => ⟨List.Pairwise.nil, fun _ m => (nomatch m)⟩⟩, old, os, bare⟩
end Gd

set_option maxRecDepth 100000
set_option maxHeartbeats 1000000
/-! Data with dicts: what repr asks of them. -/
namespace My
open PySem PySem.Spec PyProof.Rows L2 GxR Gd TL
theorem same_new {H : Hp} {p : Addr} {o : HO} (n : H p = none) : Same H (upd H p o) := fun b u e => by rw [upd_ne (ne_of_none e n)]; exact e
theorem sameT {K : PySem.W.Frag} {H H' : Hp} {a : Addr} {xs : List V} (s : Same H H') (h : SqT K H a xs) : SqT K H' a xs := by
  rcases h with (h | ⟨o, h⟩) | h
  · exact .inl (.inl (s _ _ h))
  · exact .inl (.inr ⟨o, s _ _ h⟩)
  · exact .inr h
def keyD : Key → PyData
  | .inl i => .int i
  | .inr x => .str x
mutual
/-- v is the data d, dicts too -/
inductive Dq (K : PySem.W.Frag) (H : Hp) : V → PyData → Prop
  | non : Dq K H .non .none
  | bl (b : Bool) : Dq K H (.bl b) (.bool b)
  | int (i : Int) : Dq K H (.int i) (.int i)
  | str (z : Str) : Dq K H (.str z) (.str z)
  | lst {a : Addr} {xs : List V} {ds : List PyData} (e : SqL K H a xs) (h : DqAll K H xs ds) : Dq K H (.ref a) (.list ds)
  | tup {a : Addr} {xs : List V} {ds : List PyData} (e : SqT K H a xs) (h : DqAll K H xs ds) : Dq K H (.ref a) (.tuple ds)
  | dic {a : Addr} {kvs : List (Key × V)} {ds : List (PyData × PyData)} (e : H a = some (.dK kvs)) (h : DqKv K H kvs ds) : Dq K H (.ref a) (.dict ds)
inductive DqAll (K : PySem.W.Frag) (H : Hp) : List V → List PyData → Prop
  | nil : DqAll K H [] []
  | cons {v : V} {vs : List V} {d : PyData} {ds : List PyData} (h : Dq K H v d) (t : DqAll K H vs ds) : DqAll K H (v :: vs) (d :: ds)
inductive DqKv (K : PySem.W.Frag) (H : Hp) : List (Key × V) → List (PyData × PyData) → Prop
  | nil : DqKv K H [] []
  | cons {k : Key} {v : V} {r : List (Key × V)} {d : PyData} {ds : List (PyData × PyData)} (h : Dq K H v d) (t : DqKv K H r ds) : DqKv K H ((k, v) :: r) ((keyD k, d) :: ds)
end
mutual
theorem Dq.of {K : PySem.W.Frag} {H : Hp} : ∀ {v : V} {d : PyData}, Dp K H v d → Dq K H v d
  | _, _, .non => .non
  | _, _, .bl b => .bl b
  | _, _, .int i => .int i
  | _, _, .str z => .str z
  | _, _, .lst e h => .lst e (DqAll.of h)
  | _, _, .tup e h => .tup e (DqAll.of h)
theorem DqAll.of {K : PySem.W.Frag} {H : Hp} : ∀ {vs : List V} {ds : List PyData}, DpAll K H vs ds → DqAll K H vs ds
  | _, _, .nil => .nil
  | _, _, .cons h t => .cons (Dq.of h) (DqAll.of t)
end
mutual
theorem Dq.same {K : PySem.W.Frag} {H H' : Hp} (s : Same H H') : ∀ {v : V} {d : PyData}, Dq K H v d → Dq K H' v d
  | _, _, .non => .non
  | _, _, .bl b => .bl b
  | _, _, .int i => .int i
  | _, _, .str z => .str z
  | _, _, .lst e h => .lst (s.seq e) (DqAll.same s h)
  | _, _, .tup e h => .tup (sameT s e) (DqAll.same s h)
  | _, _, .dic e h => .dic (s _ _ e) (DqKv.same s h)
theorem DqAll.same {K : PySem.W.Frag} {H H' : Hp} (s : Same H H') : ∀ {vs : List V} {ds : List PyData}, DqAll K H vs ds → DqAll K H' vs ds
  | _, _, .nil => .nil
  | _, _, .cons h t => .cons (Dq.same s h) (DqAll.same s t)
theorem DqKv.same {K : PySem.W.Frag} {H H' : Hp} (s : Same H H') : ∀ {kvs : List (Key × V)} {ds : List (PyData × PyData)}, DqKv K H kvs ds → DqKv K H' kvs ds
  | _, _, .nil => .nil
  | _, _, .cons h t => .cons (Dq.same s h) (DqKv.same s t)
end
theorem keyD_reads {h : Heap} {k : Key} {v : Value} (e : keyIs k v = true) : Reads h v (keyD k) [] := by
  rcases keyIs_shape e with ⟨i, t, rfl, rfl⟩ | ⟨x, t, rfl, rfl⟩
  · exact .int i t
  · exact .str x t
section
variable {X : Cx} {pins : List (Addr × Obj)} {σ : L2.St} {H : Hp} {s : Shared}
theorem ne_sm {K : PySem.W.Frag} {H : Hp} {a : Addr} {xs : List V} (n : K.lookup sysModules = none) (sm : SmAt H) (h : SqL K H a xs) : a ≠ sysModules := by
  rintro rfl
  obtain ⟨o, e⟩ := sm
  rcases h with (h | ⟨u, h⟩) | ⟨u, _, _, h, _⟩
  · rw [e] at h
    cases h
  · rw [e] at h
    cases h
  · rw [n] at h
    cases h
mutual
theorem Dq.reads (n : X.K.lookup sysModules = none) (sm : SmAt H) (I : Inv X pins σ H s) : ∀ (d : PyData) (v : V) (u : Value), Dq X.K H v d → RelV v u → ∃ as, Reads s.heap u d as ∧ sysModules ∉ as
  | .none, _, _, h, r => by
    cases h
    cases r
    exact ⟨_, .none, by simp⟩
  | .bool b, _, _, h, r => by
    cases h
    cases r
    exact ⟨_, .bool b, by simp⟩
  | .int i, _, _, h, r => by
    cases h
    obtain ⟨t, rfl⟩ := r
    exact ⟨_, .int i t, by simp⟩
  | .str z, _, _, h, r => by
    cases h
    obtain ⟨t, rfl⟩ := r
    exact ⟨_, .str z t, by simp⟩
  | .list ds, _, _, h, r => by
    cases h with
    | lst hs ha =>
      cases r
      obtain ⟨its, rv, ⟨o, m, ho, hc, _, hd⟩, _⟩ := I.list hs
      obtain ⟨as, hr, no⟩ := Dq.readsAll n sm I ds _ its ha rv
      exact ⟨_, .list ho hc hd hr, fun m => (List.mem_cons.mp m).elim (ne_sm n sm hs).symm no⟩
  | .tuple ds, _, _, h, r => by
    cases h with
    | tup hs ha =>
      cases r
      obtain ⟨its, rv, ⟨o, ho, hc, m, hd⟩, _⟩ := I.tuple hs
      obtain ⟨as, hr, no⟩ := Dq.readsAll n sm I ds _ its ha rv
      exact ⟨_, .tuple ho hc hd hr, no⟩
  | .dict ds, _, _, h, r => by
    cases h with
    | dic e hk =>
      cases r
      obtain ⟨_, ne, vs, rel, o, es, ep, ho, hx, hd, _, hp, _⟩ := dk_of I.hok e
      obtain ⟨as, bs, h1, h2, n1, n2⟩ := Dq.readsKv n sm I ds _ vs es.toList hk rel hp
      refine ⟨_, .dict ho hx.1 hd h1 h2, fun m => ?_⟩
      rw [List.cons_append] at m
      rcases List.mem_cons.mp m with m | m
      · exact (beq_eq_false_iff_ne.mp ne) m.symm
      · exact (List.mem_append.mp m).elim n1 n2
theorem Dq.readsAll (n : X.K.lookup sysModules = none) (sm : SmAt H) (I : Inv X pins σ H s) : ∀ (ds : List PyData) (vs : List V) (us : List Value), DqAll X.K H vs ds → Vals vs us → ∃ as, ReadsAll s.heap us ds as ∧ sysModules ∉ as
  | [], _, _, h, r => by
    cases h
    cases r
    exact ⟨_, .nil, by simp⟩
  | d :: ds, _, _, h, r => by
    cases h with
    | cons h1 h2 =>
      cases r with
      | cons r1 r2 =>
        obtain ⟨as, q1, n1⟩ := Dq.reads n sm I d _ _ h1 r1
        obtain ⟨bs, q2, n2⟩ := Dq.readsAll n sm I ds _ _ h2 r2
        exact ⟨_, .cons q1 q2, fun m => (List.mem_append.mp m).elim n1 n2⟩
theorem Dq.readsKv (n : X.K.lookup sysModules = none) (sm : SmAt H) (I : Inv X pins σ H s) : ∀ (ds : List (PyData × PyData)) (kvs : List (Key × V)) (vs : List (Key × Value)) (es : List DictEntry), DqKv X.K H kvs ds → KV kvs vs → Pairs (mixKind X.prog X.w) es vs →
    ∃ as bs, ReadsAll s.heap (es.map (·.key)) (ds.map (·.1)) as ∧ ReadsAll s.heap (es.map (·.val)) (ds.map (·.2)) bs ∧ sysModules ∉ as ∧ sysModules ∉ bs
  | [], _, _, _, h, r, p => by
    cases h
    cases r
    cases p
    exact ⟨_, _, .nil, .nil, by simp, by simp⟩
  | (_, d) :: ds, _, _, _, h, r, p => by
    cases h with
    | cons h1 h2 =>
      cases r with
      | cons r1 r2 =>
        cases p with
        | cons p1 p2 p3 =>
          obtain ⟨as, q1, n1⟩ := Dq.reads n sm I d _ _ h1 r1.2
          obtain ⟨bs, cs, q2, q3, n2, n3⟩ := Dq.readsKv n sm I ds _ _ _ h2 r2 p3
          refine ⟨_, _, .cons (keyD_reads ?_) q2, .cons ?_ q3, by simpa using n2, fun m => (List.mem_append.mp m).elim n1 n3⟩
          · have e := r1.1
            dsimp only at e ⊢
            rw [e]
            exact p1
          · dsimp only
            rw [p2]
            exact q1
end
end
/-- repr(v), v data with dicts -/
def rReprQ (K : PySem.W.Frag) : List V → Hp → VK → Prop := fun xs H Q => ∃ v d, xs = [v] ∧ SmAt H ∧ Dq K H v d ∧ d.showable = true ∧ d.depth ≤ 100 ∧ d.shown.length ≤ sizeLine ∧ Q (.str d.shown) H
theorem call_reprQ {X : Cx} {k : Nat} (n : X.K.lookup sysModules = none) (gd : X.A.guards = some []) (hr : Room k X.A) : CallR X (.builtin "repr") (rReprQ X.K) := by
  rintro pins s σ H xs us Q I r ⟨v, d, rfl, sm, dq, hs, hdep, hsz, q⟩
  have whole : ∀ {a : Addr} {as : List Addr}, Reads s.heap (.ref a) d as → sysModules ∉ as → wpAny (model X.prog X.w) X.A (call (.builtin "repr") [.ref a]) (EP X pins σ Q) X.xe s := by
    intro a as rd no
    have hun := hr.un
    exact repr_of_reads' rd hs (fun _ => no) gd (by omega) (fun _ _ z => z) (fun h' u tk hk => ⟨.str _, H, I.kept hk, ⟨_, rfl⟩, q⟩) hsz
  cases dq with
  | non => exact call_repr gd hr pins s σ H _ us Q I r ⟨_, _, rfl, .non, hs, hdep, hsz, q⟩
  | bl b => exact call_repr gd hr pins s σ H _ us Q I r ⟨_, _, rfl, .bl b, hs, hdep, hsz, q⟩
  | int i => exact call_repr gd hr pins s σ H _ us Q I r ⟨_, _, rfl, .int i, hs, hdep, hsz, q⟩
  | str z => exact call_repr gd hr pins s σ H _ us Q I r ⟨_, _, rfl, .str z, hs, hdep, hsz, q⟩
  | lst e h =>
    obtain ⟨as, rd, no⟩ := Dq.reads n sm I _ _ us.head! (.lst e h) (by cases r with | cons a b => cases b; exact a)
    cases r with
    | cons a b => cases b; cases a; exact whole rd no
  | tup e h =>
    obtain ⟨as, rd, no⟩ := Dq.reads n sm I _ _ us.head! (.tup e h) (by cases r with | cons a b => cases b; exact a)
    cases r with
    | cons a b => cases b; cases a; exact whole rd no
  | dic e h =>
    obtain ⟨as, rd, no⟩ := Dq.reads n sm I _ _ us.head! (.dic e h) (by cases r with | cons a b => cases b; exact a)
    cases r with
    | cons a b => cases b; cases a; exact whole rd no
end My

set_option maxRecDepth 100000
set_option maxHeartbeats 1000000
/-! x in texts, x any thing -/
namespace My
open PySem PySem.Spec PyProof.Rows L2 GxR Gd TL
open PySem.SeqAt PySem.MeetsSeq in
theorem str_eq_dict (b : Str) (u : Tok) (l : Addr) (c : Value) (es : Array DictEntry) (n : Nat) (dd : Option Addr) (sl : Array (Option Value)) :
    Meets (Builtin.«str.__eq__» ⟨[.str b u, .ref l], []⟩) (fun _ R s => s.heap.get? l = some { cls := c, dict := dd, data := .dict es n, slots := sl } ∧ R (.ok (.ret .notImplemented)) s) :=
  .of_wp fun prog w A R s h => by obtain ⟨hp, g, d, tk, os⟩ := s; obtain ⟨hl, h⟩ := h; wp_walk using wpAny_loadPart hl, wpAny_load hl; exact ⟨_, rfl, h⟩
end My
namespace My
open PySem PySem.Spec PyProof.Rows L2 GxR Gd TL
open PySem.SeqAt PySem.MeetsSeq in
theorem rcAt_str_dict {A : Around} {s : Shared} {l : Addr} {o : Obj} {es : Array DictEntry} {n : Nat} (b : Str) (u : Tok) (ho : s.heap.get? l = some o) (hc : o.cls = .type "dict") (hd : o.data = .dict es n) (hu : A.units < cLine) : RcAt A s (.str b u) (.ref l) false := fun prog w E Q h => by
  obtain ⟨cls, dd, data, sl⟩ := o
  simp only at hc hd
  subst hc hd
  have ty : s.TypeIs (.ref l) "dict" := ⟨_, ho, rfl⟩
  refine rc_eq_decline_or (k := false) (typeIs_str s b u) ty (by decide) PySem.F.sub_dict_str PySem.F.slot_str_eq PySem.F.slot_dict_eq_refl
    (fun _ hq => call_meets PySem.F.slot_str_eq (typeIs_str s b u) PySem.F.entry_str_eq (PySem.F.args_str_eq_2 _ _) (str_eq_dict b u l (.type "dict") es n dd sl) ⟨ho, hq⟩)
    (fun _ hq => ?_)
    (fun _ hq => wpAny_of_eq (rfl : isSame (.str b u) (.ref l) = pure false) hq) (.inr hu) h
  refine wpAny_call_entry PySem.F.slot_dict_eq_refl ty PySem.F.entry_dict_eq ?_ (PySem.F.args_dict_eq_2 _ _)
  show wpAny _ _ (Builtin.Dict.dictSlotArgs "__eq__" ⟨[.ref l, .str b u], []⟩ >>= _) _ _ s
  refine wpAny_bind ?_
  unfold Builtin.Dict.dictSlotArgs
  refine wpAny_bind (wpAny_notOrdered_dict ty ?_)
  show wpAny _ _ (pure (Value.ref l, Value.str b u)) _ _ s
  refine wpAny_pure ?_
  refine wpAny_bind (wpAny_isInstance (T := "str") (typeIs_str s b u) PySem.F.sub_str_dict ?_)
  simp only [Bool.not_false, if_true]
  refine wpAny_bind (wpAny_rule (wpAny_pure ⟨_, rfl, hq⟩))
open PySem.SeqAt PySem.MeetsSeq in
theorem eqAt_str_dict {A : Around} {s : Shared} {l : Addr} {o : Obj} {es : Array DictEntry} {n : Nat} (b : Str) (u : Tok) (ho : s.heap.get? l = some o) (hc : o.cls = .type "dict") (hd : o.data = .dict es n) (hu : A.units < cLine) : EqAt A s (.str b u) (.ref l) false := fun prog w E Q h => by
  unfold eqBool
  refine wpAny_holding ?_
  refine wpAny_ite_split (fun hab => absurd (eq_of_beq hab) nofun) (fun _ => ?_)
  exact wpAny_bind (rcAt_str_dict b u ho hc hd hu prog w E _ (wpAny_truthy_bool h))
/-- any thing in a list of texts -/
def rInT (K : PySem.W.Frag) : R2 := fun x y H Q => ∃ (p : Addr) (zs : List Str), y = .ref p ∧ SqL K H p (zs.map V.str) ∧
  ((flatV x = true ∧ Q (.bl (inV x (zs.map V.str))) H) ∨ ((∃ a, x = .ref a ∧ ((∃ xs, SqL K H a xs) ∨ (∃ xs, SqT K H a xs) ∨ ∃ kvs, H a = some (.dK kvs))) ∧ Q (.bl false) H))
theorem any_false {α : Type} : ∀ xs : List α, (xs.any fun _ => false) = false
  | [] => rfl
  | _ :: r => by rw [List.any_cons, any_false r]; rfl
theorem op_inT {X : Cx} (hu : X.A.units + 2 < cLine) : OpR X (compareOp .In) (rInT X.K) := by
  rintro pins s σ H x y v u Q I rx ry ⟨p, zs, rfl, hp, cs⟩
  rcases cs with ⟨fx, q⟩ | ⟨⟨a, rfl, ha⟩, q⟩
  · refine op_in_seq pins s σ H x _ v u Q I rx ry ⟨p, _, rfl, .inl hp, fx, ?_, q⟩
    rw [List.all_map]
    exact List.all_eq_true.mpr fun _ _ => rfl
  · cases ry
    cases rx
    obtain ⟨its, r, pl, hz⟩ := I.list hp
    refine SeqAt.in_listAt (fun _ => false) pl.isList (fun w hw => ?_) ⟨.bl _, H, I, rfl, ?_⟩
    · obtain ⟨z, hz, rz⟩ : ∃ z : Str, z ∈ zs ∧ RelV (.str z) w := by
        have hw2 : w ∈ its := by simpa using hw
        clear pl hz hp hw
        induction zs generalizing its with
        | nil => cases r; cases hw2
        | cons z zs ih =>
          cases r with
          | cons r1 r2 =>
            rcases List.mem_cons.mp hw2 with rfl | hw
            · exact ⟨z, List.mem_cons_self, r1⟩
            · obtain ⟨z', h1, h2⟩ := ih _ r2 hw
              exact ⟨z', List.mem_cons_of_mem _ h1, h2⟩
      obtain ⟨t, rfl⟩ := rz
      have hu2 : X.A.in1.units < cLine := by show X.A.units + 1 < cLine; omega
      rcases ha with ⟨xs, h⟩ | ⟨xs, h⟩ | ⟨kvs, h⟩
      · obtain ⟨its2, _, pl2, _⟩ := I.list h
        exact SeqAt.EqAt.str_list z t pl2.isList hu2
      · obtain ⟨its2, _, pl2, _⟩ := I.tuple h
        exact SeqAt.EqAt.str_tuple z t pl2 hu2
      · obtain ⟨_, _, vs, _, o, es, ep, h1, h2, h3, _⟩ := dk_of I.hok h
        exact eqAt_str_dict z t h1 h2.1 h3 hu2
    · rw [← Array.any_toList, any_false]
      exact q
def rInTt (K : PySem.W.Frag) : R2 := fun x y H Q => ∃ (p : Addr) (zs : List Str), y = .ref p ∧ SqT K H p (zs.map V.str) ∧
  ((flatV x = true ∧ Q (.bl (inV x (zs.map V.str))) H) ∨ ((∃ a, x = .ref a ∧ ((∃ xs, SqL K H a xs) ∨ (∃ xs, SqT K H a xs) ∨ ∃ kvs, H a = some (.dK kvs))) ∧ Q (.bl false) H))
theorem op_inTt {X : Cx} (hu : X.A.units + 2 < cLine) : OpR X (compareOp .In) (rInTt X.K) := by
  rintro pins s σ H x y v u Q I rx ry ⟨p, zs, rfl, hp, cs⟩
  rcases cs with ⟨fx, q⟩ | ⟨⟨a, rfl, ha⟩, q⟩
  · refine op_in_seq pins s σ H x _ v u Q I rx ry ⟨p, _, rfl, .inr hp, fx, ?_, q⟩
    rw [List.all_map]
    exact List.all_eq_true.mpr fun _ _ => rfl
  · cases ry
    cases rx
    obtain ⟨its, r, pl, hz⟩ := I.tuple hp
    refine SeqAt.in_tupleAt (fun _ => false) pl (fun w hw => ?_) ⟨.bl _, H, I, rfl, ?_⟩
    · obtain ⟨z, hz, rz⟩ : ∃ z : Str, z ∈ zs ∧ RelV (.str z) w := by
        have hw2 : w ∈ its := by simpa using hw
        clear pl hz hp hw
        induction zs generalizing its with
        | nil => cases r; cases hw2
        | cons z zs ih =>
          cases r with
          | cons r1 r2 =>
            rcases List.mem_cons.mp hw2 with rfl | hw
            · exact ⟨z, List.mem_cons_self, r1⟩
            · obtain ⟨z', h1, h2⟩ := ih _ r2 hw
              exact ⟨z', List.mem_cons_of_mem _ h1, h2⟩
      obtain ⟨t, rfl⟩ := rz
      have hu2 : X.A.in1.units < cLine := by show X.A.units + 1 < cLine; omega
      rcases ha with ⟨xs, h⟩ | ⟨xs, h⟩ | ⟨kvs, h⟩
      · obtain ⟨its2, _, pl2, _⟩ := I.list h
        exact SeqAt.EqAt.str_list z t pl2.isList hu2
      · obtain ⟨its2, _, pl2, _⟩ := I.tuple h
        exact SeqAt.EqAt.str_tuple z t pl2 hu2
      · obtain ⟨_, _, vs, _, o, es, ep, h1, h2, h3, _⟩ := dk_of I.hok h
        exact eqAt_str_dict z t h1 h2.1 h3 hu2
    · rw [← Array.any_toList, any_false]
      exact q
end My

set_option maxRecDepth 100000
set_option maxHeartbeats 400000
/-! small data: what repr asks of them -/
namespace My
open PySem PySem.Spec PyProof.Rows L2 GxR Gd TL
structure Sm (d : PyData) (k m : Nat) : Prop where
  lay : d.canLay0 = true
  dep : d.depth ≤ k
  wt : d.weight ≤ m
  ish : d.intsShort 13 = true
  sh : d.showable = true
theorem Sm.rep {d : PyData} {k m : Nat} (h : Sm d k m) (hk : k ≤ 64) (hm : m ≤ 2 ^ 20) : d.showable = true ∧ d.depth ≤ 100 ∧ d.shown.length ≤ sizeLine := by
  refine ⟨h.sh, Nat.le_trans h.dep (by omega), Nat.le_trans (shown_le13 ?_ h.ish) (by rw [sizeLine_eq]; decide)⟩
  unfold PyData.layable0
  rw [Bool.and_eq_true, Bool.and_eq_true, decide_eq_true_eq, decide_eq_true_eq]
  exact ⟨⟨h.lay, Nat.le_trans h.dep hk⟩, Nat.le_trans h.wt hm⟩
theorem Sm.mono {d : PyData} {k m k' m' : Nat} (h : Sm d k m) (hk : k ≤ k') (hm : m ≤ m') : Sm d k' m' := ⟨h.lay, Nat.le_trans h.dep hk, Nat.le_trans h.wt hm, h.ish, h.sh⟩
theorem sm_none : Sm .none 0 0 := ⟨rfl, Nat.le_refl 0, Nat.le_refl 0, rfl, rfl⟩
theorem sm_bool (b : Bool) : Sm (.bool b) 0 0 := ⟨rfl, Nat.le_refl 0, Nat.le_refl 0, rfl, rfl⟩
theorem sm_int {i : Int} (h : i.natAbs ≤ 1000) : Sm (.int i) 0 20 := by
  have hl : i.natAbs.log2 ≤ 10 := by
    by_cases z : i.natAbs = 0
    · rw [z]; decide
    · have : i.natAbs.log2 < 11 := (Nat.log2_lt z).mpr (by omega)
      omega
  refine ⟨rfl, Nat.le_refl 0, ?_, ?_, ?_⟩
  · unfold PyData.weight
    split
    · omega
    · omega
  · exact intsShort_of_noneOrIn (lo := -2000) (hi := 2000) (by decide) (by decide) (.int i) (by simp [noneOrIn]; omega)
  · unfold PyData.showable
    rw [decide_eq_true_eq]
    omega
theorem sm_str {z : Str} (g : Good z) (h : z.length ≤ 6) : Sm (.str z) 0 6 := by
  refine ⟨?_, Nat.le_refl 0, h, rfl, rfl⟩
  unfold PyData.canLay0
  unfold PyData.strOk
  rw [Array.all_eq_true_iff_forall_mem]
  intro c hc
  exact decide_eq_true (g c (Array.mem_toList_iff.mpr hc))
theorem sm_all {k m : Nat} : ∀ {ds : List PyData}, (∀ d ∈ ds, Sm d k m) → PyData.canLayAll0 ds = true ∧ PyData.depthAll ds ≤ k ∧ PyData.weightAll ds ≤ ds.length * (m + 1) ∧ PyData.intsShortAll 13 ds = true ∧ PyData.showableAll ds = true
  | [], _ => ⟨rfl, Nat.zero_le _, Nat.zero_le _, rfl, rfl⟩
  | d :: r, h => by
    obtain ⟨a1, a2, a3, a4, a5⟩ := sm_all (ds := r) fun x hx => h x (List.mem_cons_of_mem _ hx)
    have b := h d List.mem_cons_self
    refine ⟨?_, ?_, ?_, ?_, ?_⟩
    · unfold PyData.canLayAll0; rw [b.lay, a1]; rfl
    · unfold PyData.depthAll; exact Nat.max_le.mpr ⟨b.dep, a2⟩
    · unfold PyData.weightAll
      have := b.wt
      rw [List.length_cons, Nat.succ_mul]
      omega
    · unfold PyData.intsShortAll; rw [b.ish, a4]; rfl
    · unfold PyData.showableAll; rw [b.sh, a5]; rfl
theorem sm_list {k m : Nat} {ds : List PyData} (h : ∀ d ∈ ds, Sm d k m) : Sm (.list ds) (k + 1) (ds.length * (m + 1)) := by
  obtain ⟨a1, a2, a3, a4, a5⟩ := sm_all h
  exact ⟨by unfold PyData.canLay0; exact a1, by unfold PyData.depth; omega, by unfold PyData.weight; exact a3, by unfold PyData.intsShort; exact a4, by unfold PyData.showable; exact a5⟩
theorem sm_tuple {k m : Nat} {ds : List PyData} (h : ∀ d ∈ ds, Sm d k m) : Sm (.tuple ds) (k + 1) (ds.length * (m + 1)) := by
  obtain ⟨a1, a2, a3, a4, a5⟩ := sm_all h
  exact ⟨by unfold PyData.canLay0; exact a1, by unfold PyData.depth; omega, by unfold PyData.weight; exact a3, by unfold PyData.intsShort; exact a4, by unfold PyData.showable; exact a5⟩
theorem sm_dP {p : Str × Int} (g : Good p.1) (h : p.1.length ≤ 6) (hr : p.2.natAbs ≤ 1000) : Sm (dP p) 1 42 :=
  sm_tuple (k := 0) (m := 20) (ds := [.str p.1, .int p.2]) fun d hd => by
    simp only [List.mem_cons, List.not_mem_nil, or_false] at hd
    rcases hd with rfl | rfl
    · exact (sm_str g h).mono (Nat.le_refl 0) (by decide)
    · exact sm_int hr
theorem sm_names {a b : Str} (ha : NameOk a) (hb : NameOk b) : Sm (.tuple [.str a, .str b]) 1 14 :=
  sm_tuple (k := 0) (m := 6) (ds := [.str a, .str b]) fun d hd => by
    simp only [List.mem_cons, List.not_mem_nil, or_false] at hd
    rcases hd with rfl | rfl
    · exact sm_str ha.good ha.2.1
    · exact sm_str hb.good hb.2.1
end My

set_option maxRecDepth 100000
set_option maxHeartbeats 400000
/-! data with longer texts and numbers: what repr asks of them -/
namespace My
open PySem PySem.Spec PyProof.Rows L2 GxR Gd TL
structure Sb (d : PyData) (k m : Nat) : Prop where
  lv : d.leavesShort 40 = true
  dep : d.depth ≤ k
  wt : d.weight ≤ m
  sh : d.showable = true
theorem Sb.rep {d : PyData} {k m : Nat} (h : Sb d k m) (hk : k ≤ 100) (hm : m ≤ 390000) : d.showable = true ∧ d.depth ≤ 100 ∧ d.shown.length ≤ sizeLine := by
  refine ⟨h.sh, Nat.le_trans h.dep hk, ?_⟩
  have h1 := PyData.shown_le 40 (by decide) d h.lv
  have h2 := h.wt
  refine Nat.le_trans h1 (Nat.le_trans (m := 42 * 390000 + 40) (by omega) (by rw [sizeLine_eq]; decide))
theorem Sb.mono {d : PyData} {k m k' m' : Nat} (h : Sb d k m) (hk : k ≤ k') (hm : m ≤ m') : Sb d k' m' := ⟨h.lv, Nat.le_trans h.dep hk, Nat.le_trans h.wt hm, h.sh⟩
theorem sb_none : Sb .none 0 0 := ⟨rfl, Nat.le_refl 0, Nat.le_refl 0, rfl⟩
theorem sb_bool (b : Bool) : Sb (.bool b) 0 0 := ⟨rfl, Nat.le_refl 0, Nat.le_refl 0, rfl⟩
theorem text_int {i : Int} (h : i.natAbs < 10 ^ 31) : (Str.ofString (toString i)).length ≤ 32 := by
  have e := int_text_length_le10 (k := 31) (by decide) h
  rw [PySem.ofString_length]
  exact e
theorem sb_int {i : Int} (h : i.natAbs < 10 ^ 31) : Sb (.int i) 0 110 := by
  have hl : i.natAbs.log2 ≤ 109 := by
    by_cases z : i.natAbs = 0
    · rw [z]; decide
    · have : i.natAbs.log2 < 110 := (Nat.log2_lt z).mpr (Nat.lt_of_lt_of_le h (by decide))
      omega
  refine ⟨?_, Nat.le_refl 0, ?_, ?_⟩
  · unfold PyData.leavesShort
    rw [decide_eq_true_eq]
    exact Nat.le_trans (text_int h) (by decide)
  · unfold PyData.weight
    split <;> omega
  · unfold PyData.showable
    rw [decide_eq_true_eq]
    omega
theorem sb_str {z : Str} {m : Nat} (g : Good z) (h : z.length ≤ m) : Sb (.str z) 0 m := by
  refine ⟨?_, Nat.le_refl 0, h, rfl⟩
  unfold PyData.leavesShort
  rw [List.all_eq_true]
  intro c hc
  have := g c hc
  rw [decide_eq_true_eq]
  exact Nat.lt_trans this (by decide)
theorem sb_all {k m : Nat} : ∀ {ds : List PyData}, (∀ d ∈ ds, Sb d k m) → PyData.leavesShortAll 40 ds = true ∧ PyData.depthAll ds ≤ k ∧ PyData.weightAll ds ≤ ds.length * (m + 1) ∧ PyData.showableAll ds = true
  | [], _ => ⟨rfl, Nat.zero_le _, Nat.zero_le _, rfl⟩
  | d :: r, h => by
    obtain ⟨a1, a2, a3, a4⟩ := sb_all (ds := r) fun x hx => h x (List.mem_cons_of_mem _ hx)
    have b := h d List.mem_cons_self
    refine ⟨?_, ?_, ?_, ?_⟩
    · unfold PyData.leavesShortAll; rw [b.lv, a1]; rfl
    · unfold PyData.depthAll; exact Nat.max_le.mpr ⟨b.dep, a2⟩
    · unfold PyData.weightAll
      have := b.wt
      rw [List.length_cons, Nat.succ_mul]
      omega
    · unfold PyData.showableAll; rw [b.sh, a4]; rfl
theorem sb_list {k m : Nat} {ds : List PyData} (h : ∀ d ∈ ds, Sb d k m) : Sb (.list ds) (k + 1) (ds.length * (m + 1)) := by
  obtain ⟨a1, a2, a3, a4⟩ := sb_all h
  exact ⟨by unfold PyData.leavesShort; exact a1, by unfold PyData.depth; omega, by unfold PyData.weight; exact a3, by unfold PyData.showable; exact a4⟩
theorem sb_tuple {k m : Nat} {ds : List PyData} (h : ∀ d ∈ ds, Sb d k m) : Sb (.tuple ds) (k + 1) (ds.length * (m + 1)) := by
  obtain ⟨a1, a2, a3, a4⟩ := sb_all h
  exact ⟨by unfold PyData.leavesShort; exact a1, by unfold PyData.depth; omega, by unfold PyData.weight; exact a3, by unfold PyData.showable; exact a4⟩
theorem good_int (i : Int) : Good (Str.ofString (toString i)) := good_of _
end My

set_option maxRecDepth 100000
set_option maxHeartbeats 400000
namespace K6
open PySem PySem.Spec PyProof.Rows L2 GxR Gd TL My
/-! ### what is due -/
def seqOf (H : Hp) : V → Option (List V)
  | .ref a => match H a with
    | some (.lst xs) => some xs
    | some (.tup xs) => some xs
    | _ => none
  | _ => none
def tupOf (H : Hp) : V → Option (List V)
  | .ref a => match H a with
    | some (.tup xs) => some xs
    | _ => none
  | _ => none
theorem tup_some {H : Hp} {v : V} {xs : List V} (h : tupOf H v = some xs) : ∃ a, v = .ref a ∧ H a = some (.tup xs) := by
  unfold tupOf at h
  split at h
  · split at h
    · rename_i e
      exact ⟨_, rfl, by rw [e, Option.some.inj h]⟩
    · cases h
  · cases h
theorem seq_some {H : Hp} {v : V} {xs : List V} (h : seqOf H v = some xs) : ∃ a, v = .ref a ∧ (H a = some (.lst xs) ∨ H a = some (.tup xs)) := by
  unfold seqOf at h
  split at h
  · split at h
    · rename_i e
      exact ⟨_, rfl, .inl (by rw [e, Option.some.inj h])⟩
    · rename_i e
      exact ⟨_, rfl, .inr (by rw [e, Option.some.inj h])⟩
    · cases h
  · cases h
theorem seq_lst {H : Hp} {a : Addr} {xs : List V} (h : H a = some (.lst xs)) : seqOf H (.ref a) = some xs := by
  show (match H a with | some (.lst xs) => some xs | some (.tup xs) => some xs | _ => none) = _
  rw [h]
theorem seq_tup {H : Hp} {a : Addr} {xs : List V} (h : H a = some (.tup xs)) : seqOf H (.ref a) = some xs := by
  show (match H a with | some (.lst xs) => some xs | some (.tup xs) => some xs | _ => none) = _
  rw [h]
theorem tup_tup {H : Hp} {a : Addr} {xs : List V} (h : H a = some (.tup xs)) : tupOf H (.ref a) = some xs := by
  show (match H a with | some (.tup xs) => some xs | _ => none) = _
  rw [h]
theorem tup_lst {H : Hp} {a : Addr} {xs : List V} (h : H a = some (.lst xs)) : tupOf H (.ref a) = none := by
  show (match H a with | some (.tup xs) => some xs | _ => none) = _
  rw [h]
theorem tup_dic {H : Hp} {a : Addr} {xs : List (Key × V)} (h : H a = some (.dK xs)) : tupOf H (.ref a) = none := by
  show (match H a with | some (.tup xs) => some xs | _ => none) = _
  rw [h]
theorem seq_dic {H : Hp} {a : Addr} {xs : List (Key × V)} (h : H a = some (.dK xs)) : seqOf H (.ref a) = none := by
  show (match H a with | some (.lst xs) => some xs | some (.tup xs) => some xs | _ => none) = _
  rw [h]
theorem tup_nt {H H' : Hp} (e : Nt H H') {v : V} (th : Th H v) : tupOf H' v = tupOf H v := by
  cases th with
  | non => rfl
  | bl b => rfl
  | int i => rfl
  | str z h g => rfl
  | lst a xs h => rw [tup_lst h, tup_lst (e _ _ (by simp) h)]
  | tup a xs h => rw [tup_tup h, tup_tup (e _ _ (by simp) h)]
  | dic a h => rw [tup_dic h, tup_dic (e _ _ (by simp) h)]
theorem seq_nt {H H' : Hp} (e : Nt H H') {v : V} (th : Th H v) : seqOf H' v = seqOf H v := by
  cases th with
  | non => rfl
  | bl b => rfl
  | int i => rfl
  | str z h g => rfl
  | lst a xs h => rw [seq_lst h, seq_lst (e _ _ (by simp) h)]
  | tup a xs h => rw [seq_tup h, seq_tup (e _ _ (by simp) h)]
  | dic a h => rw [seq_dic h, seq_dic (e _ _ (by simp) h)]
theorem th_nt {H H' : Hp} (e : Nt H H') {v : V} (th : Th H v) : Th H' v := by
  cases th with
  | non => exact .non
  | bl b => exact .bl b
  | int i => exact .int i
  | str z h g => exact .str z h g
  | lst a xs h => exact .lst a xs (e _ _ (by simp) h)
  | tup a xs h => exact .tup a xs (e _ _ (by simp) h)
  | dic a h => exact .dic a (e _ _ (by simp) h)
inductive Tag
  | places | name | twice | number | stretches | longs
def Tag.s : Tag → String
  | .places => "places"
  | .name => "name"
  | .twice => "twice"
  | .number => "number"
  | .stretches => "stretches"
  | .longs => "longs"
abbrev Due := Option (Tag × V)
/-- of one place, names ahead of it -/
def pl1 (H : Hp) (as : List Str) (v : V) : Due := match tupOf H v with
  | some [n, q] => if nm n = true then (if n ∈ as.map V.str then some (.twice, n) else if wh 1 3 q = true then none else some (.number, q)) else some (.name, n)
  | _ => some (.places, v)
def st1 (H : Hp) (v : V) : Bool := match tupOf H v with
  | some [k, h] => (decide (k = .str "staff") || decide (k = .str "ticket")) && wh 0 1 h
  | _ => false
def intOf : V → Int
  | .int i => i
  | _ => 0
def lo1 (H : Hp) (low top : Int) (v : V) : Bool := match tupOf H v with
  | some [f, l, h] => wh low top f && wh (intOf f + 2) top l && wh 0 1 h
  | _ => false
def isl (H : Hp) (lo hi : Int) (v : V) : Bool := match seqOf H v with
  | some xs => decide (lo ≤ (xs.length : Int)) && decide ((xs.length : Int) ≤ hi)
  | none => false
def ist (H : Hp) (n : Int) (v : V) : Bool := match tupOf H v with
  | some xs => decide ((xs.length : Int) = n)
  | none => false
/-- what a tuple holds -/
def Kids (H : Hp) (v : V) : Prop := ∀ xs, seqOf H v = some xs → ∀ x ∈ xs, Th H x
theorem Kids.nt {H H' : Hp} (e : Nt H H') {v : V} (th : Th H v) (k : Kids H v) : Kids H' v := fun xs hs x hx => th_nt e (k xs (by rw [← seq_nt e th]; exact hs) x hx)
theorem seq_of_tup {H : Hp} {v : V} {xs : List V} (h : tupOf H v = some xs) : seqOf H v = some xs := by
  obtain ⟨a, rfl, e⟩ := tup_some h
  exact seq_tup e
theorem ist_true {H : Hp} {n : Nat} {v : V} (h : ist H n v = true) : ∃ xs, tupOf H v = some xs ∧ xs.length = n := by
  unfold ist at h
  split at h
  · rename_i xs e
    exact ⟨xs, e, by have := of_decide_eq_true h; omega⟩
  · cases h
theorem nm_str {v : V} (h : nm v = true) : ∃ z, v = .str z ∧ NameOk z := by
  cases v with
  | str z =>
    refine ⟨z, rfl, ?_⟩
    unfold nm at h
    simp only [Bool.and_eq_true, decide_eq_true_eq] at h
    exact ⟨h.1.1, h.1.2, h.2⟩
  | _ => cases h
theorem inV_mem {z : Str} {as : List Str} : inV (.str z) (as.map V.str) = decide (V.str z ∈ as.map V.str) := by
  rw [Bool.eq_iff_iff]
  unfold inV
  rw [List.any_map, List.any_eq_true, decide_eq_true_eq, List.mem_map]
  constructor
  · rintro ⟨y, hy, e⟩
    have e' : (y == z) = true := e
    exact ⟨y, hy, by rw [eq_of_beq e']⟩
  · rintro ⟨y, hy, e⟩
    refine ⟨y, hy, ?_⟩
    rw [V.str.inj e]
    show (z == z) = true
    simp
/-! ### the refusals -/
abbrev sSE : Stmt := inClass (top 1) 0
theorem scSE : FnScope ["self", "text"] ["self", "text"] (defScope sSE) := ⟨rfl, rfl, rfl, by decide +kernel, rfl, by decide +kernel, by decide +kernel⟩
abbrev sNoName : Stmt := inClass (top 2) 0
theorem scNoName : FnScope ["self", "found"] ["self", "found"] (defScope sNoName) := ⟨rfl, rfl, rfl, by decide +kernel, rfl, by decide +kernel, by decide +kernel⟩
abbrev sNoPlaces : Stmt := inClass (top 6) 0
theorem scNoPlaces : FnScope ["self", "found"] ["self", "found"] (defScope sNoPlaces) := ⟨rfl, rfl, rfl, by decide +kernel, rfl, by decide +kernel, by decide +kernel⟩
abbrev sNoStretches : Stmt := inClass (top 7) 0
theorem scNoStretches : FnScope ["self", "found"] ["self", "found"] (defScope sNoStretches) := ⟨rfl, rfl, rfl, by decide +kernel, rfl, by decide +kernel, by decide +kernel⟩
abbrev sNoLongs : Stmt := inClass (top 8) 0
theorem scNoLongs : FnScope ["self", "found"] ["self", "found"] (defScope sNoLongs) := ⟨rfl, rfl, rfl, by decide +kernel, rfl, by decide +kernel, by decide +kernel⟩
abbrev sNoNumber : Stmt := inClass (top 9) 0
theorem scNoNumber : FnScope ["self", "found"] ["self", "found"] (defScope sNoNumber) := ⟨rfl, rfl, rfl, by decide +kernel, rfl, by decide +kernel, by decide +kernel⟩
abbrev sTwice : Stmt := inClass (top 10) 0
theorem scTwice : FnScope ["self", "found"] ["self", "found"] (defScope sTwice) := ⟨rfl, rfl, rfl, by decide +kernel, rfl, by decide +kernel, by decide +kernel⟩
section
variable {P : Program} {w : World} {K : PySem.W.Frag} {mg : Str → Option Value} {base : Heap} {CS fS C fN : Addr} {fdS fdN : FuncData}
theorem ok_SE (T : SeT K mg CS fS fdS sSE) {CX : CXT} : FnOk P w K mg base CX0 1 fS fdS ["self", "text"] (spUp K) := by
  refine T.F.ok scSE (fun vs H Q E h => ?_) (fun cdv A outer s H vs Q E hr h => ?_)
  · obtain ⟨a, C, z, rfl, _⟩ := h
    rfl
  · obtain ⟨a, C, z, rfl, o, e, k⟩ := h
    refine ⟨_, pss_one (ps_expr (pe_veinit (by rfl) T.ve T.vi (pa_cons (pv 0) (pa_cons (pv 1) pa_nil)))), ?_⟩
    exact ⟨_, rfl, _, rfl, a, C, _, rfl, by simp, o, e, k⟩
theorem ok_NoName (S : SeT K mg CS fS fdS sSE) (T : ExC K mg "NoName" "NoName.__init__" sNoName C fN fdN) : FnOk P w K mg base CX0 2 fN fdN ["self", "found"] (spOne K C "found") := by
  refine T.F.ok scNoName (fun vs H Q E h => ?_) (fun cdv A outer s H vs Q E hr h => ?_)
  · obtain ⟨a, v, rfl, _⟩ := h
    rfl
  · obtain ⟨a, v, rfl, e, k⟩ := h
    refine ⟨_, pss_cons (ps_expr (pe_ccall S.c (ok_SE (CX := CX0) S) hr (by rfl) S.g S.k S.b .nil pass0 (pa_cons (pv 0) (pa_cons pe_str pa_nil))))
      (pss_one (ps_ost (pv 0) (pv 1))), ?_⟩
    refine ⟨_, rfl, a, C, _, rfl, T.o, e, ?_⟩
    exact ⟨_, rfl, _, rfl, a, C, rfl, T.o, T.n, .inl ⟨e, fun dx h1 h2 => k dx h1 h2⟩⟩
theorem ok_NoPlaces (S : SeT K mg CS fS fdS sSE) (T : ExC K mg "NoPlaces" "NoPlaces.__init__" sNoPlaces C fN fdN) : FnOk P w K mg base CX0 2 fN fdN ["self", "found"] (spOne K C "found") := by
  refine T.F.ok scNoPlaces (fun vs H Q E h => ?_) (fun cdv A outer s H vs Q E hr h => ?_)
  · obtain ⟨a, v, rfl, _⟩ := h
    rfl
  · obtain ⟨a, v, rfl, e, k⟩ := h
    refine ⟨_, pss_cons (ps_expr (pe_ccall S.c (ok_SE (CX := CX0) S) hr (by rfl) S.g S.k S.b .nil pass0 (pa_cons (pv 0) (pa_cons pe_str pa_nil))))
      (pss_one (ps_ost (pv 0) (pv 1))), ?_⟩
    refine ⟨_, rfl, a, C, _, rfl, T.o, e, ?_⟩
    exact ⟨_, rfl, _, rfl, a, C, rfl, T.o, T.n, .inl ⟨e, fun dx h1 h2 => k dx h1 h2⟩⟩
theorem ok_NoStretches (S : SeT K mg CS fS fdS sSE) (T : ExC K mg "NoStretches" "NoStretches.__init__" sNoStretches C fN fdN) : FnOk P w K mg base CX0 2 fN fdN ["self", "found"] (spOne K C "found") := by
  refine T.F.ok scNoStretches (fun vs H Q E h => ?_) (fun cdv A outer s H vs Q E hr h => ?_)
  · obtain ⟨a, v, rfl, _⟩ := h
    rfl
  · obtain ⟨a, v, rfl, e, k⟩ := h
    refine ⟨_, pss_cons (ps_expr (pe_ccall S.c (ok_SE (CX := CX0) S) hr (by rfl) S.g S.k S.b .nil pass0 (pa_cons (pv 0) (pa_cons pe_str pa_nil))))
      (pss_one (ps_ost (pv 0) (pv 1))), ?_⟩
    refine ⟨_, rfl, a, C, _, rfl, T.o, e, ?_⟩
    exact ⟨_, rfl, _, rfl, a, C, rfl, T.o, T.n, .inl ⟨e, fun dx h1 h2 => k dx h1 h2⟩⟩
theorem ok_NoLongs (S : SeT K mg CS fS fdS sSE) (T : ExC K mg "NoLongs" "NoLongs.__init__" sNoLongs C fN fdN) : FnOk P w K mg base CX0 2 fN fdN ["self", "found"] (spOne K C "found") := by
  refine T.F.ok scNoLongs (fun vs H Q E h => ?_) (fun cdv A outer s H vs Q E hr h => ?_)
  · obtain ⟨a, v, rfl, _⟩ := h
    rfl
  · obtain ⟨a, v, rfl, e, k⟩ := h
    refine ⟨_, pss_cons (ps_expr (pe_ccall S.c (ok_SE (CX := CX0) S) hr (by rfl) S.g S.k S.b .nil pass0 (pa_cons (pv 0) (pa_cons pe_str pa_nil))))
      (pss_one (ps_ost (pv 0) (pv 1))), ?_⟩
    refine ⟨_, rfl, a, C, _, rfl, T.o, e, ?_⟩
    exact ⟨_, rfl, _, rfl, a, C, rfl, T.o, T.n, .inl ⟨e, fun dx h1 h2 => k dx h1 h2⟩⟩
theorem ok_NoNumber (S : SeT K mg CS fS fdS sSE) (T : ExC K mg "NoNumber" "NoNumber.__init__" sNoNumber C fN fdN) : FnOk P w K mg base CX0 2 fN fdN ["self", "found"] (spOne K C "found") := by
  refine T.F.ok scNoNumber (fun vs H Q E h => ?_) (fun cdv A outer s H vs Q E hr h => ?_)
  · obtain ⟨a, v, rfl, _⟩ := h
    rfl
  · obtain ⟨a, v, rfl, e, k⟩ := h
    refine ⟨_, pss_cons (ps_expr (pe_ccall S.c (ok_SE (CX := CX0) S) hr (by rfl) S.g S.k S.b .nil pass0 (pa_cons (pv 0) (pa_cons pe_str pa_nil))))
      (pss_one (ps_ost (pv 0) (pv 1))), ?_⟩
    refine ⟨_, rfl, a, C, _, rfl, T.o, e, ?_⟩
    exact ⟨_, rfl, _, rfl, a, C, rfl, T.o, T.n, .inl ⟨e, fun dx h1 h2 => k dx h1 h2⟩⟩
theorem ok_Twice (S : SeT K mg CS fS fdS sSE) (T : ExC K mg "Twice" "Twice.__init__" sTwice C fN fdN) : FnOk P w K mg base CX0 2 fN fdN ["self", "found"] (spOne K C "found") := by
  refine T.F.ok scTwice (fun vs H Q E h => ?_) (fun cdv A outer s H vs Q E hr h => ?_)
  · obtain ⟨a, v, rfl, _⟩ := h
    rfl
  · obtain ⟨a, v, rfl, e, k⟩ := h
    refine ⟨_, pss_cons (ps_expr (pe_ccall S.c (ok_SE (CX := CX0) S) hr (by rfl) S.g S.k S.b .nil pass0 (pa_cons (pv 0) (pa_cons pe_str pa_nil))))
      (pss_one (ps_ost (pv 0) (pv 1))), ?_⟩
    refine ⟨_, rfl, a, C, _, rfl, T.o, e, ?_⟩
    exact ⟨_, rfl, _, rfl, a, C, rfl, T.o, T.n, .inl ⟨e, fun dx h1 h2 => k dx h1 h2⟩⟩
end
section
variable {P : Program} {w : World} {K : PySem.W.Frag} {mg : Str → Option Value} {base : Heap}
def spIsListG : Sp := fun vs H Q _ => ∃ (v : V) (lo hi : Int), vs = [v, .int lo, .int hi] ∧ Th H v ∧ ∀ H', Same H H' → Q (.bl (isl H lo hi v)) H'
theorem ok_is_listG {f : Addr} {fd : FuncData} (F : Fun K "is_list" "is_list" s_is_list f fd) (T : Txt mg) : FnOk P w K mg base CX0 1 f fd ["thing", "low", "high"] spIsListG := by
  refine F.ok sc_is_list (fun vs H Q E h => ?_) (fun cdv A outer s H vs Q E hr h => ?_)
  · obtain ⟨v, lo, hi, rfl, _⟩ := h
    rfl
  · obtain ⟨v, lo, hi, rfl, th, k⟩ := h
    refine ⟨_, pss_one (ps_ret (pe_and (pe_callB call_isiT (by rfl) T.isinstance_ (by decide +kernel) (pa_cons (pv 0) (pa_cons (pe_tup (pa_cons (pe_bltn (v := .ty "list") (by rfl) T.list_ (by decide +kernel) rfl) (pa_cons (pe_bltn (v := .ty "tuple") (by rfl) T.tuple_ (by decide +kernel) rfl) pa_nil))) pa_nil))) (pe_one (pe_chain op_le op_le (pv 1) (pe_callB call_len_seq (by rfl) T.len_ PySem.boot_len (pa_cons (pv 0) pa_nil)) (pv 2))))), ?_⟩
    refine ⟨_, rfl, (by show 2 ≤ sizeLine; decide), fun t ht => ?_⟩
    have e := same_alloc (o := .tup [.ty "list", .ty "tuple"]) ht
    have no : isl H lo hi v = false → Q (.bl false) (upd H t (.tup [.ty "list", .ty "tuple"])) := fun h => by
      have := k _ e
      rw [h] at this
      exact this
    cases th with
    | non => exact ⟨_, t, _, _, [.type "list", .type "tuple"], false, rfl, upd_same, .cons (.ty _) (.cons (.ty _) .nil), .base .non, (by rfl), _, rfl, iteF (no rfl)⟩
    | bl b => exact ⟨_, t, _, _, [.type "list", .type "tuple"], false, rfl, upd_same, .cons (.ty _) (.cons (.ty _) .nil), .base (.bl b), (by rfl), _, rfl, iteF (no rfl)⟩
    | int i => exact ⟨_, t, _, _, [.type "list", .type "tuple"], false, rfl, upd_same, .cons (.ty _) (.cons (.ty _) .nil), .base (.int i), (by rfl), _, rfl, iteF (no rfl)⟩
    | str z h g => exact ⟨_, t, _, _, [.type "list", .type "tuple"], false, rfl, upd_same, .cons (.ty _) (.cons (.ty _) .nil), .base (.str z), (by rfl), _, rfl, iteF (no rfl)⟩
    | dic a h => exact ⟨_, t, _, _, [.type "list", .type "tuple"], false, rfl, upd_same, .cons (.ty _) (.cons (.ty _) .nil), .base (.dK (e _ _ h)), (by rfl), _, rfl, iteF (no (by unfold isl; rw [seq_dic h]))⟩
    | lst a xs h =>
      have q := k _ e
      have ei : isl H lo hi (.ref a) = (decide (lo ≤ (xs.length : Int)) && decide ((xs.length : Int) ≤ hi)) := by unfold isl; rw [seq_lst h]
      rw [ei] at q
      refine ⟨_, t, _, _, [.type "list", .type "tuple"], true, rfl, upd_same, .cons (.ty _) (.cons (.ty _) .nil), .base (.lst (e _ _ h)), (by rfl), _, rfl, iteT ?_⟩
      refine ⟨_, rfl, _, rfl, a, xs, rfl, .inl (SqL.of (e _ _ h)), _, _, rfl, rfl, _, rfl, ite2 (fun c => ?_) (fun c => ?_)⟩
      · refine ⟨_, rfl, _, _, rfl, rfl, ?_⟩
        rw [c, Bool.true_and] at q
        exact q
      · rw [show decide (lo ≤ (xs.length : Int)) = false by simpa using c, Bool.false_and] at q
        exact q
    | tup a xs h =>
      have q := k _ e
      have ei : isl H lo hi (.ref a) = (decide (lo ≤ (xs.length : Int)) && decide ((xs.length : Int) ≤ hi)) := by unfold isl; rw [seq_tup h]
      rw [ei] at q
      refine ⟨_, t, _, _, [.type "list", .type "tuple"], true, rfl, upd_same, .cons (.ty _) (.cons (.ty _) .nil), .base (.tup (e _ _ h)), (by rfl), _, rfl, iteT ?_⟩
      refine ⟨_, rfl, _, rfl, a, xs, rfl, .inr (SqT.of (e _ _ h)), _, _, rfl, rfl, _, rfl, ite2 (fun c => ?_) (fun c => ?_)⟩
      · refine ⟨_, rfl, _, _, rfl, rfl, ?_⟩
        rw [c, Bool.true_and] at q
        exact q
      · rw [show decide (lo ≤ (xs.length : Int)) = false by simpa using c, Bool.false_and] at q
        exact q
def spIsTupleG : Sp := fun vs H Q _ => ∃ (v : V) (n : Int), vs = [v, .int n] ∧ Th H v ∧ Q (.bl (ist H n v)) H
theorem ok_is_tupleG {f : Addr} {fd : FuncData} (F : Fun K "is_tuple" "is_tuple" s_is_tuple f fd) (T : Txt mg) : FnOk P w K mg base CX0 1 f fd ["thing", "many"] spIsTupleG := by
  refine F.ok sc_is_tuple (fun vs H Q E h => ?_) (fun cdv A outer s H vs Q E hr h => ?_)
  · obtain ⟨v, n, rfl, _⟩ := h
    rfl
  · obtain ⟨v, n, rfl, th, k⟩ := h
    refine ⟨_, pss_one (ps_ret (pe_and (pe_callB call_isi (by rfl) T.isinstance_ (by decide +kernel) (pa_cons (pv 0) (pa_cons (pe_bltn (v := .ty "tuple") (by rfl) T.tuple_ (by decide +kernel) rfl) pa_nil))) (pe_one (pe_cmpR op_eq (pe_callB call_len_seq (by rfl) T.len_ PySem.boot_len (pa_cons (pv 0) pa_nil)) (pv 1) (nomark _))))), ?_⟩
    have no : ist H n v = false → Q (.bl false) H := fun h => by rw [h] at k; exact k
    cases th with
    | non => exact ⟨_, rfl, _, _, _, _, false, rfl, .ty "tuple", .base .non, (by rfl), _, rfl, iteF (no rfl)⟩
    | bl b => exact ⟨_, rfl, _, _, _, _, false, rfl, .ty "tuple", .base (.bl b), (by rfl), _, rfl, iteF (no rfl)⟩
    | int i => exact ⟨_, rfl, _, _, _, _, false, rfl, .ty "tuple", .base (.int i), (by rfl), _, rfl, iteF (no rfl)⟩
    | str z h g => exact ⟨_, rfl, _, _, _, _, false, rfl, .ty "tuple", .base (.str z), (by rfl), _, rfl, iteF (no rfl)⟩
    | dic a h => exact ⟨_, rfl, _, _, _, _, false, rfl, .ty "tuple", .base (.dK h), (by rfl), _, rfl, iteF (no (by unfold ist; rw [tup_dic h]))⟩
    | lst a xs h => exact ⟨_, rfl, _, _, _, _, false, rfl, .ty "tuple", .base (.lst h), (by rfl), _, rfl, iteF (no (by unfold ist; rw [tup_lst h]))⟩
    | tup a xs h =>
      have ei : ist H n (.ref a) = decide ((xs.length : Int) = n) := by unfold ist; rw [tup_tup h]
      rw [ei] at k
      refine ⟨_, rfl, _, _, _, _, true, rfl, .ty "tuple", .base (.tup h), (by rfl), _, rfl, iteT ?_⟩
      refine ⟨_, rfl, a, xs, rfl, .inr (SqT.of h), _, rfl, rfl, ?_⟩
      have e : decide (V.int (xs.length : Int) = V.int n) = decide ((xs.length : Int) = n) := by simp
      show Q (.bl (decide (V.int (xs.length : Int) = V.int n))) H
      rw [e]
      exact k
/-! ### a place -/
/-- what is wished of a check: nothing, or the refusal that is due -/
def Wish (cl : Tag → Addr) (J : Hp → Prop) (d : Due) (Q : VK) (E : XK) : Prop := match d with
  | none => ∀ H', J H' → Q .non H'
  | some (t, u) => ∀ H' e, J H' → H' e = none → E (.ref (cl t)) (some e) (upd H' e (.xd [("found", u)]))
variable {cl : Tag → Addr} {CS fS f1 f2 f3 f4 : Addr} {fdS fd1 fd2 fd3 fd4 : FuncData} {g1 g2 g3 g4 : Addr} {gd1 gd2 gd3 gd4 : FuncData}
def spPlaceX (cl : Tag → Addr) (Pt : Addr) : Sp := fun vs H Q E => ∃ (v : V) (l : Addr) (as : List Str), vs = [v, .ref l] ∧ Th H v ∧ Kids H v ∧ H l = some (.lst (as.map V.str)) ∧ TabG H Pt ∧ Wish cl (KT Pt H) (pl1 H as v) Q E
theorem ok_placeX {f Pt : Addr} {fd : FuncData} (F : Fun K "_check_place" "_check_place" s_check_place f fd) (T : Txt mg) (ES : SeT K mg CS fS fdS sSE)
    (ENoPlaces : ExC K mg "NoPlaces" "NoPlaces.__init__" sNoPlaces (cl .places) g1 gd1) (ENoName : ExC K mg "NoName" "NoName.__init__" sNoName (cl .name) g2 gd2) (ETwice : ExC K mg "Twice" "Twice.__init__" sTwice (cl .twice) g3 gd3) (ENoNumber : ExC K mg "NoNumber" "NoNumber.__init__" sNoNumber (cl .number) g4 gd4)
    (Nis_tuple : Fn K mg "is_tuple" s_is_tuple ["thing", "many"] f1 fd1) (Gis_tupleG : FnOk P w K mg base CX0 1 f1 fd1 ["thing", "many"] spIsTupleG)
    (Nis_name : Fn K mg "is_name" sName ["thing"] f2 fd2) (Gis_name : FnOk P w K mg base CX0 2 f2 fd2 ["thing"] (spName Pt))
    (Nis_whole : Fn K mg "is_whole" sWhole ["thing", "low", "high"] f3 fd3) (Gis_whole : FnOk P w K mg base CX0 1 f3 fd3 ["thing", "low", "high"] spWhole) :
    FnOk P w K mg base (CX P w) 4 f fd ["place", "ahead"] (spPlaceX cl Pt) := by
  refine F.okX sc_check_place (fun vs H Q E h => ?_) (fun cdv A outer s H vs Q E hr h => ?_)
  · obtain ⟨v, l, as, rfl, _⟩ := h
    rfl
  · obtain ⟨v, l, as, rfl, th, kd, hl, tb, k⟩ := h
    refine ⟨_, pss_cons (ps_if (pt_not (pt_val (pe_call Gis_tupleG (hr.mono (by decide)) (by rfl) Nis_tuple.g Nis_tuple.kp Nis_tuple.b .nil pass0 (pa_cons (pv 0) (pa_cons pe_int pa_nil))))) (pss_one (ps_raise rfl (takes_of rfl rfl rfl rfl) (pmk_oex ENoPlaces.o ENoPlaces.i ENoPlaces.t (ok_NoPlaces ES ENoPlaces) (hr.mono (by decide)) ENoPlaces.b .nil pass0 (by rfl) ENoPlaces.g (pa_cons (pv 0) pa_nil)))) pss_nil)
      (pss_cons (ps_asg (pv 0) (pg_tup (by rfl) (pgs_cons (pg_name (i := 2) sc_check_place.nd rfl (Or.inl rfl)) (pgs_cons (pg_name (i := 3) sc_check_place.nd rfl (Or.inl rfl)) pgs_nil))))
      (pss_cons (ps_if (pt_not (pt_val (pe_call Gis_name (hr.mono (by decide)) (by rfl) Nis_name.g Nis_name.kp Nis_name.b .nil pass0 (pa_cons (pv 2) pa_nil)))) (pss_one (ps_raise rfl (takes_of rfl rfl rfl rfl) (pmk_oex ENoName.o ENoName.i ENoName.t (ok_NoName ES ENoName) (hr.mono (by decide)) ENoName.b .nil pass0 (by rfl) ENoName.g (pa_cons (pv 2) pa_nil)))) pss_nil)
      (pss_cons (ps_if (pt_cmpR op_in_seq (pv 2) (pv 1) rfl) (pss_one (ps_raise rfl (takes_of rfl rfl rfl rfl) (pmk_oex ETwice.o ETwice.i ETwice.t (ok_Twice ES ETwice) (hr.mono (by decide)) ETwice.b .nil pass0 (by rfl) ETwice.g (pa_cons (pv 2) pa_nil)))) pss_nil)
      (pss_one (ps_if (pt_not (pt_val (pe_call Gis_whole (hr.mono (by decide)) (by rfl) Nis_whole.g Nis_whole.kp Nis_whole.b .nil pass0 (pa_cons (pv 3) (pa_cons pe_int (pa_cons pe_int pa_nil)))))) (pss_one (ps_raise rfl (takes_of rfl rfl rfl rfl) (pmk_oex ENoNumber.o ENoNumber.i ENoNumber.t (ok_NoNumber ES ENoNumber) (hr.mono (by decide)) ENoNumber.b .nil pass0 (by rfl) ENoNumber.g (pa_cons (pv 3) pa_nil)))) pss_nil))))), ?_⟩
    refine ⟨_, rfl, v, 2, rfl, th, ?_⟩
    cases hi : ist H 2 v with
    | false =>
      have e : pl1 H as v = some (.places, v) := by
        unfold pl1
        unfold ist at hi
        split
        · rename_i n q e
          rw [e] at hi
          cases hi
        · rfl
      rw [e] at k
      exact ⟨_, rfl, iteT ⟨_, rfl, made_one fun e he => k H e (KT.refl tb) he⟩⟩
    | true =>
      obtain ⟨xs, hx, h2⟩ := ist_true (n := 2) hi
      match xs, h2 with
      | [n, q], _ =>
        have e : pl1 H as v = if nm n = true then (if n ∈ as.map V.str then some (.twice, n) else if wh 1 3 q = true then none else some (.number, q)) else some (.name, n) := by
          unfold pl1
          rw [hx]
        rw [e] at k
        have thn := kd _ (seq_of_tup hx) n (by simp)
        have thq := kd _ (seq_of_tup hx) q (by simp)
        obtain ⟨t, rfl, ht⟩ := tup_some hx
        refine ⟨_, rfl, iteF ?_⟩
        refine ⟨_, rfl, t, _, rfl, SqT.of ht, rfl, _, _, rfl, _, _, rfl, rfl, ?_⟩
        refine ⟨_, rfl, n, rfl, thn, tb, fun H1 k1 => ?_⟩
        cases hn : nm n with
        | false =>
          rw [hn, if_neg Bool.false_ne_true] at k
          exact ⟨_, rfl, iteT ⟨_, rfl, made_one fun e he => k H1 e k1 he⟩⟩
        | true =>
          rw [hn, if_pos rfl] at k
          refine ⟨_, rfl, iteF ?_⟩
          obtain ⟨z, rfl, hz⟩ := nm_str hn
          have n1 := KT.nt tb k1
          refine ⟨_, rfl, _, rfl, l, _, rfl, .inl (SqL.of (n1 _ _ (by simp) hl)), rfl, flat_strs as, ?_⟩
          refine ⟨_, rfl, ?_⟩
          show if inV (.str z) (as.map V.str) = true then _ else _
          rw [inV_mem]
          by_cases hm : V.str z ∈ as.map V.str
          · rw [if_pos hm] at k
            rw [decide_eq_true hm]
            exact iteT ⟨_, rfl, made_one fun e he => k H1 e k1 he⟩
          · rw [if_neg hm] at k
            rw [decide_eq_false hm]
            refine iteF ?_
            refine ⟨_, rfl, q, 1, 3, rfl, th_nt n1 thq, ?_⟩
            cases hw : wh 1 3 q with
            | false =>
              rw [hw, if_neg Bool.false_ne_true] at k
              exact ⟨_, rfl, iteT ⟨_, rfl, made_one fun e he => k H1 e k1 he⟩⟩
            | true =>
              rw [hw, if_pos rfl] at k
              exact ⟨_, rfl, iteF (k H1 k1)⟩
end
end K6

set_option maxRecDepth 100000
set_option maxHeartbeats 400000
namespace K6
open PySem PySem.Spec PyProof.Rows L2 GxR Gd TL My
theorem pl1_nt {H H' : Hp} (e : Nt H H') {v : V} (th : Th H v) (as : List Str) : pl1 H' as v = pl1 H as v := by
  unfold pl1
  rw [tup_nt e th]
theorem st1_nt {H H' : Hp} (e : Nt H H') {v : V} (th : Th H v) : st1 H' v = st1 H v := by
  unfold st1
  rw [tup_nt e th]
theorem lo1_nt {H H' : Hp} (e : Nt H H') {v : V} (th : Th H v) (low top : Int) : lo1 H' low top v = lo1 H low top v := by
  unfold lo1
  rw [tup_nt e th]
def nameOf (H : Hp) (v : V) : Str := match tupOf H v with
  | some [.str z, _] => z
  | _ => ""
def plD (H : Hp) : List Str → List V → Due
  | _, [] => none
  | as, v :: r => match pl1 H as v with
    | some d => some d
    | none => plD H (as ++ [nameOf H v]) r
def placesD (H : Hp) (v : V) : Due := if isl H 2 6 v = true then plD H [] ((seqOf H v).getD []) else some (.places, v)
def stD (H : Hp) : List V → Due
  | [] => none
  | v :: r => if st1 H v = true then stD H r else some (.stretches, v)
def stretchesD (H : Hp) (n : Int) (v : V) : Due := if isl H n n v = true then stD H ((seqOf H v).getD []) else some (.stretches, v)
def lastLo (H : Hp) (v : V) : Int := match tupOf H v with
  | some [_, l, _] => intOf l
  | _ => 0
def loD (H : Hp) (top : Int) : Int → List V → Due
  | _, [] => none
  | low, v :: r => if lo1 H low top v = true then loD H top (lastLo H v) r else some (.longs, v)
def longsD (H : Hp) (top : Int) (v : V) : Due := if isl H 0 2 v = true then loD H top 0 ((seqOf H v).getD []) else some (.longs, v)
/-- things, and what they hold, and what that holds -/
def Deep (H : Hp) (v : V) : Prop := Th H v ∧ ∀ xs, seqOf H v = some xs → ∀ x ∈ xs, Th H x ∧ Kids H x
theorem Deep.kids {H : Hp} {v : V} (d : Deep H v) : Kids H v := fun xs h x hx => (d.2 xs h x hx).1
theorem Deep.nt {H H' : Hp} (e : Nt H H') {v : V} (d : Deep H v) : Deep H' v :=
  ⟨th_nt e d.1, fun xs hs x hx => by
    obtain ⟨a, b⟩ := d.2 xs (by rw [← seq_nt e d.1]; exact hs) x hx
    exact ⟨th_nt e a, b.nt e a⟩⟩
theorem pl1_none {H : Hp} {as : List Str} {v : V} (h : pl1 H as v = none) : ∃ t z q, v = .ref t ∧ H t = some (.tup [.str z, q]) ∧ nameOf H v = z ∧ NameOk z ∧ z ∉ as ∧ wh 1 3 q = true := by
  unfold pl1 at h
  split at h
  · rename_i n q e
    split at h
    · rename_i hn
      obtain ⟨z, rfl, hz⟩ := nm_str hn
      split at h
      · cases h
      · rename_i hm
        split at h
        · rename_i hw
          obtain ⟨t, rfl, ht⟩ := tup_some e
          refine ⟨t, z, q, rfl, ht, ?_, hz, fun m => hm (List.mem_map.mpr ⟨z, m, rfl⟩), hw⟩
          unfold nameOf
          rw [e]
        · cases h
    · cases h
  · cases h
theorem flat_in2 {k : V} (h : flatV k = true) (a b : Str) : inV k [.str a, .str b] = (decide (k = .str a) || decide (k = .str b)) := by
  unfold inV
  rw [List.any_cons, List.any_cons, List.any_nil, Bool.or_false]
  cases k with
  | str z =>
    show ((a == z) || (b == z)) = _
    rw [Bool.eq_iff_iff]
    simp only [Bool.or_eq_true, beq_iff_eq, decide_eq_true_eq, V.str.injEq]
    constructor
    · rintro (e | e)
      · exact .inl e.symm
      · exact .inr e.symm
    · rintro (e | e)
      · exact .inl e.symm
      · exact .inr e.symm
  | _ => simp [eqV]
theorem th_flat {H : Hp} {v : V} (th : Th H v) : flatV v = true ∨ ∃ a, v = .ref a ∧ ((∃ xs, H a = some (.lst xs)) ∨ (∃ xs, H a = some (.tup xs)) ∨ ∃ kvs, H a = some (.dK kvs)) := by
  cases th with
  | non => exact .inl rfl
  | bl b => exact .inl rfl
  | int i => exact .inl rfl
  | str z h g => exact .inl rfl
  | lst a xs h => exact .inr ⟨a, rfl, .inl ⟨_, h⟩⟩
  | tup a xs h => exact .inr ⟨a, rfl, .inr (.inl ⟨_, h⟩)⟩
  | dic a h => exact .inr ⟨a, rfl, .inr (.inr ⟨_, h⟩)⟩
section
variable {P : Program} {w : World} {K : PySem.W.Frag} {mg : Str → Option Value} {base : Heap}
def spIsStretchG : Sp := fun vs H Q _ => ∃ (v : V), vs = [v] ∧ Th H v ∧ Kids H v ∧ ∀ H', Same H H' → Q (.bl (st1 H v)) H'
theorem ok_is_stretchG {f f1 f2 : Addr} {fd fd1 fd2 : FuncData} (F : Fun K "_is_stretch" "_is_stretch" s_is_stretch f fd) (T : Txt mg)
    (Nis_tuple : Fn K mg "is_tuple" s_is_tuple ["thing", "many"] f1 fd1) (Gis_tupleG : FnOk P w K mg base CX0 1 f1 fd1 ["thing", "many"] spIsTupleG)
    (Nis_whole : Fn K mg "is_whole" sWhole ["thing", "low", "high"] f2 fd2) (Gis_whole : FnOk P w K mg base CX0 1 f2 fd2 ["thing", "low", "high"] spWhole) :
    FnOk P w K mg base CX0 2 f fd ["thing"] spIsStretchG := by
  refine F.ok sc_is_stretch (fun vs H Q E h => ?_) (fun cdv A outer s H vs Q E hr h => ?_)
  · obtain ⟨v, rfl, _⟩ := h
    rfl
  · obtain ⟨v, rfl, th, kd, k⟩ := h
    have hu2 := Nat.lt_of_le_of_lt (Nat.add_le_add_left (by decide : 2 ≤ 64) _) hr.units
    refine ⟨_, pss_cons (ps_if (pt_not (pt_val (pe_call Gis_tupleG (hr.mono (by decide)) (by rfl) Nis_tuple.g Nis_tuple.kp Nis_tuple.b .nil pass0 (pa_cons (pv 0) (pa_cons pe_int pa_nil))))) (pss_one (ps_ret pe_bl)) pss_nil)
      (pss_cons (ps_asg (pv 0) (pg_tup (by rfl) (pgs_cons (pg_name (i := 1) sc_is_stretch.nd rfl (Or.inl rfl)) (pgs_cons (pg_name (i := 2) sc_is_stretch.nd rfl (Or.inl rfl)) pgs_nil))))
      (pss_one (ps_ret (pe_and (pe_cmpR (op_inTt hu2) (pv 1) (pe_tup (pa_cons pe_str (pa_cons pe_str pa_nil))) rfl) (pe_one (pe_call Gis_whole (hr.mono (by decide)) (by rfl) Nis_whole.g Nis_whole.kp Nis_whole.b .nil pass0 (pa_cons (pv 2) (pa_cons pe_int (pa_cons pe_int pa_nil))))))))), ?_⟩
    refine ⟨_, rfl, v, 2, rfl, th, ?_⟩
    cases hi : ist H 2 v with
    | false =>
      have e : st1 H v = false := by
        unfold st1
        unfold ist at hi
        split
        · rename_i n q e
          rw [e] at hi
          cases hi
        · rfl
      have := k H (Same.refl _)
      rw [e] at this
      exact ⟨_, rfl, iteT this⟩
    | true =>
      obtain ⟨xs, hx, h2⟩ := ist_true (n := 2) hi
      match xs, h2 with
      | [n, q], _ =>
        have e : st1 H v = ((decide (n = .str "staff") || decide (n = .str "ticket")) && wh 0 1 q) := by
          unfold st1
          rw [hx]
        rw [e] at k
        have thn := kd _ (seq_of_tup hx) n (by simp)
        have thq := kd _ (seq_of_tup hx) q (by simp)
        obtain ⟨t, rfl, ht⟩ := tup_some hx
        refine ⟨_, rfl, iteF ?_⟩
        refine ⟨_, rfl, t, _, rfl, SqT.of ht, rfl, _, _, rfl, _, _, rfl, rfl, ?_⟩
        refine ⟨_, rfl, (by show 2 ≤ sizeLine; decide), fun u hu => ?_⟩
        have s1 := same_alloc (o := .tup [.str "staff", .str "ticket"]) hu
        have e1 : upd H u (.tup [.str "staff", .str "ticket"]) u = some (.tup [.str "staff", .str "ticket"]) := upd_same
        generalize upd H u (.tup [.str "staff", .str "ticket"]) = H1 at s1 e1 ⊢
        refine ⟨u, ["staff", "ticket"], rfl, SqT.of e1, ?_⟩
        have fin : (decide (n = .str "staff") || decide (n = .str "ticket")) = false → Q (.bl false) H1 := fun h => by
          have := k H1 s1
          rw [h, Bool.false_and] at this
          exact this
        rcases th_flat thn with fl | ⟨a, rfl, ha⟩
        · refine .inl ⟨fl, _, rfl, ?_⟩
          have ei := flat_in2 fl "staff" "ticket"
          show if inV n [.str "staff", .str "ticket"] = true then _ else _
          rw [ei]
          cases hb : (decide (n = .str "staff") || decide (n = .str "ticket")) with
          | false => exact iteF (fin hb)
          | true =>
            refine iteT ⟨_, rfl, q, 0, 1, rfl, th_nt (same_nt s1) thq, ?_⟩
            have := k H1 s1
            rw [hb, Bool.true_and] at this
            exact this
        · refine .inr ⟨⟨a, rfl, ?_⟩, _, rfl, iteF (fin rfl)⟩
          rcases ha with ⟨xs, h⟩ | ⟨xs, h⟩ | ⟨kvs, h⟩
          · exact .inl ⟨xs, SqL.of (s1 _ _ h)⟩
          · exact .inr (.inl ⟨xs, SqT.of (s1 _ _ h)⟩)
          · exact .inr (.inr ⟨kvs, s1 _ _ h⟩)
def spIsLongG : Sp := fun vs H Q _ => ∃ (v : V) (low tp : Int), vs = [v, .int low, .int tp] ∧ Th H v ∧ Kids H v ∧ Q (.bl (lo1 H low tp v)) H
theorem ok_is_longG {f f1 f2 : Addr} {fd fd1 fd2 : FuncData} (F : Fun K "_is_long" "_is_long" s_is_long f fd) (T : Txt mg)
    (Nis_tuple : Fn K mg "is_tuple" s_is_tuple ["thing", "many"] f1 fd1) (Gis_tupleG : FnOk P w K mg base CX0 1 f1 fd1 ["thing", "many"] spIsTupleG)
    (Nis_whole : Fn K mg "is_whole" sWhole ["thing", "low", "high"] f2 fd2) (Gis_whole : FnOk P w K mg base CX0 1 f2 fd2 ["thing", "low", "high"] spWhole) :
    FnOk P w K mg base CX0 2 f fd ["thing", "low", "top"] spIsLongG := by
  refine F.ok sc_is_long (fun vs H Q E h => ?_) (fun cdv A outer s H vs Q E hr h => ?_)
  · obtain ⟨v, low, tp, rfl, _⟩ := h
    rfl
  · obtain ⟨v, low, tp, rfl, th, kd, k⟩ := h
    refine ⟨_, pss_cons (ps_if (pt_not (pt_val (pe_call Gis_tupleG (hr.mono (by decide)) (by rfl) Nis_tuple.g Nis_tuple.kp Nis_tuple.b .nil pass0 (pa_cons (pv 0) (pa_cons pe_int pa_nil))))) (pss_one (ps_ret pe_bl)) pss_nil)
      (pss_cons (ps_asg (pv 0) (pg_tup (by rfl) (pgs_cons (pg_name (i := 3) sc_is_long.nd rfl (Or.inl rfl)) (pgs_cons (pg_name (i := 4) sc_is_long.nd rfl (Or.inl rfl)) (pgs_cons (pg_name (i := 5) sc_is_long.nd rfl (Or.inl rfl)) pgs_nil)))))
      (pss_one (ps_ret (pe_and (pe_call Gis_whole (hr.mono (by decide)) (by rfl) Nis_whole.g Nis_whole.kp Nis_whole.b .nil pass0 (pa_cons (pv 3) (pa_cons (pv 1) (pa_cons (pv 2) pa_nil)))) (pe_and (pe_call Gis_whole (hr.mono (by decide)) (by rfl) Nis_whole.g Nis_whole.kp Nis_whole.b .nil pass0 (pa_cons (pv 4) (pa_cons (pe_op op_add (pv 3) pe_int) (pa_cons (pv 2) pa_nil)))) (pe_one (pe_call Gis_whole (hr.mono (by decide)) (by rfl) Nis_whole.g Nis_whole.kp Nis_whole.b .nil pass0 (pa_cons (pv 5) (pa_cons pe_int (pa_cons pe_int pa_nil)))))))))), ?_⟩
    refine ⟨_, rfl, v, 3, rfl, th, ?_⟩
    cases hi : ist H 3 v with
    | false =>
      have e : lo1 H low tp v = false := by
        unfold lo1
        unfold ist at hi
        split
        · rename_i n q l e
          rw [e] at hi
          cases hi
        · rfl
      rw [e] at k
      exact ⟨_, rfl, iteT k⟩
    | true =>
      obtain ⟨xs, hx, h3⟩ := ist_true (n := 3) hi
      match xs, h3 with
      | [fi, la, h], _ =>
        have e : lo1 H low tp v = (wh low tp fi && wh (intOf fi + 2) tp la && wh 0 1 h) := by
          unfold lo1
          rw [hx]
        rw [e] at k
        have th1 := kd _ (seq_of_tup hx) fi (by simp)
        have th2 := kd _ (seq_of_tup hx) la (by simp)
        have th3 := kd _ (seq_of_tup hx) h (by simp)
        obtain ⟨t, rfl, ht⟩ := tup_some hx
        refine ⟨_, rfl, iteF ?_⟩
        refine ⟨_, rfl, t, _, rfl, SqT.of ht, rfl, _, _, rfl, _, _, rfl, _, _, rfl, rfl, ?_⟩
        refine ⟨_, rfl, _, rfl, _, rfl, fi, low, tp, rfl, th1, ?_⟩
        cases h1 : wh low tp fi with
        | false =>
          rw [h1, Bool.false_and, Bool.false_and] at k
          exact ⟨_, rfl, iteF k⟩
        | true =>
          rw [h1, Bool.true_and] at k
          obtain ⟨i, rfl⟩ : ∃ i, fi = .int i := by
            cases fi with
            | int i => exact ⟨i, rfl⟩
            | _ => cases h1
          refine ⟨_, rfl, iteT ?_⟩
          refine ⟨_, rfl, _, rfl, _, _, rfl, rfl, _, rfl, la, i + 2, tp, rfl, th2, ?_⟩
          have k' : Q (.bl (wh (i + 2) tp la && wh 0 1 h)) H := k
          cases h2 : wh (i + 2) tp la with
          | false =>
            rw [h2, Bool.false_and] at k'
            exact ⟨_, rfl, iteF k'⟩
          | true =>
            rw [h2, Bool.true_and] at k'
            exact ⟨_, rfl, iteT ⟨_, rfl, h, 0, 1, rfl, th3, k'⟩⟩
end
end K6

set_option maxRecDepth 100000
set_option maxHeartbeats 400000
namespace K6
open PySem PySem.Spec PyProof.Rows L2 GxR Gd TL My
theorem wish_of {cl : Tag → Addr} {J J' : Hp → Prop} {d : Due} {Q Q' : VK} {E : XK} (k : Wish cl J d Q E) (j : ∀ H', J' H' → J H') (n : d = none → ∀ H', J' H' → Q' .non H') : Wish cl J' d Q' E := by
  match d, k with
  | none, k => exact n rfl
  | some (t, u), k => exact fun H' e h he => k H' e (j H' h) he
theorem isl_true {H : Hp} {lo hi : Int} {v : V} (h : isl H lo hi v = true) : ∃ a xs, v = .ref a ∧ seqOf H v = some xs ∧ (H a = some (.lst xs) ∨ H a = some (.tup xs)) ∧ lo ≤ (xs.length : Int) ∧ (xs.length : Int) ≤ hi := by
  unfold isl at h
  split at h
  · rename_i xs e
    obtain ⟨a, rfl, h2⟩ := seq_some e
    simp only [Bool.and_eq_true, decide_eq_true_eq] at h
    exact ⟨a, xs, rfl, e, h2, h.1, h.2⟩
  · cases h
theorem pl1_snoc {H : Hp} {as : List Str} {v : V} {r : List V} (h : pl1 H as v = none) : plD H as (v :: r) = plD H (as ++ [nameOf H v]) r := by
  show (match pl1 H as v with | some d => some d | none => plD H (as ++ [nameOf H v]) r) = _
  rw [h]
theorem pl1_stop {H : Hp} {as : List Str} {v : V} {r : List V} {d : Tag × V} (h : pl1 H as v = some d) : plD H as (v :: r) = some d := by
  show (match pl1 H as v with | some d => some d | none => plD H (as ++ [nameOf H v]) r) = _
  rw [h]
theorem drop_at {xs : List V} {i : Nat} {x : V} (h : xs[i]? = some x) : xs.drop i = x :: xs.drop (i + 1) := by
  obtain ⟨h1, h2⟩ := List.getElem?_eq_some_iff.mp h
  rw [← h2]
  exact (List.getElem_cons_drop ..).symm
section
variable {P : Program} {w : World} {K : PySem.W.Frag} {mg : Str → Option Value} {base : Heap}
variable {cl : Tag → Addr} {CS fS f1 f2 f3 f4 : Addr} {fdS fd1 fd2 fd3 fd4 : FuncData} {g1 g2 g3 g4 : Addr} {gd1 gd2 gd3 gd4 : FuncData}
def spPlacesX (cl : Tag → Addr) (Pt : Addr) : Sp := fun vs H Q E => ∃ (v : V), vs = [v] ∧ Deep H v ∧ TabG H Pt ∧ Wish cl (KT Pt H) (placesD H v) Q E
theorem ok_placesX {f Pt : Addr} {fd : FuncData} (F : Fun K "_check_places" "_check_places" s_check_places f fd) (T : Txt mg) (ES : SeT K mg CS fS fdS sSE)
    (ENoPlaces : ExC K mg "NoPlaces" "NoPlaces.__init__" sNoPlaces (cl .places) g1 gd1)
    (Nis_list : Fn K mg "is_list" s_is_list ["thing", "low", "high"] f1 fd1) (Gis_listG : FnOk P w K mg base CX0 1 f1 fd1 ["thing", "low", "high"] spIsListG)
    (Ncheck_place : Fn K mg "_check_place" s_check_place ["place", "ahead"] f2 fd2) (Gcheck_placeX : FnOk P w K mg base (CX P w) 4 f2 fd2 ["place", "ahead"] (spPlaceX cl Pt)) :
    FnOk P w K mg base (CX P w) 5 f fd ["places"] (spPlacesX cl Pt) := by
  refine F.okX sc_check_places (fun vs H Q E h => ?_) (fun cdv A outer s H vs Q E hr h => ?_)
  · obtain ⟨v, rfl, _⟩ := h
    rfl
  · obtain ⟨v, rfl, dp, tb, k⟩ := h
    cases hi : isl H 2 6 v with
    | false =>
      have e : placesD H v = some (.places, v) := by
        unfold placesD
        rw [hi, if_neg Bool.false_ne_true]
      rw [e] at k
      refine ⟨_, pss_cons (ps_if (pt_not (pt_val (pe_call Gis_listG (hr.mono (by decide)) (by rfl) Nis_list.g Nis_list.kp Nis_list.b .nil pass0 (pa_cons (pv 0) (pa_cons pe_int (pa_cons pe_int pa_nil)))))) (pss_one (ps_raise rfl (takes_of rfl rfl rfl rfl) (pmk_oex ENoPlaces.o ENoPlaces.i ENoPlaces.t (ok_NoPlaces ES ENoPlaces) (hr.mono (by decide)) ENoPlaces.b .nil pass0 (by rfl) ENoPlaces.g (pa_cons (pv 0) pa_nil)))) pss_nil)
      (pss_cons (ps_set (i := 1) sc_check_places.nd rfl (Or.inl rfl) (pe_lst pa_nil))
      (pss_one (ps_for (passes_of rfl) rfl (pi_list (pv 0)) (pg_name (i := 2) sc_check_places.nd rfl (Or.inl rfl)) (pss_cons (ps_expr (pe_call Gcheck_placeX (hr.mono (by decide)) (by rfl) Ncheck_place.g Ncheck_place.kp Ncheck_place.b .nil (passes_call (takes_of rfl rfl rfl rfl) (fun _ _ _ _ h => h)) (pa_cons (pv 2) (pa_cons (pv 1) pa_nil))))
          (pss_one (ps_expr (pe_bm PySem.F.plainAttrs_list PySem.F.slot_list_append PySem.F.type_list_append mt_append (pv 1) (pa_cons (pe_ix ix_tup (pv 2) pe_int (fun _ _ => rfl)) pa_nil)))))))), ?_⟩
      refine ⟨_, rfl, _, 2, 6, rfl, dp.1, fun H1 s1 => ?_⟩
      rw [hi]
      exact ⟨_, rfl, iteT ⟨_, rfl, made_one fun e he => k H1 e (same_kt tb s1) he⟩⟩
    | true =>
      have e : placesD H v = plD H [] ((seqOf H v).getD []) := by
        unfold placesD
        rw [hi, if_pos rfl]
      obtain ⟨a, xs, rfl, hq, ha, l2, l6⟩ := isl_true hi
      rw [e, hq] at k
      replace k : Wish cl (My.KT Pt H) (plD H [] xs) Q E := k
      rcases ha with ha | ha
      · skip
        refine ⟨_, pss_cons (ps_if (pt_not (pt_val (pe_call Gis_listG (hr.mono (by decide)) (by rfl) Nis_list.g Nis_list.kp Nis_list.b .nil pass0 (pa_cons (pv 0) (pa_cons pe_int (pa_cons pe_int pa_nil)))))) (pss_one (ps_raise rfl (takes_of rfl rfl rfl rfl) (pmk_oex ENoPlaces.o ENoPlaces.i ENoPlaces.t (ok_NoPlaces ES ENoPlaces) (hr.mono (by decide)) ENoPlaces.b .nil pass0 (by rfl) ENoPlaces.g (pa_cons (pv 0) pa_nil)))) pss_nil)
      (pss_cons (ps_set (i := 1) sc_check_places.nd rfl (Or.inl rfl) (pe_lst pa_nil))
      (pss_one (ps_for (passes_of rfl) rfl (pi_list (pv 0)) (pg_name (i := 2) sc_check_places.nd rfl (Or.inl rfl)) (pss_cons (ps_expr (pe_call Gcheck_placeX (hr.mono (by decide)) (by rfl) Ncheck_place.g Ncheck_place.kp Ncheck_place.b .nil (passes_call (takes_of rfl rfl rfl rfl) (fun _ _ _ _ h => h)) (pa_cons (pv 2) (pa_cons (pv 1) pa_nil))))
          (pss_one (ps_expr (pe_bm PySem.F.plainAttrs_list PySem.F.slot_list_append PySem.F.type_list_append mt_append (pv 1) (pa_cons (pe_ix ix_tup (pv 2) pe_int (fun _ _ => rfl)) pa_nil)))))))), ?_⟩
        refine ⟨_, rfl, _, 2, 6, rfl, dp.1, fun H1 s1 => ?_⟩
        rw [hi]
        refine ⟨_, rfl, iteF ?_⟩
        refine ⟨Nat.zero_le _, fun L hL0 => ?_⟩
        have hLn : H L = none := s1.free hL0
        have kA := (same_kt tb s1).trans (KT.alloc (o := .lst []) (same_kt tb s1).tab hL0)
        have HX := Nt.seq (K := K) (KT.nt tb kA) (a := a) (xs := xs) (SqL.of ha)
        refine ⟨_, rfl, a, rfl, ⟨_, HX⟩, for_list (K := K) (a := a) (xs := xs) (fun i σ H' => ∃ (v : Option V) (as : List Str), σ = [some (.ref a), some (.ref L), v] ∧ H' L = some (.lst (as.map V.str)) ∧ as.length = i ∧ plD H as (xs.drop i) = plD H [] xs ∧ KT Pt H H')
          ⟨_, [], rfl, upd_same, rfl, rfl, kA⟩ (fun i σ H' _ ⟨_, _, _, _, _, _, q⟩ => Nt.seq (KT.nt tb q) (SqL.of ha)) ?_ ?_⟩
        · rintro i x σ H2 hx ⟨v, as, rfl, eL, el, ep, k2⟩
          obtain ⟨thx, kx⟩ := dp.2 xs hq x (List.mem_of_getElem? hx)
          rw [drop_at hx] at ep
          have hi := (List.getElem?_eq_some_iff.mp hx).1
          have n2 := KT.nt tb k2
          refine ⟨_, rfl, _, rfl, x, L, as, rfl, th_nt n2 thx, kx.nt n2 thx, eL, k2.tab, ?_⟩
          rw [pl1_nt n2 thx as]
          cases hp : pl1 H as x with
          | some d =>
            rw [pl1_stop hp] at ep
            rw [← ep] at k
            exact wish_of k (fun H' h => k2.trans h) nofun
          | none =>
            rw [pl1_snoc hp] at ep
            obtain ⟨t, z, q, rfl, ht, en, nz, _, _⟩ := pl1_none hp
            refine fun H3 k3 => ?_
            have eL3 : H3 L = some (.lst (as.map V.str)) := KT.nt k2.tab k3 L _ (by simp) eL
            have ht3 := KT.nt tb (k2.trans k3) _ _ (by simp) ht
            have nLP : L ≠ Pt := ne_tab k3.tab eL3 (by simp)
            refine ⟨_, rfl, .inl ⟨rfl, _, SqL.of eL3⟩, _, rfl, t, _, 0, .str z, rfl, rfl, SqT.of ht3, rfl, L, _, _, rfl, rfl, eL3, ?_, ?_⟩
            · rw [List.length_map, el]
              exact small1000 (by omega)
            · refine ⟨_, as ++ [z], rfl, ?_, by rw [List.length_append, el]; rfl, ?_, KT.put (k2.trans k3) hLn nLP⟩
              · rw [upd_same, List.map_append]
                rfl
              · rw [en] at ep
                exact ep
        · rintro σ H2 ⟨v, as, rfl, eL, el, ep, k2⟩
          rw [List.drop_length] at ep
          rw [← ep] at k
          exact k H2 k2
      · skip
        refine ⟨_, pss_cons (ps_if (pt_not (pt_val (pe_call Gis_listG (hr.mono (by decide)) (by rfl) Nis_list.g Nis_list.kp Nis_list.b .nil pass0 (pa_cons (pv 0) (pa_cons pe_int (pa_cons pe_int pa_nil)))))) (pss_one (ps_raise rfl (takes_of rfl rfl rfl rfl) (pmk_oex ENoPlaces.o ENoPlaces.i ENoPlaces.t (ok_NoPlaces ES ENoPlaces) (hr.mono (by decide)) ENoPlaces.b .nil pass0 (by rfl) ENoPlaces.g (pa_cons (pv 0) pa_nil)))) pss_nil)
      (pss_cons (ps_set (i := 1) sc_check_places.nd rfl (Or.inl rfl) (pe_lst pa_nil))
      (pss_one (ps_for (passes_of rfl) rfl (pi_tup (pv 0)) (pg_name (i := 2) sc_check_places.nd rfl (Or.inl rfl)) (pss_cons (ps_expr (pe_call Gcheck_placeX (hr.mono (by decide)) (by rfl) Ncheck_place.g Ncheck_place.kp Ncheck_place.b .nil (passes_call (takes_of rfl rfl rfl rfl) (fun _ _ _ _ h => h)) (pa_cons (pv 2) (pa_cons (pv 1) pa_nil))))
          (pss_one (ps_expr (pe_bm PySem.F.plainAttrs_list PySem.F.slot_list_append PySem.F.type_list_append mt_append (pv 1) (pa_cons (pe_ix ix_tup (pv 2) pe_int (fun _ _ => rfl)) pa_nil)))))))), ?_⟩
        refine ⟨_, rfl, _, 2, 6, rfl, dp.1, fun H1 s1 => ?_⟩
        rw [hi]
        refine ⟨_, rfl, iteF ?_⟩
        refine ⟨Nat.zero_le _, fun L hL0 => ?_⟩
        have hLn : H L = none := s1.free hL0
        have kA := (same_kt tb s1).trans (KT.alloc (o := .lst []) (same_kt tb s1).tab hL0)
        have HX := Nt.seqT (K := K) (KT.nt tb kA) (a := a) (xs := xs) (SqT.of ha)
        refine ⟨_, rfl, a, rfl, ⟨_, HX⟩, for_tup (K := K) (a := a) (xs := xs) (fun i σ H' => ∃ (v : Option V) (as : List Str), σ = [some (.ref a), some (.ref L), v] ∧ H' L = some (.lst (as.map V.str)) ∧ as.length = i ∧ plD H as (xs.drop i) = plD H [] xs ∧ KT Pt H H')
          ⟨_, [], rfl, upd_same, rfl, rfl, kA⟩ (fun i σ H' _ ⟨_, _, _, _, _, _, q⟩ => Nt.seqT (KT.nt tb q) (SqT.of ha)) ?_ ?_⟩
        · rintro i x σ H2 hx ⟨v, as, rfl, eL, el, ep, k2⟩
          obtain ⟨thx, kx⟩ := dp.2 xs hq x (List.mem_of_getElem? hx)
          rw [drop_at hx] at ep
          have hi := (List.getElem?_eq_some_iff.mp hx).1
          have n2 := KT.nt tb k2
          refine ⟨_, rfl, _, rfl, x, L, as, rfl, th_nt n2 thx, kx.nt n2 thx, eL, k2.tab, ?_⟩
          rw [pl1_nt n2 thx as]
          cases hp : pl1 H as x with
          | some d =>
            rw [pl1_stop hp] at ep
            rw [← ep] at k
            exact wish_of k (fun H' h => k2.trans h) nofun
          | none =>
            rw [pl1_snoc hp] at ep
            obtain ⟨t, z, q, rfl, ht, en, nz, _, _⟩ := pl1_none hp
            refine fun H3 k3 => ?_
            have eL3 : H3 L = some (.lst (as.map V.str)) := KT.nt k2.tab k3 L _ (by simp) eL
            have ht3 := KT.nt tb (k2.trans k3) _ _ (by simp) ht
            have nLP : L ≠ Pt := ne_tab k3.tab eL3 (by simp)
            refine ⟨_, rfl, .inl ⟨rfl, _, SqL.of eL3⟩, _, rfl, t, _, 0, .str z, rfl, rfl, SqT.of ht3, rfl, L, _, _, rfl, rfl, eL3, ?_, ?_⟩
            · rw [List.length_map, el]
              exact small1000 (by omega)
            · refine ⟨_, as ++ [z], rfl, ?_, by rw [List.length_append, el]; rfl, ?_, KT.put (k2.trans k3) hLn nLP⟩
              · rw [upd_same, List.map_append]
                rfl
              · rw [en] at ep
                exact ep
        · rintro σ H2 ⟨v, as, rfl, eL, el, ep, k2⟩
          rw [List.drop_length] at ep
          rw [← ep] at k
          exact k H2 k2
end
end K6

set_option maxRecDepth 100000
set_option maxHeartbeats 400000
namespace K6
open PySem PySem.Spec PyProof.Rows L2 GxR Gd TL My
theorem st_go {H : Hp} {v : V} {r : List V} (h : st1 H v = true) : stD H (v :: r) = stD H r := by
  show (if st1 H v = true then stD H r else some (.stretches, v)) = _
  rw [if_pos h]
theorem st_stop {H : Hp} {v : V} {r : List V} (h : st1 H v = false) : stD H (v :: r) = some (.stretches, v) := by
  show (if st1 H v = true then stD H r else some (.stretches, v)) = _
  rw [h, if_neg Bool.false_ne_true]
theorem lo_go {H : Hp} {low top : Int} {v : V} {r : List V} (h : lo1 H low top v = true) : loD H top low (v :: r) = loD H top (lastLo H v) r := by
  show (if lo1 H low top v = true then loD H top (lastLo H v) r else some (.longs, v)) = _
  rw [if_pos h]
theorem lo_stop {H : Hp} {low top : Int} {v : V} {r : List V} (h : lo1 H low top v = false) : loD H top low (v :: r) = some (.longs, v) := by
  show (if lo1 H low top v = true then loD H top (lastLo H v) r else some (.longs, v)) = _
  rw [h, if_neg Bool.false_ne_true]
theorem wh_int {lo hi : Int} {v : V} (h : wh lo hi v = true) : ∃ i, v = .int i := by
  cases v with
  | int i => exact ⟨i, rfl⟩
  | _ => cases h
theorem lo1_true {H : Hp} {low top : Int} {v : V} (h : lo1 H low top v = true) : ∃ t fi la q, v = .ref t ∧ H t = some (.tup [fi, .int la, q]) ∧ lastLo H v = la := by
  unfold lo1 at h
  split at h
  · rename_i fi l q e
    simp only [Bool.and_eq_true] at h
    obtain ⟨la, rfl⟩ := wh_int h.1.2
    obtain ⟨t, rfl, ht⟩ := tup_some e
    refine ⟨t, fi, la, q, rfl, ht, ?_⟩
    unfold lastLo
    rw [e]
    rfl
  · cases h
section
variable {P : Program} {w : World} {K : PySem.W.Frag} {mg : Str → Option Value} {base : Heap}
variable {cl : Tag → Addr} {CS fS f1 f2 : Addr} {fdS fd1 fd2 : FuncData} {g1 : Addr} {gd1 : FuncData}
def spStretchesX (cl : Tag → Addr) : Sp := fun vs H Q E => ∃ (v : V) (n : Int), vs = [v, .int n] ∧ Deep H v ∧ Wish cl (Same H) (stretchesD H n v) Q E
theorem ok_stretchesX {f : Addr} {fd : FuncData} (F : Fun K "_check_stretches" "_check_stretches" s_check_stretches f fd) (T : Txt mg) (ES : SeT K mg CS fS fdS sSE)
    (ENoStretches : ExC K mg "NoStretches" "NoStretches.__init__" sNoStretches (cl .stretches) g1 gd1)
    (Nis_list : Fn K mg "is_list" s_is_list ["thing", "low", "high"] f1 fd1) (Gis_listG : FnOk P w K mg base CX0 1 f1 fd1 ["thing", "low", "high"] spIsListG)
    (Nis_stretch : Fn K mg "_is_stretch" s_is_stretch ["thing"] f2 fd2) (Gis_stretchG : FnOk P w K mg base CX0 2 f2 fd2 ["thing"] spIsStretchG) :
    FnOk P w K mg base (CX P w) 4 f fd ["stretches", "many"] (spStretchesX cl) := by
  refine F.okX sc_check_stretches (fun vs H Q E h => ?_) (fun cdv A outer s H vs Q E hr h => ?_)
  · obtain ⟨v, n, rfl, _⟩ := h
    rfl
  · obtain ⟨v, n, rfl, dp, k⟩ := h
    cases hi : isl H n n v with
    | false =>
      have e : stretchesD H n v = some (.stretches, v) := by
        unfold stretchesD
        rw [hi, if_neg Bool.false_ne_true]
      rw [e] at k
      refine ⟨_, pss_cons (ps_if (pt_not (pt_val (pe_call Gis_listG (hr.mono (by decide)) (by rfl) Nis_list.g Nis_list.kp Nis_list.b .nil pass0 (pa_cons (pv 0) (pa_cons (pv 1) (pa_cons (pv 1) pa_nil)))))) (pss_one (ps_raise rfl (takes_of rfl rfl rfl rfl) (pmk_oex ENoStretches.o ENoStretches.i ENoStretches.t (ok_NoStretches ES ENoStretches) (hr.mono (by decide)) ENoStretches.b .nil pass0 (by rfl) ENoStretches.g (pa_cons (pv 0) pa_nil)))) pss_nil)
      (pss_one (ps_for (passes_of rfl) rfl (pi_list (pv 0)) (pg_name (i := 2) sc_check_stretches.nd rfl (Or.inl rfl)) (pss_one (ps_if (pt_not (pt_val (pe_call Gis_stretchG (hr.mono (by decide)) (by rfl) Nis_stretch.g Nis_stretch.kp Nis_stretch.b .nil pass0 (pa_cons (pv 2) pa_nil)))) (pss_one (ps_raise rfl (takes_of rfl rfl rfl rfl) (pmk_oex ENoStretches.o ENoStretches.i ENoStretches.t (ok_NoStretches ES ENoStretches) (hr.mono (by decide)) ENoStretches.b .nil pass0 (by rfl) ENoStretches.g (pa_cons (pv 2) pa_nil)))) pss_nil)))), ?_⟩
      refine ⟨_, rfl, _, rfl, _, rfl, _, n, n, rfl, dp.1, fun H1 s1 => ?_⟩
      rw [hi]
      exact ⟨_, rfl, iteT ⟨_, rfl, made_one fun e he => k H1 e s1 he⟩⟩
    | true =>
      have e : stretchesD H n v = stD H ((seqOf H v).getD []) := by
        unfold stretchesD
        rw [hi, if_pos rfl]
      obtain ⟨a, xs, rfl, hq, ha, l2, l6⟩ := isl_true hi
      rw [e, hq] at k
      replace k : Wish cl (Same H) (stD H xs) Q E := k
      rcases ha with ha | ha
      · skip
        refine ⟨_, pss_cons (ps_if (pt_not (pt_val (pe_call Gis_listG (hr.mono (by decide)) (by rfl) Nis_list.g Nis_list.kp Nis_list.b .nil pass0 (pa_cons (pv 0) (pa_cons (pv 1) (pa_cons (pv 1) pa_nil)))))) (pss_one (ps_raise rfl (takes_of rfl rfl rfl rfl) (pmk_oex ENoStretches.o ENoStretches.i ENoStretches.t (ok_NoStretches ES ENoStretches) (hr.mono (by decide)) ENoStretches.b .nil pass0 (by rfl) ENoStretches.g (pa_cons (pv 0) pa_nil)))) pss_nil)
      (pss_one (ps_for (passes_of rfl) rfl (pi_list (pv 0)) (pg_name (i := 2) sc_check_stretches.nd rfl (Or.inl rfl)) (pss_one (ps_if (pt_not (pt_val (pe_call Gis_stretchG (hr.mono (by decide)) (by rfl) Nis_stretch.g Nis_stretch.kp Nis_stretch.b .nil pass0 (pa_cons (pv 2) pa_nil)))) (pss_one (ps_raise rfl (takes_of rfl rfl rfl rfl) (pmk_oex ENoStretches.o ENoStretches.i ENoStretches.t (ok_NoStretches ES ENoStretches) (hr.mono (by decide)) ENoStretches.b .nil pass0 (by rfl) ENoStretches.g (pa_cons (pv 2) pa_nil)))) pss_nil)))), ?_⟩
        refine ⟨_, rfl, _, rfl, _, rfl, _, n, n, rfl, dp.1, fun H1 s1 => ?_⟩
        rw [hi]
        refine ⟨_, rfl, iteF ?_⟩
        refine ⟨_, rfl, a, rfl, ⟨_, Nt.seq (K := K) (same_nt s1) (a := a) (xs := xs) (SqL.of ha)⟩, for_list (K := K) (a := a) (xs := xs) (fun i σ H' => ∃ v : Option V, σ = [some (.ref a), some (.int n), v] ∧ stD H (xs.drop i) = stD H xs ∧ Same H H')
          ⟨_, rfl, rfl, s1⟩ (fun i σ H' _ ⟨_, _, _, q⟩ => Nt.seq (same_nt q) (SqL.of ha)) ?_ ?_⟩
        · rintro i x σ H2 hx ⟨v, rfl, ep, k2⟩
          obtain ⟨thx, kx⟩ := dp.2 xs hq x (List.mem_of_getElem? hx)
          rw [drop_at hx] at ep
          have n2 := same_nt k2
          refine ⟨_, rfl, x, rfl, th_nt n2 thx, kx.nt n2 thx, fun H3 k3 => ?_⟩
          rw [st1_nt n2 thx]
          cases hp : st1 H x with
          | false =>
            rw [st_stop hp] at ep
            rw [← ep] at k
            exact ⟨_, rfl, iteT ⟨_, rfl, made_one fun e he => k H3 e (k2.trans k3) he⟩⟩
          | true =>
            rw [st_go hp] at ep
            exact ⟨_, rfl, iteF ⟨_, rfl, ep, k2.trans k3⟩⟩
        · rintro σ H2 ⟨v, rfl, ep, k2⟩
          rw [List.drop_length] at ep
          rw [← ep] at k
          exact k H2 k2
      · skip
        refine ⟨_, pss_cons (ps_if (pt_not (pt_val (pe_call Gis_listG (hr.mono (by decide)) (by rfl) Nis_list.g Nis_list.kp Nis_list.b .nil pass0 (pa_cons (pv 0) (pa_cons (pv 1) (pa_cons (pv 1) pa_nil)))))) (pss_one (ps_raise rfl (takes_of rfl rfl rfl rfl) (pmk_oex ENoStretches.o ENoStretches.i ENoStretches.t (ok_NoStretches ES ENoStretches) (hr.mono (by decide)) ENoStretches.b .nil pass0 (by rfl) ENoStretches.g (pa_cons (pv 0) pa_nil)))) pss_nil)
      (pss_one (ps_for (passes_of rfl) rfl (pi_tup (pv 0)) (pg_name (i := 2) sc_check_stretches.nd rfl (Or.inl rfl)) (pss_one (ps_if (pt_not (pt_val (pe_call Gis_stretchG (hr.mono (by decide)) (by rfl) Nis_stretch.g Nis_stretch.kp Nis_stretch.b .nil pass0 (pa_cons (pv 2) pa_nil)))) (pss_one (ps_raise rfl (takes_of rfl rfl rfl rfl) (pmk_oex ENoStretches.o ENoStretches.i ENoStretches.t (ok_NoStretches ES ENoStretches) (hr.mono (by decide)) ENoStretches.b .nil pass0 (by rfl) ENoStretches.g (pa_cons (pv 2) pa_nil)))) pss_nil)))), ?_⟩
        refine ⟨_, rfl, _, rfl, _, rfl, _, n, n, rfl, dp.1, fun H1 s1 => ?_⟩
        rw [hi]
        refine ⟨_, rfl, iteF ?_⟩
        refine ⟨_, rfl, a, rfl, ⟨_, Nt.seqT (K := K) (same_nt s1) (a := a) (xs := xs) (SqT.of ha)⟩, for_tup (K := K) (a := a) (xs := xs) (fun i σ H' => ∃ v : Option V, σ = [some (.ref a), some (.int n), v] ∧ stD H (xs.drop i) = stD H xs ∧ Same H H')
          ⟨_, rfl, rfl, s1⟩ (fun i σ H' _ ⟨_, _, _, q⟩ => Nt.seqT (same_nt q) (SqT.of ha)) ?_ ?_⟩
        · rintro i x σ H2 hx ⟨v, rfl, ep, k2⟩
          obtain ⟨thx, kx⟩ := dp.2 xs hq x (List.mem_of_getElem? hx)
          rw [drop_at hx] at ep
          have n2 := same_nt k2
          refine ⟨_, rfl, x, rfl, th_nt n2 thx, kx.nt n2 thx, fun H3 k3 => ?_⟩
          rw [st1_nt n2 thx]
          cases hp : st1 H x with
          | false =>
            rw [st_stop hp] at ep
            rw [← ep] at k
            exact ⟨_, rfl, iteT ⟨_, rfl, made_one fun e he => k H3 e (k2.trans k3) he⟩⟩
          | true =>
            rw [st_go hp] at ep
            exact ⟨_, rfl, iteF ⟨_, rfl, ep, k2.trans k3⟩⟩
        · rintro σ H2 ⟨v, rfl, ep, k2⟩
          rw [List.drop_length] at ep
          rw [← ep] at k
          exact k H2 k2
def spLongsX (cl : Tag → Addr) : Sp := fun vs H Q E => ∃ (v : V) (tp : Int), vs = [v, .int tp] ∧ Deep H v ∧ Wish cl (Same H) (longsD H tp v) Q E
theorem ok_longsX {f : Addr} {fd : FuncData} (F : Fun K "_check_longs" "_check_longs" s_check_longs f fd) (T : Txt mg) (ES : SeT K mg CS fS fdS sSE)
    (ENoLongs : ExC K mg "NoLongs" "NoLongs.__init__" sNoLongs (cl .longs) g1 gd1)
    (Nis_list : Fn K mg "is_list" s_is_list ["thing", "low", "high"] f1 fd1) (Gis_listG : FnOk P w K mg base CX0 1 f1 fd1 ["thing", "low", "high"] spIsListG)
    (Nis_long : Fn K mg "_is_long" s_is_long ["thing", "low", "top"] f2 fd2) (Gis_longG : FnOk P w K mg base CX0 2 f2 fd2 ["thing", "low", "top"] spIsLongG) :
    FnOk P w K mg base (CX P w) 4 f fd ["longs", "top"] (spLongsX cl) := by
  refine F.okX sc_check_longs (fun vs H Q E h => ?_) (fun cdv A outer s H vs Q E hr h => ?_)
  · obtain ⟨v, n, rfl, _⟩ := h
    rfl
  · obtain ⟨v, tp, rfl, dp, k⟩ := h
    cases hi : isl H 0 2 v with
    | false =>
      have e : longsD H tp v = some (.longs, v) := by
        unfold longsD
        rw [hi, if_neg Bool.false_ne_true]
      rw [e] at k
      refine ⟨_, pss_cons (ps_if (pt_not (pt_val (pe_call Gis_listG (hr.mono (by decide)) (by rfl) Nis_list.g Nis_list.kp Nis_list.b .nil pass0 (pa_cons (pv 0) (pa_cons pe_int (pa_cons pe_int pa_nil)))))) (pss_one (ps_raise rfl (takes_of rfl rfl rfl rfl) (pmk_oex ENoLongs.o ENoLongs.i ENoLongs.t (ok_NoLongs ES ENoLongs) (hr.mono (by decide)) ENoLongs.b .nil pass0 (by rfl) ENoLongs.g (pa_cons (pv 0) pa_nil)))) pss_nil)
      (pss_cons (ps_set (i := 2) sc_check_longs.nd rfl (Or.inl rfl) pe_int)
      (pss_one (ps_for (passes_of rfl) rfl (pi_list (pv 0)) (pg_name (i := 3) sc_check_longs.nd rfl (Or.inl rfl)) (pss_cons (ps_if (pt_not (pt_val (pe_call Gis_longG (hr.mono (by decide)) (by rfl) Nis_long.g Nis_long.kp Nis_long.b .nil pass0 (pa_cons (pv 3) (pa_cons (pv 2) (pa_cons (pv 1) pa_nil)))))) (pss_one (ps_raise rfl (takes_of rfl rfl rfl rfl) (pmk_oex ENoLongs.o ENoLongs.i ENoLongs.t (ok_NoLongs ES ENoLongs) (hr.mono (by decide)) ENoLongs.b .nil pass0 (by rfl) ENoLongs.g (pa_cons (pv 3) pa_nil)))) pss_nil)
          (pss_one (ps_set (i := 2) sc_check_longs.nd rfl (Or.inl rfl) (pe_ix ix_tup (pv 3) pe_int (fun _ _ => rfl)))))))), ?_⟩
      refine ⟨_, rfl, _, 0, 2, rfl, dp.1, fun H1 s1 => ?_⟩
      rw [hi]
      exact ⟨_, rfl, iteT ⟨_, rfl, made_one fun e he => k H1 e s1 he⟩⟩
    | true =>
      have e : longsD H tp v = loD H tp 0 ((seqOf H v).getD []) := by
        unfold longsD
        rw [hi, if_pos rfl]
      obtain ⟨a, xs, rfl, hq, ha, l2, l6⟩ := isl_true hi
      rw [e, hq] at k
      replace k : Wish cl (Same H) (loD H tp 0 xs) Q E := k
      rcases ha with ha | ha
      · skip
        refine ⟨_, pss_cons (ps_if (pt_not (pt_val (pe_call Gis_listG (hr.mono (by decide)) (by rfl) Nis_list.g Nis_list.kp Nis_list.b .nil pass0 (pa_cons (pv 0) (pa_cons pe_int (pa_cons pe_int pa_nil)))))) (pss_one (ps_raise rfl (takes_of rfl rfl rfl rfl) (pmk_oex ENoLongs.o ENoLongs.i ENoLongs.t (ok_NoLongs ES ENoLongs) (hr.mono (by decide)) ENoLongs.b .nil pass0 (by rfl) ENoLongs.g (pa_cons (pv 0) pa_nil)))) pss_nil)
      (pss_cons (ps_set (i := 2) sc_check_longs.nd rfl (Or.inl rfl) pe_int)
      (pss_one (ps_for (passes_of rfl) rfl (pi_list (pv 0)) (pg_name (i := 3) sc_check_longs.nd rfl (Or.inl rfl)) (pss_cons (ps_if (pt_not (pt_val (pe_call Gis_longG (hr.mono (by decide)) (by rfl) Nis_long.g Nis_long.kp Nis_long.b .nil pass0 (pa_cons (pv 3) (pa_cons (pv 2) (pa_cons (pv 1) pa_nil)))))) (pss_one (ps_raise rfl (takes_of rfl rfl rfl rfl) (pmk_oex ENoLongs.o ENoLongs.i ENoLongs.t (ok_NoLongs ES ENoLongs) (hr.mono (by decide)) ENoLongs.b .nil pass0 (by rfl) ENoLongs.g (pa_cons (pv 3) pa_nil)))) pss_nil)
          (pss_one (ps_set (i := 2) sc_check_longs.nd rfl (Or.inl rfl) (pe_ix ix_tup (pv 3) pe_int (fun _ _ => rfl)))))))), ?_⟩
        refine ⟨_, rfl, _, 0, 2, rfl, dp.1, fun H1 s1 => ?_⟩
        rw [hi]
        refine ⟨_, rfl, iteF ?_⟩
        refine ⟨_, rfl, a, rfl, ⟨_, Nt.seq (K := K) (same_nt s1) (a := a) (xs := xs) (SqL.of ha)⟩, for_list (K := K) (a := a) (xs := xs) (fun i σ H' => ∃ (v : Option V) (low : Int), σ = [some (.ref a), some (.int tp), some (.int low), v] ∧ loD H tp low (xs.drop i) = loD H tp 0 xs ∧ Same H H')
          ⟨_, _, rfl, rfl, s1⟩ (fun i σ H' _ ⟨_, _, _, _, q⟩ => Nt.seq (same_nt q) (SqL.of ha)) ?_ ?_⟩
        · rintro i x σ H2 hx ⟨v, low, rfl, ep, k2⟩
          obtain ⟨thx, kx⟩ := dp.2 xs hq x (List.mem_of_getElem? hx)
          rw [drop_at hx] at ep
          have n2 := same_nt k2
          refine ⟨_, rfl, _, rfl, _, rfl, x, low, tp, rfl, th_nt n2 thx, kx.nt n2 thx, ?_⟩
          rw [lo1_nt n2 thx]
          cases hp : lo1 H low tp x with
          | false =>
            rw [lo_stop hp] at ep
            rw [← ep] at k
            exact ⟨_, rfl, iteT ⟨_, rfl, made_one fun e he => k H2 e k2 he⟩⟩
          | true =>
            rw [lo_go hp] at ep
            obtain ⟨t, fi, la, q, rfl, ht, en⟩ := lo1_true hp
            rw [en] at ep
            exact ⟨_, rfl, iteF ⟨_, rfl, t, _, 1, .int la, rfl, rfl, SqT.of (k2 _ _ ht), rfl, _, la, rfl, ep, k2⟩⟩
        · rintro σ H2 ⟨v, low, rfl, ep, k2⟩
          rw [List.drop_length] at ep
          rw [← ep] at k
          exact k H2 k2
      · skip
        refine ⟨_, pss_cons (ps_if (pt_not (pt_val (pe_call Gis_listG (hr.mono (by decide)) (by rfl) Nis_list.g Nis_list.kp Nis_list.b .nil pass0 (pa_cons (pv 0) (pa_cons pe_int (pa_cons pe_int pa_nil)))))) (pss_one (ps_raise rfl (takes_of rfl rfl rfl rfl) (pmk_oex ENoLongs.o ENoLongs.i ENoLongs.t (ok_NoLongs ES ENoLongs) (hr.mono (by decide)) ENoLongs.b .nil pass0 (by rfl) ENoLongs.g (pa_cons (pv 0) pa_nil)))) pss_nil)
      (pss_cons (ps_set (i := 2) sc_check_longs.nd rfl (Or.inl rfl) pe_int)
      (pss_one (ps_for (passes_of rfl) rfl (pi_tup (pv 0)) (pg_name (i := 3) sc_check_longs.nd rfl (Or.inl rfl)) (pss_cons (ps_if (pt_not (pt_val (pe_call Gis_longG (hr.mono (by decide)) (by rfl) Nis_long.g Nis_long.kp Nis_long.b .nil pass0 (pa_cons (pv 3) (pa_cons (pv 2) (pa_cons (pv 1) pa_nil)))))) (pss_one (ps_raise rfl (takes_of rfl rfl rfl rfl) (pmk_oex ENoLongs.o ENoLongs.i ENoLongs.t (ok_NoLongs ES ENoLongs) (hr.mono (by decide)) ENoLongs.b .nil pass0 (by rfl) ENoLongs.g (pa_cons (pv 3) pa_nil)))) pss_nil)
          (pss_one (ps_set (i := 2) sc_check_longs.nd rfl (Or.inl rfl) (pe_ix ix_tup (pv 3) pe_int (fun _ _ => rfl)))))))), ?_⟩
        refine ⟨_, rfl, _, 0, 2, rfl, dp.1, fun H1 s1 => ?_⟩
        rw [hi]
        refine ⟨_, rfl, iteF ?_⟩
        refine ⟨_, rfl, a, rfl, ⟨_, Nt.seqT (K := K) (same_nt s1) (a := a) (xs := xs) (SqT.of ha)⟩, for_tup (K := K) (a := a) (xs := xs) (fun i σ H' => ∃ (v : Option V) (low : Int), σ = [some (.ref a), some (.int tp), some (.int low), v] ∧ loD H tp low (xs.drop i) = loD H tp 0 xs ∧ Same H H')
          ⟨_, _, rfl, rfl, s1⟩ (fun i σ H' _ ⟨_, _, _, _, q⟩ => Nt.seqT (same_nt q) (SqT.of ha)) ?_ ?_⟩
        · rintro i x σ H2 hx ⟨v, low, rfl, ep, k2⟩
          obtain ⟨thx, kx⟩ := dp.2 xs hq x (List.mem_of_getElem? hx)
          rw [drop_at hx] at ep
          have n2 := same_nt k2
          refine ⟨_, rfl, _, rfl, _, rfl, x, low, tp, rfl, th_nt n2 thx, kx.nt n2 thx, ?_⟩
          rw [lo1_nt n2 thx]
          cases hp : lo1 H low tp x with
          | false =>
            rw [lo_stop hp] at ep
            rw [← ep] at k
            exact ⟨_, rfl, iteT ⟨_, rfl, made_one fun e he => k H2 e k2 he⟩⟩
          | true =>
            rw [lo_go hp] at ep
            obtain ⟨t, fi, la, q, rfl, ht, en⟩ := lo1_true hp
            rw [en] at ep
            exact ⟨_, rfl, iteF ⟨_, rfl, t, _, 1, .int la, rfl, rfl, SqT.of (k2 _ _ ht), rfl, _, la, rfl, ep, k2⟩⟩
        · rintro σ H2 ⟨v, low, rfl, ep, k2⟩
          rw [List.drop_length] at ep
          rw [← ep] at k
          exact k H2 k2
end
end K6

set_option maxRecDepth 100000
set_option maxHeartbeats 4000000
namespace K6
open PySem PySem.Spec PyProof.Rows L2 GxR Gd TL My
theorem pl_all {H : Hp} : ∀ {xs : List V} {as : List Str}, plD H as xs = none → ∀ x ∈ xs, ∃ t z q, x = .ref t ∧ H t = some (.tup [.str z, q])
  | [], _, _, _, hx => by cases hx
  | v :: r, as, h, x, hx => by
    cases hp : pl1 H as v with
    | some d =>
      rw [pl1_stop hp] at h
      cases h
    | none =>
      rw [pl1_snoc hp] at h
      rcases List.mem_cons.mp hx with rfl | hx
      · obtain ⟨t, z, q, e, ht, _⟩ := pl1_none hp
        exact ⟨t, z, q, e, ht⟩
      · exact pl_all h x hx
def manyOf (H : Hp) (v : V) : Int := (((seqOf H v).getD []).length : Int)
def dueD (H : Hp) (v1 v2 v3 : V) : Due := match placesD H v1 with
  | some d => some d
  | none => match stretchesD H (manyOf H v1 - 1) v2 with
    | some d => some d
    | none => if v3 = .non then none else longsD H (manyOf H v1 - 1) v3
def rowsOf (H : Hp) (v : V) : Option (List V) := if v = .non then some [] else seqOf H v
theorem seqX {K : PySem.W.Frag} {H : Hp} {a : Addr} {xs : List V} (h : seqOf H (.ref a) = some xs) : SqX K H a xs := by
  obtain ⟨b, e, h⟩ := seq_some h
  obtain rfl := V.ref.inj e
  rcases h with h | h
  · exact .inl (SqL.of h)
  · exact .inr (SqT.of h)
theorem stD_nt {H H' : Hp} (e : Nt H H') : ∀ {xs : List V}, (∀ x ∈ xs, Th H x) → stD H' xs = stD H xs
  | [], _ => rfl
  | v :: r, h => by
    show (if st1 H' v = true then stD H' r else some (.stretches, v)) = (if st1 H v = true then stD H r else some (.stretches, v))
    rw [st1_nt e (h v (by simp)), stD_nt e (fun x hx => h x (by simp [hx]))]
theorem loD_nt {H H' : Hp} (e : Nt H H') (top : Int) : ∀ {xs : List V} {low : Int}, (∀ x ∈ xs, Th H x) → loD H' top low xs = loD H top low xs
  | [], _, _ => rfl
  | v :: r, low, h => by
    show (if lo1 H' low top v = true then loD H' top (lastLo H' v) r else some (.longs, v)) = (if lo1 H low top v = true then loD H top (lastLo H v) r else some (.longs, v))
    have el : lastLo H' v = lastLo H v := by
      unfold lastLo
      rw [tup_nt e (h v (by simp))]
    rw [lo1_nt e (h v (by simp)), el, loD_nt e top (fun x hx => h x (by simp [hx]))]
theorem isl_nt {H H' : Hp} (e : Nt H H') {v : V} (th : Th H v) (lo hi : Int) : isl H' lo hi v = isl H lo hi v := by
  unfold isl
  rw [seq_nt e th]
theorem stretchesD_nt {H H' : Hp} (e : Nt H H') {v : V} (d : Deep H v) (n : Int) : stretchesD H' n v = stretchesD H n v := by
  unfold stretchesD
  rw [isl_nt e d.1, seq_nt e d.1]
  cases hs : seqOf H v with
  | none => rfl
  | some xs =>
    have e1 := stD_nt e (xs := xs) fun x hx => d.kids xs hs x hx
    show (if _ then stD H' xs else _) = (if _ then stD H xs else _)
    rw [e1]
theorem longsD_nt {H H' : Hp} (e : Nt H H') {v : V} (d : Deep H v) (n : Int) : longsD H' n v = longsD H n v := by
  unfold longsD
  rw [isl_nt e d.1, seq_nt e d.1]
  cases hs : seqOf H v with
  | none => rfl
  | some xs =>
    have e1 := loD_nt e n (low := 0) (xs := xs) fun x hx => d.kids xs hs x hx
    show (if _ then loD H' n 0 xs else _) = (if _ then loD H n 0 xs else _)
    rw [e1]
theorem ls_seq {H H' : Hp} (e : Ls H H') {v : V} {xs : List V} (h : seqOf H v = some xs) : seqOf H' v = some xs := by
  obtain ⟨a, rfl, h | h⟩ := seq_some h
  · exact seq_lst (e _ _ (by simp) (by simp) h)
  · exact seq_tup (e _ _ (by simp) (by simp) h)
theorem longs_empty (H : Hp) (top : Int) (a : Addr) (h : H a = some (.tup [])) : longsD H top (.ref a) = none := by
  unfold longsD isl
  rw [seq_tup h]
  rfl
theorem deep_empty {H : Hp} {a : Addr} (h : H a = some (.tup [])) : Deep H (.ref a) := ⟨.tup a [] h, fun xs e x hx => by
  rw [seq_tup h] at e
  obtain rfl := Option.some.inj e
  cases hx⟩
theorem fld_readG {K : PySem.W.Frag} {D : Ends} {σ : L2.St} {H : Hp} {i : Nat} {a x C dx : Addr} {xs : List V} {f : Str} {fs : List (Str × V)} (h0 : σ[0]? = some (some (.ref x))) (hv : σ[i]? = some (some (.ref a))) (hx : H x = some (.ins C dx fs)) (c : Cls K C) (n : NoAttr K C f) (l : fs.length < 1000)
    (h : seqOf H (.ref a) = some xs) (k : ∀ p H', Same H H' → H' p = some (.tup xs) → D.nx σ (upd H' x (.ins C dx (putF f (.ref p) fs)))) :
    sFld K (tVar 0) (tCB (fun xs H Q => ∃ p ys, xs = [V.ref p] ∧ ((SqL K H p ys ∧ ∀ l, H l = none → Q (.ref l) (upd H l (.tup ys))) ∨ (SqT K H p ys ∧ Q (.ref p) H))) (tCons (tVar i) tNil)) f D σ H := by
  obtain ⟨b, e, h⟩ := seq_some h
  obtain rfl := V.ref.inj e
  refine ⟨_, hv, a, xs, rfl, ?_⟩
  rcases h with h | h
  · exact .inl ⟨SqL.of h, fun p hp => ⟨_, h0, x, C, dx, fs, rfl, same_alloc hp _ _ hx, c, n, l, k p _ (same_alloc hp) upd_same⟩⟩
  · exact .inr ⟨SqT.of h, _, h0, x, C, dx, fs, rfl, hx, c, n, l, k a H (Same.refl H) h⟩
/-- the rows that are asked, and a new empty tuple where there are none -/
theorem rows_readG {σ : L2.St} {H : Hp} {v : V} {G : VK} (hv : σ[3]? = some (some v)) (dp : Deep H v)
    (k : ∀ u H', Same H H' → Deep H' u → (v = .non → ∃ a, u = .ref a ∧ H' a = some (.tup [])) → (v ≠ .non → u = v) → G u H') :
    tIf (tTest (tOp (fun x y H Q => y = V.non ∧ Q (V.bl (decide (x = V.non))) H) (tVar 3) (tC V.non))) (tTup tNil) (tVar 3) σ H G := by
  refine ⟨v, hv, rfl, _, rfl, ?_⟩
  by_cases h : v = .non
  · rw [decide_eq_true h]
    refine iteT ⟨Nat.zero_le _, fun p hp => ?_⟩
    exact k _ _ (same_alloc hp) (deep_empty upd_same) (fun _ => ⟨p, rfl, upd_same⟩) (fun n => absurd h n)
  · rw [decide_eq_false h]
    exact iteF ⟨_, hv, k v H (Same.refl H) dp (fun e => absurd e h) fun _ => rfl⟩
section
variable {P : Program} {w : World} {K : PySem.W.Frag} {mg : Str → Option Value} {base : Heap}
theorem FunV.okX {x qual : Str} {st : Stmt} {f : Addr} {fd : FuncData} {N ps : List Str} {k : Nat} {sp : Sp} (F : FunV K x qual st f fd) (S : FnScope N ps (defScope st)) (len : ∀ vs H Q E, sp vs H Q E → vs.length = ps.length)
    (hbody : ∀ (cdv : Value) (A : Around) (outer : List Env) (s : Shared) (H : Hp) (vs : List V) (Q : VK) (E : XK), Room k (A.deeper (envOfC qual (defScope st) s.heap.objs.size f cdv)) → sp vs H Q E →
      ∃ t, PSs (cxOf (CX P w) P w K mg base N qual (defScope st) f cdv A outer s H E) (defBody st) t ∧ t { nx := fun _ H' => Q .non H', rt := Q } (start N vs) H) : FnOk P w K mg base (CX P w) (k + 1) f fd ps sp := by
  obtain ⟨oc, od, dV, kV, doc, pm, an, cdv, ct, osl, rfl, lk, hcd⟩ := F.ex
  exact fn_of lk hcd S len fun A outer s H vs Q E hr hsp => hbody cdv A outer s H vs Q E hr hsp
variable {cl : Tag → Addr} {C CS fS f1 f2 f3 : Addr} {fdS fd1 fd2 fd3 : FuncData}
def LnAt (K : PySem.W.Frag) (C : Addr) (H : Hp) (x : Addr) (xs1 xs2 xs3 : List V) : Prop := ∃ dx p1 p2 p3 d, H x = some (.ins C dx (lf p1 p2 p3 d)) ∧ H p1 = some (.tup xs1) ∧ H p2 = some (.tup xs2) ∧ H p3 = some (.tup xs3)
def spInitX (K : PySem.W.Frag) (C : Addr) (cl : Tag → Addr) (Pt : Addr) : Sp := fun vs H Q E => ∃ (x dx : Addr) (v1 v2 v3 : V), vs = [.ref x, v1, v2, v3] ∧ H x = some (.ins C dx []) ∧ Deep H v1 ∧ Deep H v2 ∧ Deep H v3 ∧ TabG H Pt ∧
  (∀ t u, dueD H v1 v2 v3 = some (t, u) → ∀ H' e, KI x Pt H H' → H' e = none → E (.ref (cl t)) (some e) (upd H' e (.xd [("found", u)]))) ∧
  (dueD H v1 v2 v3 = none → ∀ H' xs1 xs2 xs3, KI x Pt H H' → seqOf H v1 = some xs1 → seqOf H v2 = some xs2 → rowsOf H v3 = some xs3 → LnAt K C H' x xs1 xs2 xs3 → Q .non H')
theorem ok_initX {f Pt : Addr} {fd : FuncData} (F : FunV K "__init__" "Line.__init__" s_init f fd) (T : Txt mg) (TC : ClsT K C)
    (Ncheck_places : Fn K mg "_check_places" s_check_places ["places"] f1 fd1) (GplacesX : FnOk P w K mg base (CX P w) 5 f1 fd1 ["places"] (spPlacesX cl Pt))
    (Ncheck_stretches : Fn K mg "_check_stretches" s_check_stretches ["stretches", "many"] f2 fd2) (GstretchesX : FnOk P w K mg base (CX P w) 4 f2 fd2 ["stretches", "many"] (spStretchesX cl))
    (Ncheck_longs : Fn K mg "_check_longs" s_check_longs ["longs", "top"] f3 fd3) (GlongsX : FnOk P w K mg base (CX P w) 4 f3 fd3 ["longs", "top"] (spLongsX cl)) :
    FnOk P w K mg base (CX P w) 6 f fd ["self", "places", "stretches", "longs"] (spInitX K C cl Pt) := by
  refine F.okX sc_init (fun vs H Q E h => ?_) (fun cdv A outer s H vs Q E hr h => ?_)
  · obtain ⟨x, dx, v1, v2, v3, rfl, _⟩ := h
    rfl
  · obtain ⟨x, dx, v1, v2, v3, rfl, hx, d1, d2, d3, tb, kE, kQ⟩ := h
    have nxP : x ≠ Pt := ne_tab tb hx (by simp)
    rcases Classical.em (∃ a xs, v1 = .ref a ∧ H a = some (.tup xs)) with ht | hl0
    · skip
      refine ⟨_, pss_cons (ps_expr (pe_call GplacesX (hr.mono (by decide)) (by rfl) Ncheck_places.g Ncheck_places.kp Ncheck_places.b .nil (passes_call (takes_of rfl rfl rfl rfl) (fun _ _ _ _ h => h)) (pa_cons (pv 1) pa_nil)))
      (pss_cons (ps_set (i := 4) sc_init.nd rfl (Or.inl rfl) (pe_op op_sub (pe_callB call_len_seq (by rfl) T.len_ PySem.boot_len (pa_cons (pv 1) pa_nil)) pe_int))
      (pss_cons (ps_expr (pe_call GstretchesX (hr.mono (by decide)) (by rfl) Ncheck_stretches.g Ncheck_stretches.kp Ncheck_stretches.b .nil (passes_call (takes_of rfl rfl rfl rfl) (fun _ _ _ _ h => h)) (pa_cons (pv 2) (pa_cons (pv 4) pa_nil))))
      (pss_cons (ps_set (i := 5) sc_init.nd rfl (Or.inl rfl) (pe_ifExp (pt_cmpR op_isN (pv 3) pe_non (nomark _)) (pe_tup pa_nil) (pv 3)))
      (pss_cons (ps_expr (pe_call GlongsX (hr.mono (by decide)) (by rfl) Ncheck_longs.g Ncheck_longs.kp Ncheck_longs.b .nil (passes_call (takes_of rfl rfl rfl rfl) (fun _ _ _ _ h => h)) (pa_cons (pv 5) (pa_cons (pv 4) pa_nil))))
      (pss_cons (ps_fld (pv 0) (pe_callTy call_tuple_of (by rfl) T.tuple_ (by decide +kernel) (pa_cons (pv 1) pa_nil)) rfl)
      (pss_cons (ps_fld (pv 0) (pe_callTy call_tuple_of (by rfl) T.tuple_ (by decide +kernel) (pa_cons (pv 2) pa_nil)) rfl)
      (pss_cons (ps_fld (pv 0) (pe_callTy call_tuple_of (by rfl) T.tuple_ (by decide +kernel) (pa_cons (pv 5) pa_nil)) rfl)
      (pss_one (ps_fld (pv 0) (pe_dc (own := [("number", 6), ("name", 7), ("_", 8)]) (g := gTup K 2 (gCons (gName 6) (gCons (gTup K 2 (gCons (gName 7) (gCons (gName 8) gNil))) gNil))) (tt := tYes) rfl sc_init.nd (pi_enumT (by rfl) T.enumerate_ (pa_cons (pv 1) pa_nil)) (blkOk_by (own := [("number", 6), ("name", 7), ("_", 8)]) (N := ["self", "places", "stretches", "longs", "top", "rows", "number", "name", "_"]) (sc := defScope s_init) (by decide +kernel)) (fun _ _ _ _ _ => (pg_tup (by rfl) (pgs_cons (pg_name (i := 6) sc_init.nd rfl (Or.inl rfl)) (pgs_cons (pg_tup (by rfl) (pgs_cons (pg_name (i := 7) sc_init.nd rfl (Or.inl rfl)) (pgs_cons (pg_name (i := 8) sc_init.nd rfl (Or.inl rfl)) pgs_nil))) pgs_nil)))) (fun _ _ _ _ _ => pts_nil) (fun _ _ _ _ _ => pv 7) (fun _ _ _ _ _ => pv 6)) rfl))))))))), ?_⟩
      refine ⟨_, rfl, v1, rfl, d1, tb, ?_⟩
      cases hp : placesD H v1 with
      | some d =>
        obtain ⟨t, u⟩ := d
        exact fun H' e h he => kE t u (by unfold dueD; rw [hp]) H' e (KI.of h) he
      | none =>
        have hi : isl H 2 6 v1 = true := by
          cases q : isl H 2 6 v1 with
          | true => rfl
          | false =>
            unfold placesD at hp
            rw [q, if_neg Bool.false_ne_true] at hp
            cases hp
        obtain ⟨a1, xs1, rfl, hq1, ha1, l2, l6⟩ := isl_true hi
        have all := pl_all (as := []) (xs := xs1) (H := H) (by
          have e : placesD H (.ref a1) = plD H [] ((seqOf H (.ref a1)).getD []) := by
            unfold placesD
            rw [hi, if_pos rfl]
          rw [e, hq1] at hp
          exact hp)
        have em : manyOf H (.ref a1) = (xs1.length : Int) := by
          unfold manyOf
          rw [hq1]
          rfl
        have due2 : dueD H (.ref a1) v2 v3 = match stretchesD H ((xs1.length : Int) - 1) v2 with
            | some d => some d
            | none => if v3 = .non then none else longsD H ((xs1.length : Int) - 1) v3 := by
          unfold dueD
          rw [hp, em]
        rw [due2] at kE kQ
        intro H1 k1
        have i1 : KI x Pt H H1 := KI.of k1
        have n1 := KT.nt tb k1
        have e1 := i1.ls hx tb
        have hx1 := n1 x _ (by simp) hx
        refine ⟨_, rfl, a1, xs1, rfl, e1.seqX (seqX hq1), _, _, rfl, rfl, ?_⟩
        refine ⟨_, rfl, _, rfl, v2, (xs1.length : Int) - 1, rfl, d2.nt n1, ?_⟩
        rw [stretchesD_nt n1 d2]
        cases hs : stretchesD H ((xs1.length : Int) - 1) v2 with
        | some d =>
          obtain ⟨t, u⟩ := d
          rw [hs] at kE
          exact fun H' e h he => kE t u rfl H' e (i1.trans (KI.same i1.tab h)) he
        | none =>
          rw [hs] at kE kQ
          replace kE : ∀ t u, (if v3 = V.non then none else longsD H ((xs1.length : Int) - 1) v3) = some (t, u) → _ := kE
          replace kQ : (if v3 = V.non then none else longsD H ((xs1.length : Int) - 1) v3) = none → _ := kQ
          have hi2 : isl H ((xs1.length : Int) - 1) ((xs1.length : Int) - 1) v2 = true := by
            cases q : isl H ((xs1.length : Int) - 1) ((xs1.length : Int) - 1) v2 with
            | true => rfl
            | false =>
              unfold stretchesD at hs
              rw [q, if_neg Bool.false_ne_true] at hs
              cases hs
          obtain ⟨a2, xs2, rfl, hq2, _, _, _⟩ := isl_true hi2
          intro H2 s2
          have i2 := i1.trans (KI.same (x := x) i1.tab s2)
          have n2 := n1.trans (same_nt s2)
          refine rows_readG (σ := _) rfl (d3.nt n2) (fun u H3 s3 du u1 u2 => ?_)
          have n3 := n2.trans (same_nt s3)
          have i3 := i2.trans (KI.same (x := x) i2.tab s3)
          have key : longsD H3 ((xs1.length : Int) - 1) u = if v3 = V.non then none else longsD H ((xs1.length : Int) - 1) v3 := by
            by_cases hn : v3 = .non
            · obtain ⟨a, rfl, ha⟩ := u1 hn
              rw [longs_empty _ _ _ ha, if_pos hn]
            · obtain rfl := u2 hn
              rw [longsD_nt n3 d3, if_neg hn]
          refine ⟨_, rfl, _, rfl, u, (xs1.length : Int) - 1, rfl, du, ?_⟩
          rw [← key] at kE kQ
          cases hl : longsD H3 ((xs1.length : Int) - 1) u with
          | some d =>
            obtain ⟨t, z⟩ := d
            rw [hl] at kE
            exact fun H' e h he => kE t z rfl H' e (i3.trans (KI.same i3.tab h)) he
          | none =>
            have hi3 : isl H3 0 2 u = true := by
              cases q : isl H3 0 2 u with
              | true => rfl
              | false =>
                unfold longsD at hl
                rw [q, if_neg Bool.false_ne_true] at hl
                cases hl
            obtain ⟨a3, xs3, rfl, hq3, _, _, _⟩ := isl_true hi3
            have hr3 : rowsOf H v3 = some xs3 := by
              unfold rowsOf
              by_cases hn : v3 = .non
              · obtain ⟨a, ea, ha⟩ := u1 hn
                obtain rfl := V.ref.inj ea
                rw [seq_tup ha] at hq3
                rw [if_pos hn, Option.some.inj hq3]
              · rw [if_neg hn, ← seq_nt n3 d3.1, ← u2 hn]
                exact hq3
            have kF := fun H' h4 h5 => kQ hl H' xs1 xs2 xs3 h4 hq1 hq2 hr3 h5
            clear kE kQ hl hi3 hs hi2 hi hp key due2 u1 u2 em
            intro H4 s4
            have i4 := i3.trans (KI.same (x := x) i3.tab s4)
            have e4 := i4.ls hx tb
            have hx4 := s4 _ _ (s3 _ _ (s2 _ _ hx1))
            refine fld_readG (i := 1) rfl rfl hx4 TC.cl TC.n1 (by decide) (ls_seq e4 hq1) (fun p1 H5 s5 hp1 => ?_)
            have j5 := i4.trans (KI.same (x := x) i4.tab s5)
            have i6 := j5.trans (KI.put (o := .ins C dx (putF "_places" (.ref p1) [])) j5.tab nxP)
            have hx6 : (upd H5 x (.ins C dx (putF "_places" (.ref p1) []))) x = some (.ins C dx (putF "_places" (.ref p1) [])) := upd_same
            have u6 : Ls H5 (upd H5 x (.ins C dx (putF "_places" (.ref p1) []))) := (KI.put j5.tab nxP).ls (s5 _ _ hx4) j5.tab
            generalize upd H5 x (.ins C dx (putF "_places" (.ref p1) [])) = H6 at i6 hx6 u6 ⊢
            have e6 := i6.ls hx tb
            refine fld_readG (i := 2) rfl rfl hx6 TC.cl TC.n2 (Nat.lt_of_le_of_lt (length_putF _ _ _) (by decide)) (ls_seq e6 hq2) (fun p2 H7 s7 hp2 => ?_)
            have j7 := i6.trans (KI.same (x := x) i6.tab s7)
            have i8 := j7.trans (KI.put (o := .ins C dx (putF "_stretches" (.ref p2) (putF "_places" (.ref p1) []))) j7.tab nxP)
            have hx8 : (upd H7 x (.ins C dx (putF "_stretches" (.ref p2) (putF "_places" (.ref p1) [])))) x = some (.ins C dx (putF "_stretches" (.ref p2) (putF "_places" (.ref p1) []))) := upd_same
            have u8 : Ls H7 (upd H7 x (.ins C dx (putF "_stretches" (.ref p2) (putF "_places" (.ref p1) [])))) := (KI.put j7.tab nxP).ls (s7 _ _ hx6) j7.tab
            generalize upd H7 x (.ins C dx (putF "_stretches" (.ref p2) (putF "_places" (.ref p1) []))) = H8 at i8 hx8 u8 ⊢
            have lf8 : (putF "_stretches" (.ref p2) (putF "_places" (.ref p1) [])).length ≤ 2 := Nat.le_trans (length_putF _ _ _) (Nat.succ_le_succ (length_putF _ _ _))
            have e38 : Ls H3 H8 := (((((same_ls s4).trans (same_ls s5)).trans u6).trans (same_ls s7)).trans u8)
            refine fld_readG (i := 5) rfl rfl hx8 TC.cl TC.n3 (Nat.lt_of_le_of_lt lf8 (by decide)) (ls_seq e38 hq3) (fun p3 H9 s9 hp3 => ?_)
            have j9 := i8.trans (KI.same (x := x) i8.tab s9)
            have iA := j9.trans (KI.put (o := .ins C dx (putF "_longs" (.ref p3) (putF "_stretches" (.ref p2) (putF "_places" (.ref p1) [])))) j9.tab nxP)
            have hxA : (upd H9 x (.ins C dx (putF "_longs" (.ref p3) (putF "_stretches" (.ref p2) (putF "_places" (.ref p1) []))))) x = some (.ins C dx (putF "_longs" (.ref p3) (putF "_stretches" (.ref p2) (putF "_places" (.ref p1) [])))) := upd_same
            have uA : Ls H9 (upd H9 x (.ins C dx (putF "_longs" (.ref p3) (putF "_stretches" (.ref p2) (putF "_places" (.ref p1) []))))) := (KI.put j9.tab nxP).ls (s9 _ _ hx8) j9.tab
            generalize upd H9 x (.ins C dx (putF "_longs" (.ref p3) (putF "_stretches" (.ref p2) (putF "_places" (.ref p1) [])))) = HA at iA hxA uA ⊢
            have eA := iA.ls hx tb
            have hp1A : HA p1 = some (.tup xs1) := ((((u6.trans (same_ls s7)).trans u8).trans (same_ls s9)).trans uA) _ _ (by simp) (by simp) hp1
            have hp2A : HA p2 = some (.tup xs2) := ((u8.trans (same_ls s9)).trans uA) _ _ (by simp) (by simp) hp2
            have hp3A : HA p3 = some (.tup xs3) := uA _ _ (by simp) (by simp) hp3
            have ha1 : H a1 = some (.tup xs1) := by
              obtain ⟨a, ys, e, h⟩ := ht
              obtain rfl := V.ref.inj e
              rw [seq_tup h] at hq1
              rw [h, Option.some.inj hq1]
            have hsA : SqT K HA a1 xs1 := SqT.of (eA _ _ (by simp) (by simp) ha1)
            refine ⟨_, rfl, a1, xs1, rfl, hsA, fun D hD => dc_it (walk_enumT (K := K) (xs := xs1)) (fun i H' => KB D HA H' ∧ ∃ kvs : List (Key × V), H' D = some (.dK kvs) ∧ kvs.length ≤ i) ?_ ?_ ?_ ?_⟩
            · exact ⟨KB.alloc hD, [], upd_same, Nat.zero_le _⟩
            · rintro i H' hi ⟨kb, _⟩
              exact (KB.seq' hD kb).seqT hsA
            · rintro i v H' H'' hi ⟨kb, kvs, hk1, hk2⟩ ⟨T1, X, Y, rfl, hT1, rfl, q1, q2⟩
              obtain rfl := Option.some.inj q1
              obtain ⟨t, z, q, rfl, ht⟩ := all Y (List.mem_of_getElem? q2)
              have nD : D ≠ T1 := fun e => by rw [← e, hk1] at hT1; cases hT1
              have ht1 : SqT K (upd H' T1 (.tup [.int (i : Nat), .ref t])) t [.str z, q] := SqT.of ((same_ls (same_alloc hT1)) _ _ (by simp) (by simp) ((KB.seq' hD kb) _ _ (by simp) (by simp) (eA _ _ (by simp) (by simp) ht)))
              refine ⟨T1, _, rfl, SqT.of upd_same, rfl, _, _, rfl, _, _, rfl, t, _, rfl, ht1, rfl, _, _, rfl, _, _, rfl, rfl, rfl, rfl, ?_⟩
              refine lcY ⟨_, rfl, _, rfl, kvs, Sum.inr z, rfl, by rw [upd_ne nD]; exact hk1, (by show kvs.length < sizeLine; exact Nat.lt_of_le_of_lt hk2 (Nat.lt_trans (Nat.lt_of_lt_of_le hi (by omega : xs1.length ≤ 6)) (by decide))), ?_⟩
              exact ⟨fun c o n h => by rw [upd_ne n]; exact (same_alloc hT1) _ _ (kb c o n h), _, upd_same, Nat.le_trans (length_putK _ _ _) (Nat.succ_le_succ hk2)⟩
            · rintro H' ⟨kb, kvs, hk1, hk2⟩
              have nxD : x ≠ D := fun e => by rw [← e, hxA] at hD; cases hD
              have sB : Same HA H' := fun c o h => kb c o (fun e => by rw [e, hD] at h; cases h) h
              have jB := iA.trans (KI.same (x := x) iA.tab sB)
              have iB := jB.trans (KI.put (o := .ins C dx (lf p1 p2 p3 D)) jB.tab nxP)
              have uB : Ls H' (upd H' x (.ins C dx (lf p1 p2 p3 D))) := (KI.put jB.tab nxP).ls (sB _ _ hxA) jB.tab
              have eB := (same_ls sB).trans uB
              exact ⟨_, rfl, x, C, dx, _, rfl, sB _ _ hxA, TC.cl, TC.n4, (Nat.lt_of_le_of_lt (Nat.le_trans (length_putF _ _ _) (Nat.succ_le_succ lf8)) (by decide)), kF _ iB ⟨dx, p1, p2, p3, D, upd_same, eB _ _ (by simp) (by simp) hp1A, eB _ _ (by simp) (by simp) hp2A, eB _ _ (by simp) (by simp) hp3A⟩⟩
    · skip
      refine ⟨_, pss_cons (ps_expr (pe_call GplacesX (hr.mono (by decide)) (by rfl) Ncheck_places.g Ncheck_places.kp Ncheck_places.b .nil (passes_call (takes_of rfl rfl rfl rfl) (fun _ _ _ _ h => h)) (pa_cons (pv 1) pa_nil)))
      (pss_cons (ps_set (i := 4) sc_init.nd rfl (Or.inl rfl) (pe_op op_sub (pe_callB call_len_seq (by rfl) T.len_ PySem.boot_len (pa_cons (pv 1) pa_nil)) pe_int))
      (pss_cons (ps_expr (pe_call GstretchesX (hr.mono (by decide)) (by rfl) Ncheck_stretches.g Ncheck_stretches.kp Ncheck_stretches.b .nil (passes_call (takes_of rfl rfl rfl rfl) (fun _ _ _ _ h => h)) (pa_cons (pv 2) (pa_cons (pv 4) pa_nil))))
      (pss_cons (ps_set (i := 5) sc_init.nd rfl (Or.inl rfl) (pe_ifExp (pt_cmpR op_isN (pv 3) pe_non (nomark _)) (pe_tup pa_nil) (pv 3)))
      (pss_cons (ps_expr (pe_call GlongsX (hr.mono (by decide)) (by rfl) Ncheck_longs.g Ncheck_longs.kp Ncheck_longs.b .nil (passes_call (takes_of rfl rfl rfl rfl) (fun _ _ _ _ h => h)) (pa_cons (pv 5) (pa_cons (pv 4) pa_nil))))
      (pss_cons (ps_fld (pv 0) (pe_callTy call_tuple_of (by rfl) T.tuple_ (by decide +kernel) (pa_cons (pv 1) pa_nil)) rfl)
      (pss_cons (ps_fld (pv 0) (pe_callTy call_tuple_of (by rfl) T.tuple_ (by decide +kernel) (pa_cons (pv 2) pa_nil)) rfl)
      (pss_cons (ps_fld (pv 0) (pe_callTy call_tuple_of (by rfl) T.tuple_ (by decide +kernel) (pa_cons (pv 5) pa_nil)) rfl)
      (pss_one (ps_fld (pv 0) (pe_dc (own := [("number", 6), ("name", 7), ("_", 8)]) (g := gTup K 2 (gCons (gName 6) (gCons (gTup K 2 (gCons (gName 7) (gCons (gName 8) gNil))) gNil))) (tt := tYes) rfl sc_init.nd (pi_enum (by rfl) T.enumerate_ (pa_cons (pv 1) pa_nil)) (blkOk_by (own := [("number", 6), ("name", 7), ("_", 8)]) (N := ["self", "places", "stretches", "longs", "top", "rows", "number", "name", "_"]) (sc := defScope s_init) (by decide +kernel)) (fun _ _ _ _ _ => (pg_tup (by rfl) (pgs_cons (pg_name (i := 6) sc_init.nd rfl (Or.inl rfl)) (pgs_cons (pg_tup (by rfl) (pgs_cons (pg_name (i := 7) sc_init.nd rfl (Or.inl rfl)) (pgs_cons (pg_name (i := 8) sc_init.nd rfl (Or.inl rfl)) pgs_nil))) pgs_nil)))) (fun _ _ _ _ _ => pts_nil) (fun _ _ _ _ _ => pv 7) (fun _ _ _ _ _ => pv 6)) rfl))))))))), ?_⟩
      refine ⟨_, rfl, v1, rfl, d1, tb, ?_⟩
      cases hp : placesD H v1 with
      | some d =>
        obtain ⟨t, u⟩ := d
        exact fun H' e h he => kE t u (by unfold dueD; rw [hp]) H' e (KI.of h) he
      | none =>
        have hi : isl H 2 6 v1 = true := by
          cases q : isl H 2 6 v1 with
          | true => rfl
          | false =>
            unfold placesD at hp
            rw [q, if_neg Bool.false_ne_true] at hp
            cases hp
        obtain ⟨a1, xs1, rfl, hq1, ha1, l2, l6⟩ := isl_true hi
        have all := pl_all (as := []) (xs := xs1) (H := H) (by
          have e : placesD H (.ref a1) = plD H [] ((seqOf H (.ref a1)).getD []) := by
            unfold placesD
            rw [hi, if_pos rfl]
          rw [e, hq1] at hp
          exact hp)
        have em : manyOf H (.ref a1) = (xs1.length : Int) := by
          unfold manyOf
          rw [hq1]
          rfl
        have due2 : dueD H (.ref a1) v2 v3 = match stretchesD H ((xs1.length : Int) - 1) v2 with
            | some d => some d
            | none => if v3 = .non then none else longsD H ((xs1.length : Int) - 1) v3 := by
          unfold dueD
          rw [hp, em]
        rw [due2] at kE kQ
        intro H1 k1
        have i1 : KI x Pt H H1 := KI.of k1
        have n1 := KT.nt tb k1
        have e1 := i1.ls hx tb
        have hx1 := n1 x _ (by simp) hx
        refine ⟨_, rfl, a1, xs1, rfl, e1.seqX (seqX hq1), _, _, rfl, rfl, ?_⟩
        refine ⟨_, rfl, _, rfl, v2, (xs1.length : Int) - 1, rfl, d2.nt n1, ?_⟩
        rw [stretchesD_nt n1 d2]
        cases hs : stretchesD H ((xs1.length : Int) - 1) v2 with
        | some d =>
          obtain ⟨t, u⟩ := d
          rw [hs] at kE
          exact fun H' e h he => kE t u rfl H' e (i1.trans (KI.same i1.tab h)) he
        | none =>
          rw [hs] at kE kQ
          replace kE : ∀ t u, (if v3 = V.non then none else longsD H ((xs1.length : Int) - 1) v3) = some (t, u) → _ := kE
          replace kQ : (if v3 = V.non then none else longsD H ((xs1.length : Int) - 1) v3) = none → _ := kQ
          have hi2 : isl H ((xs1.length : Int) - 1) ((xs1.length : Int) - 1) v2 = true := by
            cases q : isl H ((xs1.length : Int) - 1) ((xs1.length : Int) - 1) v2 with
            | true => rfl
            | false =>
              unfold stretchesD at hs
              rw [q, if_neg Bool.false_ne_true] at hs
              cases hs
          obtain ⟨a2, xs2, rfl, hq2, _, _, _⟩ := isl_true hi2
          intro H2 s2
          have i2 := i1.trans (KI.same (x := x) i1.tab s2)
          have n2 := n1.trans (same_nt s2)
          refine rows_readG (σ := _) rfl (d3.nt n2) (fun u H3 s3 du u1 u2 => ?_)
          have n3 := n2.trans (same_nt s3)
          have i3 := i2.trans (KI.same (x := x) i2.tab s3)
          have key : longsD H3 ((xs1.length : Int) - 1) u = if v3 = V.non then none else longsD H ((xs1.length : Int) - 1) v3 := by
            by_cases hn : v3 = .non
            · obtain ⟨a, rfl, ha⟩ := u1 hn
              rw [longs_empty _ _ _ ha, if_pos hn]
            · obtain rfl := u2 hn
              rw [longsD_nt n3 d3, if_neg hn]
          refine ⟨_, rfl, _, rfl, u, (xs1.length : Int) - 1, rfl, du, ?_⟩
          rw [← key] at kE kQ
          cases hl : longsD H3 ((xs1.length : Int) - 1) u with
          | some d =>
            obtain ⟨t, z⟩ := d
            rw [hl] at kE
            exact fun H' e h he => kE t z rfl H' e (i3.trans (KI.same i3.tab h)) he
          | none =>
            have hi3 : isl H3 0 2 u = true := by
              cases q : isl H3 0 2 u with
              | true => rfl
              | false =>
                unfold longsD at hl
                rw [q, if_neg Bool.false_ne_true] at hl
                cases hl
            obtain ⟨a3, xs3, rfl, hq3, _, _, _⟩ := isl_true hi3
            have hr3 : rowsOf H v3 = some xs3 := by
              unfold rowsOf
              by_cases hn : v3 = .non
              · obtain ⟨a, ea, ha⟩ := u1 hn
                obtain rfl := V.ref.inj ea
                rw [seq_tup ha] at hq3
                rw [if_pos hn, Option.some.inj hq3]
              · rw [if_neg hn, ← seq_nt n3 d3.1, ← u2 hn]
                exact hq3
            have kF := fun H' h4 h5 => kQ hl H' xs1 xs2 xs3 h4 hq1 hq2 hr3 h5
            clear kE kQ hl hi3 hs hi2 hi hp key due2 u1 u2 em
            intro H4 s4
            have i4 := i3.trans (KI.same (x := x) i3.tab s4)
            have e4 := i4.ls hx tb
            have hx4 := s4 _ _ (s3 _ _ (s2 _ _ hx1))
            refine fld_readG (i := 1) rfl rfl hx4 TC.cl TC.n1 (by decide) (ls_seq e4 hq1) (fun p1 H5 s5 hp1 => ?_)
            have j5 := i4.trans (KI.same (x := x) i4.tab s5)
            have i6 := j5.trans (KI.put (o := .ins C dx (putF "_places" (.ref p1) [])) j5.tab nxP)
            have hx6 : (upd H5 x (.ins C dx (putF "_places" (.ref p1) []))) x = some (.ins C dx (putF "_places" (.ref p1) [])) := upd_same
            have u6 : Ls H5 (upd H5 x (.ins C dx (putF "_places" (.ref p1) []))) := (KI.put j5.tab nxP).ls (s5 _ _ hx4) j5.tab
            generalize upd H5 x (.ins C dx (putF "_places" (.ref p1) [])) = H6 at i6 hx6 u6 ⊢
            have e6 := i6.ls hx tb
            refine fld_readG (i := 2) rfl rfl hx6 TC.cl TC.n2 (Nat.lt_of_le_of_lt (length_putF _ _ _) (by decide)) (ls_seq e6 hq2) (fun p2 H7 s7 hp2 => ?_)
            have j7 := i6.trans (KI.same (x := x) i6.tab s7)
            have i8 := j7.trans (KI.put (o := .ins C dx (putF "_stretches" (.ref p2) (putF "_places" (.ref p1) []))) j7.tab nxP)
            have hx8 : (upd H7 x (.ins C dx (putF "_stretches" (.ref p2) (putF "_places" (.ref p1) [])))) x = some (.ins C dx (putF "_stretches" (.ref p2) (putF "_places" (.ref p1) []))) := upd_same
            have u8 : Ls H7 (upd H7 x (.ins C dx (putF "_stretches" (.ref p2) (putF "_places" (.ref p1) [])))) := (KI.put j7.tab nxP).ls (s7 _ _ hx6) j7.tab
            generalize upd H7 x (.ins C dx (putF "_stretches" (.ref p2) (putF "_places" (.ref p1) []))) = H8 at i8 hx8 u8 ⊢
            have lf8 : (putF "_stretches" (.ref p2) (putF "_places" (.ref p1) [])).length ≤ 2 := Nat.le_trans (length_putF _ _ _) (Nat.succ_le_succ (length_putF _ _ _))
            have e38 : Ls H3 H8 := (((((same_ls s4).trans (same_ls s5)).trans u6).trans (same_ls s7)).trans u8)
            refine fld_readG (i := 5) rfl rfl hx8 TC.cl TC.n3 (Nat.lt_of_le_of_lt lf8 (by decide)) (ls_seq e38 hq3) (fun p3 H9 s9 hp3 => ?_)
            have j9 := i8.trans (KI.same (x := x) i8.tab s9)
            have iA := j9.trans (KI.put (o := .ins C dx (putF "_longs" (.ref p3) (putF "_stretches" (.ref p2) (putF "_places" (.ref p1) [])))) j9.tab nxP)
            have hxA : (upd H9 x (.ins C dx (putF "_longs" (.ref p3) (putF "_stretches" (.ref p2) (putF "_places" (.ref p1) []))))) x = some (.ins C dx (putF "_longs" (.ref p3) (putF "_stretches" (.ref p2) (putF "_places" (.ref p1) [])))) := upd_same
            have uA : Ls H9 (upd H9 x (.ins C dx (putF "_longs" (.ref p3) (putF "_stretches" (.ref p2) (putF "_places" (.ref p1) []))))) := (KI.put j9.tab nxP).ls (s9 _ _ hx8) j9.tab
            generalize upd H9 x (.ins C dx (putF "_longs" (.ref p3) (putF "_stretches" (.ref p2) (putF "_places" (.ref p1) [])))) = HA at iA hxA uA ⊢
            have eA := iA.ls hx tb
            have hp1A : HA p1 = some (.tup xs1) := ((((u6.trans (same_ls s7)).trans u8).trans (same_ls s9)).trans uA) _ _ (by simp) (by simp) hp1
            have hp2A : HA p2 = some (.tup xs2) := ((u8.trans (same_ls s9)).trans uA) _ _ (by simp) (by simp) hp2
            have hp3A : HA p3 = some (.tup xs3) := uA _ _ (by simp) (by simp) hp3
            have ha1 : H a1 = some (.lst xs1) := by
              rcases ha1 with h | h
              · exact h
              · exact absurd ⟨a1, xs1, rfl, h⟩ hl0
            have hsA : SqL K HA a1 xs1 := SqL.of (eA _ _ (by simp) (by simp) ha1)
            refine ⟨_, rfl, a1, xs1, rfl, hsA, fun D hD => dc_it (walk_enum (K := K) (xs := xs1)) (fun i H' => KB D HA H' ∧ ∃ kvs : List (Key × V), H' D = some (.dK kvs) ∧ kvs.length ≤ i) ?_ ?_ ?_ ?_⟩
            · exact ⟨KB.alloc hD, [], upd_same, Nat.zero_le _⟩
            · rintro i H' hi ⟨kb, _⟩
              exact (KB.seq' hD kb).seq hsA
            · rintro i v H' H'' hi ⟨kb, kvs, hk1, hk2⟩ ⟨T1, X, Y, rfl, hT1, rfl, q1, q2⟩
              obtain rfl := Option.some.inj q1
              obtain ⟨t, z, q, rfl, ht⟩ := all Y (List.mem_of_getElem? q2)
              have nD : D ≠ T1 := fun e => by rw [← e, hk1] at hT1; cases hT1
              have ht1 : SqT K (upd H' T1 (.tup [.int (i : Nat), .ref t])) t [.str z, q] := SqT.of ((same_ls (same_alloc hT1)) _ _ (by simp) (by simp) ((KB.seq' hD kb) _ _ (by simp) (by simp) (eA _ _ (by simp) (by simp) ht)))
              refine ⟨T1, _, rfl, SqT.of upd_same, rfl, _, _, rfl, _, _, rfl, t, _, rfl, ht1, rfl, _, _, rfl, _, _, rfl, rfl, rfl, rfl, ?_⟩
              refine lcY ⟨_, rfl, _, rfl, kvs, Sum.inr z, rfl, by rw [upd_ne nD]; exact hk1, (by show kvs.length < sizeLine; exact Nat.lt_of_le_of_lt hk2 (Nat.lt_trans (Nat.lt_of_lt_of_le hi (by omega : xs1.length ≤ 6)) (by decide))), ?_⟩
              exact ⟨fun c o n h => by rw [upd_ne n]; exact (same_alloc hT1) _ _ (kb c o n h), _, upd_same, Nat.le_trans (length_putK _ _ _) (Nat.succ_le_succ hk2)⟩
            · rintro H' ⟨kb, kvs, hk1, hk2⟩
              have nxD : x ≠ D := fun e => by rw [← e, hxA] at hD; cases hD
              have sB : Same HA H' := fun c o h => kb c o (fun e => by rw [e, hD] at h; cases h) h
              have jB := iA.trans (KI.same (x := x) iA.tab sB)
              have iB := jB.trans (KI.put (o := .ins C dx (lf p1 p2 p3 D)) jB.tab nxP)
              have uB : Ls H' (upd H' x (.ins C dx (lf p1 p2 p3 D))) := (KI.put jB.tab nxP).ls (sB _ _ hxA) jB.tab
              have eB := (same_ls sB).trans uB
              exact ⟨_, rfl, x, C, dx, _, rfl, sB _ _ hxA, TC.cl, TC.n4, (Nat.lt_of_le_of_lt (Nat.le_trans (length_putF _ _ _) (Nat.succ_le_succ lf8)) (by decide)), kF _ iB ⟨dx, p1, p2, p3, D, upd_same, eB _ _ (by simp) (by simp) hp1A, eB _ _ (by simp) (by simp) hp2A, eB _ _ (by simp) (by simp) hp3A⟩⟩
end
end K6

set_option maxRecDepth 100000
set_option maxHeartbeats 4000000
/-! xs[::-1] of a tuple. -/
namespace My
open PySem PySem.Spec PyProof.Rows L2 GxR Gd TL HT
section
variable {prog : Program} {w : World} {A : Around} {E : Value → Shared → Prop} {s : Shared}
theorem adj_rev (n : Nat) : Builtin.Slice.sliceAdjust none none (-1) (n : Int) = ((n : Int) - 1, -1) := by
  unfold Builtin.Slice.sliceAdjust
  simp
theorem places_rev (n : Nat) : Builtin.Slice.slicePlaces ((n : Int) - 1) (-1) (-1) = n := by
  unfold Builtin.Slice.slicePlaces
  have h1 : ¬ ((-1 : Int) > 0) := by decide
  simp only [h1, if_false, Int.neg_neg, Int.ediv_one]
  split <;> omega
theorem applied_rev {sl : Addr} {t : Tok} {n : Nat} {Q : Int × Int × Nat → Shared → Prop} (hs : s.heap.IsSliceOf sl .none .none (.int (-1) t)) (h : Q ((n : Int) - 1, -1, n) s) : wpAny (model prog w) A (Builtin.Slice.sliceApplied (.ref sl) (pure (n : Int))) Q E s := by
  obtain ⟨os, ho, _, hd⟩ := id hs
  unfold Builtin.Slice.sliceApplied Builtin.Slice.sliceFields
  apply wpAny_bind
  apply wpAny_bind
  apply wpAny_field ho hd (x := .none) rfl
  apply wpAny_bind
  apply wpAny_field ho hd (x := .none) rfl
  apply wpAny_bind
  apply wpAny_field ho hd (x := .int (-1) t) rfl
  apply wpAny_pure
  apply wpAny_bind
  apply slicePart_int
  show wpAny _ _ (if ((-1 : Int) == 0) = true then _ else _) _ _ s
  rw [if_neg (by decide)]
  apply wpAny_bind
  apply slicePart_none
  apply wpAny_bind
  apply slicePart_none
  apply wpAny_bind
  apply wpAny_pure
  show wpAny _ _ (match Builtin.Slice.sliceAdjust none none (-1) (n : Int) with | (lo, hi) => pure (lo, (-1 : Int), Builtin.Slice.slicePlaces lo hi (-1))) _ _ s
  rw [adj_rev]
  show wpAny _ _ (pure ((n : Int) - 1, (-1 : Int), Builtin.Slice.slicePlaces ((n : Int) - 1) (-1) (-1))) _ _ s
  rw [places_rev]
  exact wpAny_pure h
theorem filterMap_on {α β : Type} {f g : α → Option β} : ∀ {l : List α}, (∀ a ∈ l, f a = g a) → l.filterMap f = l.filterMap g
  | [], _ => rfl
  | a :: r, h => by
    have i := filterMap_on (l := r) fun b hb => h b (List.mem_cons_of_mem _ hb)
    rw [List.filterMap_cons, List.filterMap_cons, h a List.mem_cons_self, i]
theorem fm_id {α : Type} : ∀ ys : List α, (List.range ys.length).filterMap (fun m => ys[m]?) = ys
  | [] => rfl
  | y :: r => by
    rw [List.length_cons, List.range_succ_eq_map, List.filterMap_cons]
    show y :: ((List.range r.length).map Nat.succ).filterMap (fun m => (y :: r)[m]?) = y :: r
    rw [List.filterMap_map]
    exact congrArg (y :: ·) (fm_id r)
theorem pick_rev (xs : Array Value) : ((List.range xs.size).filterMap fun (m : Nat) => xs[(((xs.size : Nat) : Int) - 1 + (m : Int) * (-1)).toNat]?) = xs.toList.reverse := by
  have e : ∀ m ∈ List.range xs.size, (fun (m : Nat) => xs[(((xs.size : Nat) : Int) - 1 + (m : Int) * (-1)).toNat]?) m = (fun m => xs.toList.reverse[m]?) m := fun m hm => by
    have hm' := List.mem_range.mp hm
    show xs[(((xs.size : Nat) : Int) - 1 + (m : Int) * (-1)).toNat]? = xs.toList.reverse[m]?
    rw [show (((xs.size : Nat) : Int) - 1 + (m : Int) * (-1)).toNat = xs.size - 1 - m by omega, List.getElem?_reverse (by rw [Array.length_toList]; exact hm'), Array.length_toList, Array.getElem?_toList]
  rw [filterMap_on e]
  have l : xs.size = xs.toList.reverse.length := by rw [List.length_reverse, Array.length_toList]
  rw [l]
  generalize xs.toList.reverse = ys
  exact fm_id ys
theorem item_rev {t sl : Addr} {items : Array Value} {k : Tok} {Q : Value → Shared → Prop} (ht : IsTup s.heap t items) (hs : s.heap.IsSliceOf sl .none .none (.int (-1) k))
    (h : Q (.ref s.heap.objs.size) { s with heap := s.heap.push { cls := .type "tuple", data := .seq items.toList.reverse.toArray } }) (hsz : items.size ≤ sizeLine) : wpAny (model prog w) A (getItem (.ref t) (.ref sl)) Q E s := by
  have fits : sizeOk (.seq items.toList.reverse.toArray) := by
    show items.toList.reverse.toArray.size ≤ sizeLine
    rw [List.size_toArray, List.length_reverse, Array.length_toList]
    exact hsz
  obtain ⟨os, ho, hc, _⟩ := id hs
  have ty : s.TypeIs (.ref sl) "slice" := ⟨os, ho, hc⟩
  unfold getItem
  try with_reducible apply wpAny_holding
  first | (apply wpAny_bind; apply wpAny_pure) | skip
  apply wpAny_bind
  apply wpAny_sequenceKey ht.typeIs (by decide)
  apply wpAny_bind
  apply wpAny_callSpecial?_slot (name := Str.ofString "__getitem__") ht.typeIs PyProof.Rows.slot_tuple_getitem
  apply wpAny_call_entry PyProof.Rows.slot_tuple_getitem ht.typeIs entry_tuple_getitem ?_ (args_tuple_getitem _ _)
  show wpAny _ _ (Builtin.Tuple.tupleItemsOf (.ref t) >>= _) _ _ s
  apply wpAny_bind
  apply tupleItemsOf_ ht
  apply wpAny_bind
  apply wpAny_typeOf ty
  rw [if_pos (by decide)]
  apply wpAny_bind
  apply applied_rev hs
  have no : ¬ ((((items.size : Nat) : Int) - 1 == 0 && (-1 : Int) == 1 && items.size == items.size) = true) := by simp
  show wpAny _ _ (if (((items.size : Nat) : Int) - 1 == 0 && (-1 : Int) == 1 && items.size == items.size) = true then _ else _) _ _ s
  rw [if_neg no, pick_rev]
  first
    | exact wpAny_bind (m := Builtin.Tuple.tupleExact _) (wpAny_newObj_type (wpAny_pure ⟨_, rfl, wpAny_pure h⟩) fits)
    | exact wpAny_bind (m := Builtin.Tuple.tupleExact _) (wpAny_newObj_type (wpAny_bind (wpAny_pure (wpAny_pure ⟨_, rfl, wpAny_pure h⟩))) fits)
    | exact wpAny_bind (wpAny_bind (m := Builtin.Tuple.tupleExact _) (wpAny_newObj_type (wpAny_pure (wpAny_pure ⟨_, rfl, wpAny_pure h⟩)) fits))
    | exact wpAny_bind (wpAny_bind (m := Builtin.Tuple.tupleExact _) (wpAny_newObj_type (wpAny_pure ⟨_, rfl, wpAny_pure h⟩) fits))
end
def tRevT (K : PySem.W.Frag) (te : TE) : TE := fun σ H Q => te σ H fun x G => ∃ a xs, x = .ref a ∧ SqT K G a xs ∧ ∀ p, G p = none → Q (.ref p) (upd G p (.tup xs.reverse))
theorem pe_revT {X : Cx} {e : Expr} {te : TE} {k : Nat} {p1 p2 p3 pos : Pos} (he : PE X e te) : PE X (.Subscript e (.Slice none none (some (.UnaryOp .USub (.Constant (.int 1) k p1) p2)) p3) pos) (tRevT X.K te) := by
  constructor
  intro pins s σ H Q I h
  apply Subscript_ (thn (he.run pins s σ H _ I h) ?_)
  rintro v s1 ⟨x, G, J, r, a, xs, rfl, hx, q⟩
  cases r
  have step : PO X (some (.UnaryOp .USub (.Constant (.int 1) k p1) p2)) (tPart (tUn (rU fun i => .int (-i)) (tC (.int 1)))) := po_some (pe_un un_neg pe_int)
  apply wpAny_Slice
  apply thn (po_none.run pins s1 σ G (fun o H2 => o = none ∧ H2 = G) J ⟨rfl, rfl⟩)
  rintro vl s2 ⟨_, _, J2, pl, rfl, rfl⟩
  apply thn (po_none.run pins s2 σ _ (fun o H3 => o = none ∧ H3 = _) J2 ⟨rfl, rfl⟩)
  rintro vu s3 ⟨_, _, J3, pu, rfl, rfl⟩
  apply thn (step.run pins s3 σ _ (fun o H4 => o = some (-1) ∧ H4 = _) J3 ⟨1, rfl, -1, rfl, rfl, rfl⟩)
  rintro vs s4 ⟨_, H4, J4, ps, rfl, rfl⟩
  have J5 : L2.Inv X pins σ H4 { s4 with heap := s4.heap.push { cls := .type "slice", data := .fields #[vl, vu, vs] } } := J4.kept (t' := s4.toks) fun b ob z => Heap.get?_push_of_some _ z
  obtain ⟨its, rv, ht, hz⟩ := J5.tuple hx
  cases pl
  cases pu
  cases ps with
  | int _ t =>
    apply tail_any (ops := [.ref a, .ref s4.heap.objs.size]) ht.typeIs PyProof.Rows.slot_tuple_getitem.lookup ?_ (by with_unfolding_all rfl)
    apply item_rev ht (Heap.IsSliceOf.new _ .none .none (.int (-1) t)) ?_ (by rw [List.size_toArray, ← rv.length]; exact hz)
    refine ⟨.ref _, _, J5.laid (t' := s4.toks) (o := .tup xs.reverse) (fun b ob z => Heap.get?_push_of_some _ z) (Nat.le_refl _) ?_, rfl, q _ (J5.hok.fresh (Nat.le_refl _))⟩
    exact ⟨by rw [List.length_reverse]; exact hz, _, rv.reverse, IsTup.new _ _⟩
end My

set_option maxRecDepth 100000
set_option maxHeartbeats 400000
namespace K6
open PySem PySem.Spec PyProof.Rows L2 GxR Gd TL My
theorem hide_put1 {L : Addr} {H : Hp} {o : HO} : Nt (hide L H) (hide L (upd H L o)) := fun c u _ h => by
  obtain ⟨q, h⟩ := hide_some h
  rw [hide_ne q, upd_ne q]
  exact h
def mir (wd : Wd) : Wd := ⟨wd.ps.reverse, (wd.st.map fun p => (p.1, 1 - p.2)).reverse, (wd.lo.map fun p => ((wd.ps.length : Int) - 1 - p.2.1, (wd.ps.length : Int) - 1 - p.1, 1 - p.2.2)).reverse, wd.sp⟩
theorem dpAll_rev {K : PySem.W.Frag} {H : Hp} : ∀ {xs : List V} {ds : List PyData}, DpAll K H xs ds → DpAll K H xs.reverse ds.reverse
  | _, _, .nil => .nil
  | _, _, .cons h t => by
    rw [List.reverse_cons, List.reverse_cons]
    exact dpAll_app (dpAll_rev t) (.cons h .nil)
def mL (top : Int) (p : Int × Int × Int) : Int × Int × Int := (top - p.2.1, top - p.1, 1 - p.2.2)
theorem longs_le {top : Int} : ∀ {low : Int} {lo : List (Int × Int × Int)}, longsOk top low lo → ∀ p ∈ lo, low ≤ p.1 ∧ p.1 + 2 ≤ p.2.1 ∧ p.2.1 ≤ top ∧ 0 ≤ p.2.2 ∧ p.2.2 ≤ 1
  | _, [], _, p, hp => by cases hp
  | low, (f, l, h) :: r, ⟨a, b, c, d, e, q⟩, p, hp => by
    rcases List.mem_cons.mp hp with rfl | hp
    · exact ⟨a, b, c, d, e⟩
    · obtain ⟨x1, x2⟩ := longs_le q p hp
      exact ⟨by omega, x2⟩
/-- the other way round: from 0, and what stands behind ends at or before top - low -/
theorem longs_mir {top : Int} : ∀ {low : Int} {lo : List (Int × Int × Int)}, 0 ≤ low → longsOk top low lo → longsOk top 0 (lo.map (mL top)).reverse ∧ lastL 0 (lo.map (mL top)).reverse ≤ max 0 (top - low)
  | low, [], h0, _ => ⟨True.intro, by show (0 : Int) ≤ _; omega⟩
  | low, (f, l, h) :: r, h0, ⟨a, b, c, d, e, q⟩ => by
    obtain ⟨i1, i2⟩ := longs_mir (low := l) (by omega) q
    rw [List.map_cons, List.reverse_cons]
    refine ⟨longsOk_snoc i1 ?_ ?_ ?_ ?_ ?_, ?_⟩
    · show lastL 0 _ ≤ top - l
      omega
    · show top - l + 2 ≤ top - f
      omega
    · show top - f ≤ top
      omega
    · show 0 ≤ 1 - h
      omega
    · show 1 - h ≤ 1
      omega
    · rw [lastL_snoc]
      show top - f ≤ _
      omega
theorem mir_ok {wd : Wd} (ok : wd.Ok) : (mir wd).Ok where
  p2 := by show 2 ≤ wd.ps.reverse.length; rw [List.length_reverse]; exact ok.p2
  p6 := by show wd.ps.reverse.length ≤ 6; rw [List.length_reverse]; exact ok.p6
  nm := fun p hp => ok.nm p (List.mem_reverse.mp hp)
  nd := by
    show (wd.ps.reverse.map (·.1)).Nodup
    rw [List.map_reverse]
    exact List.pairwise_reverse.mpr (ok.nd.imp fun h => h.symm)
  sl := by
    show (wd.st.map fun p => (p.1, 1 - p.2)).reverse.length + 1 = wd.ps.reverse.length
    rw [List.length_reverse, List.length_map, List.length_reverse]
    exact ok.sl
  st := fun p hp => by
    obtain ⟨q, hq, rfl⟩ := List.mem_map.mp (List.mem_reverse.mp hp)
    obtain ⟨a, b, c⟩ := ok.st q hq
    exact ⟨a, by show 0 ≤ 1 - q.2; omega, by show 1 - q.2 ≤ 1; omega⟩
  ll := by
    show (wd.lo.map _).reverse.length ≤ 2
    rw [List.length_reverse, List.length_map]
    exact ok.ll
  lo := by
    show longsOk ((wd.ps.reverse.length - 1 : Nat) : Int) 0 (wd.lo.map _).reverse
    have p2 := ok.p2
    rw [List.length_reverse]
    have e : ((wd.ps.length : Int) - 1) = ((wd.ps.length - 1 : Nat) : Int) := by omega
    rw [e]
    exact (longs_mir (Int.le_refl 0) ok.lo).1
  sn := ok.sn
  s0 := fun h => ok.s0 (by
    have h' : wd.sp ∈ wd.ps.reverse.map (·.1) := h
    rw [List.map_reverse, List.mem_reverse] at h'
    exact h')
section
variable {P : Program} {w : World} {K : PySem.W.Frag} {mg : Str → Option Value} {base : Heap} {C : Addr}
abbrev s_mirrored : Stmt := inClass (top 23) 18
theorem sc_mirrored : FnScope ["self", "top", "stretches", "longs", "kind", "home", "first", "last"] ["self"] (defScope s_mirrored) := ⟨rfl, rfl, rfl, by decide +kernel, rfl, by decide +kernel, by decide +kernel⟩
abbrev s_renamed : Stmt := inClass (top 23) 19
theorem sc_renamed : FnScope ["self", "names", "name", "roads"] ["self", "names"] (defScope s_renamed) := ⟨rfl, rfl, rfl, by decide +kernel, rfl, by decide +kernel, by decide +kernel⟩
abbrev s_names : Stmt := inClass (top 23) 1
theorem sc_names : FnScope ["self", "name", "_"] ["self"] (defScope s_names) := ⟨rfl, rfl, rfl, by decide +kernel, rfl, by decide +kernel, by decide +kernel⟩
def spMirrored (K : PySem.W.Frag) (C Pt : Addr) : Sp := fun vs H Q _ => ∃ (x : Addr) (wd : Wd), vs = [.ref x] ∧ LineAt K C wd H x ∧ wd.Ok ∧ TabG H Pt ∧ ∀ y H', KT Pt H H' → H y = none → LineAt K C (mir wd) H' y → Q (.ref y) H'
theorem ok_mirrored {f fI Pt : Addr} {fd fdI : FuncData} (F : Fun K "mirrored" "Line.mirrored" s_mirrored f fd) (T : Txt mg) (TC : ClsT K C)
    (ML : Mk K C fI) (gL : mg "Line" = some (.ref C)) (bI : Binds K fdI ["self", "places", "stretches", "longs"] []) (Ginit : FnOk P w K mg base CX0 5 fI fdI ["self", "places", "stretches", "longs"] (spInit K C Pt)) :
    FnOk P w K mg base CX0 7 f fd ["self"] (spMirrored K C Pt) := by
  refine F.ok sc_mirrored (fun vs H Q E h => ?_) (fun cdv A outer s H vs Q E hr h => ?_)
  · obtain ⟨x, wd, rfl, _⟩ := h
    rfl
  · obtain ⟨x, wd, rfl, hL, ok, tb, k⟩ := h
    refine ⟨_, pss_cons (ps_set (i := 1) sc_mirrored.nd rfl (Or.inr rfl) (pe_op op_sub (pe_callB call_len_seq (by rfl) T.len_ PySem.boot_len (pa_cons (pe_fld (pv 0) rfl) pa_nil)) pe_int))
      (pss_cons (ps_setLc (i := 2) (own := [("kind", 4), ("home", 5)]) (g := gTup K 2 (gCons (gName 4) (gCons (gName 5) gNil))) (tt := tYes) rfl sc_mirrored.nd rfl rfl (sw_true rfl rfl rfl (by decide +kernel)) (pi_tup (pe_revT (pe_fld (pv 0) rfl))) (blkOk_by (own := [("kind", 4), ("home", 5)]) (N := ["self", "top", "stretches", "longs", "kind", "home", "first", "last"]) (sc := defScope s_mirrored) (by decide +kernel)) (fun _ _ _ _ _ => (pg_tup (by rfl) (pgs_cons (pg_name (i := 4) sc_mirrored.nd rfl (Or.inl rfl)) (pgs_cons (pg_name (i := 5) sc_mirrored.nd rfl (Or.inl rfl)) pgs_nil)))) (fun _ _ _ _ _ => pts_nil) (fun _ _ _ _ _ => (pe_tup (pa_cons (pv 4) (pa_cons (pe_op op_sub pe_int (pv 5)) pa_nil)))))
      (pss_cons (ps_setLc (i := 3) (own := [("first", 6), ("last", 7), ("home", 5)]) (g := gTup K 3 (gCons (gName 6) (gCons (gName 7) (gCons (gName 5) gNil)))) (tt := tYes) rfl sc_mirrored.nd rfl rfl (sw_true rfl rfl rfl (by decide +kernel)) (pi_tup (pe_revT (pe_fld (pv 0) rfl))) (blkOk_by (own := [("first", 6), ("last", 7), ("home", 5)]) (N := ["self", "top", "stretches", "longs", "kind", "home", "first", "last"]) (sc := defScope s_mirrored) (by decide +kernel)) (fun _ _ _ _ _ => (pg_tup (by rfl) (pgs_cons (pg_name (i := 6) sc_mirrored.nd rfl (Or.inl rfl)) (pgs_cons (pg_name (i := 7) sc_mirrored.nd rfl (Or.inl rfl)) (pgs_cons (pg_name (i := 5) sc_mirrored.nd rfl (Or.inl rfl)) pgs_nil))))) (fun _ _ _ _ _ => pts_nil) (fun _ _ _ _ _ => (pe_tup (pa_cons (pe_op op_sub (pv 1) (pv 7)) (pa_cons (pe_op op_sub (pv 1) (pv 6)) (pa_cons (pe_op op_sub pe_int (pv 5)) pa_nil))))))
      (pss_one (ps_ret (pe_make ML Ginit (hr.mono (by decide)) (by rfl) gL bI .nil pass0 (pa_cons (pe_revT (pe_fld (pv 0) rfl)) (pa_cons (pv 2) (pa_cons (pv 3) pa_nil)))))))), ?_⟩
    obtain ⟨dx, p1, p2, p3, d, xs1, xs2, xs3, hx, hp1, hd1, hp2, hd2, hp3, hd3, hN⟩ := id hL
    have l1 : xs1.length = wd.ps.length := by rw [dpAll_len hd1, List.length_map]
    have l2 : xs2.length = wd.st.length := by rw [dpAll_len hd2, List.length_map]
    have l3 : xs3.length = wd.lo.length := by rw [dpAll_len hd3, List.length_map]
    have p6 := ok.p6
    have sl := ok.sl
    have ll := ok.ll
    refine ⟨_, rfl, x, C, dx, _, _, rfl, hx, TC.cl, TC.n1, lf_places _ _ _ _, p1, xs1, rfl, .inr hp1, _, _, rfl, rfl, ?_⟩
    refine ⟨_, rfl, x, C, dx, _, _, rfl, hx, TC.cl, TC.n2, lf_stretches _ _ _ _, p2, xs2, rfl, hp2, fun r2 hr2 => ?_⟩
    have s1 := same_alloc (o := .tup xs2.reverse) hr2
    have e2 : upd H r2 (.tup xs2.reverse) r2 = some (.tup xs2.reverse) := upd_same
    generalize upd H r2 (.tup xs2.reverse) = H1 at s1 e2 ⊢
    have d2 := dpAll_nt (same_nt s1) (dpAll_rev hd2)
    refine ⟨r2, rfl, ⟨_, SqT.of e2⟩, fun D2 hD2 => lc_it (walk_tup (K := K) (xs := xs2.reverse)) (fun i H' => ∃ ys, H' D2 = some (.lst ys) ∧ DpAll K (hide D2 H') ys ((((wd.st.map fun p => (p.1, 1 - p.2)).reverse).take i).map dP) ∧ KB D2 H1 H') ?_ ?_ ?_ ?_⟩
    · exact ⟨[], upd_same, .nil, KB.alloc hD2⟩
    · rintro i H' hi ⟨ys, _, _, kb⟩
      exact (KB.seq' hD2 kb).seqT (SqT.of e2)
    · rintro i v H' H'' hi ⟨ys, e, dy, kb⟩ ⟨rfl, hv⟩
      obtain ⟨q, hq1, hq2⟩ := dpAll_get d2 hv
      rw [← List.map_reverse] at hq1
      obtain ⟨p, hp, rfl⟩ := get_map hq1
      obtain ⟨t, y1, y2, rfl, ht, r1, r2⟩ := dp_two hq2
      obtain rfl := dp_str r1
      obtain rfl := dp_int r2
      have ht2 := (KB.seq' hD2 kb).seqT ht
      have hp' : ((wd.st.map fun p => (p.1, 1 - p.2)).reverse)[i]? = some (p.1, 1 - p.2) := by
        rw [← List.map_reverse, List.getElem?_map, hp]
        rfl
      have li : ys.length ≤ 6 := by
        rw [dpAll_len dy, List.length_map, List.length_take, List.length_reverse, List.length_map]
        omega
      refine ⟨t, _, rfl, ht2, rfl, _, _, rfl, _, _, rfl, rfl, rfl, lcY ⟨_, rfl, _, rfl, _, _, rfl, rfl, (by show 2 ≤ sizeLine; decide), fun z hz => ?_⟩⟩
      have nz : z ≠ D2 := (ne_of_none e hz).symm
      refine ⟨ys, same_alloc hz _ _ e, lt_line _ (by omega), ys ++ [.ref z], upd_same, ?_, fun c o n h => by rw [upd_ne n]; exact same_alloc hz _ _ (kb c o n h)⟩
      rw [take_at hp', List.map_append]
      refine dpAll_app (dpAll_nt ((hide_mono (same_nt (same_alloc hz))).trans hide_put1) dy) (.cons (.tup (hide_put1.seqT (SqT.of (by rw [hide_ne nz]; exact upd_same))) (.cons (.str _) (.cons (.int _) .nil))) .nil)
    · rintro H2 ⟨ys, e, dy, kb⟩
      have S2 : Same H H2 := fun c o h => kb c o (ne_of_none (s1 _ _ h) hD2) (s1 _ _ h)
      have nD2 : H D2 = none := s1.free hD2
      have lr : xs2.reverse.length = ((wd.st.map fun p => (p.1, 1 - p.2)).reverse).length := by rw [List.length_reverse, List.length_reverse, List.length_map, l2]
      rw [lr, List.take_of_length_le (Nat.le_refl _)] at dy
      have dy2 := dpAll_nt (hide_nt D2 H2) dy
      clear dy d2 kb s1 e2
      refine ⟨_, rfl, x, C, dx, _, _, rfl, S2 _ _ hx, TC.cl, TC.n3, lf_longs _ _ _ _, p3, xs3, rfl, (same_nt S2).seqT hp3, fun r3 hr3 => ?_⟩
      have s3 := same_alloc (o := .tup xs3.reverse) hr3
      have e3 : upd H2 r3 (.tup xs3.reverse) r3 = some (.tup xs3.reverse) := upd_same
      have eD2 := s3 _ _ e
      have dy3 := dpAll_nt (same_nt s3) dy2
      have d3 := dpAll_nt ((same_nt S2).trans (same_nt s3)) (dpAll_rev hd3)
      have S3 := S2.trans s3
      generalize upd H2 r3 (.tup xs3.reverse) = H3 at s3 e3 eD2 dy3 d3 S3 ⊢
      refine ⟨r3, rfl, ⟨_, SqT.of e3⟩, fun D3 hD3 => lc_it (walk_tup (K := K) (xs := xs3.reverse)) (fun i H' => ∃ zs, H' D3 = some (.lst zs) ∧ DpAll K (hide D3 H') zs ((((wd.lo.map (mL ((wd.ps.length : Int) - 1))).reverse).take i).map dL) ∧ KB D3 H3 H') ?_ ?_ ?_ ?_⟩
      · exact ⟨[], upd_same, .nil, KB.alloc hD3⟩
      · rintro i H' hi ⟨zs, _, _, kb⟩
        exact (KB.seq' hD3 kb).seqT (SqT.of e3)
      · rintro i v H' H'' hi ⟨zs, e, dz, kb⟩ ⟨rfl, hv⟩
        obtain ⟨q, hq1, hq2⟩ := dpAll_get d3 hv
        rw [← List.map_reverse] at hq1
        obtain ⟨p, hp, rfl⟩ := get_map hq1
        obtain ⟨t, y1, y2, y3, rfl, ht, r1, r2, r3'⟩ := dp_three hq2
        obtain rfl := dp_int r1
        obtain rfl := dp_int r2
        obtain rfl := dp_int r3'
        have ht2 := (KB.seq' hD3 kb).seqT ht
        have hp' : ((wd.lo.map (mL ((wd.ps.length : Int) - 1))).reverse)[i]? = some (mL ((wd.ps.length : Int) - 1) p) := by
          rw [← List.map_reverse, List.getElem?_map, hp]
          rfl
        have li : zs.length ≤ 6 := by
          rw [dpAll_len dz, List.length_map, List.length_take, List.length_reverse, List.length_map]
          omega
        refine ⟨t, _, rfl, ht2, rfl, _, _, rfl, _, _, rfl, _, _, rfl, rfl, rfl, lcY ⟨_, rfl, _, rfl, _, _, rfl, rfl, _, rfl, _, rfl, _, _, rfl, rfl, _, rfl, _, _, rfl, rfl, (by show 3 ≤ sizeLine; decide), fun z hz => ?_⟩⟩
        have nz : z ≠ D3 := (ne_of_none e hz).symm
        refine ⟨zs, same_alloc hz _ _ e, lt_line _ (by omega), zs ++ [.ref z], upd_same, ?_, fun c o n h => by rw [upd_ne n]; exact same_alloc hz _ _ (kb c o n h)⟩
        rw [take_at hp', List.map_append]
        refine dpAll_app (dpAll_nt ((hide_mono (same_nt (same_alloc hz))).trans hide_put1) dz) (.cons (.tup (hide_put1.seqT (SqT.of (by rw [hide_ne nz]; exact upd_same))) ?_) .nil)
        rw [l1]
        exact .cons (.int _) (.cons (.int _) (.cons (.int _) .nil))
      · rintro H4 ⟨zs, eD3, dz, kb⟩
        have s4 : Same H3 H4 := fun c o h => kb c o (ne_of_none h hD3) h
        have S4 := S3.trans s4
        have lr3 : xs3.reverse.length = ((wd.lo.map (mL ((wd.ps.length : Int) - 1))).reverse).length := by rw [List.length_reverse, List.length_reverse, List.length_map, l3]
        rw [lr3, List.take_of_length_le (Nat.le_refl _)] at dz
        have dz4 := dpAll_nt (hide_nt D3 H4) dz
        have dy4 := dpAll_nt (same_nt s4) dy3
        have eD24 := s4 _ _ eD2
        clear dz d3 kb e3 dy3
        refine ⟨_, rfl, x, C, dx, _, _, rfl, S4 _ _ hx, TC.cl, TC.n1, lf_places _ _ _ _, p1, xs1, rfl, (same_nt S4).seqT hp1, fun r1 hr1 => ?_⟩
        have s5 := same_alloc (o := .tup xs1.reverse) hr1
        have S5 := S4.trans s5
        have e1 : upd H4 r1 (.tup xs1.reverse) r1 = some (.tup xs1.reverse) := upd_same
        have d1 := dpAll_nt (same_nt S5) (dpAll_rev hd1)
        have dz5 := dpAll_nt (same_nt s5) dz4
        have dy5 := dpAll_nt (same_nt s5) dy4
        have eD25 := s5 _ _ eD24
        have eD35 := s5 _ _ eD3
        generalize upd H4 r1 (.tup xs1.reverse) = H5 at s5 S5 e1 d1 dz5 dy5 eD25 eD35 ⊢
        refine ⟨_, rfl, _, rfl, fun y dy0 ny ndy nyd => ?_⟩
        have s6 : Same H5 (upd (upd H5 dy0 (.own y)) y (.ins C dy0 [])) := (same_alloc ndy).trans (same_alloc (by rw [upd_ne nyd.symm]; exact ny))
        have hy6 : upd (upd H5 dy0 (.own y)) y (.ins C dy0 []) y = some (.ins C dy0 []) := upd_same
        generalize upd (upd H5 dy0 (.own y)) y (.ins C dy0 []) = H6 at s6 hy6 ⊢
        have n6 := same_nt s6
        have S6 := S5.trans s6
        have tb6 := (same_kt tb S6).tab
        rw [← List.map_reverse] at d1
        refine ⟨y, dy0, r1, D2, .ref D3, xs1.reverse, ys, mir wd, rfl, hy6, .inr (SqT.of (s6 _ _ e1)), dpAll_nt n6 d1, .inl (SqL.of (s6 _ _ eD25)), dpAll_nt n6 dy5, .inr ⟨D3, zs, rfl, .inl (SqL.of (s6 _ _ eD35)), dpAll_nt n6 dz5⟩, mir_ok ok, tb6, fun H7 ki ln _ => ⟨rfl, ?_⟩⟩
        exact k y H7 ⟨fun c o nc h => ki.keep c o (ne_of_none (S5 _ _ h) ny) nc (S6 _ _ h), ki.tab⟩ (S5.free ny) ln
end
end K6

set_option maxRecDepth 100000
set_option maxHeartbeats 1000000
/-! dict(zip(xs, ys)) of two lists, keys texts or numbers -/
namespace My
open PySem PySem.Spec PyProof.Rows L2 GxR Gd
def tDZip (K : PySem.W.Frag) (ta : TA) : TE := fun σ H Q => ta σ H fun vs H1 => ∃ (a b : Addr) (ks : List Key) (ys : List V), vs = [.ref a, .ref b] ∧ SqL K H1 a (ks.map kV) ∧ SqL K H1 b ys ∧ ks.length = ys.length ∧
  ∀ p, H1 p = none → Q (.ref p) (upd H1 p (.dK (mergeK [] (ks.zip ys))))
theorem zip_kv : ∀ {ks : List Key} {ys : List V} {us : List Value}, ks.length = ys.length → Vals ys us → KV (ks.zip ys) (ks.zip us)
  | [], [], _, _, .nil => .nil
  | k :: ks, y :: ys, _, h, .cons r t => .cons ⟨rfl, r⟩ (zip_kv (by simpa using h) t)
theorem zip_is {P : Program} {w : World} {ks : List Key} {us vs : List Value} (r : Vals (ks.map kV) us) {i : Nat} {k v : Value} (h1 : us[i]? = some k) (h2 : vs[i]? = some v) : ∃ q, (ks.zip vs)[i]? = some (q, v) ∧ keyIs q k = true := by
  have hl := r.length
  rw [List.length_map] at hl
  have hi : i < ks.length := by
    rw [hl]
    exact (List.getElem?_eq_some_iff.mp h1).1
  refine ⟨ks[i], ?_, ?_⟩
  · rw [List.getElem?_zip_eq_some]
    exact ⟨List.getElem?_eq_getElem hi, h2⟩
  · obtain ⟨u, hu, ru⟩ := r.get (i := i) (x := kV ks[i]) (by rw [List.getElem?_map, List.getElem?_eq_getElem hi]; rfl)
    rw [h1] at hu
    obtain rfl := Option.some.inj hu
    exact kV_is (P := P) (w := w) ru
theorem pe_dictZip {X : Cx} {e e2 : Expr} {ta : TA} {p p2 pos pos2 : Pos} (hcalm : X.calm = true) (hg : Gl X "dict") (hm : X.mg "dict" = none) (hg2 : Gl X "zip") (hm2 : X.mg "zip" = none) (ha : PA X [e, e2] ta)
    (hs : starEach [e, e2] X.env = (false, eval e X.env) :: starEach [e2] X.env := by rfl) (hpl : (backTo pos2 (starEach [e2] X.env)).any (·.1) = false := by rfl)
    (he : starEach [.Call (.Name "zip" p2) [e, e2] [] pos2] X.env = (false, eval (.Call (.Name "zip" p2) [e, e2] [] pos2) X.env) :: starEach [] X.env := by rfl) :
    PE X (.Call (.Name "dict" p) [.Call (.Name "zip" p2) [e, e2] [] pos2] [] pos) (tDZip X.K ta) := by
  refine ⟨fun pins s σ H Q I h => ?_⟩
  refine wpAny_Call_Name_kw (ld_blt I hg hm (show bootBuiltins "dict" = some (.type "dict") by decide +kernel) ?_)
  refine PyProof.Rows.callWith_type1 ?_ he (by rfl)
  rw [he]
  show wpAny _ _ (spliced ((false, eval (.Call (.Name "zip" p2) [e, e2] [] pos2) X.env) :: backTo pos (starEach [] X.env))) _ _ s
  refine Calls.spliced_cons ?_
  refine Call_ (ld_blt I hg2 hm2 PyProof.Rows.boot_zip (PyProof.Rows.callWith_type1 (thn (ha.run pos2 pins s σ H _ I h) fun us s1 ⟨vs, H1, I1, r1, q1⟩ => ?_) hs hpl))
  obtain ⟨a, b, ks, ys, ex, hqx, hqy, hlen, q⟩ := q1
  subst ex
  cases r1 with
  | cons r rr =>
    cases rr with
    | cons r' rr =>
      cases rr
      cases r
      cases r'
      obtain ⟨its, rv, pl1, hz1⟩ := I1.list hqx
      obtain ⟨its2, rv2, pl2, _⟩ := I1.list hqy
      have la : a < s1.heap.objs.size := pl1.lt
      have lb : b < s1.heap.objs.size := pl2.lt
      have l1 := rv.length
      have l2 := rv2.length
      rw [List.length_map] at l1 hz1
      refine call_zip_2 pl1.isList pl2.isList fun h' hz hTI hTO h1 h2 hsz hk => ?_
      refine Calls.spliced_nil ?_
      have D := PySem.W.ktu_apart s1.heap.objs.size a b la lb
      have hn : min its.toArray.size its2.toArray.size = ks.length := by simp; omega
      refine PySem.call_dict_pairs (knd := mixKind X.prog X.w) (kvs := ks.zip its2) (PairArg.zip _ _ _ _ _ a b D its.toArray its2.toArray) (I1.ok.hd hcalm)
        ⟨hz, hTI, ⟨_, _, hTO⟩, h1, h2, pl1.isList.at fun o e => hk _ o e, pl2.isList.at fun o e => hk _ o e⟩ ⟨?_, ?_⟩ (by rw [hn]; exact hz1) fun h2' tk hd' hk2 => ?_
      · rw [List.length_zip, hn]
        omega
      · rintro i key v ⟨e1, e2⟩
        exact zip_is (P := X.prog) (w := X.w) rv (by simpa using e1) (by simpa using e2)
      · have I2 : Inv X pins σ H1 { s1 with heap := h' } := I1.kept (t' := s1.toks) hk
        have big : s1.heap.objs.size ≤ h'.objs.size := by omega
        have hmS : (h'.objs.size == sysModules) = false := beq_eq_false_iff_ne.mpr (Ne.symm (Nat.ne_of_lt I2.big))
        have rel : KV (mergeK [] (ks.zip ys)) (merged [] (ks.zip its2)) := KV.merge (zip_kv hlen rv2) .nil
        have hl9 : (mergeK [] (ks.zip ys)).length ≤ sizeLine := by
          refine Nat.le_trans (length_mergeK _ _) ?_
          rw [List.length_nil, Nat.zero_add, List.length_zip]
          omega
        have keep : ∀ c o, s1.heap.get? c = some o → h2'.get? c = some o := fun c o e => hk2 c o (fun hm' => by
          have hc := Heap.lt_size e
          simp only [List.mem_cons, List.not_mem_nil, or_false] at hm'
          rcases hm' with z | z | z | z <;> (rw [z] at hc; exact absurd hc (by show ¬ ((_ : Nat) < _); omega))) (hk _ _ e)
        exact ⟨.ref h'.objs.size, upd H1 h'.objs.size (.dK (mergeK [] (ks.zip ys))), I1.laid (t' := tk) keep big (show ObjOk X.prog X.w _ _ _ (.dK (mergeK [] (ks.zip ys))) from ⟨hl9, hmS, merged [] (ks.zip its2), rel, hd'⟩), rfl, q _ (I1.hok.fresh big)⟩
end My

set_option maxRecDepth 100000
set_option maxHeartbeats 400000
namespace K6
open PySem PySem.Spec PyProof.Rows L2 GxR Gd TL My
/-- what a name becomes -/
def nv (kvs : List (Key × V)) (z : Str) : V := (valV kvs (Sum.inr z)).getD (.str z)
def strOf : V → Str
  | .str z => z
  | _ => ""
def reD (kvs : List (Key × V)) : List Str → List (Str × Int) → Due
  | _, [] => none
  | as, p :: r => if nm (nv kvs p.1) = true then (if nv kvs p.1 ∈ as.map V.str then some (.twice, nv kvs p.1) else reD kvs (as ++ [strOf (nv kvs p.1)]) r) else some (.name, nv kvs p.1)
inductive Rw (H : Hp) (kvs : List (Key × V)) : List V → List (Str × Int) → Prop
  | nil : Rw H kvs [] []
  | cons {t : Addr} {p : Str × Int} {ys : List V} {ps : List (Str × Int)} (h : H t = some (.tup [nv kvs p.1, .int p.2])) (r : Rw H kvs ys ps) : Rw H kvs (.ref t :: ys) (p :: ps)
theorem Rw.keep {H H' : Hp} {kvs : List (Key × V)} (k : ∀ c xs, H c = some (.tup xs) → H' c = some (.tup xs)) : ∀ {ys : List V} {ps : List (Str × Int)}, Rw H kvs ys ps → Rw H' kvs ys ps
  | _, _, .nil => .nil
  | _, _, .cons h r => .cons (k _ _ h) (Rw.keep k r)
theorem Rw.snoc {H : Hp} {kvs : List (Key × V)} {t : Addr} {p : Str × Int} (h : H t = some (.tup [nv kvs p.1, .int p.2])) : ∀ {ys : List V} {ps : List (Str × Int)}, Rw H kvs ys ps → Rw H kvs (ys ++ [.ref t]) (ps ++ [p])
  | _, _, .nil => .cons h .nil
  | _, _, .cons h' r => .cons h' (Rw.snoc h r)
theorem Rw.len {H : Hp} {kvs : List (Key × V)} : ∀ {ys : List V} {ps : List (Str × Int)}, Rw H kvs ys ps → ys.length = ps.length
  | _, _, .nil => rfl
  | _, _, .cons _ r => congrArg Nat.succ (Rw.len r)
theorem Rw.mem {H : Hp} {kvs : List (Key × V)} : ∀ {ys : List V} {ps : List (Str × Int)}, Rw H kvs ys ps → ∀ y ∈ ys, ∃ t p, p ∈ ps ∧ y = .ref t ∧ H t = some (.tup [nv kvs p.1, .int p.2])
  | _, _, .nil, y, hy => by cases hy
  | _, _, .cons h r, y, hy => by
    rcases List.mem_cons.mp hy with rfl | hy
    · exact ⟨_, _, List.mem_cons_self, rfl, h⟩
    · obtain ⟨t, p, a, b⟩ := Rw.mem r y hy
      exact ⟨t, p, List.mem_cons_of_mem _ a, b⟩
theorem nameOf_ref {H : Hp} {t : Addr} {v q : V} (h : H t = some (.tup [v, q])) : nameOf H (.ref t) = strOf v := by
  unfold nameOf
  rw [tup_tup h]
  cases v <;> rfl
theorem plD_rw {H : Hp} {kvs : List (Key × V)} : ∀ {ys : List V} {ps : List (Str × Int)} {as : List Str}, Rw H kvs ys ps → (∀ p ∈ ps, 1 ≤ p.2 ∧ p.2 ≤ 3) → plD H as ys = reD kvs as ps
  | _, _, _, .nil, _ => rfl
  | _, p :: ps, as, .cons (t := t) (ys := ys) h r, hp => by
    obtain ⟨h1, h2⟩ := hp p List.mem_cons_self
    have ih := plD_rw (as := as ++ [strOf (nv kvs p.1)]) r fun q hq => hp q (List.mem_cons_of_mem _ hq)
    have e1 : pl1 H as (.ref t) = (if nm (nv kvs p.1) = true then (if nv kvs p.1 ∈ as.map V.str then some (.twice, nv kvs p.1) else none) else some (.name, nv kvs p.1)) := by
      unfold pl1
      rw [tup_tup h]
      have w : wh 1 3 (.int p.2) = true := by simp [wh, h1, h2]
      simp only [w, if_true]
    show (match pl1 H as (.ref t) with | some d => some d | none => plD H (as ++ [nameOf H (.ref t)]) ys) = (if nm (nv kvs p.1) = true then (if nv kvs p.1 ∈ as.map V.str then some (Tag.twice, nv kvs p.1) else reD kvs (as ++ [strOf (nv kvs p.1)]) ps) else some (Tag.name, nv kvs p.1))
    rw [e1, nameOf_ref h, ih]
    by_cases c1 : nm (nv kvs p.1) = true
    · by_cases c2 : nv kvs p.1 ∈ as.map V.str
      · rw [if_pos c1, if_pos c2, if_pos c1, if_pos c2]
      · rw [if_pos c1, if_neg c2, if_pos c1, if_neg c2]
    · rw [if_neg c1, if_neg c1]
/-- the new names are good and unlike -/
theorem reD_none {kvs : List (Key × V)} : ∀ {ps : List (Str × Int)} {as : List Str}, reD kvs as ps = none → as.Nodup → (∀ p ∈ ps, nv kvs p.1 = .str (strOf (nv kvs p.1)) ∧ NameOk (strOf (nv kvs p.1))) ∧ (as ++ ps.map fun p => strOf (nv kvs p.1)).Nodup
  | [], as, _, nd => ⟨fun p hp => (by cases hp), (by rw [List.map_nil, List.append_nil]; exact nd)⟩
  | p :: ps, as, h, nd => by
    replace h : (if nm (nv kvs p.1) = true then (if nv kvs p.1 ∈ as.map V.str then some (Tag.twice, nv kvs p.1) else reD kvs (as ++ [strOf (nv kvs p.1)]) ps) else some (Tag.name, nv kvs p.1)) = none := h
    by_cases c1 : nm (nv kvs p.1) = true
    · rw [if_pos c1] at h
      by_cases c2 : nv kvs p.1 ∈ as.map V.str
      · rw [if_pos c2] at h
        cases h
      · rw [if_neg c2] at h
        obtain ⟨z, ez, oz⟩ := nm_str c1
        have es : strOf (nv kvs p.1) = z := by rw [ez]; rfl
        have nz : z ∉ as := fun hz => c2 (by rw [ez]; exact List.mem_map.mpr ⟨z, hz, rfl⟩)
        obtain ⟨i1, i2⟩ := reD_none h (by
          rw [es]
          exact List.nodup_append.mpr ⟨nd, (by simp), fun x hx y hy => by
            rw [List.mem_singleton.mp hy]
            exact fun e => nz (e ▸ hx)⟩)
        refine ⟨fun q hq => ?_, ?_⟩
        · rcases List.mem_cons.mp hq with rfl | hq
          · rw [es]
            exact ⟨ez, oz⟩
          · exact i1 q hq
        · rw [List.map_cons, ← List.singleton_append, ← List.append_assoc]
          exact i2
    · rw [if_neg c1] at h
      cases h
def rew (kvs : List (Key × V)) (ps : List (Str × Int)) : List (Str × Int) := ps.map fun p => (strOf (nv kvs p.1), p.2)
theorem rw_dp {K : PySem.W.Frag} {H : Hp} {kvs : List (Key × V)} : ∀ {ys : List V} {ps : List (Str × Int)}, Rw H kvs ys ps → (∀ p ∈ ps, nv kvs p.1 = .str (strOf (nv kvs p.1))) → DpAll K H ys ((rew kvs ps).map dP)
  | _, _, .nil, _ => .nil
  | _, p :: _, .cons h r, hp => by
    have e := hp p List.mem_cons_self
    rw [e] at h
    exact .cons (.tup (SqT.of h) (.cons (.str _) (.cons (.int _) .nil))) (rw_dp r fun q hq => hp q (List.mem_cons_of_mem _ hq))
/-- a letter that is none of six names -/
theorem sub_len {α : Type} [DecidableEq α] : ∀ {l m : List α}, l.Nodup → (∀ x ∈ l, x ∈ m) → l.length ≤ m.length
  | [], _, _, _ => Nat.zero_le _
  | x :: r, m, nd, h => by
    rw [List.nodup_cons] at nd
    have hx := h x List.mem_cons_self
    have i := sub_len (m := m.erase x) nd.2 fun y hy => (List.mem_erase_of_ne (fun e => nd.1 (by rw [← e]; exact hy))).mpr (h y (List.mem_cons_of_mem _ hy))
    rw [List.length_erase_of_mem hx] at i
    have := List.length_pos_of_mem hx
    rw [List.length_cons]
    omega
def seven : List Str := ["a", "b", "c", "d", "e", "f", "g"]
theorem seven_ok : ∀ z ∈ seven, NameOk z := by
  intro z hz
  simp only [seven, List.mem_cons, List.not_mem_nil, or_false] at hz
  rcases hz with rfl | rfl | rfl | rfl | rfl | rfl | rfl <;> exact ⟨by decide, by decide, by decide⟩
theorem spare {l : List Str} (h : l.length ≤ 6) : ∃ z, NameOk z ∧ z ∉ l := by
  apply Classical.byContradiction
  intro n
  have := sub_len (l := seven) (m := l) (by decide) fun z hz => Classical.byContradiction fun hn => n ⟨z, seven_ok z hz, hn⟩
  have e : seven.length = 7 := rfl
  omega
theorem re_ok {kvs : List (Key × V)} {wd : Wd} (ok : wd.Ok) (h : reD kvs [] wd.ps = none) : ∃ sp, Wd.Ok ⟨rew kvs wd.ps, wd.st, wd.lo, sp⟩ := by
  obtain ⟨i1, i2⟩ := reD_none h .nil
  have lr : (rew kvs wd.ps).length = wd.ps.length := List.length_map _
  have em : (rew kvs wd.ps).map (·.1) = wd.ps.map fun p => strOf (nv kvs p.1) := by
    unfold rew
    rw [List.map_map]
    rfl
  obtain ⟨sp, s1, s2⟩ := spare (l := (rew kvs wd.ps).map (·.1)) (by rw [List.length_map, lr]; exact ok.p6)
  refine ⟨sp, ⟨?_, ?_, ?_, ?_, ?_, ok.st, ok.ll, ?_, s1, s2⟩⟩
  · show 2 ≤ (rew kvs wd.ps).length
    rw [lr]; exact ok.p2
  · show (rew kvs wd.ps).length ≤ 6
    rw [lr]; exact ok.p6
  · intro p hp
    obtain ⟨q, hq, rfl⟩ := List.mem_map.mp hp
    exact ⟨(i1 q hq).2, (ok.nm q hq).2⟩
  · show ((rew kvs wd.ps).map (·.1)).Nodup
    rw [em]
    exact i2
  · show wd.st.length + 1 = (rew kvs wd.ps).length
    rw [lr]; exact ok.sl
  · show longsOk (((rew kvs wd.ps).length - 1 : Nat) : Int) 0 wd.lo
    rw [lr]; exact ok.lo
theorem th_nv {H : Hp} {kvs : List (Key × V)} (h : ∀ p ∈ kvs, Th H p.2) {z : Str} (oz : NameOk z) : Th H (nv kvs z) := by
  unfold nv
  cases e : valV kvs (Sum.inr z) with
  | none => exact oz.th
  | some v =>
    unfold valV at e
    obtain ⟨p, hp, rfl⟩ := Option.map_eq_some_iff.mp e
    exact h p (List.mem_of_find?_eq_some hp)
section
variable {P : Program} {w : World} {K : PySem.W.Frag} {mg : Str → Option Value} {base : Heap} {C : Addr}
variable {cl : Tag → Addr} {CS fS f1 f2 f3 g1 : Addr} {fdS fd1 fd2 fd3 gd1 : FuncData}
/-- the places are refused -/
def spInitP (C : Addr) (cl : Tag → Addr) (Pt : Addr) : Sp := fun vs H Q E => ∃ (x dx : Addr) (v1 v2 v3 : V) (t : Tag) (u : V), vs = [.ref x, v1, v2, v3] ∧ H x = some (.ins C dx []) ∧ Deep H v1 ∧ TabG H Pt ∧ placesD H v1 = some (t, u) ∧
  ∀ H' e, KT Pt H H' → H' e = none → E (.ref (cl t)) (some e) (upd H' e (.xd [("found", u)]))
theorem ok_initP {f Pt : Addr} {fd : FuncData} (F : FunV K "__init__" "Line.__init__" s_init f fd) (T : Txt mg) (TC : ClsT K C)
    (Ncheck_places : Fn K mg "_check_places" s_check_places ["places"] f1 fd1) (GplacesX : FnOk P w K mg base (CX P w) 5 f1 fd1 ["places"] (spPlacesX cl Pt))
    (Ncheck_stretches : Fn K mg "_check_stretches" s_check_stretches ["stretches", "many"] f2 fd2) (Gcheck_stretches : FnOk P w K mg base CX0 3 f2 fd2 ["stretches", "many"] (spCheckStretches K))
    (Ncheck_longs : Fn K mg "_check_longs" s_check_longs ["longs", "top"] f3 fd3) (Gcheck_longs : FnOk P w K mg base CX0 3 f3 fd3 ["longs", "top"] (spCheckLongs K)) :
    FnOk P w K mg base (CX P w) 6 f fd ["self", "places", "stretches", "longs"] (spInitP C cl Pt) := by
  refine F.okX sc_init (fun vs H Q E h => ?_) (fun cdv A outer s H vs Q E hr h => ?_)
  · obtain ⟨x, dx, v1, v2, v3, t, u, rfl, _⟩ := h
    rfl
  · obtain ⟨x, dx, v1, v2, v3, t, u, rfl, hx, d1, tb, hd, kE⟩ := h
    refine ⟨_, pss_cons (ps_expr (pe_call GplacesX (hr.mono (by decide)) (by rfl) Ncheck_places.g Ncheck_places.kp Ncheck_places.b .nil (passes_call (takes_of rfl rfl rfl rfl) (fun _ _ _ _ h => h)) (pa_cons (pv 1) pa_nil)))
      (pss_cons (ps_set (i := 4) sc_init.nd rfl (Or.inl rfl) (pe_op op_sub (pe_callB call_len_seq (by rfl) T.len_ PySem.boot_len (pa_cons (pv 1) pa_nil)) pe_int))
      (pss_cons (ps_expr (pe_call Gcheck_stretches (hr.mono (by decide)) (by rfl) Ncheck_stretches.g Ncheck_stretches.kp Ncheck_stretches.b .nil pass0 (pa_cons (pv 2) (pa_cons (pv 4) pa_nil))))
      (pss_cons (ps_set (i := 5) sc_init.nd rfl (Or.inl rfl) (pe_ifExp (pt_cmpR op_isN (pv 3) pe_non (nomark _)) (pe_tup pa_nil) (pv 3)))
      (pss_cons (ps_expr (pe_call Gcheck_longs (hr.mono (by decide)) (by rfl) Ncheck_longs.g Ncheck_longs.kp Ncheck_longs.b .nil pass0 (pa_cons (pv 5) (pa_cons (pv 4) pa_nil))))
      (pss_cons (ps_fld (pv 0) (pe_callTy call_tuple_of (by rfl) T.tuple_ (by decide +kernel) (pa_cons (pv 1) pa_nil)) rfl)
      (pss_cons (ps_fld (pv 0) (pe_callTy call_tuple_of (by rfl) T.tuple_ (by decide +kernel) (pa_cons (pv 2) pa_nil)) rfl)
      (pss_cons (ps_fld (pv 0) (pe_callTy call_tuple_of (by rfl) T.tuple_ (by decide +kernel) (pa_cons (pv 5) pa_nil)) rfl)
      (pss_one (ps_fld (pv 0) (pe_dc (own := [("number", 6), ("name", 7), ("_", 8)]) (g := gTup K 2 (gCons (gName 6) (gCons (gTup K 2 (gCons (gName 7) (gCons (gName 8) gNil))) gNil))) (tt := tYes) rfl sc_init.nd (pi_enum (by rfl) T.enumerate_ (pa_cons (pv 1) pa_nil)) (blkOk_by (own := [("number", 6), ("name", 7), ("_", 8)]) (N := ["self", "places", "stretches", "longs", "top", "rows", "number", "name", "_"]) (sc := defScope s_init) (by decide +kernel)) (fun _ _ _ _ _ => (pg_tup (by rfl) (pgs_cons (pg_name (i := 6) sc_init.nd rfl (Or.inl rfl)) (pgs_cons (pg_tup (by rfl) (pgs_cons (pg_name (i := 7) sc_init.nd rfl (Or.inl rfl)) (pgs_cons (pg_name (i := 8) sc_init.nd rfl (Or.inl rfl)) pgs_nil))) pgs_nil)))) (fun _ _ _ _ _ => pts_nil) (fun _ _ _ _ _ => pv 7) (fun _ _ _ _ _ => pv 6)) rfl))))))))), ?_⟩
    refine ⟨_, rfl, v1, rfl, d1, tb, ?_⟩
    rw [hd]
    exact fun H' e h he => kE H' e h he
def RenD (H : Hp) (v : V) (wd : Wd) : Due := match v with
  | .ref a => match H a with
    | some (.dK kvs) => reD kvs [] wd.ps
    | _ => some (.name, v)
  | _ => some (.name, v)
def spRenamed (K : PySem.W.Frag) (C : Addr) (cl : Tag → Addr) (Pt : Addr) : Sp := fun vs H Q E => ∃ (x : Addr) (v : V) (wd : Wd), vs = [.ref x, v] ∧ LineAt K C wd H x ∧ wd.Ok ∧ TabG H Pt ∧ Th H v ∧ (∀ a kvs, v = .ref a → H a = some (.dK kvs) → ∀ p ∈ kvs, Th H p.2) ∧
  (∀ t u, RenD H v wd = some (t, u) → ∀ H' e, KT Pt H H' → H' e = none → E (.ref (cl t)) (some e) (upd H' e (.xd [("found", u)]))) ∧
  (∀ a kvs, v = .ref a → H a = some (.dK kvs) → reD kvs [] wd.ps = none → ∀ y wd' H', KT Pt H H' → H y = none → wd'.ps = rew kvs wd.ps → wd'.st = wd.st → wd'.lo = wd.lo → wd'.Ok → LineAt K C wd' H' y → NewD H H' y → Q (.ref y) H')
theorem ren_comp {K : PySem.W.Frag} {C : Addr} {wd : Wd} {H : Hp} {x a dx p1 p2 p3 d : Addr} {xs1 : List V} {kvs : List (Key × V)} {G : VK} (TC : ClsT K C) (hx : H x = some (.ins C dx (lf p1 p2 p3 d))) (hp1 : SqT K H p1 xs1) (hd1 : DpAll K H xs1 (wd.ps.map dP))
    (ha : H a = some (.dK kvs)) (p6 : wd.ps.length ≤ 6) (k : ∀ D H2 ys, H D = none → H2 D = some (.lst ys) → Rw H2 kvs ys wd.ps → Same H H2 → G (.ref D) H2) :
    tLc (iTup K (tFld K (tVar 0) "_places")) (gTup K 2 (gCons (gName 2) (gCons (gName 3) gNil))) tYes (tTup (tCons (tDGet2 (tVar 1) (tVar 2) (tVar 2)) (tCons (tVar 3) tNil))) [2, 3] [some (.ref x), some (.ref a), none, none] H G := by
  have l1 : xs1.length = wd.ps.length := by rw [dpAll_len hd1, List.length_map]
  refine ⟨_, rfl, x, C, dx, _, _, rfl, hx, TC.cl, TC.n1, lf_places _ _ _ _, p1, rfl, ⟨_, hp1⟩, fun D hD => lc_it (walk_tup (K := K) (xs := xs1)) (fun i H' => ∃ ys, H' D = some (.lst ys) ∧ Rw H' kvs ys (wd.ps.take i) ∧ KB D H H') ?_ ?_ ?_ ?_⟩
  · exact ⟨[], upd_same, .nil, KB.alloc hD⟩
  · rintro i H' hi ⟨ys, _, _, kb⟩
    exact (KB.seq' hD kb).seqT hp1
  · rintro i v H' H'' hi ⟨ys, e, dy, kb⟩ ⟨rfl, hv⟩
    obtain ⟨q, hq1, hq2⟩ := dpAll_get hd1 hv
    obtain ⟨p, hp, rfl⟩ := get_map hq1
    obtain ⟨t, y1, y2, rfl, ht, r1, r2⟩ := dp_two hq2
    obtain rfl := dp_str r1
    obtain rfl := dp_int r2
    have ht2 := (KB.seq' hD kb).seqT ht
    have ha2 := kb _ _ (ne_of_none ha hD) ha
    have li : ys.length ≤ 6 := by
      rw [dy.len, List.length_take]
      omega
    refine ⟨t, _, rfl, ht2, rfl, _, _, rfl, _, _, rfl, rfl, rfl, lcY ⟨_, rfl, a, rfl, .inl ⟨kvs, Rd.of ha2⟩, _, rfl, _, rfl, _, DGet.k (k := Sum.inr p.1) ha2, _, rfl, (by show 2 ≤ sizeLine; decide), fun z hz => ?_⟩⟩
    have nz : z ≠ D := (ne_of_none e hz).symm
    refine ⟨ys, same_alloc hz _ _ e, lt_line _ (by omega), ys ++ [.ref z], upd_same, ?_, fun c o n h => by rw [upd_ne n]; exact same_alloc hz _ _ (kb c o n h)⟩
    rw [take_at hp]
    have e2 : upd (upd H'' z (.tup [nv kvs p.1, .int p.2])) D (.lst (ys ++ [.ref z])) z = some (.tup [nv kvs p.1, .int p.2]) := by rw [upd_ne nz]; exact upd_same
    refine Rw.snoc e2 (dy.keep fun c xs h => ?_)
    rw [upd_ne (ne_of h e (by simp))]
    exact same_alloc hz _ _ h
  · rintro H2 ⟨ys, e, dy, kb⟩
    rw [l1, List.take_of_length_le (Nat.le_refl _)] at dy
    exact k D H2 ys hD e dy fun c o h => kb c o (ne_of_none h hD) h
theorem RenD_dic {H : Hp} {a : Addr} {kvs : List (Key × V)} {wd : Wd} (h : H a = some (.dK kvs)) : RenD H (.ref a) wd = reD kvs [] wd.ps := by
  unfold RenD
  simp only [h]
theorem ok_renamed {f fI Pt : Addr} {fd fdI : FuncData} (F : Fun K "renamed" "Line.renamed" s_renamed f fd) (T : Txt mg) (TC : ClsT K C) (ES : SeT K mg CS fS fdS sSE)
    (ENoName : ExC K mg "NoName" "NoName.__init__" sNoName (cl .name) g1 gd1)
    (ML : Mk K C fI) (gL : mg "Line" = some (.ref C)) (bI : Binds K fdI ["self", "places", "stretches", "longs"] []) (Ginit : FnOk P w K mg base CX0 5 fI fdI ["self", "places", "stretches", "longs"] (spInit K C Pt))
    (GinitP : FnOk P w K mg base (CX P w) 6 fI fdI ["self", "places", "stretches", "longs"] (spInitP C cl Pt)) :
    FnOk P w K mg base (CX P w) 8 f fd ["self", "names"] (spRenamed K C cl Pt) := by
  refine F.okX sc_renamed (fun vs H Q E h => ?_) (fun cdv A outer s H vs Q E hr h => ?_)
  · obtain ⟨x, v, wd, rfl, _⟩ := h
    rfl
  · obtain ⟨x, v, wd, rfl, hL, ok, tb, th, tk, kE, kQ⟩ := h
    have p6 := ok.p6
    have nope : RenD H v wd = some (.name, v) → ∀ e, H e = none → E (.ref (cl .name)) (some e) (upd H e (.xd [("found", v)])) := fun hd e he => kE _ _ hd H e (KT.refl tb) he
    by_cases hdic : ∃ a kvs, v = .ref a ∧ H a = some (.dK kvs)
    · obtain ⟨a, kvs, rfl, ha⟩ := hdic
      have tk' := tk a kvs rfl ha
      rw [RenD_dic ha] at kE
      have kQ' := kQ a kvs rfl ha
      obtain ⟨dx, p1, p2, p3, d, xs1, xs2, xs3, hx, hp1, hd1, hp2, hd2, hp3, hd3, hN⟩ := id hL
      have l1 : xs1.length = wd.ps.length := by rw [dpAll_len hd1, List.length_map]
      cases hd : reD kvs [] wd.ps with
      | none =>
        obtain ⟨sp, ok2⟩ := re_ok ok hd
        obtain ⟨i1, i2⟩ := reD_none hd .nil
        refine ⟨_, pss_cons (ps_if (pt_not (pt_val (pe_callB call_isi (by rfl) T.isinstance_ (by decide +kernel) (pa_cons (pv 1) (pa_cons (pe_bltn (v := .ty "dict") (by rfl) T.dict_ (by decide +kernel) rfl) pa_nil))))) (pss_one (ps_raise rfl (takes_of rfl rfl rfl rfl) (pmk_oex ENoName.o ENoName.i ENoName.t (ok_NoName ES ENoName) (hr.mono (by decide)) ENoName.b .nil pass0 (by rfl) ENoName.g (pa_cons (pv 1) pa_nil)))) pss_nil)
      (pss_one (ps_ret (pe_make ML Ginit (hr.mono (by decide)) (by rfl) gL bI .nil pass0 (pa_cons (pe_lc (own := [("name", 2), ("roads", 3)]) (g := gTup K 2 (gCons (gName 2) (gCons (gName 3) gNil))) (tt := tYes) rfl sc_renamed.nd (pi_tup (pe_fld (pv 0) rfl)) (blkOk_by (own := [("name", 2), ("roads", 3)]) (N := ["self", "names", "name", "roads"]) (sc := defScope s_renamed) (by decide +kernel)) (fun _ _ _ _ _ => (pg_tup (by rfl) (pgs_cons (pg_name (i := 2) sc_renamed.nd rfl (Or.inl rfl)) (pgs_cons (pg_name (i := 3) sc_renamed.nd rfl (Or.inl rfl)) pgs_nil)))) (fun _ _ _ _ _ => pts_nil) (fun _ _ _ _ _ => (pe_tup (pa_cons (pe_dget2 (hu_of hr) (pv 1) (pv 2) (pv 2) ⟨rfl, rfl, rfl, rfl⟩) (pa_cons (pv 3) pa_nil))))) (pa_cons (pe_fld (pv 0) rfl) (pa_cons (pe_fld (pv 0) rfl) pa_nil)))))), ?_⟩
        refine ⟨_, rfl, _, _, _, _, true, rfl, .ty "dict", .base (.dK ha), (by rfl), _, rfl, iteF ?_⟩
        dsimp only [tNext, tRet, tMake]
        refine ren_comp TC hx hp1 hd1 ha p6 fun D H2 ys hD eD rw2 s2 => ?_
        have n2 := same_nt s2
        refine ⟨_, rfl, x, C, dx, _, _, rfl, s2 _ _ hx, TC.cl, TC.n2, lf_stretches _ _ _ _, _, rfl, x, C, dx, _, _, rfl, s2 _ _ hx, TC.cl, TC.n3, lf_longs _ _ _ _, fun y dy0 ny ndy nyd => ?_⟩
        have s6 : Same H2 (upd (upd H2 dy0 (.own y)) y (.ins C dy0 [])) := (same_alloc ndy).trans (same_alloc (by rw [upd_ne nyd.symm]; exact ny))
        have hy6 : upd (upd H2 dy0 (.own y)) y (.ins C dy0 []) y = some (.ins C dy0 []) := upd_same
        generalize upd (upd H2 dy0 (.own y)) y (.ins C dy0 []) = H6 at s6 hy6 ⊢
        have n6 := same_nt s6
        have S6 := s2.trans s6
        have N6 := same_nt S6
        have tb6 := (same_kt tb S6).tab
        refine ⟨y, dy0, D, p2, .ref p3, ys, xs2, ⟨rew kvs wd.ps, wd.st, wd.lo, sp⟩, rfl, hy6, .inl (SqL.of (s6 _ _ eD)), rw_dp (rw2.keep fun c xs h => s6 _ _ h) (fun p hp => (i1 p hp).1), .inr (N6.seqT hp2), dpAll_nt N6 hd2, .inr ⟨p3, xs3, rfl, .inr (N6.seqT hp3), dpAll_nt N6 hd3⟩, ok2, tb6, fun H7 ki ln nd => ⟨rfl, ?_⟩⟩
        exact kQ' hd y ⟨rew kvs wd.ps, wd.st, wd.lo, sp⟩ H7 ⟨fun c o nc h => ki.keep c o (ne_of_none (s2 _ _ h) ny) nc (S6 _ _ h), ki.tab⟩ (s2.free ny) rfl rfl rfl ok2 ln (fun C' dx' fs d e l => S6.free (nd C' dx' fs d e l))
      | some q =>
        obtain ⟨t, u⟩ := q
        rw [hd] at kE
        refine ⟨_, pss_cons (ps_if (pt_not (pt_val (pe_callB call_isi (by rfl) T.isinstance_ (by decide +kernel) (pa_cons (pv 1) (pa_cons (pe_bltn (v := .ty "dict") (by rfl) T.dict_ (by decide +kernel) rfl) pa_nil))))) (pss_one (ps_raise rfl (takes_of rfl rfl rfl rfl) (pmk_oex ENoName.o ENoName.i ENoName.t (ok_NoName ES ENoName) (hr.mono (by decide)) ENoName.b .nil pass0 (by rfl) ENoName.g (pa_cons (pv 1) pa_nil)))) pss_nil)
      (pss_one (ps_ret (pe_make ML GinitP hr (by rfl) gL bI .nil (passes_call (takes_of rfl rfl rfl rfl) (fun _ _ _ _ h => h)) (pa_cons (pe_lc (own := [("name", 2), ("roads", 3)]) (g := gTup K 2 (gCons (gName 2) (gCons (gName 3) gNil))) (tt := tYes) rfl sc_renamed.nd (pi_tup (pe_fld (pv 0) rfl)) (blkOk_by (own := [("name", 2), ("roads", 3)]) (N := ["self", "names", "name", "roads"]) (sc := defScope s_renamed) (by decide +kernel)) (fun _ _ _ _ _ => (pg_tup (by rfl) (pgs_cons (pg_name (i := 2) sc_renamed.nd rfl (Or.inl rfl)) (pgs_cons (pg_name (i := 3) sc_renamed.nd rfl (Or.inl rfl)) pgs_nil)))) (fun _ _ _ _ _ => pts_nil) (fun _ _ _ _ _ => (pe_tup (pa_cons (pe_dget2 (hu_of hr) (pv 1) (pv 2) (pv 2) ⟨rfl, rfl, rfl, rfl⟩) (pa_cons (pv 3) pa_nil))))) (pa_cons (pe_fld (pv 0) rfl) (pa_cons (pe_fld (pv 0) rfl) pa_nil)))))), ?_⟩
        refine ⟨_, rfl, _, _, _, _, true, rfl, .ty "dict", .base (.dK ha), (by rfl), _, rfl, iteF ?_⟩
        dsimp only [tNext, tRet, tMake]
        refine ren_comp TC hx hp1 hd1 ha p6 fun D H2 ys hD eD rw2 s2 => ?_
        refine ⟨_, rfl, x, C, dx, _, _, rfl, s2 _ _ hx, TC.cl, TC.n2, lf_stretches _ _ _ _, _, rfl, x, C, dx, _, _, rfl, s2 _ _ hx, TC.cl, TC.n3, lf_longs _ _ _ _, fun y dy0 ny ndy nyd => ?_⟩
        have s6 : Same H2 (upd (upd H2 dy0 (.own y)) y (.ins C dy0 [])) := (same_alloc ndy).trans (same_alloc (by rw [upd_ne nyd.symm]; exact ny))
        have hy6 : upd (upd H2 dy0 (.own y)) y (.ins C dy0 []) y = some (.ins C dy0 []) := upd_same
        generalize upd (upd H2 dy0 (.own y)) y (.ins C dy0 []) = H6 at s6 hy6 ⊢
        have S6 := s2.trans s6
        have tb6 := (same_kt tb S6).tab
        have rw6 := rw2.keep fun c xs h => s6 _ _ h
        have eD6 := s6 _ _ eD
        have pl : placesD H6 (.ref D) = some (t, u) := by
          have lr := rw6.len
          have p2 := ok.p2
          have il : isl H6 2 6 (.ref D) = true := by
            unfold isl
            rw [seq_lst eD6]
            show (decide _ && decide _) = true
            rw [decide_eq_true (by omega), decide_eq_true (by omega)]
            rfl
          unfold placesD
          rw [if_pos il, seq_lst eD6]
          show plD H6 [] ys = _
          rw [plD_rw rw6 fun p hp => (ok.nm p hp).2, hd]
        have dp : Deep H6 (.ref D) := ⟨.lst D _ eD6, fun xs e z hz => by
          rw [seq_lst eD6] at e
          obtain rfl := Option.some.inj e
          obtain ⟨b, p, hp, rfl, hb⟩ := rw6.mem z hz
          refine ⟨.tup b _ hb, fun zs e2 q hq => ?_⟩
          rw [seq_tup hb] at e2
          obtain rfl := Option.some.inj e2
          rcases List.mem_cons.mp hq with rfl | hq
          · exact th_nv (fun r hr => th_nt (same_nt S6) (tk' r hr)) (ok.nm p hp).1
          · obtain rfl := List.mem_singleton.mp hq
            exact .int _⟩
        exact ⟨y, dy0, .ref D, .ref p2, .ref p3, t, u, rfl, hy6, dp, tb6, pl, fun H7 e kt he => kE t u rfl H7 e ((same_kt tb S6).trans kt) he⟩
    · have hd : RenD H v wd = some (.name, v) := by
        unfold RenD
        cases v with
        | ref a =>
          cases e : H a with
          | none => simp only [e]
          | some o =>
            cases o with
            | dK kvs => exact absurd ⟨a, kvs, rfl, e⟩ hdic
            | _ => simp only [e]
        | _ => rfl
      have go := nope hd
      refine ⟨_, pss_cons (ps_if (pt_not (pt_val (pe_callB call_isi (by rfl) T.isinstance_ (by decide +kernel) (pa_cons (pv 1) (pa_cons (pe_bltn (v := .ty "dict") (by rfl) T.dict_ (by decide +kernel) rfl) pa_nil))))) (pss_one (ps_raise rfl (takes_of rfl rfl rfl rfl) (pmk_oex ENoName.o ENoName.i ENoName.t (ok_NoName ES ENoName) (hr.mono (by decide)) ENoName.b .nil pass0 (by rfl) ENoName.g (pa_cons (pv 1) pa_nil)))) pss_nil)
      (pss_one (ps_ret (pe_make ML Ginit (hr.mono (by decide)) (by rfl) gL bI .nil pass0 (pa_cons (pe_lc (own := [("name", 2), ("roads", 3)]) (g := gTup K 2 (gCons (gName 2) (gCons (gName 3) gNil))) (tt := tYes) rfl sc_renamed.nd (pi_tup (pe_fld (pv 0) rfl)) (blkOk_by (own := [("name", 2), ("roads", 3)]) (N := ["self", "names", "name", "roads"]) (sc := defScope s_renamed) (by decide +kernel)) (fun _ _ _ _ _ => (pg_tup (by rfl) (pgs_cons (pg_name (i := 2) sc_renamed.nd rfl (Or.inl rfl)) (pgs_cons (pg_name (i := 3) sc_renamed.nd rfl (Or.inl rfl)) pgs_nil)))) (fun _ _ _ _ _ => pts_nil) (fun _ _ _ _ _ => (pe_tup (pa_cons (pe_dget2 (hu_of hr) (pv 1) (pv 2) (pv 2) ⟨rfl, rfl, rfl, rfl⟩) (pa_cons (pv 3) pa_nil))))) (pa_cons (pe_fld (pv 0) rfl) (pa_cons (pe_fld (pv 0) rfl) pa_nil)))))), ?_⟩
      cases th with
      | non => exact ⟨_, rfl, _, _, _, _, false, rfl, .ty "dict", .base .non, (by rfl), _, rfl, iteT ⟨_, rfl, made_one go⟩⟩
      | bl b => exact ⟨_, rfl, _, _, _, _, false, rfl, .ty "dict", .base (.bl b), (by rfl), _, rfl, iteT ⟨_, rfl, made_one go⟩⟩
      | int i => exact ⟨_, rfl, _, _, _, _, false, rfl, .ty "dict", .base (.int i), (by rfl), _, rfl, iteT ⟨_, rfl, made_one go⟩⟩
      | str z h g => exact ⟨_, rfl, _, _, _, _, false, rfl, .ty "dict", .base (.str z), (by rfl), _, rfl, iteT ⟨_, rfl, made_one go⟩⟩
      | lst a xs h => exact ⟨_, rfl, _, _, _, _, false, rfl, .ty "dict", .base (.lst h), (by rfl), _, rfl, iteT ⟨_, rfl, made_one go⟩⟩
      | tup a xs h => exact ⟨_, rfl, _, _, _, _, false, rfl, .ty "dict", .base (.tup h), (by rfl), _, rfl, iteT ⟨_, rfl, made_one go⟩⟩
      | dic a h => exact absurd ⟨a, _, rfl, h⟩ hdic
end
end K6

set_option maxRecDepth 100000
set_option maxHeartbeats 900000
/-! xs[lo:] = ys, another list -/
namespace My
open PySem PySem.Spec PyProof.Rows L2 GxR Gd
theorem tail_bounds {a n : Nat} (ha : a ≤ n) : sliceBounds (some (a : Int)) none none n = ((a : Int), (n : Int), 1) := by
  have h1 : ¬ ((a : Int) < 0) := Int.not_lt.mpr (by omega)
  simp only [sliceBounds, Option.getD_none, h1, if_false, show (1 : Int) > 0 by decide, if_true]
  have h2 : max (0 : Int) (min (a : Int) (n : Int)) = a := by omega
  rw [h2]
section
variable {s : Shared} {E : Value → Shared → Prop} {A : Around} {w : World} {prog : Program}
theorem tail_cut (xs ys : List Value) (a : Nat) : xs.toArray.extract 0 a ++ ys.toArray ++ xs.toArray.extract xs.toArray.size xs.toArray.size = (xs.take a ++ ys).toArray := by
  apply Array.toList_inj.mp
  simp
/-- at the store -/
theorem tail_store {l b sl : Addr} {xs ys : Array Value} {n n2 : Nat} {vl vu : Value} {a : Nat} {Q : Unit → Shared → Prop}
    (e : s.heap.get? l = some { cls := .type "list", data := .seq xs n })
    (e2 : s.heap.get? b = some { cls := .type "list", data := .seq ys n2 })
    (lb : l ≠ b) (hs : s.heap.IsSliceOf sl vl vu .none)
    (pl : IsPart vl (some (a : Int))) (pu : IsPart vu none) (ha : a ≤ xs.size) (hz : xs.size + ys.size ≤ sizeLine)
    (k : Q () { s with heap := s.heap.update l (Obj.mapSeq fun zs => zs.extract 0 a ++ ys ++ zs.extract xs.size zs.size) }) :
      wpAny (model prog w) A (setItem (.ref l) (.ref sl) (.ref b)) Q E s  := by
  have il := PySem.IsL.isList e
  have ib := PySem.IsL.isList e2
  obtain ⟨os, o1, o2, o3⟩ := id hs
  have ts : s.TypeIs (.ref sl) "slice" := ⟨os, o1, o2⟩
  have ne : Builtin.List.listSameRef (.ref l) (.ref b) = false := beq_eq_false_iff_ne.mpr lb
  have big : ((fun zs : Array Value => zs.extract 0 a ++ ys ++ zs.extract xs.size zs.size) xs).size ≤ sizeLine + 1 := by
    simp only [Array.size_append, Array.size_extract]; omega
  unfold setItem; (try with_reducible refine wpAny_holding ?_); first | refine wpAny_bind (wpAny_pure ?_) | skip
  refine wpAny_bind (wpAny_sequenceKey il.typeIs (by decide) (wpAny_bind (wpAny_callSpecial?_slot (name := Str.ofString "__setitem__") il.typeIs slot_list_setitem (wpAny_call_entry slot_list_setitem il.typeIs entry_list_setitem ?_ (args_list_setitem _ _ _)))))
  show wpAny _ _ (Builtin.List.listSubscript? (.ref sl) >>= _) _ _ _
  refine wpAny_bind (m := Builtin.List.listSubscript? (.ref sl)) ?_; unfold Builtin.List.listSubscript?
  refine wpAny_bind (wpAny_specialOf ts slice_no_index ?_)
  rw [if_pos (by rfl)]
  refine wpAny_pure ?_
  show wpAny _ _ (typeOf (.ref sl) >>= _) _ _ _
  refine wpAny_bind (wpAny_typeOf ts ?_)
  have two : ¬ ((Value.type "slice" != Value.type "slice") = true) := by decide
  rw [if_neg two, listSliceParts_eq]
  have none0 : ¬ ((rawPart none == rawInt 0) = true) := Bool.false_ne_true
  refine wpAny_bind (wpAny_bind (wpAny_field o1 o3 (x := .none) rfl (wpAny_bind (wpAny_listPart .none (by
    rw [if_neg none0]
    refine wpAny_bind (wpAny_field o1 o3 (x := vl) rfl (wpAny_bind (wpAny_listPart pl (wpAny_bind (wpAny_field o1 o3 (x := vu) rfl (wpAny_bind (wpAny_listPart pu (wpAny_pure ?_))))))))
    dsimp only
    have ne' : ¬ (Builtin.List.listSameRef (.ref l) (.ref b) = true) := by rw [ne]; exact Bool.false_ne_true
    rw [if_neg ne']
    refine wpAny_bind (m := Builtin.List.listAllItems (.ref b) "must assign iterable to extended slice") ?_; unfold Builtin.List.listAllItems
    refine wpAny_bind (wpAny_typeOf ib.typeIs (PySem.W.KFB.if_so (by decide) ?_))
    unfold Builtin.List.listItems
    have rw1 := (sliceIndices_raw (some (a : Int)) none none xs.size (by simp)).trans (congrArg (pure : Int × Int × Int → Sem (Int × Int × Int)) (tail_bounds ha))
    refine wpAny_bind (wpAny_seqItems e2 rfl (wpAny_pure (wpAny_bind (wpAny_bind (wpAny_seqItems e rfl (wpAny_pure (wpAny_bind (wpAny_of_eq rw1 ?_))))))))
    have one : ((1 : Int) == 1) = true := rfl
    refine PySem.W.KFB.if_so one (wpAny_bind (wpAny_rule (PySem.W.KFB.if_not (notLongL hz) ?_)))
    have m1 : (max (a : Int) (xs.size : Int)).toNat = xs.size := by omega
    have cut : (fun zs : Array Value => zs.extract 0 ((a : Int)).toNat ++ ys ++ zs.extract (max (a : Int) (xs.size : Int)).toNat zs.size) = fun zs => zs.extract 0 a ++ ys ++ zs.extract xs.size zs.size := by
      rw [m1, Int.toNat_natCast]
    show wpAny _ _ (updateSeq l (fun zs : Array Value => zs.extract 0 ((a : Int)).toNat ++ ys ++ zs.extract (max (a : Int) (xs.size : Int)).toNat zs.size) >>= _) _ _ s
    rw [cut]
    refine wpAny_bind (wpAny_updateSeq (hz := Nat.le_trans (Nat.le_add_right _ _) hz) (_hz' := big) e rfl (wpAny_bind (wpAny_letGo ?_)))
    exact wpAny_pure ⟨.none, rfl, wpAny_pure k⟩)))))
/-- at a row of the program -/
def gTail (to : TE) (tl th : TO) : TG := fun v σ H Q => to σ H fun o H1 => tl σ H1 fun lo H2 => th σ H2 fun hi H3 =>
  ∃ p b xs ys a, o = .ref p ∧ v = .ref b ∧ lo = some a ∧ hi = none ∧ 0 ≤ a ∧ a ≤ ((xs.length : Nat) : Int) ∧ p ≠ b ∧ H3 p = some (.lst xs) ∧ H3 b = some (.lst ys) ∧ xs.length + ys.length ≤ sizeLine ∧ Q σ (upd H3 p (.lst (xs.take a.toNat ++ ys)))
theorem pg_tail {X : Cx} {o : Expr} {lo hi : Option Expr} {pos p2 : Pos} {to : TE} {tl th : TO} (ho : PE X o to) (hl : PO X lo tl) (hu : PO X hi th)
    (ha : ∀ v, assign (.Subscript o (.Slice lo hi none p2) pos) X.env v = (do
      let ov ← holding [v] (eval o X.env); let iv ← holding [v, ov] (eval (.Slice lo hi none p2) X.env)
      standAt pos; holding [v, ov, iv] (setItem ov iv v)
      release [iv, v, ov] []) := by intro _; rfl) : PG X (.Subscript o (.Slice lo hi none p2) pos) (gTail to tl th) := by
  refine ⟨fun pins s σ H v u Q I r h => ?_⟩; rw [ha]
  refine wpAny_bind (wpAny_holding (thn (ho.run pins s σ H _ I h) fun ov s1 ⟨x, H1, I1, r1, q1⟩ => wpAny_bind (wpAny_holding ?_)))
  refine wpAny_Slice (thn (hl.run pins s1 σ H1 _ I1 q1) fun vl s2 ⟨l, H2, I2, pl, q2⟩ => thn (hu.run pins s2 σ H2 _ I2 q2) fun vu s3 ⟨m, H3, I3, pu, q3⟩ => ?_)
  rw [evalPart_none]
  refine wpAny_pure (wpAny_bind ?_); obtain ⟨p, b, xs, ys, a, rfl, rfl, rfl, rfl, a0, a1, pb, hp, hb, hz, q⟩ := q3
  cases r1
  cases r
  have I4 := I3.kept (h' := s3.heap.push { cls := .type "slice", data := .fields #[vl, vu, .none] }) (t' := s3.toks) fun _ _ g => Heap.get?_push_of_some _ g
  obtain ⟨k, rfl⟩ := Int.eq_ofNat_of_zero_le a0
  obtain ⟨z1, is1, n1, v1, g1, e1⟩ := I4.lstM hp
  obtain ⟨z2, is2, n2, v2, g2, e2⟩ := I4.lstM hb
  refine wpAny_standAt (wpAny_bind (wpAny_holding ?_))
  have ki : k ≤ is1.length := by omega
  refine tail_store (a := k) e1 e2 pb (Heap.IsSliceOf.new ..) pl pu (by rw [List.size_toArray]; exact ki) (by rw [List.size_toArray, List.size_toArray]; omega) ?_
  have I5 := I4.lset (f := fun zs => zs.extract 0 k ++ is2.toArray ++ zs.extract is1.toArray.size zs.size) (ys := xs.take k ++ ys) (its' := is1.take k ++ is2) (t' := s3.toks) hp e1 (tail_cut is1 is2 k) (Vals.append (v1.take _) v2) (by rw [List.length_append, List.length_take]; omega)
  exact wpAny_release ⟨σ, _, I5, q⟩
end
end My

set_option maxRecDepth 100000
set_option maxHeartbeats 400000
namespace K6
open PySem PySem.Spec PyProof.Rows L2 GxR Gd TL My
theorem eqDK {X : Cx} {K : PySem.W.Frag} (h : X.K = K) (hu : X.A.units + 64 < cLine) : OpR X (compareOp .Eq) (rEqD K) := h ▸ op_eqD hu
theorem low_mem (c : Nat) : decide (c ∈ (Str.ofString "abcdefghijklmnopqrstuvwxyz").cps.toList) = lc c := by
  have e : (Str.ofString "abcdefghijklmnopqrstuvwxyz").cps.toList = (List.range 26).map (97 + ·) := by decide +kernel
  rw [e, Bool.eq_iff_iff, decide_eq_true_eq, List.mem_map]
  unfold lc
  simp only [Bool.and_eq_true, decide_eq_true_eq, List.mem_range]
  constructor
  · rintro ⟨a, ha, rfl⟩
    omega
  · rintro ⟨h1, h2⟩
    exact ⟨c - 97, by omega, by omega⟩
theorem all_filter : ∀ l : List Nat, l.all lc = decide (l.filter (fun c => !lc c) = [])
  | [] => rfl
  | c :: r => by
    cases h : lc c with
    | true =>
      rw [List.all_cons, h, Bool.true_and, all_filter r, List.filter_cons_of_neg (by simp [h])]
    | false =>
      rw [List.all_cons, h, Bool.false_and, List.filter_cons_of_pos (by simp [h])]
      simp
theorem sm_shaped {d : PyData} {k m : Nat} (h : Sm d k m) (hk : k ≤ 64) : SeqAt.shaped d = true := by
  unfold SeqAt.shaped
  rw [h.lay, Bool.true_and, decide_eq_true_eq]
  exact Nat.le_trans h.dep hk
theorem chars_dp {K : PySem.W.Frag} {H : Hp} : ∀ l : List Nat, DpAll K H (l.map fun c => V.str ⟨#[c]⟩) (l.map fun c => PyData.str ⟨#[c]⟩)
  | [] => .nil
  | c :: r => .cons (.str _) (chars_dp r)
theorem eqv_nil : ∀ l : List Nat, PyData.eqv (.list (l.map fun c => PyData.str ⟨#[c]⟩)) (.list []) = decide (l = [])
  | [] => rfl
  | c :: r => rfl
theorem nm_len (z : Str) : nm (.str z) = (decide (1 ≤ z.length) && decide (z.length ≤ 6) && z.cps.toList.all lc) := rfl
theorem small_line {n : Nat} (h : n ≤ 1000000) : n ≤ sizeLine := Nat.le_trans h (by rw [sizeLine_eq]; decide)
section
variable {P : Program} {w : World} {K : PySem.W.Frag} {mg : Str → Option Value} {base : Heap}
abbrev s_law_is_name : Stmt := top 30
theorem sc_law_is_name : FnScope ["_law_thing", "_law_letters", "_law_sign"] ["_law_thing"] (defScope s_law_is_name) := ⟨rfl, rfl, rfl, by decide +kernel, rfl, by decide +kernel, by decide +kernel⟩
def spLawName : Sp := fun vs H Q _ => ∃ v, vs = [v] ∧ Th H v ∧ ∀ H', Same H H' → Q (.bl (nm v)) H'
theorem ok_law_is_name {f : Addr} {fd : FuncData} (F : Fun K "_law_is_name" "_law_is_name" s_law_is_name f fd) (T : Txt mg) :
    FnOk P w K mg base CX0 2 f fd ["_law_thing"] spLawName := by
  refine F.ok sc_law_is_name (fun vs H Q E h => ?_) (fun cdv A outer s H vs Q E hr h => ?_)
  · obtain ⟨v, rfl, _⟩ := h
    rfl
  · obtain ⟨v, rfl, th, k⟩ := h
    have hu := hr.units
    refine ⟨_, pss_cons (ps_set (i := 1) sc_law_is_name.nd rfl (Or.inr rfl) pe_str)
      (pss_one (ps_ret (pe_and (pe_callB call_isi (by rfl) T.isinstance_ (by decide +kernel) (pa_cons (pv 0) (pa_cons (pe_bltn (v := .ty "str") (by rfl) T.str_ (by decide +kernel) rfl) pa_nil))) (pe_and (pe_chain op_lt op_lt pe_int (pe_callB call_len_str (by rfl) T.len_ PySem.boot_len (pa_cons (pv 0) pa_nil)) pe_int) (pe_one (pe_cmpR (eqDK (K := K) rfl hu) (pe_lc (own := [("_law_sign", 2)]) (g := gName 2) rfl sc_law_is_name.nd (pi_str (pv 0)) (blkOk_by (own := [("_law_sign", 2)]) (N := ["_law_thing", "_law_letters", "_law_sign"]) (sc := defScope s_law_is_name) (by decide +kernel)) (fun _ _ _ _ _ => (pg_name (i := 2) sc_law_is_name.nd rfl (Or.inl rfl))) (fun _ _ _ _ _ => pts_one (pt_cmpR op_notIn_str (pv 2) (pv 1) rfl)) (fun _ _ _ _ _ => (pv 2))) (pe_lst pa_nil) (nomark _))))))), ?_⟩
    have no : (nm v = false) → Q (.bl false) H := fun e => by
      have := k H (Same.refl H)
      rw [e] at this
      exact this
    obtain ⟨t, ty, cs⟩ := th.ty (K := K)
    rcases cs with ⟨i, rfl, rfl⟩ | ⟨b, rfl, rfl⟩ | ⟨z, rfl, ⟨zl, zg⟩, rfl⟩ | ⟨n1, n2, n3, ht⟩
    · exact ⟨_, rfl, _, _, _, _, false, rfl, .ty "str", ty, (by rfl), _, rfl, iteF (no rfl)⟩
    · exact ⟨_, rfl, _, _, _, _, false, rfl, .ty "str", ty, (by rfl), _, rfl, iteF (no rfl)⟩
    · refine ⟨_, rfl, _, _, _, _, true, rfl, .ty "str", ty, (by rfl), _, rfl, iteT ?_⟩
      refine ⟨_, rfl, z, rfl, small_line zl, _, _, rfl, rfl, ?_⟩
      refine ⟨_, rfl, ite2 (fun c0 => ?_) (fun c0 => ⟨_, rfl, iteF (no (by rw [nm_len]; have : ¬ ((0 : Int) < z.length) := fun h => c0 (decide_eq_true h); rw [decide_eq_false (p := 1 ≤ z.length) (by omega), Bool.false_and, Bool.false_and]))⟩)⟩
      refine ⟨_, _, rfl, rfl, _, rfl, ite2 (fun c1 => ?_) (fun c1 => (no (by rw [nm_len]; have : ¬ ((z.length : Int) < 7) := fun h => c1 (decide_eq_true h); rw [decide_eq_false (p := z.length ≤ 6) (by omega), Bool.and_false, Bool.false_and])))⟩
      have l0 : 1 ≤ z.length := by have := of_decide_eq_true c0; omega
      have l6 : z.length ≤ 6 := by have := of_decide_eq_true c1; omega
      refine ⟨_, rfl, z, rfl, fun D hD => lc_it walk_str (fun i H' => ∃ cs : List Nat, H' D = some (.lst (cs.map fun c => V.str ⟨#[c]⟩)) ∧ cs = (z.cps.toList.take i).filter (fun c => !lc c) ∧ Same H H') ?_ ?_ ?_ ?_⟩
      · exact ⟨[], upd_same, rfl, same_alloc hD⟩
      · intros; trivial
      · rintro i x H1 H2 hi ⟨cs, e1, e2, s1⟩ ⟨rfl, c, hc, rfl⟩
        refine ⟨rfl, _, rfl, _, rfl, _, _, rfl, rfl, _, rfl, ?_⟩
        rw [StrLaws.found_one, low_mem]
        have hc' : z.cps.toList[i]? = some c := by rw [Array.getElem?_toList]; exact hc
        cases hl : lc c with
        | true => exact ⟨cs, e1, by rw [take_at hc', List.filter_append, e2]; simp [hl], s1⟩
        | false =>
          refine ⟨_, rfl, _, e1, ?_, cs ++ [c], ?_, by rw [take_at hc', List.filter_append, e2]; simp [hl], ?_⟩
          · rw [List.length_map, e2]
            have h1 := List.length_filter_le (fun c => !lc c) (z.cps.toList.take i)
            have h2 := List.length_take_le i z.cps.toList
            have h3 : i < z.length := hi
            exact lt_line _ (by omega)
          · rw [upd_same, List.map_append]
            rfl
          · exact fun c o h => by
              rw [upd_ne (ne_of_none h hD)]
              exact s1 _ _ h
      · rintro H1 ⟨cs, e1, e2, s1⟩
        refine ⟨Nat.zero_le _, fun L hL => ?_⟩
        have hc6 : cs.length ≤ 6 := by
          rw [e2]
          refine Nat.le_trans (List.length_filter_le _ _) (Nat.le_trans (List.length_take_le _ _) ?_)
          exact l6
        refine ⟨.list (cs.map fun c => .str ⟨#[c]⟩), .list [], .lst (SqL.of (same_alloc hL _ _ e1)) (chars_dp cs), .lst (SqL.of upd_same) .nil, ?_, rfl, ?_⟩
        · refine sm_shaped (k := 1) (m := 100) ((sm_list (k := 0) (m := 6) fun d hd => ?_).mono (by decide) (by rw [List.length_map]; omega)) (by decide)
          obtain ⟨c, hc, rfl⟩ := List.mem_map.mp hd
          rw [e2] at hc
          have hz := zg c (List.mem_of_mem_take (List.mem_filter.mp hc).1)
          exact sm_str (fun d hd => by
            obtain rfl : d = c := List.mem_singleton.mp hd
            exact hz) (by show 1 ≤ 6; decide)
        · have ek : nm (.str z) = decide (cs = []) := by
            rw [nm_len, decide_eq_true l0, decide_eq_true l6, Bool.true_and, Bool.true_and, e2, List.take_of_length_le (by exact Nat.le_refl _)]
            exact all_filter _
          have q := k (upd H1 L (.lst [])) (s1.trans (same_alloc hL))
          rw [ek] at q
          rw [eqv_nil]
          exact q
    · have e : nm v = false := by
        cases v with
        | str z => exact absurd rfl (n3 z)
        | _ => rfl
      rcases ht with rfl | rfl | rfl | rfl
      · exact ⟨_, rfl, _, _, _, _, false, rfl, .ty "str", ty, (by rfl), _, rfl, iteF (no e)⟩
      · exact ⟨_, rfl, _, _, _, _, false, rfl, .ty "str", ty, (by rfl), _, rfl, iteF (no e)⟩
      · exact ⟨_, rfl, _, _, _, _, false, rfl, .ty "str", ty, (by rfl), _, rfl, iteF (no e)⟩
      · exact ⟨_, rfl, _, _, _, _, false, rfl, .ty "str", ty, (by rfl), _, rfl, iteF (no e)⟩
end
/-! ### things of any kind -/
inductive Wf (N : Addr → Prop) (H : Hp) (m : Nat) : Nat → V → Prop
  | non (k : Nat) : Wf N H m k .non
  | bl (b : Bool) (k : Nat) : Wf N H m k (.bl b)
  | int (i : Int) (h : i.natAbs < 10 ^ 31) (k : Nat) : Wf N H m k (.int i)
  | str (z : Str) (g : Good z) (l : z.length ≤ 50) (k : Nat) : Wf N H m k (.str z)
  | dic (a : Addr) (e : H a = some (.dK [])) (k : Nat) : Wf N H m (k + 1) (.ref a)
  | lst (a : Addr) (xs : List V) (k : Nat) (e : H a = some (.lst xs)) (n : N a) (l : xs.length ≤ m) (h : ∀ x ∈ xs, Wf N H m k x) : Wf N H m (k + 1) (.ref a)
  | tup (a : Addr) (xs : List V) (k : Nat) (e : H a = some (.tup xs)) (l : xs.length ≤ m) (h : ∀ x ∈ xs, Wf N H m k x) : Wf N H m (k + 1) (.ref a)
/-- what such a thing rests on stays -/
def Kw (N : Addr → Prop) (H H' : Hp) : Prop := (∀ c xs, N c → H c = some (.lst xs) → H' c = some (.lst xs)) ∧ (∀ c xs, H c = some (.tup xs) → H' c = some (.tup xs)) ∧ ∀ c kvs, H c = some (.dK kvs) → H' c = some (.dK kvs)
theorem Kw.same {N : Addr → Prop} {H H' : Hp} (s : Same H H') : Kw N H H' := ⟨fun _ _ _ e => s _ _ e, fun _ _ e => s _ _ e, fun _ _ e => s _ _ e⟩
theorem Kw.trans {N : Addr → Prop} {A B C : Hp} (h : Kw N A B) (k : Kw N B C) : Kw N A C := ⟨fun c xs n e => k.1 c xs n (h.1 c xs n e), fun c xs e => k.2.1 c xs (h.2.1 c xs e), fun c xs e => k.2.2 c xs (h.2.2 c xs e)⟩
theorem Kw.nt {N : Addr → Prop} {H H' : Hp} (s : Nt H H') : Kw N H H' := ⟨fun _ _ _ e => s _ _ (by simp) e, fun _ _ e => s _ _ (by simp) e, fun _ _ e => s _ _ (by simp) e⟩
theorem Kw.kb {N : Addr → Prop} {H H' : Hp} {b : Addr} {n : Int} (nb : ¬ N b) (hb : Bx b n H) (k : KB b H H') : Kw N H H' := by
  obtain ⟨_, _, _, e, _⟩ := hb
  exact ⟨fun c xs m q => k _ _ (fun z => nb (z ▸ m)) q, fun c xs q => k _ _ (ne_of q e (by simp)) q, fun c xs q => k _ _ (ne_of q e (by simp)) q⟩
theorem Wf.keep {N : Addr → Prop} {H H' : Hp} {m : Nat} (s : Kw N H H') : ∀ {k : Nat} {v : V}, Wf N H m k v → Wf N H' m k v
  | _, _, .non k => .non k
  | _, _, .bl b k => .bl b k
  | _, _, .int i h k => .int i h k
  | _, _, .str z g l k => .str z g l k
  | _, _, .dic a e k => .dic a (s.2.2 _ _ e) k
  | _, _, .lst a xs k e n l h => .lst a xs k (s.1 _ _ n e) n l fun x hx => (h x hx).keep s
  | _, _, .tup a xs k e l h => .tup a xs k (s.2.1 _ _ e) l fun x hx => (h x hx).keep s
theorem Wf.mono {N : Addr → Prop} {H : Hp} {m m' : Nat} (hm : m ≤ m') {k k' : Nat} {v : V} (hk : k ≤ k') (h : Wf N H m k v) : Wf N H m' k' v := by
  induction h generalizing k' with
  | non k => exact .non _
  | bl b k => exact .bl b _
  | int i h k => exact .int i h _
  | str z g l k => exact .str z g l _
  | dic a e k =>
    match k', hk with
    | k' + 1, _ => exact .dic a e _
  | lst a xs k e n l q ih =>
    match k', hk with
    | k' + 1, hk => exact .lst a xs k' e n (Nat.le_trans l hm) fun x hx => ih x hx (Nat.le_of_succ_le_succ hk)
  | tup a xs k e l q ih =>
    match k', hk with
    | k' + 1, hk => exact .tup a xs k' e (Nat.le_trans l hm) fun x hx => ih x hx (Nat.le_of_succ_le_succ hk)
theorem Wf.th {N : Addr → Prop} {H : Hp} {m k : Nat} {v : V} (h : Wf N H m k v) : Th H v := by
  cases h with
  | non k => exact .non
  | bl b k => exact .bl b
  | int i h k => exact .int i
  | str z g l k => exact .str z (by omega) g
  | dic a e k => exact .dic a e
  | lst a xs k e n l q => exact .lst a xs e
  | tup a xs k e l q => exact .tup a xs e
theorem Wf.kid {N : Addr → Prop} {H : Hp} {m k : Nat} {v : V} (h : Wf N H m (k + 1) v) {xs : List V} (e : seqOf H v = some xs) : ∀ x ∈ xs, Wf N H m k x := by
  cases h with
  | non k => cases e
  | bl b k => cases e
  | int i h k => cases e
  | str z g l k => cases e
  | dic a q k => rw [seq_dic q] at e; cases e
  | lst a ys k q n l h => rw [seq_lst q] at e; rw [← Option.some.inj e]; exact h
  | tup a ys k q l h => rw [seq_tup q] at e; rw [← Option.some.inj e]; exact h
theorem Wf.deep {N : Addr → Prop} {H : Hp} {m k : Nat} {v : V} (h : Wf N H m (k + 2) v) : Deep H v := ⟨h.th, fun xs e x hx => ⟨(h.kid e x hx).th, fun ys e2 y hy => ((h.kid e x hx).kid e2 y hy).th⟩⟩
def wt (m : Nat) : Nat → Nat
  | 0 => 110
  | k + 1 => m * (wt m k + 1)
theorem wt_le {m : Nat} (hm : 1 ≤ m) : ∀ k, 110 ≤ wt m k
  | 0 => Nat.le_refl _
  | k + 1 => by
    have := wt_le hm k
    show 110 ≤ m * (wt m k + 1)
    have h : 1 * (wt m k + 1) ≤ m * (wt m k + 1) := Nat.mul_le_mul_right _ hm
    omega
theorem dqs_of {K : PySem.W.Frag} {H : Hp} {k n : Nat} : ∀ {xs : List V}, (∀ x ∈ xs, ∃ d, Dq K H x d ∧ Sb d k n) → ∃ ds, DqAll K H xs ds ∧ ds.length = xs.length ∧ ∀ d ∈ ds, Sb d k n
  | [], _ => ⟨[], .nil, rfl, fun d h => by cases h⟩
  | x :: r, h => by
    obtain ⟨d, h1, h2⟩ := h x (by simp)
    obtain ⟨ds, h3, h4, h5⟩ := dqs_of (xs := r) fun y hy => h y (by simp [hy])
    exact ⟨d :: ds, .cons h1 h3, by rw [List.length_cons, List.length_cons, h4], fun e he => (List.mem_cons.mp he).elim (fun q => q ▸ h2) fun q => h5 e q⟩
theorem Wf.dq {K : PySem.W.Frag} {N : Addr → Prop} {H : Hp} {m : Nat} (hm : 1 ≤ m) : ∀ {k : Nat} {v : V}, Wf N H m k v → ∃ d, Dq K H v d ∧ Sb d k (wt m k)
  | k, _, .non _ => ⟨_, .non, sb_none.mono (by omega) (by omega)⟩
  | k, _, .bl b _ => ⟨_, .bl b, (sb_bool b).mono (by omega) (by omega)⟩
  | k, _, .int i h _ => ⟨_, .int i, (sb_int h).mono (by omega) (wt_le hm k)⟩
  | k, _, .str z g l _ => ⟨_, .str z, (sb_str g l).mono (by omega) (Nat.le_trans (by decide) (wt_le hm k))⟩
  | _, _, .dic a e k => ⟨.dict [], .dic e .nil, ⟨by decide +kernel, Nat.succ_le_succ (Nat.zero_le k), Nat.le_trans (by decide) (wt_le hm (k + 1)), by decide +kernel⟩⟩
  | _, _, .lst a xs k e n l h => by
    obtain ⟨ds, h1, h2, h3⟩ := dqs_of (K := K) fun x hx => (h x hx).dq hm
    exact ⟨.list ds, .lst (SqL.of e) h1, (sb_list h3).mono (Nat.le_refl _) (by rw [h2]; exact Nat.mul_le_mul_right _ l)⟩
  | _, _, .tup a xs k e l h => by
    obtain ⟨ds, h1, h2, h3⟩ := dqs_of (K := K) fun x hx => (h x hx).dq hm
    exact ⟨.tuple ds, .tup (SqT.of e) h1, (sb_tuple h3).mono (Nat.le_refl _) (by rw [h2]; exact Nat.mul_le_mul_right _ l)⟩
theorem length_app (a b : Str) : (a ++ b).length = a.length + b.length := by rw [← tl_len, tl_append, List.length_append, tl_len, tl_len]
theorem cutS_length (z : Str) (lo hi : Option Int) : (cutS z lo hi).length ≤ z.length := by
  show ((z.cps.toList.drop _).take _).toArray.size ≤ z.cps.size
  rw [List.size_toArray]
  exact Nat.le_trans (List.take_sublist _ _).length_le (List.drop_sublist _ _).length_le
theorem pick0 {K : PySem.W.Frag} {H : Hp} {b L : Addr} {m : Nat} {n : Int} {ts : List V} {Q : VK} (hb : Bx b n H) (n9 : n ≤ 90000) (m0 : 0 < m) (m9 : m ≤ 1000) (hm : ts.length = m) (hL : H L = some (.lst ts)) (nL : L ≠ b)
    (k : ∀ v H', v ∈ ts → KB b H H' → Bx b (n + 1) H' → Q v H') : spTake [.ref b, .int (m : Nat)] H (fun y H2 => rIxL K (.ref L) y H2 Q) E0 := by
  refine ⟨b, m, n, rfl, hb, by omega, by omega, dec9000 (by omega) (by omega), fun d H' d0 d1 off bx => ?_⟩
  obtain ⟨j, rfl⟩ := Int.eq_ofNat_of_zero_le d0
  have hj : j < ts.length := by omega
  exact ⟨L, ts, _, ts[j], rfl, rfl, SqL.of (KB.off off _ _ nL hL), atI_nat (List.getElem?_eq_getElem hj), k _ _ (List.getElem_mem hj) (KB.off off) bx⟩
theorem pickL {K : PySem.W.Frag} {σ : L2.St} {H : Hp} {b L : Addr} {i m : Nat} {n : Int} {ts : List V} {Q : VK} (h0 : σ[i]? = some (some (.ref b))) (hb : Bx b n H) (n9 : n ≤ 90000) (m0 : 0 < m) (m9 : m ≤ 1000) (hm : ts.length = m) (hL : H L = some (.lst ts)) (nL : L ≠ b)
    (k : ∀ v H', v ∈ ts → KB b H H' → Bx b (n + 1) H' → Q v H') : tCall spTake [] E0 (tCons (tVar i) (tCons (tC (V.int (m : Nat))) tNil)) σ H (fun y H2 => rIxL K (.ref L) y H2 Q) := ⟨_, h0, pick0 hb n9 m0 m9 hm hL nL k⟩
theorem catA {K : PySem.W.Frag} {H : Hp} {a b : Addr} {xs ys : List V} {Q : VK} (ha : H a = some (.tup xs)) (hb : H b = some (.tup ys)) (l : xs.length + ys.length ≤ 1000) (k : ∀ p H', Same H H' → H' p = some (.tup (xs ++ ys)) → Q (.ref p) H') : rCatA K (.ref a) (.ref b) H Q := by
  refine ⟨a, b, xs, ys, rfl, rfl, SqT.of ha, SqT.of hb, Nat.le_trans l (by decide), fun e => ?_, fun _ e => ?_, fun _ _ p hp => k p _ (same_alloc hp) upd_same⟩
  · exact k b H (Same.refl H) (by rw [e]; exact hb)
  · exact k a H (Same.refl H) (by rw [e, List.append_nil]; exact ha)
theorem hN_kb {N : Addr → Prop} {b : Addr} {n : Int} {H H' : Hp} (hN : ∀ a, H a = none → N a) (kb : KB b H H') (bx : Bx b n H') : ∀ a, H' a = none → N a := fun a ha => hN a (by
  cases e : H a with
  | none => rfl
  | some o =>
    by_cases q : a = b
    · subst q
      obtain ⟨_, _, _, h, _⟩ := bx
      rw [h] at ha
      cases ha
    · rw [kb _ _ q e] at ha
      cases ha)
theorem bx_ne {b c : Addr} {n : Int} {H : Hp} {o : HO} (bx : Bx b n H) (h : H c = some o) (m : ∀ xs, o ≠ .lst xs) : c ≠ b := fun e => by
  obtain ⟨_, _, _, q, _⟩ := bx
  rw [e, q] at h
  exact m _ (Option.some.inj h).symm
theorem pick_name {K : PySem.W.Frag} {σ : L2.St} {H : Hp} {b L : Addr} {i j : Nat} {n : Int} {as : List Str} {Q : VK} (h0 : σ[i]? = some (some (.ref b))) (hj : σ[j]? = some (some (.ref L))) (hb : Bx b n H) (n9 : n ≤ 90000) (l0 : 1 ≤ as.length) (l9 : as.length ≤ 1000) (hL : H L = some (.lst (as.map V.str))) (nL : L ≠ b)
    (k : ∀ z H', z ∈ as → KB b H H' → Bx b (n + 1) H' → Q (.str z) H') : tCall spTake [] E0 (tCons (tVar i) (tCons (tCB (fun xs H Q => ∃ p ys, xs = [V.ref p] ∧ (SqL K H p ys ∨ SqT K H p ys) ∧ Q (V.int ys.length) H) (tCons (tVar j) tNil)) tNil)) σ H (fun y H2 => rIxL K (.ref L) y H2 Q) := by
  refine ⟨_, h0, _, hj, L, _, rfl, .inl (SqL.of hL), ?_⟩
  rw [List.length_map]
  refine pick0 (m := as.length) hb n9 l0 l9 (by rw [List.length_map]) hL nL (fun v H' hv kb bx => ?_)
  obtain ⟨z, hz, rfl⟩ := List.mem_map.mp hv
  exact k z H' hz kb bx
theorem ixT {X : Cx} {K : PySem.W.Frag} (h : X.K = K) : IxR X (rIxT K) := h ▸ ix_tup
mutual
theorem dq_nt {K : PySem.W.Frag} {H H' : Hp} (e : Nt H H') : ∀ {v : V} {d : PyData}, Dq K H v d → Dq K H' v d
  | _, _, .non => .non
  | _, _, .bl b => .bl b
  | _, _, .int i => .int i
  | _, _, .str z => .str z
  | _, _, .lst q h => .lst (e.seq q) (dqAll_nt e h)
  | _, _, .tup q h => .tup (e.seqT q) (dqAll_nt e h)
  | _, _, .dic q h => .dic (e _ _ (by simp) q) (dqKv_nt e h)
theorem dqAll_nt {K : PySem.W.Frag} {H H' : Hp} (e : Nt H H') : ∀ {vs : List V} {ds : List PyData}, DqAll K H vs ds → DqAll K H' vs ds
  | _, _, .nil => .nil
  | _, _, .cons h t => .cons (dq_nt e h) (dqAll_nt e t)
theorem dqKv_nt {K : PySem.W.Frag} {H H' : Hp} (e : Nt H H') : ∀ {vs : List (Key × V)} {ds : List (PyData × PyData)}, DqKv K H vs ds → DqKv K H' vs ds
  | _, _, .nil => .nil
  | _, _, .cons h t => .cons (dq_nt e h) (dqKv_nt e t)
end
end K6

set_option maxRecDepth 100000
set_option maxHeartbeats 400000
/-! Names wiped behind a comprehension. -/
namespace My
open PySem PySem.Spec PyProof.Rows L2 GxR Gd TL
theorem wipe_set_out {σ : L2.St} {i : Nat} {x : Option V} : ∀ {vs : List Nat}, i ∉ vs → wipe (σ.set i x) vs = (wipe σ vs).set i x
  | [], _ => rfl
  | v :: vs, h => by
    simp only [List.mem_cons, not_or] at h
    show (wipe (σ.set i x) vs).set v none = ((wipe σ vs).set v none).set i x
    rw [wipe_set_out h.2, List.set_comm _ _ h.1]
theorem wipe_set {σ : L2.St} {i : Nat} {x : Option V} : ∀ {vs : List Nat}, i ∈ vs → wipe (σ.set i x) vs = wipe σ vs
  | [], h => by cases h
  | v :: vs, h => by
    show (wipe (σ.set i x) vs).set v none = (wipe σ vs).set v none
    by_cases q : i ∈ vs
    · rw [wipe_set q]
    · have e : i = v := by
        rcases List.mem_cons.mp h with e | e
        · exact e
        · exact absurd e q
      subst e
      rw [wipe_set_out q, List.set_set]
theorem wipe_wipe {σ : L2.St} : ∀ {us vs : List Nat}, (∀ u ∈ us, u ∈ vs) → wipe (wipe σ us) vs = wipe σ vs
  | [], _, _ => rfl
  | u :: us, vs, h => by
    show wipe ((wipe σ us).set u none) vs = _
    rw [wipe_set (h u (by simp)), wipe_wipe fun x hx => h x (by simp [hx])]
theorem wipe1 {σ : L2.St} {vs : List Nat} {i : Nat} {a : Option V} (hi : i ∈ vs) : wipe ((wipe σ vs).set i a) vs = wipe σ vs := by
  rw [wipe_set hi, wipe_wipe fun _ h => h]
theorem wipe2 {σ : L2.St} {vs : List Nat} {i j : Nat} {a b : Option V} (hi : i ∈ vs) (hj : j ∈ vs) : wipe (((wipe σ vs).set i a).set j b) vs = wipe σ vs := by
  rw [wipe_set hj, wipe_set hi, wipe_wipe fun _ h => h]
theorem wipe3 {σ : L2.St} {vs : List Nat} {i j k : Nat} {a b c : Option V} (hi : i ∈ vs) (hj : j ∈ vs) (hk : k ∈ vs) : wipe ((((wipe σ vs).set i a).set j b).set k c) vs = wipe σ vs := by
  rw [wipe_set hk, wipe_set hj, wipe_set hi, wipe_wipe fun _ h => h]
theorem wipe4 {σ : L2.St} {vs : List Nat} {i j k l : Nat} {a b c d : Option V} (hi : i ∈ vs) (hj : j ∈ vs) (hk : k ∈ vs) (hl : l ∈ vs) : wipe (((((wipe σ vs).set i a).set j b).set k c).set l d) vs = wipe σ vs := by
  rw [wipe_set hl, wipe_set hk, wipe_set hj, wipe_set hi, wipe_wipe fun _ h => h]
end My

set_option maxRecDepth 100000
set_option maxHeartbeats 400000
namespace K6
open PySem PySem.Spec PyProof.Rows L2 GxR Gd TL My HT RT
def toldD (wd : Wd) : PyData := .tuple [.tuple (wd.ps.map dP), .tuple (wd.st.map dP), .tuple (wd.lo.map dL)]
theorem tupOfK {X : Cx} {K : PySem.W.Frag} (h : X.K = K) : CallR X (.type "tuple") (fun xs H Q => ∃ p ys, xs = [V.ref p] ∧ ((SqL K H p ys ∧ ∀ l, H l = none → Q (.ref l) (upd H l (.tup ys))) ∨ (SqT K H p ys ∧ Q (.ref p) H))) := h ▸ call_tuple_of
theorem three_line : 3 ≤ sizeLine := by decide
theorem home01 {h : Int} (h0 : 0 ≤ h) (h1 : h ≤ 1) : (if decide (V.int h = V.int 0) = true then (1 : Int) else 0) = 1 - h := by
  by_cases e : h = 0
  · subst e; rfl
  · rw [decide_eq_false (fun q => e (V.int.inj q))]
    have : h = 1 := by omega
    subst this; rfl
theorem rev_at {α : Type} {xs : List α} {i : Nat} {x : α} (h : i < xs.length) (e : xs[xs.length - 1 - i]? = some x) : xs.reverse[i]? = some x := by
  rw [List.getElem?_reverse h]
  exact e
theorem long01 {wd : Wd} (ok : wd.Ok) {p : Int × Int × Int} (h : p ∈ wd.lo) : 0 ≤ p.2.2 ∧ p.2.2 ≤ 1 := by
  obtain ⟨_, _, _, a, b⟩ := longs_le ok.lo p h
  exact ⟨a, b⟩
section
variable {P : Program} {w : World} {K : PySem.W.Frag} {mg : Str → Option Value} {base : Heap}
abbrev s_law_told : Stmt := top 31
theorem sc_law_told : FnScope ["_law_world_here"] ["_law_world_here"] (defScope s_law_told) := ⟨rfl, rfl, rfl, by decide +kernel, rfl, by decide +kernel, by decide +kernel⟩
abbrev s_law_turned : Stmt := top 32
theorem sc_law_turned : FnScope ["_law_world_here", "_law_places", "_law_stretches", "_law_longs", "_law_spare", "_law_last", "_law_found", "_law_others", "_law_low", "_law_high", "_law_home", "_law_kind"] ["_law_world_here"] (defScope s_law_turned) := ⟨rfl, rfl, rfl, by decide +kernel, rfl, by decide +kernel, by decide +kernel⟩
def spLawTold (K : PySem.W.Frag) (g : Wd → Wd) (ok : Wd → Prop) : Sp := fun vs H Q _ => ∃ (v : V) (wd : Wd), vs = [v] ∧ Dp K H v wd.data ∧ ok wd ∧ ∀ t H', Same H H' → Dp K H' (.ref t) (toldD (g wd)) → Q (.ref t) H'
theorem ok_law_told {f : Addr} {fd : FuncData} (F : Fun K "_law_told" "_law_told" s_law_told f fd) (T : Txt mg) : FnOk P w K mg base CX0 1 f fd ["_law_world_here"] (spLawTold K id fun _ => True) := by
  refine F.ok sc_law_told (fun vs H Q E h => ?_) (fun cdv A outer s H vs Q E hr h => ?_)
  · obtain ⟨v, wd, rfl, _⟩ := h
    rfl
  · obtain ⟨v, wd, rfl, hD, _, k⟩ := h
    obtain ⟨wa, vp, vs_, vl, vu, rfl, hw, hp, hs, hl, _⟩ := dp_four hD
    obtain ⟨ap, xp, rfl, hap, dap⟩ := dp_list hp
    obtain ⟨as_, xs, rfl, has, das⟩ := dp_list hs
    obtain ⟨al, xl, rfl, hal, dal⟩ := dp_list hl
    refine ⟨_, pss_one (ps_ret (pe_tup (pa_cons (pe_callTy call_tuple_of (by rfl) T.tuple_ (by decide +kernel) (pa_cons (pe_ix ix_list (pv 0) pe_int (fun _ _ => rfl)) pa_nil)) (pa_cons (pe_callTy call_tuple_of (by rfl) T.tuple_ (by decide +kernel) (pa_cons (pe_ix ix_list (pv 0) pe_int (fun _ _ => rfl)) pa_nil)) (pa_cons (pe_callTy call_tuple_of (by rfl) T.tuple_ (by decide +kernel) (pa_cons (pe_ix ix_list (pv 0) pe_int (fun _ _ => rfl)) pa_nil)) pa_nil))))), ?_⟩
    refine ⟨_, rfl, wa, _, 0, _, rfl, rfl, hw, rfl, ap, xp, rfl, .inl ⟨hap, fun u1 hu1 => ?_⟩⟩
    have q1 : Same H (upd H u1 (.tup xp)) := same_alloc hu1
    have e1 : upd H u1 (.tup xp) u1 = some (.tup xp) := upd_same
    generalize upd H u1 (.tup xp) = H6 at q1 e1 ⊢
    refine ⟨_, rfl, wa, _, 1, _, rfl, rfl, (same_nt q1).seq hw, rfl, as_, xs, rfl, .inl ⟨(same_nt q1).seq has, fun u2 hu2 => ?_⟩⟩
    have q2 : Same H6 (upd H6 u2 (.tup xs)) := same_alloc hu2
    have e2 : upd H6 u2 (.tup xs) u2 = some (.tup xs) := upd_same
    generalize upd H6 u2 (.tup xs) = H7 at q2 e2 ⊢
    have s11 := q1.trans q2
    refine ⟨_, rfl, wa, _, 2, _, rfl, rfl, (same_nt s11).seq hw, rfl, al, xl, rfl, .inl ⟨(same_nt s11).seq hal, fun u3 hu3 => ?_⟩⟩
    have q3 : Same H7 (upd H7 u3 (.tup xl)) := same_alloc hu3
    have e3 : upd H7 u3 (.tup xl) u3 = some (.tup xl) := upd_same
    generalize upd H7 u3 (.tup xl) = H8 at q3 e3 ⊢
    have s12 := s11.trans q3
    refine ⟨three_line, fun u4 hu4 => ?_⟩
    have q4 : Same H8 (upd H8 u4 (.tup [.ref u1, .ref u2, .ref u3])) := same_alloc hu4
    have s13 := s12.trans q4
    have eq13 := same_nt s13
    exact k _ _ s13 (.tup (SqT.of upd_same) (.cons (.tup (SqT.of (q4 _ _ (q3 _ _ (q2 _ _ e1)))) (dpAll_nt eq13 dap)) (.cons (.tup (SqT.of (q4 _ _ (q3 _ _ e2))) (dpAll_nt eq13 das)) (.cons (.tup (SqT.of (q4 _ _ e3)) (dpAll_nt eq13 dal)) .nil))))
theorem ok_law_turned {f : Addr} {fd : FuncData} (F : Fun K "_law_turned" "_law_turned" s_law_turned f fd) (T : Txt mg) : FnOk P w K mg base CX0 1 f fd ["_law_world_here"] (spLawTold K mir Wd.Ok) := by
  refine F.ok sc_law_turned (fun vs H Q E h => ?_) (fun cdv A outer s H vs Q E hr h => ?_)
  · obtain ⟨v, wd, rfl, _⟩ := h
    rfl
  · obtain ⟨v, wd, rfl, hD, ok, k⟩ := h
    obtain ⟨wa, vp, vs_, vl, vu, rfl, hw, hp, hs, hl, _⟩ := dp_four hD
    obtain ⟨ap, xp, rfl, hap, dap⟩ := dp_list hp
    obtain ⟨as_, xs, rfl, has, das⟩ := dp_list hs
    obtain ⟨al, xl, rfl, hal, dal⟩ := dp_list hl
    have l1 : xp.length = wd.ps.length := by rw [dpAll_len dap, List.length_map]
    have l2 : xs.length = wd.st.length := by rw [dpAll_len das, List.length_map]
    have l3 : xl.length = wd.lo.length := by rw [dpAll_len dal, List.length_map]
    have p6 := ok.p6
    have sl := ok.sl
    have ll := ok.ll
    refine ⟨_, pss_cons (ps_asg (pv 0) (pg_unl (by rfl) (pgs_cons (pg_name (i := 1) sc_law_turned.nd rfl (Or.inl rfl)) (pgs_cons (pg_name (i := 2) sc_law_turned.nd rfl (Or.inl rfl)) (pgs_cons (pg_name (i := 3) sc_law_turned.nd rfl (Or.inl rfl)) (pgs_cons (pg_name (i := 4) sc_law_turned.nd rfl (Or.inl rfl)) pgs_nil))))))
      (pss_cons (ps_set (i := 5) sc_law_turned.nd rfl (Or.inr rfl) (pe_op op_sub (pe_callB call_len_seq (by rfl) T.len_ PySem.boot_len (pa_cons (pv 1) pa_nil)) pe_int))
      (pss_cons (ps_setLc (i := 6) (own := [("_law_low", 8), ("_law_high", 9), ("_law_home", 10)]) (g := gTup K 3 (gCons (gName 8) (gCons (gName 9) (gCons (gName 10) gNil)))) (tt := tYes) rfl sc_law_turned.nd rfl rfl (sw_true rfl rfl rfl (by decide +kernel)) (pi_list (pv 3)) (blkOk_by (own := [("_law_low", 8), ("_law_high", 9), ("_law_home", 10)]) (N := ["_law_world_here", "_law_places", "_law_stretches", "_law_longs", "_law_spare", "_law_last", "_law_found", "_law_others", "_law_low", "_law_high", "_law_home", "_law_kind"]) (sc := defScope s_law_turned) (by decide +kernel)) (fun _ _ _ _ _ => (pg_tup (by rfl) (pgs_cons (pg_name (i := 8) sc_law_turned.nd rfl (Or.inl rfl)) (pgs_cons (pg_name (i := 9) sc_law_turned.nd rfl (Or.inl rfl)) (pgs_cons (pg_name (i := 10) sc_law_turned.nd rfl (Or.inl rfl)) pgs_nil))))) (fun _ _ _ _ _ => pts_nil) (fun _ _ _ _ _ => (pe_tup (pa_cons (pe_op op_sub (pv 5) (pv 9)) (pa_cons (pe_op op_sub (pv 5) (pv 8)) (pa_cons (pe_callTy call_int1 (by rfl) T.int_ (by decide +kernel) (pa_cons (pe_cmpR op_eq (pv 10) pe_int (nomark _)) pa_nil)) pa_nil))))))
      (pss_cons (ps_setLc (i := 7) (own := [("_law_kind", 11), ("_law_home", 10)]) (g := gTup K 2 (gCons (gName 11) (gCons (gName 10) gNil))) (tt := tYes) rfl sc_law_turned.nd rfl rfl (sw_true rfl rfl rfl (by decide +kernel)) (pi_reversed (by rfl) T.reversed_ (pa_cons (pv 2) pa_nil)) (blkOk_by (own := [("_law_kind", 11), ("_law_home", 10)]) (N := ["_law_world_here", "_law_places", "_law_stretches", "_law_longs", "_law_spare", "_law_last", "_law_found", "_law_others", "_law_low", "_law_high", "_law_home", "_law_kind"]) (sc := defScope s_law_turned) (by decide +kernel)) (fun _ _ _ _ _ => (pg_tup (by rfl) (pgs_cons (pg_name (i := 11) sc_law_turned.nd rfl (Or.inl rfl)) (pgs_cons (pg_name (i := 10) sc_law_turned.nd rfl (Or.inl rfl)) pgs_nil)))) (fun _ _ _ _ _ => pts_nil) (fun _ _ _ _ _ => (pe_tup (pa_cons (pv 11) (pa_cons (pe_callTy call_int1 (by rfl) T.int_ (by decide +kernel) (pa_cons (pe_cmpR op_eq (pv 10) pe_int (nomark _)) pa_nil)) pa_nil)))))
      (pss_one (ps_ret (pe_tup (pa_cons (pe_tupRev rfl (by rfl) T.tuple_ (by rfl) T.reversed_ (pv 1)) (pa_cons (pe_callTy call_tuple_of (by rfl) T.tuple_ (by decide +kernel) (pa_cons (pv 7) pa_nil)) (pa_cons (pe_tupRev rfl (by rfl) T.tuple_ (by rfl) T.reversed_ (pv 6)) pa_nil))))))))), ?_⟩
    generalize hσ : L2.start _ _ = σ0
    obtain rfl : σ0 = [some (.ref wa), none, none, none, none, none, none, none, none, none, none, none] := hσ.symm.trans rfl
    refine ⟨_, rfl, wa, _, rfl, hw, rfl, _, _, rfl, _, _, rfl, _, _, rfl, _, _, rfl, rfl, ?_⟩
    refine ⟨_, rfl, ap, xp, rfl, .inl hap, _, _, rfl, rfl, ?_⟩
    refine ⟨_, rfl, al, rfl, ⟨_, hal⟩, fun D hD => lc_it (walk_list (K := K) (xs := xl)) (fun i H' => ∃ ys, H' D = some (.lst ys) ∧ DpAll K (hide D H') ys ((wd.lo.take i).map fun p => dL (mL ((wd.ps.length : Int) - 1) p)) ∧ KB D H H') ?_ ?_ ?_ ?_⟩
    · exact ⟨[], upd_same, .nil, KB.alloc hD⟩
    · rintro i H' hi ⟨ys, _, _, kb⟩
      exact (KB.seq' hD kb).seq hal
    · rintro i v H' H'' hi ⟨ys, e, dy, kb⟩ ⟨rfl, hv⟩
      obtain ⟨q, hq1, hq2⟩ := dpAll_get dal hv
      obtain ⟨p, hp, rfl⟩ := get_map hq1
      obtain ⟨t, y1, y2, y3, rfl, ht, r1, r2, r3⟩ := dp_three hq2
      obtain rfl := dp_int r1
      obtain rfl := dp_int r2
      obtain rfl := dp_int r3
      have ht2 := (KB.seq' hD kb).seqT ht
      have li : ys.length ≤ 6 := by
        rw [dpAll_len dy, List.length_map, List.length_take]
        omega
      obtain ⟨h0, h1⟩ := long01 ok (List.mem_of_getElem? hp)
      refine ⟨t, _, rfl, ht2, rfl, _, _, rfl, _, _, rfl, _, _, rfl, rfl, wipe3 (by decide) (by decide) (by decide), ?_⟩
      simp only [wipe, List.map_cons, List.map_nil, List.set_cons_succ, List.set_cons_zero]
      refine lcY ⟨_, rfl, _, rfl, _, _, rfl, rfl, _, rfl, _, rfl, _, _, rfl, rfl, _, rfl, rfl, .inr ⟨_, rfl, three_line, fun z hz => ?_⟩⟩
      rw [home01 h0 h1, l1]
      have nz : z ≠ D := (ne_of_none e hz).symm
      refine ⟨ys, same_alloc hz _ _ e, lt_line _ (by omega), ys ++ [.ref z], upd_same, ?_, fun c o n h => by rw [upd_ne n]; exact same_alloc hz _ _ (kb c o n h)⟩
      rw [take_at hp, List.map_append]
      exact dpAll_app (dpAll_nt ((hide_mono (same_nt (same_alloc hz))).trans hide_put1) dy) (.cons (.tup (hide_put1.seqT (SqT.of (by rw [hide_ne nz]; exact upd_same))) (.cons (.int _) (.cons (.int _) (.cons (.int _) .nil)))) .nil)
    · rintro H2 ⟨ys, e, dy, kb⟩
      have S2 : Same H H2 := fun c o h => kb c o (ne_of_none h hD) h
      rw [l3, List.take_of_length_le (Nat.le_refl _)] at dy
      have dy2 := dpAll_nt (hide_nt D H2) dy
      clear dy kb
      have n2 := same_nt S2
      simp only [List.set_cons_succ, List.set_cons_zero]
      refine ⟨_, rfl, as_, xs, rfl, n2.seq has, fun D3 hD3 => lc_it (walk_rev (K := K) (xs := xs)) (fun i H' => ∃ zs, H' D3 = some (.lst zs) ∧ DpAll K (hide D3 H') zs ((((wd.st.map fun p => (p.1, 1 - p.2)).reverse).take i).map dP) ∧ KB D3 H2 H') ?_ ?_ ?_ ?_⟩
      · exact ⟨[], upd_same, .nil, KB.alloc hD3⟩
      · rintro i H' hi ⟨zs, _, _, kb⟩
        exact (KB.seq' hD3 kb).seq (n2.seq has)
      · rintro i v H' H'' hi ⟨zs, e3, dz, kb⟩ ⟨rfl, hv⟩
        have hv' := rev_at hi hv
        obtain ⟨q, hq1, hq2⟩ := dpAll_get (dpAll_rev das) hv'
        rw [← List.map_reverse] at hq1
        obtain ⟨p, hp, rfl⟩ := get_map hq1
        obtain ⟨t, y1, y2, rfl, ht, r1, r2⟩ := dp_two hq2
        obtain rfl := dp_str r1
        obtain rfl := dp_int r2
        have ht2 := (KB.seq' hD3 kb).seqT (n2.seqT ht)
        have hp' : ((wd.st.map fun p => (p.1, 1 - p.2)).reverse)[i]? = some (p.1, 1 - p.2) := by
          rw [← List.map_reverse, List.getElem?_map, hp]
          rfl
        have li : zs.length ≤ 6 := by
          rw [dpAll_len dz, List.length_map, List.length_take, List.length_reverse, List.length_map]
          omega
        obtain ⟨_, h0, h1⟩ := ok.st p (List.mem_reverse.mp (List.mem_of_getElem? hp))
        refine ⟨t, _, rfl, ht2, rfl, _, _, rfl, _, _, rfl, rfl, wipe2 (by decide) (by decide), ?_⟩
        simp only [wipe, List.map_cons, List.map_nil, List.set_cons_succ, List.set_cons_zero]
        refine lcY ⟨_, rfl, _, rfl, rfl, .inr ⟨_, rfl, (by show 2 ≤ sizeLine; decide), fun z hz => ?_⟩⟩
        rw [home01 h0 h1]
        have nz : z ≠ D3 := (ne_of_none e3 hz).symm
        refine ⟨zs, same_alloc hz _ _ e3, lt_line _ (by omega), zs ++ [.ref z], upd_same, ?_, fun c o n h => by rw [upd_ne n]; exact same_alloc hz _ _ (kb c o n h)⟩
        rw [take_at hp', List.map_append]
        exact dpAll_app (dpAll_nt ((hide_mono (same_nt (same_alloc hz))).trans hide_put1) dz) (.cons (.tup (hide_put1.seqT (SqT.of (by rw [hide_ne nz]; exact upd_same))) (.cons (.str _) (.cons (.int _) .nil))) .nil)
      · rintro H3 ⟨zs, e3, dz, kb⟩
        have s3 : Same H2 H3 := fun c o h => kb c o (ne_of_none h hD3) h
        have S3 := S2.trans s3
        have lr3 : xs.length = ((wd.st.map fun p => (p.1, 1 - p.2)).reverse).length := by rw [List.length_reverse, List.length_map, l2]
        rw [lr3, List.take_of_length_le (Nat.le_refl _)] at dz
        have dz3 := dpAll_nt (hide_nt D3 H3) dz
        have dy3 := dpAll_nt (same_nt s3) dy2
        have eD3' := s3 _ _ e
        clear dz kb dy2
        simp only [List.set_cons_succ, List.set_cons_zero]
        refine ⟨_, rfl, ap, xp, rfl, (same_nt S3).seq hap, fun u1 hu1 => ?_⟩
        have q1 : Same H3 (upd H3 u1 (.tup xp.reverse)) := same_alloc hu1
        have e1 : upd H3 u1 (.tup xp.reverse) u1 = some (.tup xp.reverse) := upd_same
        generalize upd H3 u1 (.tup xp.reverse) = H4 at q1 e1 ⊢
        refine ⟨_, rfl, D3, zs, rfl, .inl ⟨SqL.of (q1 _ _ e3), fun u2 hu2 => ?_⟩⟩
        have q2 : Same H4 (upd H4 u2 (.tup zs)) := same_alloc hu2
        have e2 : upd H4 u2 (.tup zs) u2 = some (.tup zs) := upd_same
        generalize upd H4 u2 (.tup zs) = H5 at q2 e2 ⊢
        refine ⟨_, rfl, D, ys, rfl, SqL.of (q2 _ _ (q1 _ _ eD3')), fun u3 hu3 => ?_⟩
        have q3 : Same H5 (upd H5 u3 (.tup ys.reverse)) := same_alloc hu3
        have e3 : upd H5 u3 (.tup ys.reverse) u3 = some (.tup ys.reverse) := upd_same
        generalize upd H5 u3 (.tup ys.reverse) = H6 at q3 e3 ⊢
        refine ⟨three_line, fun u4 hu4 => ?_⟩
        have q4 : Same H6 (upd H6 u4 (.tup [.ref u1, .ref u2, .ref u3])) := same_alloc hu4
        have s36 := ((q1.trans q2).trans q3).trans q4
        have n36 := same_nt s36
        have s06 := S3.trans s36
        refine k _ _ s06 (.tup (SqT.of upd_same) (.cons (.tup (SqT.of (q4 _ _ (q3 _ _ (q2 _ _ e1)))) ?_) (.cons (.tup (SqT.of (q4 _ _ (q3 _ _ e2))) (dpAll_nt n36 dz3)) (.cons (.tup (SqT.of (q4 _ _ e3)) ?_) .nil))))
        · have := dpAll_nt (same_nt s06) (dpAll_rev dap)
          rw [← List.map_reverse] at this
          exact this
        · have := dpAll_nt n36 (dpAll_rev dy3)
          rw [show (wd.lo.map fun p => dL (mL ((wd.ps.length : Int) - 1) p)) = ((wd.lo.map (mL ((wd.ps.length : Int) - 1))).map dL) by rw [List.map_map]; rfl, ← List.map_reverse] at this
          exact this
end
end K6

set_option maxRecDepth 100000
set_option maxHeartbeats 400000
namespace K6
open PySem PySem.Spec PyProof.Rows L2 GxR Gd TL My HT RT
theorem two_line : 2 ≤ sizeLine := by decide
theorem one_line : 1 ≤ sizeLine := by decide
/-- what is due -/
def DueAt (K : PySem.W.Frag) (H : Hp) (u : V) (kvs : List (Key × V)) (wd : Wd) : Prop := ∃ p x, u = .ref p ∧ match reD kvs [] wd.ps with
  | some (t, y) => H p = some (.tup [.str (Str.ofString t.s), x]) ∧ y = x
  | none => H p = some (.tup [.str "told", x]) ∧ Dp K H x (toldD ⟨rew kvs wd.ps, wd.st, wd.lo, wd.sp⟩)
theorem reD_name {kvs : List (Key × V)} {as : List Str} {p : Str × Int} {r : List (Str × Int)} (h : nm (nv kvs p.1) = false) : reD kvs as (p :: r) = some (.name, nv kvs p.1) := by
  show (if nm (nv kvs p.1) = true then _ else _) = _
  rw [if_neg (by rw [h]; exact Bool.false_ne_true)]
theorem reD_twice {kvs : List (Key × V)} {as : List Str} {p : Str × Int} {r : List (Str × Int)} (h : nm (nv kvs p.1) = true) (m : nv kvs p.1 ∈ as.map V.str) : reD kvs as (p :: r) = some (.twice, nv kvs p.1) := by
  show (if nm (nv kvs p.1) = true then (if _ then _ else _) else _) = _
  rw [if_pos h, if_pos m]
theorem reD_go {kvs : List (Key × V)} {as : List Str} {p : Str × Int} {r : List (Str × Int)} (h : nm (nv kvs p.1) = true) (m : ¬ nv kvs p.1 ∈ as.map V.str) : reD kvs as (p :: r) = reD kvs (as ++ [strOf (nv kvs p.1)]) r := by
  show (if nm (nv kvs p.1) = true then (if _ then _ else _) else _) = _
  rw [if_pos h, if_neg m]
theorem drop_atG {α : Type} {xs : List α} {i : Nat} {x : α} (h : xs[i]? = some x) : xs.drop i = x :: xs.drop (i + 1) := by
  obtain ⟨hi, e⟩ := List.getElem?_eq_some_iff.mp h
  rw [← e]
  exact List.drop_eq_getElem_cons hi
section
variable {P : Program} {w : World} {K : PySem.W.Frag} {mg : Str → Option Value} {base : Heap} {f1 f2 : Addr} {fd1 fd2 : FuncData}
abbrev s_law_due : Stmt := top 34
theorem sc_law_due : FnScope ["_law_world_here", "_law_some", "_law_seen", "_law_roads", "_law_other", "_law_places", "_law_name", "_law_row"] ["_law_world_here", "_law_some"] (defScope s_law_due) := ⟨rfl, rfl, rfl, by decide +kernel, rfl, by decide +kernel, by decide +kernel⟩
def spLawDue (K : PySem.W.Frag) : Sp := fun vs H Q _ => ∃ (v : V) (a : Addr) (wd : Wd) (kvs : List (Key × V)), vs = [v, .ref a] ∧ Dp K H v wd.data ∧ wd.Ok ∧ H a = some (.dK kvs) ∧ (∀ p ∈ kvs, Th H p.2) ∧
  ∀ u H', Same H H' → DueAt K H' u kvs wd → Q u H'
theorem ok_law_due {f : Addr} {fd : FuncData} (F : Fun K "_law_due" "_law_due" s_law_due f fd) (T : Txt mg)
    (Nlaw_is_name : Fn K mg "_law_is_name" s_law_is_name ["_law_thing"] f1 fd1) (Glaw_is_name : FnOk P w K mg base CX0 2 f1 fd1 ["_law_thing"] spLawName)
    (Nlaw_told : Fn K mg "_law_told" s_law_told ["_law_world_here"] f2 fd2) (Glaw_told : FnOk P w K mg base CX0 1 f2 fd2 ["_law_world_here"] (spLawTold K id fun _ => True)) :
    FnOk P w K mg base CX0 3 f fd ["_law_world_here", "_law_some"] (spLawDue K) := by
  refine F.ok sc_law_due (fun vs H Q E h => ?_) (fun cdv A outer s H vs Q E hr h => ?_)
  · obtain ⟨v, a, wd, kvs, rfl, _⟩ := h
    rfl
  · obtain ⟨v, a, wd, kvs, rfl, hD, ok, ha, tk, k⟩ := h
    obtain ⟨wa, vp, vs_, vl, vu, rfl, hw, hp, hs, hl, hsp⟩ := dp_four hD
    obtain ⟨ap, xp, rfl, hap, dap⟩ := dp_list hp
    obtain ⟨as_, xs, rfl, has, das⟩ := dp_list hs
    obtain ⟨al, xl, rfl, hal, dal⟩ := dp_list hl
    have l1 : xp.length = wd.ps.length := by rw [dpAll_len dap, List.length_map]
    have p6 := ok.p6
    refine ⟨_, pss_cons (ps_set (i := 2) sc_law_due.nd rfl (Or.inl rfl) (pe_lst pa_nil))
      (pss_cons (ps_for PassesOwn.never rfl (pi_list (pe_ix ix_list (pv 0) pe_int (fun _ _ => rfl))) (pg_tup (by rfl) (pgs_cons (pg_name (i := 6) sc_law_due.nd rfl (Or.inl rfl)) (pgs_cons (pg_name (i := 3) sc_law_due.nd rfl (Or.inl rfl)) pgs_nil))) (pss_cons (ps_set (i := 4) sc_law_due.nd rfl (Or.inl rfl) (pe_dget2 (hu_of hr) (pv 1) (pv 6) (pv 6) ⟨rfl, rfl, rfl, rfl⟩))
          (pss_cons (ps_if (pt_not (pt_val (pe_call Glaw_is_name (hr.mono (by decide)) (by rfl) Nlaw_is_name.g Nlaw_is_name.kp Nlaw_is_name.b .nil pass0 (pa_cons (pv 4) pa_nil)))) (pss_one (ps_ret (pe_tup (pa_cons pe_str (pa_cons (pv 4) pa_nil))))) pss_nil)
          (pss_cons (ps_if (pt_cmpR op_in_seq (pv 4) (pv 2) rfl) (pss_one (ps_ret (pe_tup (pa_cons pe_str (pa_cons (pv 4) pa_nil))))) pss_nil)
          (pss_one (ps_expr (pe_bm PySem.F.plainAttrs_list PySem.F.slot_list_append PySem.F.type_list_append mt_append (pv 2) (pa_cons (pv 4) pa_nil))))))))
      (pss_cons (ps_setLc (i := 5) (own := [("_law_name", 6), ("_law_row", 7)]) (g := gTup K 2 (gCons (gName 6) (gCons (gName 7) gNil))) (tt := tYes) rfl sc_law_due.nd rfl rfl (sw_true rfl rfl rfl (by decide +kernel)) (pi_zip (by rfl) T.zip_ (pa_cons (pv 2) (pa_cons (pe_ix ix_list (pv 0) pe_int (fun _ _ => rfl)) pa_nil))) (blkOk_by (own := [("_law_name", 6), ("_law_row", 7)]) (N := ["_law_world_here", "_law_some", "_law_seen", "_law_roads", "_law_other", "_law_places", "_law_name", "_law_row"]) (sc := defScope s_law_due) (by decide +kernel)) (fun _ _ _ _ _ => (pg_tup (by rfl) (pgs_cons (pg_name (i := 6) sc_law_due.nd rfl (Or.inl rfl)) (pgs_cons (pg_name (i := 7) sc_law_due.nd rfl (Or.inl rfl)) pgs_nil)))) (fun _ _ _ _ _ => pts_nil) (fun _ _ _ _ _ => (pe_tup (pa_cons (pv 6) (pa_cons (pe_ix (ixT (K := K) rfl) (pv 7) pe_int (fun _ _ => rfl)) pa_nil)))))
      (pss_one (ps_ret (pe_tup (pa_cons pe_str (pa_cons (pe_call Glaw_told (hr.mono (by decide)) (by rfl) Nlaw_told.g Nlaw_told.kp Nlaw_told.b .nil pass0 (pa_cons (pe_op op_cat (pe_lst (pa_cons (pv 5) pa_nil)) (pe_slice sl_list (pv 0) (po_some pe_int) po_none)) pa_nil)) pa_nil))))))), ?_⟩
    generalize hσ : L2.start _ _ = σ0
    obtain rfl : σ0 = [some (.ref wa), some (.ref a), none, none, none, none, none, none] := hσ.symm.trans rfl
    refine ⟨Nat.zero_le _, fun L hL => ?_⟩
    have sL : Same H (upd H L (.lst [])) := same_alloc hL
    have eL : upd H L (.lst []) L = some (.lst []) := upd_same
    generalize upd H L (.lst []) = H0 at sL eL ⊢
    have n0 := same_nt sL
    refine ⟨_, rfl, wa, _, 0, _, rfl, rfl, n0.seq hw, rfl, ap, rfl, ⟨_, n0.seq hap⟩, for_it (walk_list (K := K) (xs := xp)) (fun i σ H' => ∃ (v3 v4 v6 : Option V) (as : List Str), σ = [some (.ref wa), some (.ref a), some (.ref L), v3, v4, none, v6, none] ∧ H' L = some (.lst (as.map V.str)) ∧ as.length = i ∧ as = (wd.ps.take i).map (fun p => strOf (nv kvs p.1)) ∧ reD kvs as (wd.ps.drop i) = reD kvs [] wd.ps ∧ Same H H') ?_ ?_ ?_ ?_⟩
    · exact ⟨_, _, _, [], rfl, eL, rfl, rfl, rfl, sL⟩
    · rintro i σ H' _ ⟨_, _, _, _, _, _, _, _, _, S⟩
      exact (same_nt S).seq hap
    · rintro i y σ H2 H3 hi ⟨v3, v4, v6, as, rfl, eL2, el, eas, ep, S⟩ ⟨rfl, hv⟩
      obtain ⟨q, hq1, hq2⟩ := dpAll_get dap hv
      obtain ⟨p, hp, rfl⟩ := get_map hq1
      obtain ⟨t, y1, y2, rfl, ht, r1, r2⟩ := dp_two hq2
      obtain rfl := dp_str r1
      obtain rfl := dp_int r2
      have n2 := same_nt S
      have ha2 := S _ _ ha
      rw [drop_atG hp] at ep
      obtain ⟨okn, _⟩ := ok.nm p (List.mem_of_getElem? hp)
      have th := th_nv (H := _) (fun r hr => th_nt n2 (tk r hr)) okn
      refine ⟨t, _, rfl, n2.seqT ht, rfl, _, _, rfl, _, _, rfl, rfl, ?_⟩
      simp only [List.set_cons_succ, List.set_cons_zero]
      refine ⟨_, rfl, a, rfl, .inl ⟨kvs, Rd.of ha2⟩, _, rfl, _, rfl, _, DGet.k (k := Sum.inr p.1) ha2, ?_⟩
      simp only [List.set_cons_succ, List.set_cons_zero]
      refine ⟨_, rfl, nv kvs p.1, rfl, th, fun H4 s4 => ?_⟩
      have S4 := S.trans s4
      have eL4 := s4 _ _ eL2
      cases hn : nm (nv kvs p.1) with
      | false =>
        rw [reD_name hn] at ep
        exact ⟨_, rfl, iteT ⟨_, rfl, two_line, fun p hp => k _ _ (S4.trans (same_alloc hp)) ⟨p, _, rfl, by rw [← ep]; exact ⟨upd_same, rfl⟩⟩⟩⟩
      | true =>
        refine ⟨_, rfl, iteF ?_⟩
        obtain ⟨z, ez, oz⟩ := nm_str hn
        have es : strOf (nv kvs p.1) = z := by rw [ez]; rfl
        refine ⟨_, rfl, _, rfl, L, _, rfl, .inl (SqL.of eL4), (by show flatV (nv kvs p.1) = true; rw [ez]; rfl), flat_strs as, _, rfl, ?_⟩
        show if (if false = true then !inV (nv kvs p.1) (as.map V.str) else inV (nv kvs p.1) (as.map V.str)) = true then _ else _
        rw [if_neg Bool.false_ne_true, show inV (nv kvs p.1) (as.map V.str) = decide (nv kvs p.1 ∈ as.map V.str) by rw [ez]; exact inV_mem]
        by_cases hm : nv kvs p.1 ∈ as.map V.str
        · rw [reD_twice hn hm] at ep
          rw [decide_eq_true hm]
          exact iteT ⟨_, rfl, two_line, fun p hp => k _ _ (S4.trans (same_alloc hp)) ⟨p, _, rfl, by rw [← ep]; exact ⟨upd_same, rfl⟩⟩⟩
        · rw [reD_go hn hm, es] at ep
          rw [decide_eq_false hm]
          refine iteF ?_
          have hi6 : i < 6 := by
            have := (List.getElem?_eq_some_iff.mp hp).1
            omega
          refine ⟨_, rfl, .inl ⟨rfl, _, SqL.of eL4⟩, _, rfl, L, _, _, rfl, rfl, eL4, lt_line _ (by rw [List.length_map]; omega), ?_⟩
          refine ⟨_, _, _, as ++ [z], rfl, ?_, by rw [List.length_append, el]; rfl, ?_, ep, fun c o h => by rw [upd_ne (ne_of_none h hL)]; exact S4 _ _ h⟩
          · rw [upd_same, List.map_append]
            show some (HO.lst (as.map V.str ++ [nv kvs p.1])) = _
            rw [ez]
            rfl
          · rw [take_at hp, List.map_append, ← eas]
            show _ = as ++ [strOf (nv kvs p.1)]
            rw [es]
    · rintro σ H2 ⟨v3, v4, v6, as, rfl, eL2, el, eas, ep, S⟩
      rw [l1, List.drop_length] at ep
      rw [l1, List.take_of_length_le (Nat.le_refl _)] at eas
      rw [l1] at el
      have n2 := same_nt S
      simp only [List.set_cons_succ, List.set_cons_zero]
      have lr : (rew kvs wd.ps).length = wd.ps.length := List.length_map _
      refine ⟨_, rfl, _, rfl, wa, _, 0, _, rfl, rfl, n2.seq hw, rfl, L, ap, _, _, rfl, SqL.of eL2, n2.seq hap, fun D hD => lc_it (walk_zip (K := K) (a := L) (b := ap) (xs := as.map V.str) (ys := xp) (n := wd.ps.length) (by rw [List.length_map, el, l1]; exact (Nat.min_self _).symm)) (fun i H' => ∃ zs, H' D = some (.lst zs) ∧ DpAll K (hide D H') zs (((rew kvs wd.ps).take i).map dP) ∧ KB D H2 H') ?_ ?_ ?_ ?_⟩
      · exact ⟨[], upd_same, .nil, KB.alloc hD⟩
      · rintro i H' hi ⟨zs, _, _, kb⟩
        exact ⟨(KB.seq' hD kb).seq (SqL.of eL2), (KB.seq' hD kb).seq (n2.seq hap)⟩
      · rintro i v H' H'' hi ⟨zs, e3, dz, kb⟩ ⟨T1, X, Y, rfl, hT1, rfl, q1, q2⟩
        obtain ⟨q, hq1, hq2⟩ := dpAll_get dap q2
        obtain ⟨p, hp, rfl⟩ := get_map hq1
        obtain ⟨t, y1, y2, rfl, ht, r1, r2⟩ := dp_two hq2
        obtain rfl := dp_str r1
        obtain rfl := dp_int r2
        obtain ⟨z1, hz1, rfl⟩ := get_map q1
        have ez1 : z1 = strOf (nv kvs p.1) := by
          rw [eas, List.getElem?_map, hp] at hz1
          exact (Option.some.inj hz1).symm
        subst ez1
        have hp' : (rew kvs wd.ps)[i]? = some (strOf (nv kvs p.1), p.2) := by
          unfold rew
          rw [List.getElem?_map, hp]
          rfl
        have sT := same_alloc (o := .tup [.str (strOf (nv kvs p.1)), .ref t]) hT1
        have ht2 := (same_ls sT).seqT ((KB.seq' hD kb).seqT (n2.seqT ht))
        have e3' := sT _ _ e3
        have li : zs.length ≤ 6 := by
          rw [dpAll_len dz, List.length_map, List.length_take, lr]
          omega
        refine ⟨T1, _, rfl, SqT.of upd_same, rfl, _, _, rfl, _, _, rfl, rfl, wipe2 (by decide) (by decide), ?_⟩
        generalize upd H' T1 (.tup [.str (strOf (nv kvs p.1)), .ref t]) = H5 at sT ht2 e3' ⊢
        simp only [wipe, List.map_cons, List.map_nil, List.set_cons_succ, List.set_cons_zero]
        refine lcY ⟨_, rfl, _, rfl, t, _, 1, _, rfl, rfl, ht2, rfl, two_line, fun z hz => ?_⟩
        have nz : z ≠ D := (ne_of_none e3' hz).symm
        refine ⟨zs, same_alloc hz _ _ e3', lt_line _ (by omega), zs ++ [.ref z], upd_same, ?_, fun c o n h => by rw [upd_ne n]; exact same_alloc hz _ _ (sT _ _ (kb c o n h))⟩
        rw [take_at hp', List.map_append]
        exact dpAll_app (dpAll_nt ((hide_mono (same_nt (sT.trans (same_alloc hz)))).trans hide_put1) dz) (.cons (.tup (hide_put1.seqT (SqT.of (by rw [hide_ne nz]; exact upd_same))) (.cons (.str _) (.cons (.int _) .nil))) .nil)
      · rintro H3 ⟨zs, e3, dz, kb⟩
        have s3 : Same H2 H3 := fun c o h => kb c o (ne_of_none h hD) h
        have S3 := S.trans s3
        rw [← lr, List.take_of_length_le (Nat.le_refl _)] at dz
        have dz3 := dpAll_nt (hide_nt D H3) dz
        clear dz kb
        simp only [List.set_cons_succ, List.set_cons_zero]
        refine ⟨_, rfl, one_line, fun c1 hc1 => ?_⟩
        have q1 : Same H3 (upd H3 c1 (.lst [.ref D])) := same_alloc hc1
        have e1 : upd H3 c1 (.lst [.ref D]) c1 = some (.lst [.ref D]) := upd_same
        generalize upd H3 c1 (.lst [.ref D]) = H4 at q1 e1 ⊢
        refine ⟨_, rfl, _, rfl, wa, _, rfl, (same_nt (S3.trans q1)).seq hw, fun c2 hc2 => ?_⟩
        have ec : cutV [V.ref ap, V.ref as_, V.ref al, vu] (some 1) none = [V.ref as_, V.ref al, vu] := rfl
        rw [ec]
        have q2 : Same H4 (upd H4 c2 (.lst [V.ref as_, V.ref al, vu])) := same_alloc hc2
        have e2 : upd H4 c2 (.lst [V.ref as_, V.ref al, vu]) c2 = some (.lst [V.ref as_, V.ref al, vu]) := upd_same
        generalize upd H4 c2 (.lst [V.ref as_, V.ref al, vu]) = H5 at q2 e2 ⊢
        refine ⟨c1, c2, _, _, rfl, rfl, q2 _ _ e1, e2, (by show 4 ≤ sizeLine; decide), fun c3 hc3 => ?_⟩
        have q3 : Same H5 (upd H5 c3 (.lst ([.ref D] ++ [V.ref as_, V.ref al, vu]))) := same_alloc hc3
        have e3' : upd H5 c3 (.lst ([.ref D] ++ [V.ref as_, V.ref al, vu])) c3 = some (.lst [.ref D, V.ref as_, V.ref al, vu]) := upd_same
        generalize upd H5 c3 (.lst ([.ref D] ++ [V.ref as_, V.ref al, vu])) = H6 at q3 e3' ⊢
        have s36 := (q1.trans q2).trans q3
        have s06 := S3.trans s36
        have n06 := same_nt s06
        refine ⟨.ref c3, ⟨rew kvs wd.ps, wd.st, wd.lo, wd.sp⟩, rfl, .lst (SqL.of e3') (.cons (.lst (SqL.of (s36 _ _ e3)) (dpAll_nt (same_nt s36) dz3)) (.cons (.lst (n06.seq has) (dpAll_nt n06 das)) (.cons (.lst (n06.seq hal) (dpAll_nt n06 dal)) (.cons (dp_nt n06 hsp) .nil)))), trivial, fun t H7 s7 d7 => ?_⟩
        refine ⟨two_line, fun q hq => ?_⟩
        have s8 := same_alloc (o := .tup [.str "told", .ref t]) hq
        refine k _ _ ((s06.trans s7).trans s8) ⟨q, .ref t, rfl, ?_⟩
        rw [← ep]
        exact ⟨upd_same, dp_nt (same_nt s8) d7⟩
end
end K6

set_option maxRecDepth 100000
set_option maxHeartbeats 400000
namespace K6
open PySem PySem.Spec PyProof.Rows L2 GxR Gd TL My HT RT
theorem putK_mem {kvs : List (Key × V)} {k : Key} {v : V} {q : Key × V} (h : q ∈ putK kvs k v) : q.2 = v ∨ q ∈ kvs := by
  unfold putK at h
  split at h
  · obtain ⟨r, hr, rfl⟩ := List.mem_map.mp h
    by_cases e : r.1 = k
    · rw [if_pos e]
      exact .inl rfl
    · rw [if_neg e]
      exact .inr hr
  · rcases List.mem_append.mp h with h | h
    · exact .inr h
    · rw [List.mem_singleton.mp h]
      exact .inl rfl
theorem mergeK_mem : ∀ {more kvs : List (Key × V)} {q : Key × V}, q ∈ mergeK kvs more → q ∈ kvs ∨ ∃ r ∈ more, q.2 = r.2
  | [], _, _, h => .inl h
  | m :: more, kvs, q, h => by
    rcases mergeK_mem (more := more) (kvs := putK kvs m.1 m.2) h with h | ⟨r, hr, e⟩
    · rcases putK_mem h with h | h
      · exact .inr ⟨m, List.mem_cons_self, h⟩
      · exact .inl h
    · exact .inr ⟨r, List.mem_cons_of_mem _ hr, e⟩
theorem zip_vals {ks : List Key} {ys : List V} {q : Key × V} (h : q ∈ mergeK [] (ks.zip ys)) : q.2 ∈ ys := by
  rcases mergeK_mem h with h | ⟨r, hr, e⟩
  · cases h
  · rw [e]
    exact (List.of_mem_zip hr).2
def KeyOk (k : Key) : Prop := (∃ z, k = .inr z ∧ Good z ∧ z.length ≤ 6) ∨ k = .inl 7
theorem putK_key {kvs : List (Key × V)} {k : Key} {v : V} {q : Key × V} (h : q ∈ putK kvs k v) : q.1 = k ∨ ∃ r ∈ kvs, q.1 = r.1 := by
  unfold putK at h
  split at h
  · obtain ⟨r, hr, rfl⟩ := List.mem_map.mp h
    by_cases e : r.1 = k
    · rw [if_pos e]
      exact .inl e
    · rw [if_neg e]
      exact .inr ⟨r, hr, rfl⟩
  · rcases List.mem_append.mp h with h | h
    · exact .inr ⟨q, h, rfl⟩
    · rw [List.mem_singleton.mp h]
      exact .inl rfl
theorem mergeK_key : ∀ {more kvs : List (Key × V)} {q : Key × V}, q ∈ mergeK kvs more → (∃ r ∈ kvs, q.1 = r.1) ∨ ∃ r ∈ more, q.1 = r.1
  | [], _, q, h => .inl ⟨q, h, rfl⟩
  | m :: more, kvs, q, h => by
    rcases mergeK_key (more := more) (kvs := putK kvs m.1 m.2) h with ⟨r, hr, e⟩ | ⟨r, hr, e⟩
    · rcases putK_key hr with h | ⟨s, hs, e2⟩
      · exact .inr ⟨m, List.mem_cons_self, e.trans h⟩
      · exact .inl ⟨s, hs, e.trans e2⟩
    · exact .inr ⟨r, List.mem_cons_of_mem _ hr, e⟩
theorem zip_keys {l : List Str} {ys : List V} {q : Key × V} (ok : ∀ z ∈ l, NameOk z) (h : q ∈ mergeK [] ((l.map Sum.inr).zip ys)) : KeyOk q.1 := by
  rcases mergeK_key h with ⟨r, hr, _⟩ | ⟨r, hr, e⟩
  · cases hr
  · rw [e]
    obtain ⟨z, hz, ez⟩ := List.mem_map.mp (List.of_mem_zip hr).1
    exact .inl ⟨z, ez.symm, (ok z hz).good, (ok z hz).2.1⟩
theorem zip_len (ks : List Key) (ys : List V) : (mergeK [] (ks.zip ys)).length ≤ ks.length := by
  refine Nat.le_trans (length_mergeK _ _) ?_
  rw [List.length_nil, Nat.zero_add, List.length_zip]
  exact Nat.min_le_left _ _
theorem keys_strs (l : List Str) : (l.map Sum.inr : List Key).map kV = l.map V.str := by
  rw [List.map_map]
  rfl
theorem wf_str {N : Addr → Prop} {H : Hp} {z : Str} (h : NameOk z) : Wf N H 1 1 (.str z) := .str z h.good (by have := h.2.1; omega) _
theorem kw_kb {p b : Addr} {n : Int} {A B : Hp} (hb : Bx b n A) (k : KB b A B) : Kw (fun c => c ≠ b) (hide p A) (hide p B) := by
  have ne : ∀ {c o}, A c = some o → (∀ xs, o ≠ .lst xs) → c ≠ b := fun {c o} h m e => by
    obtain ⟨_, _, _, q, _⟩ := hb
    rw [e, q] at h
    exact m _ (Option.some.inj h).symm
  refine ⟨fun c xs nc h => ?_, fun c xs h => ?_, fun c xs h => ?_⟩
  · obtain ⟨h1, h2⟩ := hide_some h
    rw [hide_ne h1]
    exact k _ _ nc h2
  · obtain ⟨h1, h2⟩ := hide_some h
    rw [hide_ne h1]
    exact k _ _ (ne h2 (by simp)) h2
  · obtain ⟨h1, h2⟩ := hide_some h
    rw [hide_ne h1]
    exact k _ _ (ne h2 (by simp)) h2
theorem pickI {K : PySem.W.Frag} {H : Hp} {b L : Addr} {many n : Int} {ts : List V} {Q : VK} (hb : Bx b n H) (n9 : n ≤ 90000) (hm : many = (ts.length : Int)) (m0 : 0 < ts.length) (m9 : ts.length ≤ 1000) (hL : H L = some (.lst ts)) (nL : L ≠ b)
    (k : ∀ v H', v ∈ ts → KB b H H' → Bx b (n + 1) H' → Q v H') : spTake [.ref b, .int many] H (fun y H2 => rIxL K (.ref L) y H2 Q) E0 := by
  subst hm
  exact pick0 hb n9 m0 m9 rfl hL nL k
theorem cut_mem {xs : List V} {lo hi : Option Int} {v : V} (h : v ∈ cutV xs lo hi) : v ∈ xs := List.mem_of_mem_drop (List.mem_of_mem_take h)
theorem wipe_length {σ : L2.St} : ∀ vs : List Nat, (wipe σ vs).length = σ.length
  | [] => rfl
  | v :: r => by
    show ((wipe σ r).set v none).length = _
    rw [List.length_set, wipe_length r]
theorem names_compL {K : PySem.W.Frag} {σ : L2.St} {H : Hp} {i a b : Nat} {W ap : Addr} {rest xp : List V} {ps : List (Str × Int)} {G : VK} (hi : σ[i]? = some (some (.ref W))) (hw : SqL K H W (.ref ap :: rest)) (hap : SqL K H ap xp) (dap : DpAll K H xp (ps.map dP)) (h6 : ps.length ≤ 6)
    (la : a < σ.length) (ab : a ≠ b) (k : ∀ D H', H D = none → Same H H' → H' D = some (.lst ((ps.map (·.1)).map V.str)) → G (.ref D) H') :
    tLc (iList K (tOp (rIxL K) (tVar i) (tC (V.int 0)))) (gTup K 2 (gCons (gName a) (gCons (gName b) gNil))) tYes (tVar a) [a, b] σ H G := by
  have lp : xp.length = ps.length := by rw [dpAll_len dap, List.length_map]
  refine ⟨_, hi, W, _, 0, _, rfl, rfl, hw, (atI_nat (j := 0) rfl), ap, rfl, ⟨_, hap⟩, fun N hN => lc_it (walk_list (K := K) (xs := xp)) (fun i H' => H' = upd H N (.lst (((ps.take i).map (·.1)).map V.str))) rfl ?_ ?_ ?_⟩
  · rintro i H' _ rfl
    exact (same_nt (same_alloc hN)).seq hap
  · rintro i' v H' H'' hi rfl ⟨rfl, hv⟩
    obtain ⟨d', hg1, hg2⟩ := dpAll_get dap hv
    obtain ⟨p, hp, rfl⟩ := get_map hg1
    obtain ⟨t, y1, y2, rfl, ht, r1, r2⟩ := dp_two hg2
    obtain rfl := dp_str r1
    obtain rfl := dp_int r2
    refine ⟨t, _, rfl, (same_nt (same_alloc hN)).seqT ht, rfl, _, _, rfl, _, _, rfl, rfl, wipe2 (by simp) (by simp), lcY ⟨.str p.1, ?_, _, upd_same, ?_, ?_⟩⟩
    · rw [List.getElem?_set_ne ab.symm, List.getElem?_set_self (by rw [wipe_length]; exact la)]
    · rw [List.length_map, List.length_map, List.length_take]
      exact lt_line _ (by omega)
    · rw [upd_upd, take_at hp, List.map_append, List.map_append]
      rfl
  · rintro H' rfl
    rw [lp, List.take_of_length_le (Nat.le_refl _)]
    exact k N _ hN (same_alloc hN) upd_same
theorem names_compT {K : PySem.W.Frag} {σ : L2.St} {H : Hp} {i a b : Nat} {W ap : Addr} {rest xp : List V} {ps : List (Str × Int)} {G : VK} (hi : σ[i]? = some (some (.ref W))) (hw : SqT K H W (.ref ap :: rest)) (hap : SqT K H ap xp) (dap : DpAll K H xp (ps.map dP)) (h6 : ps.length ≤ 6)
    (la : a < σ.length) (ab : a ≠ b) (k : ∀ D H', H D = none → Same H H' → H' D = some (.lst ((ps.map (·.1)).map V.str)) → G (.ref D) H') :
    tLc (iTup K (tOp (rIxT K) (tVar i) (tC (V.int 0)))) (gTup K 2 (gCons (gName a) (gCons (gName b) gNil))) tYes (tVar a) [a, b] σ H G := by
  have lp : xp.length = ps.length := by rw [dpAll_len dap, List.length_map]
  refine ⟨_, hi, W, _, 0, _, rfl, rfl, hw, (atI_nat (j := 0) rfl), ap, rfl, ⟨_, hap⟩, fun N hN => lc_it (walk_tup (K := K) (xs := xp)) (fun i H' => H' = upd H N (.lst (((ps.take i).map (·.1)).map V.str))) rfl ?_ ?_ ?_⟩
  · rintro i H' _ rfl
    exact (same_nt (same_alloc hN)).seqT hap
  · rintro i' v H' H'' hi rfl ⟨rfl, hv⟩
    obtain ⟨d', hg1, hg2⟩ := dpAll_get dap hv
    obtain ⟨p, hp, rfl⟩ := get_map hg1
    obtain ⟨t, y1, y2, rfl, ht, r1, r2⟩ := dp_two hg2
    obtain rfl := dp_str r1
    obtain rfl := dp_int r2
    refine ⟨t, _, rfl, (same_nt (same_alloc hN)).seqT ht, rfl, _, _, rfl, _, _, rfl, rfl, wipe2 (by simp) (by simp), lcY ⟨.str p.1, ?_, _, upd_same, ?_, ?_⟩⟩
    · rw [List.getElem?_set_ne ab.symm, List.getElem?_set_self (by rw [wipe_length]; exact la)]
    · rw [List.length_map, List.length_map, List.length_take]
      exact lt_line _ (by omega)
    · rw [upd_upd, take_at hp, List.map_append, List.map_append]
      rfl
  · rintro H' rfl
    rw [lp, List.take_of_length_le (Nat.le_refl _)]
    exact k N _ hN (same_alloc hN) upd_same
theorem cut_drop {xs : List V} {j : Nat} (h : j ≤ xs.length) : cutV xs (some (j : Int)) none = xs.drop j := by
  unfold cutV
  rw [HT.sIx_nat, HT.sIx_none, Nat.min_eq_left h]
  exact List.take_of_length_le (by rw [List.length_drop]; exact Nat.le_refl _)
theorem cut_take {xs : List V} {j : Nat} (h : j ≤ xs.length) : cutV xs none (some (j : Int)) = xs.take j := by
  unfold cutV
  rw [HT.sIx_nat, HT.sIx_none, Nat.min_eq_left h]
  rfl
structure DOk (b L : Addr) (m : Int) (H H6 : Hp) (nms : List Str) (p : Addr) (kvs : List (Key × V)) : Prop where
  kb : KB b H H6
  bx : Bx b m H6
  ep : H6 p = some (.dK kvs)
  lk : kvs.length ≤ 6
  wf : ∀ q ∈ kvs, Wf (fun c => c ≠ b) (hide p H6) 1 1 q.2
  eL : H6 L = some (.lst (nms.map V.str))
  np : H p = none
  nb : p ≠ b
  ky : ∀ q ∈ kvs, KeyOk q.1
theorem DOk.make {b L : Addr} {m m' : Int} {H X : Hp} {nms : List Str} {p : Addr} {kvs : List (Key × V)} (kb : KB b H X) (bx : Bx b m X) (hm : m ≤ m') (np : X p = none) (eL : X L = some (.lst (nms.map V.str))) (lk : kvs.length ≤ 6)
    (wf : ∀ q ∈ kvs, ∃ z, q.2 = .str z ∧ NameOk z) (ky : ∀ q ∈ kvs, KeyOk q.1) : DOk b L m' H (upd X p (.dK kvs)) nms p kvs :=
  ⟨kb.trans (KB.alloc np), (bx.alloc np).mono hm, upd_same, lk, fun q hq => by
    obtain ⟨z, e, oz⟩ := wf q hq
    rw [e]
    exact wf_str oz, by rw [upd_ne (ne_of_none eL np)]; exact eL, fresh0 kb (bx.fresh np) np, bx.fresh np, ky⟩
section
variable {P : Program} {w : World} {K : PySem.W.Frag} {mg : Str → Option Value} {base : Heap} {f1 f2 : Addr} {fd1 fd2 : FuncData}
abbrev s_law_dict : Stmt := top 33
theorem sc_law_dict : FnScope ["_law_box_here", "_law_world_here", "_law_names_here", "_law_way", "_law_at", "_law_found", "_law_turn", "_law_key", "_law_some", "_law_name", "_law_roads"] ["_law_box_here", "_law_world_here"] (defScope s_law_dict) := ⟨rfl, rfl, rfl, by decide +kernel, rfl, by decide +kernel, by decide +kernel⟩
def spDict (K : PySem.W.Frag) : Sp := fun vs H Q _ => ∃ (b W : Addr) (n : Int) (wd : Wd), vs = [.ref b, .ref W] ∧ Bx b n H ∧ n ≤ 80000 ∧ wd.Ok ∧ Dp K (hide b H) (.ref W) wd.data ∧
  ∀ p kvs H', KB b H H' → Bx b (n + 80) H' → H p = none → H' p = some (.dK kvs) → kvs.length ≤ 10 → (∀ q ∈ kvs, Wf (fun c => c ≠ b) (hide p H') 1 1 q.2) → (∀ q ∈ kvs, KeyOk q.1) → Q (.ref p) H'
theorem ok_law_dict {f : Addr} {fd : FuncData} (F : Fun K "_law_dict" "_law_dict" s_law_dict f fd) (T : Txt mg)
    (Nlaw_take : Fn K mg "_law_take" sTake ["_law_box_here", "_law_many"] f1 fd1) (Glaw_take : FnOk P w K mg base CX0 1 f1 fd1 ["_law_box_here", "_law_many"] spTake)
    (Nlaw_names : Fn K mg "_law_names" s_law_names ["_law_box_here", "_law_many"] f2 fd2) (Glaw_names : FnOk P w K mg base CX0 2 f2 fd2 ["_law_box_here", "_law_many"] spNames) :
    FnOk P w K mg base CX0 3 f fd ["_law_box_here", "_law_world_here"] (spDict K) := by
  refine F.ok sc_law_dict (fun vs H Q E h => ?_) (fun cdv A outer s H vs Q E hr h => ?_)
  · obtain ⟨b, W, n, wd, rfl, _⟩ := h
    rfl
  · obtain ⟨b, W, n, wd, rfl, hB, hn, ok, hD, k⟩ := h
    refine ⟨_, pss_cons (ps_setLc (i := 2) (own := [("_law_name", 9), ("_law_roads", 10)]) (g := gTup K 2 (gCons (gName 9) (gCons (gName 10) gNil))) (tt := tYes) rfl sc_law_dict.nd rfl rfl (sw_true rfl rfl rfl (by decide +kernel)) (pi_list (pe_ix ix_list (pv 1) pe_int (fun _ _ => rfl))) (blkOk_by (own := [("_law_name", 9), ("_law_roads", 10)]) (N := ["_law_box_here", "_law_world_here", "_law_names_here", "_law_way", "_law_at", "_law_found", "_law_turn", "_law_key", "_law_some", "_law_name", "_law_roads"]) (sc := defScope s_law_dict) (by decide +kernel)) (fun _ _ _ _ _ => (pg_tup (by rfl) (pgs_cons (pg_name (i := 9) sc_law_dict.nd rfl (Or.inl rfl)) (pgs_cons (pg_name (i := 10) sc_law_dict.nd rfl (Or.inl rfl)) pgs_nil)))) (fun _ _ _ _ _ => pts_nil) (fun _ _ _ _ _ => (pv 9)))
      (pss_cons (ps_set (i := 3) sc_law_dict.nd rfl (Or.inl rfl) (pe_call Glaw_take (hr.mono (by decide)) (by rfl) Nlaw_take.g Nlaw_take.kp Nlaw_take.b .nil pass0 (pa_cons (pv 0) (pa_cons pe_int pa_nil))))
      (pss_cons (ps_set (i := 4) sc_law_dict.nd rfl (Or.inl rfl) (pe_call Glaw_take (hr.mono (by decide)) (by rfl) Nlaw_take.g Nlaw_take.kp Nlaw_take.b .nil pass0 (pa_cons (pv 0) (pa_cons (pe_callB call_len_seq (by rfl) T.len_ PySem.boot_len (pa_cons (pv 2) pa_nil)) pa_nil))))
      (pss_cons (ps_set (i := 5) sc_law_dict.nd rfl (Or.inl rfl) (pe_dictZip rfl (by rfl) T.dict_ (by rfl) T.zip_ (pa_cons (pv 2) (pa_cons (pe_op op_cat (pe_slice sl_list (pv 2) (po_some (pv 4)) po_none) (pe_slice sl_list (pv 2) po_none (po_some (pv 4)))) pa_nil))))
      (pss_cons (ps_if (pt_cmpR op_eq (pv 3) pe_int (nomark _)) (pss_one (ps_set (i := 5) sc_law_dict.nd rfl (Or.inl rfl) (pe_dictZip rfl (by rfl) T.dict_ (by rfl) T.zip_ (pa_cons (pv 2) (pa_cons (pe_call Glaw_names (hr.mono (by decide)) (by rfl) Nlaw_names.g Nlaw_names.kp Nlaw_names.b .nil pass0 (pa_cons (pv 0) (pa_cons (pe_callB call_len_seq (by rfl) T.len_ PySem.boot_len (pa_cons (pv 2) pa_nil)) pa_nil))) pa_nil))))) pss_nil)
      (pss_cons (ps_if (pt_cmpR op_eq (pv 3) pe_int (nomark _)) (pss_one (ps_set (i := 5) sc_law_dict.nd rfl (Or.inl rfl) (pe_dictZip rfl (by rfl) T.dict_ (by rfl) T.zip_ (pa_cons (pe_slice sl_list (pv 2) po_none (po_some (pv 4))) (pa_cons (pe_revL (pe_slice sl_list (pv 2) po_none (po_some (pv 4)))) pa_nil))))) pss_nil)
      (pss_cons (ps_if (pt_cmpR op_eq (pv 3) pe_int (nomark _)) (pss_one (ps_set (i := 5) sc_law_dict.nd rfl (Or.inl rfl) (pe_disp (pps_cons (pe_ix ix_list (pv 2) (pv 4) (fun _ _ => rfl)) (pe_ix ix_list (pv 1) pe_int (fun _ _ => rfl)) pps_nil) (by rfl) (by rfl) (fun z => by cases z) (by decide)))) pss_nil)
      (pss_cons (ps_for PassesOwn.never rfl (pi_range1 (by rfl) T.range_ (pa_cons (pe_call Glaw_take (hr.mono (by decide)) (by rfl) Nlaw_take.g Nlaw_take.kp Nlaw_take.b .nil pass0 (pa_cons (pv 0) (pa_cons pe_int pa_nil))) pa_nil)) (pg_name (i := 6) sc_law_dict.nd rfl (Or.inl rfl)) (pss_cons (ps_set (i := 7) sc_law_dict.nd rfl (Or.inl rfl) (pe_ix (ixL (K := K) rfl) (pe_op op_cat (pv 2) (pe_lst (pa_cons (pe_ix (ixL (K := K) rfl) (pv 1) pe_int (fun _ _ => rfl)) (pa_cons pe_int (pa_cons pe_str pa_nil))))) (pe_call Glaw_take (hr.mono (by decide)) (by rfl) Nlaw_take.g Nlaw_take.kp Nlaw_take.b .nil pass0 (pa_cons (pv 0) (pa_cons (pe_op op_add (pe_callB call_len_seq (by rfl) T.len_ PySem.boot_len (pa_cons (pv 2) pa_nil)) pe_int) pa_nil))) (fun _ _ => rfl)))
          (pss_cons (ps_set (i := 8) sc_law_dict.nd rfl (Or.inl rfl) (pe_op op_cat (pe_lst (pa_cons pe_non (pa_cons pe_str (pa_cons pe_str (pa_cons pe_str (pa_cons (pe_lst (pa_cons pe_str pa_nil)) (pa_cons pe_int (pa_cons pe_bl (pa_cons (pe_tup (pa_cons pe_str pa_nil)) (pa_cons pe_str (pa_cons pe_dnewK pa_nil))))))))))) (pv 2)))
          (pss_one (ps_dput (hu_of hr) (pv 5) (pv 7) (pe_ix (ixL (K := K) rfl) (pv 8) (pe_call Glaw_take (hr.mono (by decide)) (by rfl) Nlaw_take.g Nlaw_take.kp Nlaw_take.b .nil pass0 (pa_cons (pv 0) (pa_cons (pe_callB call_len_seq (by rfl) T.len_ PySem.boot_len (pa_cons (pv 8) pa_nil)) pa_nil))) (fun _ _ => rfl)) rfl)))))
      (pss_one (ps_ret (pv 5)))))))))), ?_⟩
    generalize hσ : L2.start _ _ = σ0
    obtain rfl : σ0 = [some (.ref b), some (.ref W), none, none, none, none, none, none, none, none, none] := hσ.symm.trans rfl
    obtain ⟨wa, vp, vs_, vl, vu, eW, hw, hp, hs, hl, hsp⟩ := dp_four hD
    obtain rfl := V.ref.inj eW
    obtain ⟨ap, xp, rfl, hap, dap⟩ := dp_list hp
    obtain rfl := dp_str hsp
    have p6 := ok.p6
    have p2 := ok.p2
    rw [tSeq, tAsg]
    refine names_compL (σ := [some (.ref b), some (.ref W), none, none, none, none, none, none, none, none, none]) (i := 1) (a := 9) (b := 10) rfl ((hide_nt b H).seq hw) ((hide_nt b H).seq hap) (dpAll_nt (hide_nt b H) dap) p6 (Nat.le_of_ble_eq_true rfl) (by decide) fun L H1 hL s1 eL => ?_
    have nLb : L ≠ b := hB.fresh hL
    have B1 : Bx b n H1 := by
      obtain ⟨x, y, z, e, r⟩ := hB
      exact ⟨x, y, z, s1 _ _ e, r⟩
    have k01 : KB b H H1 := fun c o _ h => s1 _ _ h
    generalize hnm : wd.ps.map (·.1) = nms at eL
    have ln : nms.length = wd.ps.length := by rw [← hnm, List.length_map]
    have okn : ∀ z ∈ nms, NameOk z := fun z hz => by
      rw [← hnm] at hz
      obtain ⟨p, hp, rfl⟩ := List.mem_map.mp hz
      exact (ok.nm p hp).1
    refine ⟨_, rfl, b, 4, n, rfl, B1, by omega, by decide, by decide, fun way H2 w0 w1 off2 B2 => ?_⟩
    have eL2 : H2 L = some (.lst (nms.map V.str)) := (off2 L nLb).trans eL
    refine ⟨_, rfl, _, rfl, L, _, rfl, .inl (SqL.of eL2), b, _, _, rfl, B2, by omega, (by rw [List.length_map]; omega), (by rw [List.length_map]; exact dec9000 (by omega) (by omega)), fun at_ H3 a0 a1 off3 B3 => ?_⟩
    have eL3 : H3 L = some (.lst (nms.map V.str)) := (off3 L nLb).trans eL2
    have k03 : KB b H H3 := (k01.trans (KB.off off2)).trans (KB.off off3)
    rw [List.length_map] at a1
    clear B2 eL2 eL B1 k01 off2 off3
    simp only [List.set_cons_succ, List.set_cons_zero]
    obtain ⟨j, rfl⟩ := Int.eq_ofNat_of_zero_le a0
    have jl : j < nms.length := by omega
    have jm : j ≤ (nms.map V.str).length := by rw [List.length_map]; omega
    have okv : ∀ v ∈ nms.map V.str, ∃ z, v = .str z ∧ NameOk z := fun v hv => by
      obtain ⟨z, hz, rfl⟩ := List.mem_map.mp hv
      exact ⟨z, rfl, okn z hz⟩
    refine ⟨_, rfl, _, rfl, _, rfl, _, rfl, L, _, rfl, SqL.of eL3, fun c1 h1 => ?_⟩
    have q1 : Same H3 (upd H3 c1 (.lst (cutV (nms.map V.str) (some (j : Int)) none))) := same_alloc h1
    have e1 : upd H3 c1 (.lst (cutV (nms.map V.str) (some (j : Int)) none)) c1 = some (.lst ((nms.map V.str).drop j)) := by rw [upd_same, cut_drop jm]
    have b1 := B3.alloc (o := .lst (cutV (nms.map V.str) (some (j : Int)) none)) h1
    generalize upd H3 c1 (.lst (cutV (nms.map V.str) (some (j : Int)) none)) = X1 at q1 e1 b1 ⊢
    refine ⟨_, rfl, _, rfl, _, rfl, L, _, rfl, SqL.of (q1 _ _ eL3), fun c2 h2 => ?_⟩
    have q2 : Same X1 (upd X1 c2 (.lst (cutV (nms.map V.str) none (some (j : Int))))) := same_alloc h2
    have e2 : upd X1 c2 (.lst (cutV (nms.map V.str) none (some (j : Int)))) c2 = some (.lst ((nms.map V.str).take j)) := by rw [upd_same, cut_take jm]
    have b2 := b1.alloc (o := .lst (cutV (nms.map V.str) none (some (j : Int)))) h2
    generalize upd X1 c2 (.lst (cutV (nms.map V.str) none (some (j : Int)))) = X2 at q2 e2 b2 ⊢
    refine ⟨c1, c2, _, _, rfl, rfl, q2 _ _ e1, e2, ?_, fun c3 h3 => ?_⟩
    · rw [List.length_drop, List.length_take, List.length_map]
      exact Nat.le_of_lt (lt_line _ (by omega))
    have q3 : Same X2 (upd X2 c3 (.lst ((nms.map V.str).drop j ++ (nms.map V.str).take j))) := same_alloc h3
    have e3 : upd X2 c3 (.lst ((nms.map V.str).drop j ++ (nms.map V.str).take j)) c3 = some (.lst ((nms.map V.str).drop j ++ (nms.map V.str).take j)) := upd_same
    have b3 := b2.alloc (o := .lst ((nms.map V.str).drop j ++ (nms.map V.str).take j)) h3
    generalize upd X2 c3 (.lst ((nms.map V.str).drop j ++ (nms.map V.str).take j)) = X3 at q3 e3 b3 ⊢
    have q03 := (q1.trans q2).trans q3
    have eLX := q03 _ _ eL3
    have kX : KB b H X3 := k03.trans fun c o _ h => q03 _ _ h
    refine ⟨L, c3, nms.map Sum.inr, _, rfl, by rw [keys_strs]; exact SqL.of eLX, SqL.of e3, ?_, fun p np => ?_⟩
    · rw [List.length_map, List.length_append, List.length_drop, List.length_take, List.length_map]
      omega
    have dk : DOk b L (n + 24) H (upd X3 p (.dK (mergeK [] ((nms.map Sum.inr).zip ((nms.map V.str).drop j ++ (nms.map V.str).take j))))) nms p (mergeK [] ((nms.map Sum.inr).zip ((nms.map V.str).drop j ++ (nms.map V.str).take j))) :=
      DOk.make kX b3 (by omega) np eLX (Nat.le_trans (zip_len _ _) (by rw [List.length_map]; omega)) (fun q hq => okv _ ((List.mem_append.mp (zip_vals hq)).elim (fun h => List.mem_of_mem_drop h) fun h => List.mem_of_mem_take h)) fun q hq => zip_keys okn hq
    clear kX b3 b2 b1 B3 k03 q1 q2 q3 e1 e2 e3 eLX q03 h1 h2 h3 eL3 np
    simp only [List.set_cons_succ, List.set_cons_zero]
    generalize hkv : mergeK [] ((nms.map Sum.inr).zip ((nms.map V.str).drop j ++ (nms.map V.str).take j)) = kvs at dk ⊢
    generalize upd X3 p (.dK kvs) = H6 at dk ⊢
    have wW : ∀ {H' : Hp}, KB b H H' → SqL K H' W [.ref ap, vs_, vl, .str wd.sp] := fun {H'} kb => (kb.nt.trans (hide_nt b H')).seq hw
    clear hw hap dap hp hs hl
    have : way = 0 ∨ way = 1 ∨ way = 2 ∨ way = 3 := by omega
    rcases this with rfl | rfl | rfl | rfl
    · refine ⟨_, rfl, rfl, _, rfl, iteT ?_⟩
      simp only [List.set_cons_succ, List.set_cons_zero]
      refine ⟨_, rfl, _, rfl, _, rfl, L, _, rfl, .inl (SqL.of dk.eL), b, nms.length, _, (by rw [List.length_map]; rfl), dk.bx, by omega, (by omega), fun ms La X1 kA bA eA lA okA => ?_⟩
      have kb1 := dk.kb.trans kA
      have eL1 := kA _ _ nLb dk.eL
      have oms : ∀ v ∈ ms.map V.str, ∃ z, v = .str z ∧ NameOk z := fun v hv => by
        obtain ⟨z, hz, rfl⟩ := List.mem_map.mp hv
        exact ⟨z, rfl, okA.ok z hz⟩
      refine ⟨L, La, nms.map Sum.inr, _, rfl, by rw [keys_strs]; exact SqL.of eL1, SqL.of eA, (by rw [List.length_map, List.length_map, lA]), fun p np2 => ?_⟩
      have dk : DOk b L (n + 50) H _ nms p (mergeK [] ((nms.map Sum.inr).zip (ms.map V.str))) := DOk.make kb1 bA (by omega) np2 eL1 (Nat.le_trans (zip_len _ _) (by rw [List.length_map]; omega)) (fun q hq => oms _ (zip_vals hq)) fun q hq => zip_keys okn hq
      clear kb1 eL1 bA kA eA np2
      generalize mergeK [] ((nms.map Sum.inr).zip (ms.map V.str)) = kvs at dk ⊢
      generalize upd X1 p (.dK kvs) = H6 at dk ⊢
      refine ⟨_, rfl, rfl, _, rfl, iteF ?_⟩
      refine ⟨_, rfl, rfl, _, rfl, iteF ?_⟩
      simp only [List.set_cons_succ, List.set_cons_zero]
      refine ⟨_, rfl, b, 4, n + 50, rfl, dk.bx.mono (by omega), by omega, by decide, by decide, fun tn H7 t0 t3 off7 B7 => ?_⟩
      have eL7 : H7 L = some (.lst (nms.map V.str)) := (off7 L nLb).trans dk.eL
      have ep7 := (off7 p dk.nb).trans dk.ep
      have kb7 := dk.kb.trans (KB.off off7)
      have wf7 : ∀ q ∈ kvs, Wf (fun c => c ≠ b) (hide p H7) 1 1 q.2 := fun q hq => (dk.wf q hq).keep (kw_kb dk.bx (KB.off off7))
      have lk7 := dk.lk
      have ky7 := dk.ky
      have np0 := dk.np
      have nb := dk.nb
      refine ⟨tn, rfl, by omega, by omega, for_it (walk_range (lo := 0) (n := tn.toNat)) (fun i σ H' => ∃ (v6 v7 v8 : Option V) (kv : List (Key × V)), σ = [some (.ref b), some (.ref W), some (.ref L), some (.int 0), some (.int (j : Nat)), some (.ref p), v6, v7, v8, none, none] ∧ KB b H H' ∧ Bx b (n + 51 + 2 * i) H' ∧ H' p = some (.dK kv) ∧ kv.length ≤ 6 + i ∧ (∀ q ∈ kv, Wf (fun c => c ≠ b) (hide p H') 1 1 q.2) ∧ H' L = some (.lst (nms.map V.str)) ∧ ∀ q ∈ kv, KeyOk q.1) ?_ ?_ ?_ ?_⟩
      · exact ⟨_, _, _, kvs, rfl, kb7, B7.mono (by omega), ep7, by omega, wf7, eL7, ky7⟩
      · intros; trivial
      · rintro i x σ X0 X0' hi ⟨v6, v7, v8, kv, rfl, kb8, B8, ep8, lk8, wf8, eL8, ky8⟩ ⟨rfl, rfl⟩
        have hi3 : i < 4 := by omega
        simp only [List.set_cons_succ, List.set_cons_zero]
        refine ⟨_, rfl, _, rfl, W, _, 3, _, rfl, rfl, wW kb8, rfl, three_line, fun l1 hl1 => ?_⟩
        have q1 := same_alloc (o := .lst [V.str wd.sp, .int 7, .str "Q"]) hl1
        have b1 := B8.alloc (o := .lst [V.str wd.sp, .int 7, .str "Q"]) hl1
        have k1 := KB.alloc (b := b) (o := .lst [V.str wd.sp, .int 7, .str "Q"]) hl1
        refine ⟨L, l1, _, _, rfl, rfl, q1 _ _ eL8, upd_same, (by rw [List.length_map]; exact Nat.le_of_lt (lt_line _ (by show nms.length + 3 ≤ 100; omega))), fun l2 hl2 => ?_⟩
        have q2 := q1.trans (same_alloc (o := .lst (nms.map V.str ++ [V.str wd.sp, .int 7, .str "Q"])) hl2)
        have b2 := b1.alloc (o := .lst (nms.map V.str ++ [V.str wd.sp, .int 7, .str "Q"])) hl2
        have k2 := k1.trans (KB.alloc (o := .lst (nms.map V.str ++ [V.str wd.sp, .int 7, .str "Q"])) hl2)
        have nl2 := b1.fresh hl2
        refine ⟨_, rfl, _, rfl, L, _, rfl, .inl (SqL.of (q2 _ _ eL8)), _, _, rfl, rfl, pickI b2 (by omega) (by simp) (by simp) (by simp; omega) upd_same nl2 fun key X3 hkey k3 b3 => ?_⟩
        obtain ⟨kk, rfl, okk⟩ : ∃ kk, key = kV kk ∧ KeyOk kk := by
          rcases List.mem_append.mp hkey with h | h
          · obtain ⟨z, hz, rfl⟩ := List.mem_map.mp h
            exact ⟨.inr z, rfl, .inl ⟨z, rfl, (okn z hz).good, (okn z hz).2.1⟩⟩
          · simp only [List.mem_cons, List.not_mem_nil, or_false] at h
            rcases h with rfl | rfl | rfl
            · exact ⟨.inr _, rfl, .inl ⟨_, rfl, ok.sn.good, ok.sn.2.1⟩⟩
            · exact ⟨.inl 7, rfl, .inr rfl⟩
            · exact ⟨.inr _, rfl, .inl ⟨_, rfl, good_of _, by decide⟩⟩
        have k03 := k2.trans k3
        have eL3 := k03 _ _ nLb eL8
        have ep3 := k03 _ _ nb ep8
        have wf3 : ∀ q ∈ kv, Wf (fun c => c ≠ b) (hide p X3) 1 1 q.2 := fun q hq => (wf8 q hq).keep (kw_kb B8 k03)
        have kb3 := kb8.trans k03
        clear hkey q1 q2 b1 b2 k1 k2 k3 k03 hl1 hl2 eL8 ep8 wf8
        simp only [List.set_cons_succ, List.set_cons_zero]
        refine ⟨one_line, fun a1 h1 => ?_⟩
        have q1 := same_alloc (o := .lst [V.str "a"]) h1
        have e1 : upd X3 a1 (.lst [V.str "a"]) a1 = some (.lst [V.str "a"]) := upd_same
        have b1 := b3.alloc (o := .lst [V.str "a"]) h1
        generalize upd X3 a1 (.lst [V.str "a"]) = X4 at q1 e1 b1 ⊢
        refine ⟨one_line, fun a2 h2 => ?_⟩
        have q2 := same_alloc (o := .tup [V.str "a"]) h2
        have e2 : upd X4 a2 (.tup [V.str "a"]) a2 = some (.tup [V.str "a"]) := upd_same
        have b2 := b1.alloc (o := .tup [V.str "a"]) h2
        generalize upd X4 a2 (.tup [V.str "a"]) = X5 at q2 e2 b2 ⊢
        refine fun a3 h3 => ?_
        have q3 := same_alloc (o := .dK []) h3
        have e3 : upd X5 a3 (.dK []) a3 = some (.dK []) := upd_same
        have b3' := b2.alloc (o := .dK []) h3
        generalize upd X5 a3 (.dK []) = X6 at q3 e3 b3' ⊢
        refine ⟨(by show 10 ≤ sizeLine; decide), fun a4 h4 => ?_⟩
        generalize htl : [V.non, V.str (Str.ofString ""), V.str (Str.ofString "A"), V.str (Str.ofString "abcdefg"), V.ref a1, V.int 5, V.bl true, V.ref a2, V.str (Str.ofString "a b"), V.ref a3] = tl_
        have tl10 : tl_.length = 10 := by rw [← htl]; rfl
        have q4 := same_alloc (o := .lst tl_) h4
        have e4 : upd X6 a4 (.lst tl_) a4 = some (.lst tl_) := upd_same
        have b4 := b3'.alloc (o := .lst tl_) h4
        generalize upd X6 a4 (.lst tl_) = X7 at q4 e4 b4 ⊢
        have q34 := ((q1.trans q2).trans q3).trans q4
        refine ⟨_, rfl, a4, L, _, _, rfl, rfl, e4, q34 _ _ eL3, (by rw [List.length_map, tl10]; exact Nat.le_of_lt (lt_line _ (by omega))), fun a5 h5 => ?_⟩
        have q5 := same_alloc (o := .lst (tl_ ++ nms.map V.str)) h5
        have e5 : upd X7 a5 (.lst (tl_ ++ nms.map V.str)) a5 = some (.lst (tl_ ++ nms.map V.str)) := upd_same
        have b5 := b4.alloc (o := .lst (tl_ ++ nms.map V.str)) h5
        have n5 := b4.fresh h5
        generalize upd X7 a5 (.lst (tl_ ++ nms.map V.str)) = X8 at q5 e5 b5 ⊢
        simp only [List.set_cons_succ, List.set_cons_zero]
        refine ⟨_, rfl, _, rfl, _, rfl, a5, _, rfl, .inl (SqL.of e5), pickI b5 (by omega) rfl (by rw [List.length_append, tl10]; omega) (by rw [List.length_append, tl10, List.length_map]; omega) e5 n5 fun y X9 hy k9 b9 => ?_⟩
        have qq := q34.trans q5
        have k39 : KB b X3 X9 := KB.trans (fun c o _ h => qq _ _ h) k9
        have ep9 := k39 _ _ nb ep3
        have eL9 := k39 _ _ nLb eL3
        have ny : ∀ {a : Addr} {o : HO} {Y : Hp}, Same X3 Y → Y a = none → a ≠ p := fun {a o Y} s h e => by
          rw [e, s _ _ ep3] at h
          cases h
        have wy : Wf (fun c => c ≠ b) (hide p X9) 1 1 y := by
          rcases List.mem_append.mp hy with h | h
          · rw [← htl] at h
            simp only [List.mem_cons, List.not_mem_nil, or_false] at h
            have c1 : X9 a1 = some (.lst [V.str "a"]) := k9 _ _ (b3.fresh h1) (q5 _ _ (q4 _ _ (q3 _ _ (q2 _ _ e1))))
            have c2 : X9 a2 = some (.tup [V.str "a"]) := k9 _ _ (b1.fresh h2) (q5 _ _ (q4 _ _ (q3 _ _ e2)))
            have c3 : X9 a3 = some (.dK []) := k9 _ _ (b2.fresh h3) (q5 _ _ (q4 _ _ e3))
            have m1 : a1 ≠ p := ny (o := .dK []) (Same.refl X3) h1
            have m2 : a2 ≠ p := ny (o := .dK []) q1 h2
            have m3 : a3 ≠ p := ny (o := .dK []) (q1.trans q2) h3
            rcases h with rfl | rfl | rfl | rfl | rfl | rfl | rfl | rfl | rfl | rfl
            · exact .non _
            · exact .str _ (good_of _) (by decide) _
            · exact .str _ (good_of _) (by decide) _
            · exact .str _ (good_of _) (by decide) _
            · exact .lst a1 [V.str "a"] 0 (by rw [hide_ne m1]; exact c1) (b3.fresh h1) (Nat.le_refl 1) fun x hx => by
                rw [List.mem_singleton.mp hx]
                exact .str _ (good_of _) (by decide) _
            · exact .int _ (by decide) _
            · exact .bl _ _
            · exact .tup a2 [V.str "a"] 0 (by rw [hide_ne m2]; exact c2) (Nat.le_refl 1) fun x hx => by
                rw [List.mem_singleton.mp hx]
                exact .str _ (good_of _) (by decide) _
            · exact .str _ (good_of _) (by decide) _
            · exact .dic a3 (by rw [hide_ne m3]; exact c3) 0
          · obtain ⟨z, rfl, oz⟩ := okv _ h
            exact wf_str oz
        refine ⟨_, rfl, _, rfl, p, _, rfl, DPut.k (k := kk) ep9 (lt_line _ (by omega)), ?_⟩
        refine ⟨_, _, _, putK kv kk y, rfl, ?_, ?_, upd_same, ?_, ?_, ?_, ?_⟩
        · intro c o nc h
          rw [upd_ne (ne_of_none h np0)]
          exact (kb3.trans k39) c o nc h
        · exact (b9.put nb).mono (by push_cast; omega)
        · have := length_putK kv kk y
          omega
        · intro q hq
          refine Wf.keep (Kw.nt hide_put1) ?_
          rcases putK_mem hq with e | hq
          · rw [e]
            exact wy
          · exact (wf3 q hq).keep (kw_kb b3 k39)
        · rw [upd_ne (fun e => by rw [e, ep9] at eL9; cases eL9)]
          exact eL9
        · intro q hq
          rcases putK_key hq with e | ⟨r, hr, e⟩
          · rw [e]
            exact okk
          · rw [e]
            exact ky8 r hr
      · rintro σ H9 ⟨v6, v7, v8, kv, rfl, kb9, B9, ep9, lk9, wf9, eL9, ky9⟩
        exact ⟨_, rfl, k p kv H9 kb9 (B9.mono (by omega)) np0 ep9 (by omega) wf9 ky9⟩
    · refine ⟨_, rfl, rfl, _, rfl, iteF ?_⟩
      refine ⟨_, rfl, rfl, _, rfl, iteT ?_⟩
      simp only [List.set_cons_succ, List.set_cons_zero]
      refine ⟨_, rfl, _, rfl, _, rfl, L, _, rfl, SqL.of dk.eL, fun c1 h1 => ?_⟩
      have q1 := same_alloc (o := .lst (cutV (nms.map V.str) none (some (j : Int)))) h1
      have e1 : upd H6 c1 (.lst (cutV (nms.map V.str) none (some (j : Int)))) c1 = some (.lst (((nms.take j).map Sum.inr : List Key).map kV)) := by rw [upd_same, cut_take jm, keys_strs, List.map_take]
      have b1 := dk.bx.alloc (o := .lst (cutV (nms.map V.str) none (some (j : Int)))) h1
      generalize upd H6 c1 (.lst (cutV (nms.map V.str) none (some (j : Int)))) = X1 at q1 e1 b1 ⊢
      refine ⟨_, rfl, _, rfl, _, rfl, L, _, rfl, SqL.of (q1 _ _ dk.eL), fun c2 h2 => ?_⟩
      have q2 := same_alloc (o := .lst (cutV (nms.map V.str) none (some (j : Int)))) h2
      have e2 : upd X1 c2 (.lst (cutV (nms.map V.str) none (some (j : Int)))) c2 = some (.lst ((nms.take j).map V.str)) := by rw [upd_same, cut_take jm, List.map_take]
      have b2 := b1.alloc (o := .lst (cutV (nms.map V.str) none (some (j : Int)))) h2
      generalize upd X1 c2 (.lst (cutV (nms.map V.str) none (some (j : Int)))) = X2 at q2 e2 b2 ⊢
      refine ⟨c2, _, rfl, SqL.of e2, fun c3 h3 => ?_⟩
      have q3 := same_alloc (o := .lst ((nms.take j).map V.str).reverse) h3
      have e3 : upd X2 c3 (.lst ((nms.take j).map V.str).reverse) c3 = some (.lst ((nms.take j).map V.str).reverse) := upd_same
      have b3 := b2.alloc (o := .lst ((nms.take j).map V.str).reverse) h3
      generalize upd X2 c3 (.lst ((nms.take j).map V.str).reverse) = X3 at q3 e3 b3 ⊢
      have qq := (q1.trans q2).trans q3
      have eL1 := qq _ _ dk.eL
      have kb1 : KB b H X3 := dk.kb.trans fun c o _ h => qq _ _ h
      refine ⟨c1, c3, (nms.take j).map Sum.inr, _, rfl, SqL.of (q3 _ _ (q2 _ _ e1)), SqL.of e3, (by rw [List.length_map, List.length_reverse, List.length_map]), fun p np2 => ?_⟩
      have dk : DOk b L (n + 50) H _ nms p (mergeK [] (((nms.take j).map Sum.inr).zip ((nms.take j).map V.str).reverse)) := DOk.make kb1 b3 (by omega) np2 eL1 (Nat.le_trans (zip_len _ _) (by rw [List.length_map, List.length_take]; omega)) (fun q hq => by
        obtain ⟨z, hz, e⟩ := List.mem_map.mp (List.mem_reverse.mp (zip_vals hq))
        exact ⟨z, e.symm, okn z (List.mem_of_mem_take hz)⟩) fun q hq => zip_keys (fun z hz => okn z (List.mem_of_mem_take hz)) hq
      clear kb1 eL1 b1 b2 b3 q1 q2 q3 e1 e2 e3 qq np2 h1 h2 h3
      generalize mergeK [] (((nms.take j).map Sum.inr).zip ((nms.take j).map V.str).reverse) = kvs at dk ⊢
      generalize upd X3 p (.dK kvs) = H6 at dk ⊢
      refine ⟨_, rfl, rfl, _, rfl, iteF ?_⟩
      simp only [List.set_cons_succ, List.set_cons_zero]
      refine ⟨_, rfl, b, 4, n + 50, rfl, dk.bx.mono (by omega), by omega, by decide, by decide, fun tn H7 t0 t3 off7 B7 => ?_⟩
      have eL7 : H7 L = some (.lst (nms.map V.str)) := (off7 L nLb).trans dk.eL
      have ep7 := (off7 p dk.nb).trans dk.ep
      have kb7 := dk.kb.trans (KB.off off7)
      have wf7 : ∀ q ∈ kvs, Wf (fun c => c ≠ b) (hide p H7) 1 1 q.2 := fun q hq => (dk.wf q hq).keep (kw_kb dk.bx (KB.off off7))
      have lk7 := dk.lk
      have ky7 := dk.ky
      have np0 := dk.np
      have nb := dk.nb
      refine ⟨tn, rfl, by omega, by omega, for_it (walk_range (lo := 0) (n := tn.toNat)) (fun i σ H' => ∃ (v6 v7 v8 : Option V) (kv : List (Key × V)), σ = [some (.ref b), some (.ref W), some (.ref L), some (.int 1), some (.int (j : Nat)), some (.ref p), v6, v7, v8, none, none] ∧ KB b H H' ∧ Bx b (n + 51 + 2 * i) H' ∧ H' p = some (.dK kv) ∧ kv.length ≤ 6 + i ∧ (∀ q ∈ kv, Wf (fun c => c ≠ b) (hide p H') 1 1 q.2) ∧ H' L = some (.lst (nms.map V.str)) ∧ ∀ q ∈ kv, KeyOk q.1) ?_ ?_ ?_ ?_⟩
      · exact ⟨_, _, _, kvs, rfl, kb7, B7.mono (by omega), ep7, by omega, wf7, eL7, ky7⟩
      · intros; trivial
      · rintro i x σ X0 X0' hi ⟨v6, v7, v8, kv, rfl, kb8, B8, ep8, lk8, wf8, eL8, ky8⟩ ⟨rfl, rfl⟩
        have hi3 : i < 4 := by omega
        simp only [List.set_cons_succ, List.set_cons_zero]
        refine ⟨_, rfl, _, rfl, W, _, 3, _, rfl, rfl, wW kb8, rfl, three_line, fun l1 hl1 => ?_⟩
        have q1 := same_alloc (o := .lst [V.str wd.sp, .int 7, .str "Q"]) hl1
        have b1 := B8.alloc (o := .lst [V.str wd.sp, .int 7, .str "Q"]) hl1
        have k1 := KB.alloc (b := b) (o := .lst [V.str wd.sp, .int 7, .str "Q"]) hl1
        refine ⟨L, l1, _, _, rfl, rfl, q1 _ _ eL8, upd_same, (by rw [List.length_map]; exact Nat.le_of_lt (lt_line _ (by show nms.length + 3 ≤ 100; omega))), fun l2 hl2 => ?_⟩
        have q2 := q1.trans (same_alloc (o := .lst (nms.map V.str ++ [V.str wd.sp, .int 7, .str "Q"])) hl2)
        have b2 := b1.alloc (o := .lst (nms.map V.str ++ [V.str wd.sp, .int 7, .str "Q"])) hl2
        have k2 := k1.trans (KB.alloc (o := .lst (nms.map V.str ++ [V.str wd.sp, .int 7, .str "Q"])) hl2)
        have nl2 := b1.fresh hl2
        refine ⟨_, rfl, _, rfl, L, _, rfl, .inl (SqL.of (q2 _ _ eL8)), _, _, rfl, rfl, pickI b2 (by omega) (by simp) (by simp) (by simp; omega) upd_same nl2 fun key X3 hkey k3 b3 => ?_⟩
        obtain ⟨kk, rfl, okk⟩ : ∃ kk, key = kV kk ∧ KeyOk kk := by
          rcases List.mem_append.mp hkey with h | h
          · obtain ⟨z, hz, rfl⟩ := List.mem_map.mp h
            exact ⟨.inr z, rfl, .inl ⟨z, rfl, (okn z hz).good, (okn z hz).2.1⟩⟩
          · simp only [List.mem_cons, List.not_mem_nil, or_false] at h
            rcases h with rfl | rfl | rfl
            · exact ⟨.inr _, rfl, .inl ⟨_, rfl, ok.sn.good, ok.sn.2.1⟩⟩
            · exact ⟨.inl 7, rfl, .inr rfl⟩
            · exact ⟨.inr _, rfl, .inl ⟨_, rfl, good_of _, by decide⟩⟩
        have k03 := k2.trans k3
        have eL3 := k03 _ _ nLb eL8
        have ep3 := k03 _ _ nb ep8
        have wf3 : ∀ q ∈ kv, Wf (fun c => c ≠ b) (hide p X3) 1 1 q.2 := fun q hq => (wf8 q hq).keep (kw_kb B8 k03)
        have kb3 := kb8.trans k03
        clear hkey q1 q2 b1 b2 k1 k2 k3 k03 hl1 hl2 eL8 ep8 wf8
        simp only [List.set_cons_succ, List.set_cons_zero]
        refine ⟨one_line, fun a1 h1 => ?_⟩
        have q1 := same_alloc (o := .lst [V.str "a"]) h1
        have e1 : upd X3 a1 (.lst [V.str "a"]) a1 = some (.lst [V.str "a"]) := upd_same
        have b1 := b3.alloc (o := .lst [V.str "a"]) h1
        generalize upd X3 a1 (.lst [V.str "a"]) = X4 at q1 e1 b1 ⊢
        refine ⟨one_line, fun a2 h2 => ?_⟩
        have q2 := same_alloc (o := .tup [V.str "a"]) h2
        have e2 : upd X4 a2 (.tup [V.str "a"]) a2 = some (.tup [V.str "a"]) := upd_same
        have b2 := b1.alloc (o := .tup [V.str "a"]) h2
        generalize upd X4 a2 (.tup [V.str "a"]) = X5 at q2 e2 b2 ⊢
        refine fun a3 h3 => ?_
        have q3 := same_alloc (o := .dK []) h3
        have e3 : upd X5 a3 (.dK []) a3 = some (.dK []) := upd_same
        have b3' := b2.alloc (o := .dK []) h3
        generalize upd X5 a3 (.dK []) = X6 at q3 e3 b3' ⊢
        refine ⟨(by show 10 ≤ sizeLine; decide), fun a4 h4 => ?_⟩
        generalize htl : [V.non, V.str (Str.ofString ""), V.str (Str.ofString "A"), V.str (Str.ofString "abcdefg"), V.ref a1, V.int 5, V.bl true, V.ref a2, V.str (Str.ofString "a b"), V.ref a3] = tl_
        have tl10 : tl_.length = 10 := by rw [← htl]; rfl
        have q4 := same_alloc (o := .lst tl_) h4
        have e4 : upd X6 a4 (.lst tl_) a4 = some (.lst tl_) := upd_same
        have b4 := b3'.alloc (o := .lst tl_) h4
        generalize upd X6 a4 (.lst tl_) = X7 at q4 e4 b4 ⊢
        have q34 := ((q1.trans q2).trans q3).trans q4
        refine ⟨_, rfl, a4, L, _, _, rfl, rfl, e4, q34 _ _ eL3, (by rw [List.length_map, tl10]; exact Nat.le_of_lt (lt_line _ (by omega))), fun a5 h5 => ?_⟩
        have q5 := same_alloc (o := .lst (tl_ ++ nms.map V.str)) h5
        have e5 : upd X7 a5 (.lst (tl_ ++ nms.map V.str)) a5 = some (.lst (tl_ ++ nms.map V.str)) := upd_same
        have b5 := b4.alloc (o := .lst (tl_ ++ nms.map V.str)) h5
        have n5 := b4.fresh h5
        generalize upd X7 a5 (.lst (tl_ ++ nms.map V.str)) = X8 at q5 e5 b5 ⊢
        simp only [List.set_cons_succ, List.set_cons_zero]
        refine ⟨_, rfl, _, rfl, _, rfl, a5, _, rfl, .inl (SqL.of e5), pickI b5 (by omega) rfl (by rw [List.length_append, tl10]; omega) (by rw [List.length_append, tl10, List.length_map]; omega) e5 n5 fun y X9 hy k9 b9 => ?_⟩
        have qq := q34.trans q5
        have k39 : KB b X3 X9 := KB.trans (fun c o _ h => qq _ _ h) k9
        have ep9 := k39 _ _ nb ep3
        have eL9 := k39 _ _ nLb eL3
        have ny : ∀ {a : Addr} {o : HO} {Y : Hp}, Same X3 Y → Y a = none → a ≠ p := fun {a o Y} s h e => by
          rw [e, s _ _ ep3] at h
          cases h
        have wy : Wf (fun c => c ≠ b) (hide p X9) 1 1 y := by
          rcases List.mem_append.mp hy with h | h
          · rw [← htl] at h
            simp only [List.mem_cons, List.not_mem_nil, or_false] at h
            have c1 : X9 a1 = some (.lst [V.str "a"]) := k9 _ _ (b3.fresh h1) (q5 _ _ (q4 _ _ (q3 _ _ (q2 _ _ e1))))
            have c2 : X9 a2 = some (.tup [V.str "a"]) := k9 _ _ (b1.fresh h2) (q5 _ _ (q4 _ _ (q3 _ _ e2)))
            have c3 : X9 a3 = some (.dK []) := k9 _ _ (b2.fresh h3) (q5 _ _ (q4 _ _ e3))
            have m1 : a1 ≠ p := ny (o := .dK []) (Same.refl X3) h1
            have m2 : a2 ≠ p := ny (o := .dK []) q1 h2
            have m3 : a3 ≠ p := ny (o := .dK []) (q1.trans q2) h3
            rcases h with rfl | rfl | rfl | rfl | rfl | rfl | rfl | rfl | rfl | rfl
            · exact .non _
            · exact .str _ (good_of _) (by decide) _
            · exact .str _ (good_of _) (by decide) _
            · exact .str _ (good_of _) (by decide) _
            · exact .lst a1 [V.str "a"] 0 (by rw [hide_ne m1]; exact c1) (b3.fresh h1) (Nat.le_refl 1) fun x hx => by
                rw [List.mem_singleton.mp hx]
                exact .str _ (good_of _) (by decide) _
            · exact .int _ (by decide) _
            · exact .bl _ _
            · exact .tup a2 [V.str "a"] 0 (by rw [hide_ne m2]; exact c2) (Nat.le_refl 1) fun x hx => by
                rw [List.mem_singleton.mp hx]
                exact .str _ (good_of _) (by decide) _
            · exact .str _ (good_of _) (by decide) _
            · exact .dic a3 (by rw [hide_ne m3]; exact c3) 0
          · obtain ⟨z, rfl, oz⟩ := okv _ h
            exact wf_str oz
        refine ⟨_, rfl, _, rfl, p, _, rfl, DPut.k (k := kk) ep9 (lt_line _ (by omega)), ?_⟩
        refine ⟨_, _, _, putK kv kk y, rfl, ?_, ?_, upd_same, ?_, ?_, ?_, ?_⟩
        · intro c o nc h
          rw [upd_ne (ne_of_none h np0)]
          exact (kb3.trans k39) c o nc h
        · exact (b9.put nb).mono (by push_cast; omega)
        · have := length_putK kv kk y
          omega
        · intro q hq
          refine Wf.keep (Kw.nt hide_put1) ?_
          rcases putK_mem hq with e | hq
          · rw [e]
            exact wy
          · exact (wf3 q hq).keep (kw_kb b3 k39)
        · rw [upd_ne (fun e => by rw [e, ep9] at eL9; cases eL9)]
          exact eL9
        · intro q hq
          rcases putK_key hq with e | ⟨r, hr, e⟩
          · rw [e]
            exact okk
          · rw [e]
            exact ky8 r hr
      · rintro σ H9 ⟨v6, v7, v8, kv, rfl, kb9, B9, ep9, lk9, wf9, eL9, ky9⟩
        exact ⟨_, rfl, k p kv H9 kb9 (B9.mono (by omega)) np0 ep9 (by omega) wf9 ky9⟩
    · refine ⟨_, rfl, rfl, _, rfl, iteF ?_⟩
      refine ⟨_, rfl, rfl, _, rfl, iteF ?_⟩
      refine ⟨_, rfl, rfl, _, rfl, iteT ?_⟩
      simp only [List.set_cons_succ, List.set_cons_zero]
      refine fun p np2 => ?_
      have s2 := same_alloc (o := .dK []) np2
      have wW2 := (same_nt s2).seq (wW dk.kb)
      have hj : (nms.map V.str)[j]? = some (.str nms[j]) := by rw [List.getElem?_map, List.getElem?_eq_getElem jl]; rfl
      refine ⟨_, rfl, _, rfl, L, _, _, _, rfl, rfl, SqL.of (s2 _ _ dk.eL), atI_nat hj, _, rfl, W, _, 3, _, rfl, rfl, wW2, rfl, ?_⟩
      refine ⟨upd_same, [(.inr nms[j], .str wd.sp)], rfl, Nat.le_of_ble_eq_true rfl, ?_⟩
      rw [upd_upd]
      have dk : DOk b L (n + 50) H _ nms p (mergeK [] [((.inr nms[j] : Key), V.str wd.sp)]) := DOk.make dk.kb dk.bx (by omega) np2 dk.eL (by show 1 ≤ 6; decide) (fun q hq => by
        obtain rfl := List.mem_singleton.mp hq
        exact ⟨_, rfl, ok.sn⟩) fun q hq => by
        obtain rfl := List.mem_singleton.mp hq
        have oj := okn nms[j] (List.getElem_mem jl)
        exact .inl ⟨_, rfl, oj.good, oj.2.1⟩
      clear wW2 s2 np2
      generalize mergeK [] [((.inr nms[j] : Key), V.str wd.sp)] = kvs at dk ⊢
      generalize upd H6 p (.dK kvs) = H6 at dk ⊢
      simp only [List.set_cons_succ, List.set_cons_zero]
      refine ⟨_, rfl, b, 4, n + 50, rfl, dk.bx.mono (by omega), by omega, by decide, by decide, fun tn H7 t0 t3 off7 B7 => ?_⟩
      have eL7 : H7 L = some (.lst (nms.map V.str)) := (off7 L nLb).trans dk.eL
      have ep7 := (off7 p dk.nb).trans dk.ep
      have kb7 := dk.kb.trans (KB.off off7)
      have wf7 : ∀ q ∈ kvs, Wf (fun c => c ≠ b) (hide p H7) 1 1 q.2 := fun q hq => (dk.wf q hq).keep (kw_kb dk.bx (KB.off off7))
      have lk7 := dk.lk
      have ky7 := dk.ky
      have np0 := dk.np
      have nb := dk.nb
      refine ⟨tn, rfl, by omega, by omega, for_it (walk_range (lo := 0) (n := tn.toNat)) (fun i σ H' => ∃ (v6 v7 v8 : Option V) (kv : List (Key × V)), σ = [some (.ref b), some (.ref W), some (.ref L), some (.int 2), some (.int (j : Nat)), some (.ref p), v6, v7, v8, none, none] ∧ KB b H H' ∧ Bx b (n + 51 + 2 * i) H' ∧ H' p = some (.dK kv) ∧ kv.length ≤ 6 + i ∧ (∀ q ∈ kv, Wf (fun c => c ≠ b) (hide p H') 1 1 q.2) ∧ H' L = some (.lst (nms.map V.str)) ∧ ∀ q ∈ kv, KeyOk q.1) ?_ ?_ ?_ ?_⟩
      · exact ⟨_, _, _, kvs, rfl, kb7, B7.mono (by omega), ep7, by omega, wf7, eL7, ky7⟩
      · intros; trivial
      · rintro i x σ X0 X0' hi ⟨v6, v7, v8, kv, rfl, kb8, B8, ep8, lk8, wf8, eL8, ky8⟩ ⟨rfl, rfl⟩
        have hi3 : i < 4 := by omega
        simp only [List.set_cons_succ, List.set_cons_zero]
        refine ⟨_, rfl, _, rfl, W, _, 3, _, rfl, rfl, wW kb8, rfl, three_line, fun l1 hl1 => ?_⟩
        have q1 := same_alloc (o := .lst [V.str wd.sp, .int 7, .str "Q"]) hl1
        have b1 := B8.alloc (o := .lst [V.str wd.sp, .int 7, .str "Q"]) hl1
        have k1 := KB.alloc (b := b) (o := .lst [V.str wd.sp, .int 7, .str "Q"]) hl1
        refine ⟨L, l1, _, _, rfl, rfl, q1 _ _ eL8, upd_same, (by rw [List.length_map]; exact Nat.le_of_lt (lt_line _ (by show nms.length + 3 ≤ 100; omega))), fun l2 hl2 => ?_⟩
        have q2 := q1.trans (same_alloc (o := .lst (nms.map V.str ++ [V.str wd.sp, .int 7, .str "Q"])) hl2)
        have b2 := b1.alloc (o := .lst (nms.map V.str ++ [V.str wd.sp, .int 7, .str "Q"])) hl2
        have k2 := k1.trans (KB.alloc (o := .lst (nms.map V.str ++ [V.str wd.sp, .int 7, .str "Q"])) hl2)
        have nl2 := b1.fresh hl2
        refine ⟨_, rfl, _, rfl, L, _, rfl, .inl (SqL.of (q2 _ _ eL8)), _, _, rfl, rfl, pickI b2 (by omega) (by simp) (by simp) (by simp; omega) upd_same nl2 fun key X3 hkey k3 b3 => ?_⟩
        obtain ⟨kk, rfl, okk⟩ : ∃ kk, key = kV kk ∧ KeyOk kk := by
          rcases List.mem_append.mp hkey with h | h
          · obtain ⟨z, hz, rfl⟩ := List.mem_map.mp h
            exact ⟨.inr z, rfl, .inl ⟨z, rfl, (okn z hz).good, (okn z hz).2.1⟩⟩
          · simp only [List.mem_cons, List.not_mem_nil, or_false] at h
            rcases h with rfl | rfl | rfl
            · exact ⟨.inr _, rfl, .inl ⟨_, rfl, ok.sn.good, ok.sn.2.1⟩⟩
            · exact ⟨.inl 7, rfl, .inr rfl⟩
            · exact ⟨.inr _, rfl, .inl ⟨_, rfl, good_of _, by decide⟩⟩
        have k03 := k2.trans k3
        have eL3 := k03 _ _ nLb eL8
        have ep3 := k03 _ _ nb ep8
        have wf3 : ∀ q ∈ kv, Wf (fun c => c ≠ b) (hide p X3) 1 1 q.2 := fun q hq => (wf8 q hq).keep (kw_kb B8 k03)
        have kb3 := kb8.trans k03
        clear hkey q1 q2 b1 b2 k1 k2 k3 k03 hl1 hl2 eL8 ep8 wf8
        simp only [List.set_cons_succ, List.set_cons_zero]
        refine ⟨one_line, fun a1 h1 => ?_⟩
        have q1 := same_alloc (o := .lst [V.str "a"]) h1
        have e1 : upd X3 a1 (.lst [V.str "a"]) a1 = some (.lst [V.str "a"]) := upd_same
        have b1 := b3.alloc (o := .lst [V.str "a"]) h1
        generalize upd X3 a1 (.lst [V.str "a"]) = X4 at q1 e1 b1 ⊢
        refine ⟨one_line, fun a2 h2 => ?_⟩
        have q2 := same_alloc (o := .tup [V.str "a"]) h2
        have e2 : upd X4 a2 (.tup [V.str "a"]) a2 = some (.tup [V.str "a"]) := upd_same
        have b2 := b1.alloc (o := .tup [V.str "a"]) h2
        generalize upd X4 a2 (.tup [V.str "a"]) = X5 at q2 e2 b2 ⊢
        refine fun a3 h3 => ?_
        have q3 := same_alloc (o := .dK []) h3
        have e3 : upd X5 a3 (.dK []) a3 = some (.dK []) := upd_same
        have b3' := b2.alloc (o := .dK []) h3
        generalize upd X5 a3 (.dK []) = X6 at q3 e3 b3' ⊢
        refine ⟨(by show 10 ≤ sizeLine; decide), fun a4 h4 => ?_⟩
        generalize htl : [V.non, V.str (Str.ofString ""), V.str (Str.ofString "A"), V.str (Str.ofString "abcdefg"), V.ref a1, V.int 5, V.bl true, V.ref a2, V.str (Str.ofString "a b"), V.ref a3] = tl_
        have tl10 : tl_.length = 10 := by rw [← htl]; rfl
        have q4 := same_alloc (o := .lst tl_) h4
        have e4 : upd X6 a4 (.lst tl_) a4 = some (.lst tl_) := upd_same
        have b4 := b3'.alloc (o := .lst tl_) h4
        generalize upd X6 a4 (.lst tl_) = X7 at q4 e4 b4 ⊢
        have q34 := ((q1.trans q2).trans q3).trans q4
        refine ⟨_, rfl, a4, L, _, _, rfl, rfl, e4, q34 _ _ eL3, (by rw [List.length_map, tl10]; exact Nat.le_of_lt (lt_line _ (by omega))), fun a5 h5 => ?_⟩
        have q5 := same_alloc (o := .lst (tl_ ++ nms.map V.str)) h5
        have e5 : upd X7 a5 (.lst (tl_ ++ nms.map V.str)) a5 = some (.lst (tl_ ++ nms.map V.str)) := upd_same
        have b5 := b4.alloc (o := .lst (tl_ ++ nms.map V.str)) h5
        have n5 := b4.fresh h5
        generalize upd X7 a5 (.lst (tl_ ++ nms.map V.str)) = X8 at q5 e5 b5 ⊢
        simp only [List.set_cons_succ, List.set_cons_zero]
        refine ⟨_, rfl, _, rfl, _, rfl, a5, _, rfl, .inl (SqL.of e5), pickI b5 (by omega) rfl (by rw [List.length_append, tl10]; omega) (by rw [List.length_append, tl10, List.length_map]; omega) e5 n5 fun y X9 hy k9 b9 => ?_⟩
        have qq := q34.trans q5
        have k39 : KB b X3 X9 := KB.trans (fun c o _ h => qq _ _ h) k9
        have ep9 := k39 _ _ nb ep3
        have eL9 := k39 _ _ nLb eL3
        have ny : ∀ {a : Addr} {o : HO} {Y : Hp}, Same X3 Y → Y a = none → a ≠ p := fun {a o Y} s h e => by
          rw [e, s _ _ ep3] at h
          cases h
        have wy : Wf (fun c => c ≠ b) (hide p X9) 1 1 y := by
          rcases List.mem_append.mp hy with h | h
          · rw [← htl] at h
            simp only [List.mem_cons, List.not_mem_nil, or_false] at h
            have c1 : X9 a1 = some (.lst [V.str "a"]) := k9 _ _ (b3.fresh h1) (q5 _ _ (q4 _ _ (q3 _ _ (q2 _ _ e1))))
            have c2 : X9 a2 = some (.tup [V.str "a"]) := k9 _ _ (b1.fresh h2) (q5 _ _ (q4 _ _ (q3 _ _ e2)))
            have c3 : X9 a3 = some (.dK []) := k9 _ _ (b2.fresh h3) (q5 _ _ (q4 _ _ e3))
            have m1 : a1 ≠ p := ny (o := .dK []) (Same.refl X3) h1
            have m2 : a2 ≠ p := ny (o := .dK []) q1 h2
            have m3 : a3 ≠ p := ny (o := .dK []) (q1.trans q2) h3
            rcases h with rfl | rfl | rfl | rfl | rfl | rfl | rfl | rfl | rfl | rfl
            · exact .non _
            · exact .str _ (good_of _) (by decide) _
            · exact .str _ (good_of _) (by decide) _
            · exact .str _ (good_of _) (by decide) _
            · exact .lst a1 [V.str "a"] 0 (by rw [hide_ne m1]; exact c1) (b3.fresh h1) (Nat.le_refl 1) fun x hx => by
                rw [List.mem_singleton.mp hx]
                exact .str _ (good_of _) (by decide) _
            · exact .int _ (by decide) _
            · exact .bl _ _
            · exact .tup a2 [V.str "a"] 0 (by rw [hide_ne m2]; exact c2) (Nat.le_refl 1) fun x hx => by
                rw [List.mem_singleton.mp hx]
                exact .str _ (good_of _) (by decide) _
            · exact .str _ (good_of _) (by decide) _
            · exact .dic a3 (by rw [hide_ne m3]; exact c3) 0
          · obtain ⟨z, rfl, oz⟩ := okv _ h
            exact wf_str oz
        refine ⟨_, rfl, _, rfl, p, _, rfl, DPut.k (k := kk) ep9 (lt_line _ (by omega)), ?_⟩
        refine ⟨_, _, _, putK kv kk y, rfl, ?_, ?_, upd_same, ?_, ?_, ?_, ?_⟩
        · intro c o nc h
          rw [upd_ne (ne_of_none h np0)]
          exact (kb3.trans k39) c o nc h
        · exact (b9.put nb).mono (by push_cast; omega)
        · have := length_putK kv kk y
          omega
        · intro q hq
          refine Wf.keep (Kw.nt hide_put1) ?_
          rcases putK_mem hq with e | hq
          · rw [e]
            exact wy
          · exact (wf3 q hq).keep (kw_kb b3 k39)
        · rw [upd_ne (fun e => by rw [e, ep9] at eL9; cases eL9)]
          exact eL9
        · intro q hq
          rcases putK_key hq with e | ⟨r, hr, e⟩
          · rw [e]
            exact okk
          · rw [e]
            exact ky8 r hr
      · rintro σ H9 ⟨v6, v7, v8, kv, rfl, kb9, B9, ep9, lk9, wf9, eL9, ky9⟩
        exact ⟨_, rfl, k p kv H9 kb9 (B9.mono (by omega)) np0 ep9 (by omega) wf9 ky9⟩
    · refine ⟨_, rfl, rfl, _, rfl, iteF ?_⟩
      refine ⟨_, rfl, rfl, _, rfl, iteF ?_⟩
      refine ⟨_, rfl, rfl, _, rfl, iteF ?_⟩
      simp only [List.set_cons_succ, List.set_cons_zero]
      refine ⟨_, rfl, b, 4, n + 50, rfl, dk.bx.mono (by omega), by omega, by decide, by decide, fun tn H7 t0 t3 off7 B7 => ?_⟩
      have eL7 : H7 L = some (.lst (nms.map V.str)) := (off7 L nLb).trans dk.eL
      have ep7 := (off7 p dk.nb).trans dk.ep
      have kb7 := dk.kb.trans (KB.off off7)
      have wf7 : ∀ q ∈ kvs, Wf (fun c => c ≠ b) (hide p H7) 1 1 q.2 := fun q hq => (dk.wf q hq).keep (kw_kb dk.bx (KB.off off7))
      have lk7 := dk.lk
      have ky7 := dk.ky
      have np0 := dk.np
      have nb := dk.nb
      refine ⟨tn, rfl, by omega, by omega, for_it (walk_range (lo := 0) (n := tn.toNat)) (fun i σ H' => ∃ (v6 v7 v8 : Option V) (kv : List (Key × V)), σ = [some (.ref b), some (.ref W), some (.ref L), some (.int 3), some (.int (j : Nat)), some (.ref p), v6, v7, v8, none, none] ∧ KB b H H' ∧ Bx b (n + 51 + 2 * i) H' ∧ H' p = some (.dK kv) ∧ kv.length ≤ 6 + i ∧ (∀ q ∈ kv, Wf (fun c => c ≠ b) (hide p H') 1 1 q.2) ∧ H' L = some (.lst (nms.map V.str)) ∧ ∀ q ∈ kv, KeyOk q.1) ?_ ?_ ?_ ?_⟩
      · exact ⟨_, _, _, kvs, rfl, kb7, B7.mono (by omega), ep7, by omega, wf7, eL7, ky7⟩
      · intros; trivial
      · rintro i x σ X0 X0' hi ⟨v6, v7, v8, kv, rfl, kb8, B8, ep8, lk8, wf8, eL8, ky8⟩ ⟨rfl, rfl⟩
        have hi3 : i < 4 := by omega
        simp only [List.set_cons_succ, List.set_cons_zero]
        refine ⟨_, rfl, _, rfl, W, _, 3, _, rfl, rfl, wW kb8, rfl, three_line, fun l1 hl1 => ?_⟩
        have q1 := same_alloc (o := .lst [V.str wd.sp, .int 7, .str "Q"]) hl1
        have b1 := B8.alloc (o := .lst [V.str wd.sp, .int 7, .str "Q"]) hl1
        have k1 := KB.alloc (b := b) (o := .lst [V.str wd.sp, .int 7, .str "Q"]) hl1
        refine ⟨L, l1, _, _, rfl, rfl, q1 _ _ eL8, upd_same, (by rw [List.length_map]; exact Nat.le_of_lt (lt_line _ (by show nms.length + 3 ≤ 100; omega))), fun l2 hl2 => ?_⟩
        have q2 := q1.trans (same_alloc (o := .lst (nms.map V.str ++ [V.str wd.sp, .int 7, .str "Q"])) hl2)
        have b2 := b1.alloc (o := .lst (nms.map V.str ++ [V.str wd.sp, .int 7, .str "Q"])) hl2
        have k2 := k1.trans (KB.alloc (o := .lst (nms.map V.str ++ [V.str wd.sp, .int 7, .str "Q"])) hl2)
        have nl2 := b1.fresh hl2
        refine ⟨_, rfl, _, rfl, L, _, rfl, .inl (SqL.of (q2 _ _ eL8)), _, _, rfl, rfl, pickI b2 (by omega) (by simp) (by simp) (by simp; omega) upd_same nl2 fun key X3 hkey k3 b3 => ?_⟩
        obtain ⟨kk, rfl, okk⟩ : ∃ kk, key = kV kk ∧ KeyOk kk := by
          rcases List.mem_append.mp hkey with h | h
          · obtain ⟨z, hz, rfl⟩ := List.mem_map.mp h
            exact ⟨.inr z, rfl, .inl ⟨z, rfl, (okn z hz).good, (okn z hz).2.1⟩⟩
          · simp only [List.mem_cons, List.not_mem_nil, or_false] at h
            rcases h with rfl | rfl | rfl
            · exact ⟨.inr _, rfl, .inl ⟨_, rfl, ok.sn.good, ok.sn.2.1⟩⟩
            · exact ⟨.inl 7, rfl, .inr rfl⟩
            · exact ⟨.inr _, rfl, .inl ⟨_, rfl, good_of _, by decide⟩⟩
        have k03 := k2.trans k3
        have eL3 := k03 _ _ nLb eL8
        have ep3 := k03 _ _ nb ep8
        have wf3 : ∀ q ∈ kv, Wf (fun c => c ≠ b) (hide p X3) 1 1 q.2 := fun q hq => (wf8 q hq).keep (kw_kb B8 k03)
        have kb3 := kb8.trans k03
        clear hkey q1 q2 b1 b2 k1 k2 k3 k03 hl1 hl2 eL8 ep8 wf8
        simp only [List.set_cons_succ, List.set_cons_zero]
        refine ⟨one_line, fun a1 h1 => ?_⟩
        have q1 := same_alloc (o := .lst [V.str "a"]) h1
        have e1 : upd X3 a1 (.lst [V.str "a"]) a1 = some (.lst [V.str "a"]) := upd_same
        have b1 := b3.alloc (o := .lst [V.str "a"]) h1
        generalize upd X3 a1 (.lst [V.str "a"]) = X4 at q1 e1 b1 ⊢
        refine ⟨one_line, fun a2 h2 => ?_⟩
        have q2 := same_alloc (o := .tup [V.str "a"]) h2
        have e2 : upd X4 a2 (.tup [V.str "a"]) a2 = some (.tup [V.str "a"]) := upd_same
        have b2 := b1.alloc (o := .tup [V.str "a"]) h2
        generalize upd X4 a2 (.tup [V.str "a"]) = X5 at q2 e2 b2 ⊢
        refine fun a3 h3 => ?_
        have q3 := same_alloc (o := .dK []) h3
        have e3 : upd X5 a3 (.dK []) a3 = some (.dK []) := upd_same
        have b3' := b2.alloc (o := .dK []) h3
        generalize upd X5 a3 (.dK []) = X6 at q3 e3 b3' ⊢
        refine ⟨(by show 10 ≤ sizeLine; decide), fun a4 h4 => ?_⟩
        generalize htl : [V.non, V.str (Str.ofString ""), V.str (Str.ofString "A"), V.str (Str.ofString "abcdefg"), V.ref a1, V.int 5, V.bl true, V.ref a2, V.str (Str.ofString "a b"), V.ref a3] = tl_
        have tl10 : tl_.length = 10 := by rw [← htl]; rfl
        have q4 := same_alloc (o := .lst tl_) h4
        have e4 : upd X6 a4 (.lst tl_) a4 = some (.lst tl_) := upd_same
        have b4 := b3'.alloc (o := .lst tl_) h4
        generalize upd X6 a4 (.lst tl_) = X7 at q4 e4 b4 ⊢
        have q34 := ((q1.trans q2).trans q3).trans q4
        refine ⟨_, rfl, a4, L, _, _, rfl, rfl, e4, q34 _ _ eL3, (by rw [List.length_map, tl10]; exact Nat.le_of_lt (lt_line _ (by omega))), fun a5 h5 => ?_⟩
        have q5 := same_alloc (o := .lst (tl_ ++ nms.map V.str)) h5
        have e5 : upd X7 a5 (.lst (tl_ ++ nms.map V.str)) a5 = some (.lst (tl_ ++ nms.map V.str)) := upd_same
        have b5 := b4.alloc (o := .lst (tl_ ++ nms.map V.str)) h5
        have n5 := b4.fresh h5
        generalize upd X7 a5 (.lst (tl_ ++ nms.map V.str)) = X8 at q5 e5 b5 ⊢
        simp only [List.set_cons_succ, List.set_cons_zero]
        refine ⟨_, rfl, _, rfl, _, rfl, a5, _, rfl, .inl (SqL.of e5), pickI b5 (by omega) rfl (by rw [List.length_append, tl10]; omega) (by rw [List.length_append, tl10, List.length_map]; omega) e5 n5 fun y X9 hy k9 b9 => ?_⟩
        have qq := q34.trans q5
        have k39 : KB b X3 X9 := KB.trans (fun c o _ h => qq _ _ h) k9
        have ep9 := k39 _ _ nb ep3
        have eL9 := k39 _ _ nLb eL3
        have ny : ∀ {a : Addr} {o : HO} {Y : Hp}, Same X3 Y → Y a = none → a ≠ p := fun {a o Y} s h e => by
          rw [e, s _ _ ep3] at h
          cases h
        have wy : Wf (fun c => c ≠ b) (hide p X9) 1 1 y := by
          rcases List.mem_append.mp hy with h | h
          · rw [← htl] at h
            simp only [List.mem_cons, List.not_mem_nil, or_false] at h
            have c1 : X9 a1 = some (.lst [V.str "a"]) := k9 _ _ (b3.fresh h1) (q5 _ _ (q4 _ _ (q3 _ _ (q2 _ _ e1))))
            have c2 : X9 a2 = some (.tup [V.str "a"]) := k9 _ _ (b1.fresh h2) (q5 _ _ (q4 _ _ (q3 _ _ e2)))
            have c3 : X9 a3 = some (.dK []) := k9 _ _ (b2.fresh h3) (q5 _ _ (q4 _ _ e3))
            have m1 : a1 ≠ p := ny (o := .dK []) (Same.refl X3) h1
            have m2 : a2 ≠ p := ny (o := .dK []) q1 h2
            have m3 : a3 ≠ p := ny (o := .dK []) (q1.trans q2) h3
            rcases h with rfl | rfl | rfl | rfl | rfl | rfl | rfl | rfl | rfl | rfl
            · exact .non _
            · exact .str _ (good_of _) (by decide) _
            · exact .str _ (good_of _) (by decide) _
            · exact .str _ (good_of _) (by decide) _
            · exact .lst a1 [V.str "a"] 0 (by rw [hide_ne m1]; exact c1) (b3.fresh h1) (Nat.le_refl 1) fun x hx => by
                rw [List.mem_singleton.mp hx]
                exact .str _ (good_of _) (by decide) _
            · exact .int _ (by decide) _
            · exact .bl _ _
            · exact .tup a2 [V.str "a"] 0 (by rw [hide_ne m2]; exact c2) (Nat.le_refl 1) fun x hx => by
                rw [List.mem_singleton.mp hx]
                exact .str _ (good_of _) (by decide) _
            · exact .str _ (good_of _) (by decide) _
            · exact .dic a3 (by rw [hide_ne m3]; exact c3) 0
          · obtain ⟨z, rfl, oz⟩ := okv _ h
            exact wf_str oz
        refine ⟨_, rfl, _, rfl, p, _, rfl, DPut.k (k := kk) ep9 (lt_line _ (by omega)), ?_⟩
        refine ⟨_, _, _, putK kv kk y, rfl, ?_, ?_, upd_same, ?_, ?_, ?_, ?_⟩
        · intro c o nc h
          rw [upd_ne (ne_of_none h np0)]
          exact (kb3.trans k39) c o nc h
        · exact (b9.put nb).mono (by push_cast; omega)
        · have := length_putK kv kk y
          omega
        · intro q hq
          refine Wf.keep (Kw.nt hide_put1) ?_
          rcases putK_mem hq with e | hq
          · rw [e]
            exact wy
          · exact (wf3 q hq).keep (kw_kb b3 k39)
        · rw [upd_ne (fun e => by rw [e, ep9] at eL9; cases eL9)]
          exact eL9
        · intro q hq
          rcases putK_key hq with e | ⟨r, hr, e⟩
          · rw [e]
            exact okk
          · rw [e]
            exact ky8 r hr
      · rintro σ H9 ⟨v6, v7, v8, kv, rfl, kb9, B9, ep9, lk9, wf9, eL9, ky9⟩
        exact ⟨_, rfl, k p kv H9 kb9 (B9.mono (by omega)) np0 ep9 (by omega) wf9 ky9⟩
end
end K6

set_option maxRecDepth 100000
set_option maxHeartbeats 400000
namespace K6
open PySem PySem.Spec PyProof.Rows L2 GxR Gd TL My HT RT
theorem passS0 {X : Cx} (σ : L2.St) : PassesAt CX0 X σ E0 := fun _ _ _ _ _ _ h => False.elim h
def ResAt (K : PySem.W.Frag) (H : Hp) (u : V) (d : Due) (ps : List (Str × Int)) (wd : Wd) : Prop := ∃ p x, u = .ref p ∧ match d with
  | some (t, y) => H p = some (.tup [.str (Str.ofString t.s), x]) ∧ y = x
  | none => H p = some (.tup [.str "told", x]) ∧ Dp K H x (toldD ⟨ps, wd.st, wd.lo, wd.sp⟩)
theorem reD_tag {kvs : List (Key × V)} {t : Tag} {y : V} : ∀ {ps : List (Str × Int)} {as : List Str}, reD kvs as ps = some (t, y) → t = .name ∨ t = .twice
  | [], _, h => by cases h
  | p :: ps, as, h => by
    cases hn : nm (nv kvs p.1) with
    | false =>
      rw [reD_name hn] at h
      cases h
      exact .inl rfl
    | true =>
      by_cases hm : nv kvs p.1 ∈ as.map V.str
      · rw [reD_twice hn hm] at h
        cases h
        exact .inr rfl
      · rw [reD_go hn hm] at h
        exact reD_tag h
theorem ren_tag {H : Hp} {v : V} {wd : Wd} {t : Tag} {y : V} (h : RenD H v wd = some (t, y)) : t = .name ∨ t = .twice := by
  unfold RenD at h
  split at h
  · split at h
    · exact reD_tag h
    · cases h
      exact .inl rfl
  · cases h
    exact .inl rfl
/-- the new names, where it is a dict -/
def renP (H : Hp) (v : V) (wd : Wd) : List (Str × Int) := match v with
  | .ref a => match H a with
    | some (.dK kvs) => rew kvs wd.ps
    | _ => []
  | _ => []
theorem ren_none {H : Hp} {v : V} {wd : Wd} (h : RenD H v wd = none) : ∃ a kvs, v = .ref a ∧ H a = some (.dK kvs) ∧ reD kvs [] wd.ps = none := by
  unfold RenD at h
  split at h
  · split at h
    · rename_i a _ kvs e
      exact ⟨a, kvs, rfl, e, h⟩
    · cases h
  · cases h
section
variable {P : Program} {w : World} {K : PySem.W.Frag} {mg : Str → Option Value} {base : Heap} {C : Addr}
variable {cl : Tag → Addr} {CS fS f1 f2 g1 g2 Pt : Addr} {fdS fd1 fd2 gd1 gd2 : FuncData}
abbrev s_law_caught : Stmt := top 35
theorem sc_law_caught : FnScope ["_law_line", "_law_thing", "e"] ["_law_line", "_law_thing"] (defScope s_law_caught) := ⟨rfl, rfl, rfl, by decide +kernel, rfl, by decide +kernel, by decide +kernel⟩
def spCaught (K : PySem.W.Frag) (C Pt : Addr) : Sp := fun vs H Q _ => ∃ (x : Addr) (v : V) (wd : Wd), vs = [.ref x, v] ∧ LineAt K C wd H x ∧ wd.Ok ∧ TabG H Pt ∧ Th H v ∧ (∀ a kvs, v = .ref a → H a = some (.dK kvs) → ∀ p ∈ kvs, Th H p.2) ∧
  ∀ H' u, KT Pt H H' → ResAt K H' u (RenD H v wd) (renP H v wd) wd → Q u H'
theorem ok_caught {f : Addr} {fd : FuncData} (F : Fun K "_law_caught" "_law_caught" s_law_caught f fd) (T : Txt mg) (TC : ClsT K C) (ES : SeT K mg CS fS fdS sSE)
    (ENoName : ExC K mg "NoName" "NoName.__init__" sNoName (cl .name) g1 gd1) (ETwice : ExC K mg "Twice" "Twice.__init__" sTwice (cl .twice) g2 gd2)
    (XM : PySem.W.exmOne K (.ref (cl .twice)) (.ref (cl .name)) = some false)
    (Mrenamed : Mt K C "renamed" "Line.renamed" s_renamed ["self", "names"] f1 fd1) (Grenamed : FnOk P w K mg base (CX P w) 8 f1 fd1 ["self", "names"] (spRenamed K C cl Pt))
    (Mtold : Mt K C "told" "Line.told" s_told ["self"] f2 fd2) (Gtold : FnOk P w K mg base CX0 1 f2 fd2 ["self"] (spTold K C)) :
    FnOk P w K mg base CX0 9 f fd ["_law_line", "_law_thing"] (spCaught K C Pt) := by
  refine F.ok sc_law_caught (fun vs H Q E h => ?_) (fun cdv A outer s H vs Q E hr h => ?_)
  · obtain ⟨x, v, wd, rfl, _⟩ := h
    rfl
  · obtain ⟨x, v, wd, rfl, hL, ok, tb, th, tk', k⟩ := h
    refine ⟨_, pss_one (ps_try_cl rfl rfl sc_law_caught.nd takes_never (.named (i := 2) (ts := fun a cls d => _) ⟨by rfl, by decide, .inl ENoName.g⟩ rfl (by rfl) (fun a oe cls d pn hz hf => (pss_one (ps_ret (pe_tup (pa_cons pe_str (pa_cons (pe_xf ENoName.x ENoName.n hz hf (pv 2)) pa_nil)))))) (.named (i := 2) (ts := fun a cls d => _) ⟨by rfl, by decide, .inl ETwice.g⟩ rfl (by rfl) (fun a oe cls d pn hz hf => (pss_one (ps_ret (pe_tup (pa_cons pe_str (pa_cons (pe_xf ETwice.x ETwice.n hz hf (pv 2)) pa_nil)))))) (.plain (ts := fun a cls d => _) ⟨by rfl, by decide, .inl ES.g⟩ (fun a oe cls d pn hz hf => (pss_one (ps_ret (pe_tup (pa_cons pe_str (pa_cons pe_non pa_nil)))))) .nil))) (fun W pn xe tk _ => (pss_one (ps_ret (pe_tup (pa_cons pe_str (pa_cons (pe_methX0 (pe_methX (pv 0) TC.cl Mrenamed.m Grenamed (hr.mono (by decide)) Mrenamed.b (fun σ => passAt tk σ) (pa_cons (pv 1) pa_nil)) TC.cl Mtold.m Gtold (hr.mono (by decide)) Mtold.b (fun σ => passS0 σ)) pa_nil))))))), ?_⟩
    obtain ⟨dx, p1, p2, p3, d, xs1, xs2, xs3, hx, _⟩ := id hL
    refine ⟨_, rfl, x, dx, _, rfl, hx, lf_no _ _ _ _ (by decide +kernel), _, rfl, x, v, wd, rfl, hL, ok, tb, th, tk', fun t u hd H' e kt he => ?_, fun a kvs ea ha hd y wd' H' kt ny e1 e2 e3 ok' hL' _ => ?_⟩
    · rw [hd] at k
      have ret : ∀ {p : Addr}, upd H' e (.xd [("found", u)]) p = none → Q (.ref p) (upd (upd H' e (.xd [("found", u)])) p (.tup [.str (Str.ofString t.s), u])) := fun hp =>
        k _ _ (kt.trans (same_kt kt.tab ((same_alloc he).trans (same_alloc hp)))) ⟨_, _, rfl, upd_same, rfl⟩
      rcases ren_tag hd with rfl | rfl
      · refine ⟨true, ENoName.e, fun _ y hy => ?_, nofun⟩
        exact ⟨_, rfl, rfl, rfl, e, _, _, rfl, upd_same, rfl, two_line, fun u hu => ret hu⟩
      · refine ⟨false, XM, nofun, fun _ => ⟨true, ETwice.e, fun _ y hy => ?_, nofun⟩⟩
        exact ⟨_, rfl, rfl, rfl, e, _, _, rfl, upd_same, rfl, two_line, fun u hu => ret hu⟩
    · subst ea
      rw [RenD_dic ha, hd] at k
      have er : renP H (.ref a) wd = rew kvs wd.ps := by
        unfold renP
        simp only [ha]
      rw [er] at k
      obtain ⟨dx', p1, p2, p3, d, xs1, xs2, xs3, hy, _⟩ := id hL'
      refine ⟨y, dx', _, rfl, hy, lf_no _ _ _ _ (by decide +kernel), y, wd', rfl, hL', fun t H2 s2 d2 => ⟨two_line, fun p hp => ?_⟩⟩
      have s3 := same_alloc (o := .tup [.str "told", .ref t]) hp
      have d3 := dp_nt (same_nt s3) d2
      rw [e1, e2, e3] at d3
      exact k _ _ (kt.trans (same_kt kt.tab (s2.trans s3))) ⟨p, _, rfl, upd_same, d3⟩
end
end K6

set_option maxRecDepth 100000
set_option maxHeartbeats 400000
/-! the numbers from a to b - 1, as values and as data -/
namespace My
open PySem PySem.Spec PyProof.Rows L2 GxR Gd TL
theorem rgV_snoc {f i : Int} (h : f ≤ i) : rgV f (i + 1) = rgV f i ++ [.int i] := by
  unfold rgV
  rw [show (i + 1 - f).toNat = (i - f).toNat + 1 by omega, List.range_succ, List.map_append]
  congr 1
  show [V.int (f + ((i - f).toNat : Nat))] = _
  rw [show f + ((i - f).toNat : Int) = i by omega]
theorem rgV_nil {f l : Int} (h : l ≤ f) : rgV f l = [] := by
  unfold rgV
  rw [show (l - f).toNat = 0 by omega]
  rfl
/-- how far a row has come that takes just the numbers from f to l - 1 -/
def upTo (f l : Int) (i : Nat) : Int := min l (max f (i : Int))
theorem upTo_in {f l : Int} {i : Nat} (h1 : f ≤ (i : Int)) (h2 : (i : Int) < l) : rgV f (upTo f l (i + 1)) = rgV f (upTo f l i) ++ [.int (i : Nat)] := by
  have e1 : upTo f l (i + 1) = (i : Int) + 1 := by unfold upTo; push_cast; omega
  have e2 : upTo f l i = (i : Int) := by unfold upTo; omega
  rw [e1, e2]
  exact rgV_snoc h1
theorem upTo_out {f l : Int} {i : Nat} (h : ¬ (f ≤ (i : Int) ∧ (i : Int) < l)) : upTo f l (i + 1) = upTo f l i := by
  unfold upTo
  push_cast
  omega
theorem upTo_all {f l : Int} {n : Nat} (h1 : f ≤ l) (h2 : l ≤ (n : Int)) : upTo f l n = l := by unfold upTo; omega
theorem upTo_0 {f l : Int} (h1 : 0 ≤ f) : rgV f (upTo f l 0) = [] := rgV_nil (by unfold upTo; omega)
def rgD (a b : Int) : List PyData := (List.range (b - a).toNat).map fun i => PyData.int (a + (i : Nat))
theorem rg_dp {K : PySem.W.Frag} {H : Hp} (a b : Int) : DpAll K H (rgV a b) (rgD a b) := by
  unfold rgV rgD
  generalize List.range (b - a).toNat = r
  induction r with
  | nil => exact .nil
  | cons i r ih => exact .cons (.int _) ih
theorem rg_sm {a b : Int} (h0 : 0 ≤ a) (h1 : b ≤ 1000) : Sm (.list (rgD a b)) 1 ((rgD a b).length * 21) := sm_list (k := 0) (m := 20) fun d hd => by
  unfold rgD at hd
  obtain ⟨i, hi, rfl⟩ := List.mem_map.mp hd
  have := List.mem_range.mp hi
  exact sm_int (by omega)
theorem rgD_len (a b : Int) : (rgD a b).length = (b - a).toNat := by unfold rgD; rw [List.length_map, List.length_range]
theorem rgV_len (a b : Int) : (rgV a b).length = (b - a).toNat := by unfold rgV; rw [List.length_map, List.length_range]
end My

set_option maxRecDepth 100000
set_option maxHeartbeats 400000
namespace K6
open PySem PySem.Spec PyProof.Rows L2 GxR Gd TL My HT RT
/-- an answer: a small number or nothing -/
inductive Ans : V → PyData → Prop
  | non : Ans .non .none
  | int (i : Nat) (h : i ≤ 10) : Ans (.int (i : Nat)) (.int (i : Nat))
theorem Ans.dp {K : PySem.W.Frag} {H : Hp} {v : V} {d : PyData} (h : Ans v d) : Dp K H v d := by
  cases h with
  | non => exact .non
  | int i h => exact .int _
theorem Ans.show {v : V} {d : PyData} (h : Ans v d) : d.showable = true ∧ d.depth ≤ 100 ∧ d.shown.length ≤ sizeLine := by
  cases h with
  | non => exact ⟨rfl, by decide, by decide +kernel⟩
  | int i h =>
    have a : ∀ i : Fin 11, (PyData.int (i.1 : Nat)).showable = true ∧ (PyData.int (i.1 : Nat)).depth ≤ 100 ∧ (PyData.int (i.1 : Nat)).shown.length ≤ sizeLine := by decide +kernel
    exact a ⟨i, by omega⟩
theorem ans_lof {lo : List (Int × Int × Int)} (h : lo.length ≤ 2) (k : Int) : ∃ d, Ans (lof lo k) d := by
  unfold lof
  split
  · rename_i j e
    obtain ⟨hj, _⟩ := List.findIdx?_eq_some_iff_getElem.mp e
    exact ⟨_, .int j (by omega)⟩
  · exact ⟨_, .non⟩
theorem lof_snoc (lo : List (Int × Int × Int)) (p : Int × Int × Int) (k : Int) : lof (lo ++ [p]) k = if lof lo k = .non then (if p.1 ≤ k ∧ k < p.2.1 then .int (lo.length : Nat) else .non) else lof lo k := by
  unfold lof
  rw [List.findIdx?_append]
  cases e : lo.findIdx? (fun p => decide (p.1 ≤ k) && decide (k < p.2.1)) with
  | some j => simp
  | none =>
    by_cases q : p.1 ≤ k ∧ k < p.2.1
    · simp [List.findIdx?_cons, q]
    · have q' : (decide (p.1 ≤ k) && decide (k < p.2.1)) = false := by simpa using q
      simp [List.findIdx?_cons, q', q]
theorem longs_nonneg {top : Int} : ∀ {low : Int} {lo : List (Int × Int × Int)}, 0 ≤ low → longsOk top low lo → ∀ p ∈ lo, 0 ≤ p.1
  | _, [], _, _, p, hp => by cases hp
  | low, (f, l, h) :: r, h0, hk, p, hp => by
    obtain ⟨k1, k2, k3, k4, k5, k6⟩ := hk
    rcases List.mem_cons.mp hp with rfl | hp
    · exact Int.le_trans h0 k1
    · exact longs_nonneg (by omega) k6 p hp
theorem posOf_at : ∀ {ps : List (Str × Int)} {i : Nat} {p : Str × Int}, (ps.map (·.1)).Nodup → ps[i]? = some p → posOf ps p.1 = some i
  | [], i, p, _, h => by simp at h
  | a :: r, 0, p, _, h => by
    obtain rfl : a = p := by simpa using h
    unfold posOf
    simp [List.findIdx?_cons]
  | a :: r, i + 1, p, nd, h => by
    have h' : r[i]? = some p := by simpa using h
    rw [List.map_cons, List.nodup_cons] at nd
    have ne : ¬ a.1 = p.1 := fun e => nd.1 (e ▸ List.mem_map.mpr ⟨p, List.mem_of_getElem? h', rfl⟩)
    have ih := posOf_at nd.2 h'
    unfold posOf at ih ⊢
    rw [List.findIdx?_cons]
    simp [ne, ih]
theorem strs_dp {K : PySem.W.Frag} {H : Hp} : ∀ l : List Str, DpAll K H (l.map V.str) (l.map PyData.str)
  | [] => .nil
  | z :: r => .cons (.str z) (strs_dp r)
theorem sm_nms {wd : Wd} (ok : wd.Ok) : Sm (.list ((wd.ps.map (·.1)).map PyData.str)) 1 100 := (sm_list (k := 0) (m := 6) (fun d hd => by
  obtain ⟨z, hz, rfl⟩ := List.mem_map.mp hd
  obtain ⟨p, hp, rfl⟩ := List.mem_map.mp hz
  obtain ⟨n1, _⟩ := ok.nm p hp
  exact sm_str n1.good n1.2.1)).mono (Nat.le_refl _) (by have := ok.p6; rw [List.length_map, List.length_map]; omega)
theorem sm_told {wd : Wd} (ok : wd.Ok) (hb : ∀ p ∈ wd.lo, p.1.natAbs ≤ 1000 ∧ p.2.1.natAbs ≤ 1000 ∧ p.2.2.natAbs ≤ 1000) : Sm (toldD wd) 3 2000 := by
  have a1 : Sm (.tuple (wd.ps.map dP)) 2 300 := (sm_tuple (k := 1) (m := 42) (fun d hd => by
    obtain ⟨p, hp, rfl⟩ := List.mem_map.mp hd
    obtain ⟨n1, n2, n3⟩ := ok.nm p hp
    exact sm_dP n1.good n1.2.1 (by omega))).mono (Nat.le_refl _) (by have := ok.p6; rw [List.length_map]; omega)
  have a2 : Sm (.tuple (wd.st.map dP)) 2 300 := (sm_tuple (k := 1) (m := 42) (fun d hd => by
    obtain ⟨p, hp, rfl⟩ := List.mem_map.mp hd
    obtain ⟨n1, n2, n3⟩ := ok.st p hp
    refine sm_dP ?_ ?_ (by omega)
    · rcases n1 with e | e <;> (rw [e]; exact good_of _)
    · rcases n1 with e | e <;> (rw [e]; decide))).mono (Nat.le_refl _) (by have := ok.p6; have := ok.sl; rw [List.length_map]; omega)
  have a3 : Sm (.tuple (wd.lo.map dL)) 2 300 := (sm_tuple (k := 1) (m := 63) (fun d hd => by
    obtain ⟨p, hp, rfl⟩ := List.mem_map.mp hd
    obtain ⟨n1, n2, n3⟩ := hb p hp
    exact sm_tuple (k := 0) (m := 20) (ds := [.int p.1, .int p.2.1, .int p.2.2]) (fun d hd => by
      simp only [List.mem_cons, List.not_mem_nil, or_false] at hd
      rcases hd with rfl | rfl | rfl <;> exact sm_int (by assumption)))).mono (Nat.le_refl _) (by have := ok.ll; rw [List.length_map]; omega)
  exact (sm_tuple (k := 2) (m := 300) (fun d hd => by
    simp only [List.mem_cons, List.not_mem_nil, or_false] at hd
    rcases hd with rfl | rfl | rfl <;> assumption)).mono (Nat.le_refl _) (by simp)
theorem ans_betw {i j : Nat} (hi : i ≤ 10) (hj : j ≤ 10) : ∃ d, Ans (betw i j) d := by
  unfold betw
  split
  · exact ⟨_, .int i hi⟩
  · split
    · exact ⟨_, .int j hj⟩
    · exact ⟨_, .non⟩
theorem ans_lbt {lo : List (Int × Int × Int)} (h : lo.length ≤ 2) (a b : Int) : ∃ d, Ans (lbt lo a b) d := by
  unfold lbt
  split
  · rename_i j e
    obtain ⟨hj, _⟩ := List.findIdx?_eq_some_iff_getElem.mp e
    exact ⟨_, .int j (by omega)⟩
  · exact ⟨_, .non⟩
theorem lbt_snoc (lo : List (Int × Int × Int)) (p : Int × Int × Int) (a b : Int) : lbt (lo ++ [p]) a b = if lbt lo a b = .non then (if p.1 = a ∧ p.2.1 = b then .int (lo.length : Nat) else .non) else lbt lo a b := by
  unfold lbt
  rw [List.findIdx?_append]
  cases e : lo.findIdx? (fun p => decide (p.1 = a) && decide (p.2.1 = b)) with
  | some j => simp
  | none =>
    by_cases q : p.1 = a ∧ p.2.1 = b
    · simp [List.findIdx?_cons, q]
    · have q' : (decide (p.1 = a) && decide (p.2.1 = b)) = false := by simpa using q
      simp [List.findIdx?_cons, q', q]
theorem Ans.sm {v : V} {d : PyData} (h : Ans v d) : Sm d 0 20 := by
  cases h with
  | non => exact sm_none.mono (by decide) (by decide)
  | int i h => exact sm_int (by omega)
theorem four_line : 4 ≤ sizeLine := by decide
section
variable {P : Program} {w : World} {K : PySem.W.Frag} {mg : Str → Option Value} {base : Heap}
abbrev s_many_stretches : Stmt := inClass (top 23) 4
theorem sc_many_stretches : FnScope ["self"] ["self"] (defScope s_many_stretches) := ⟨rfl, rfl, rfl, by decide +kernel, rfl, by decide +kernel, by decide +kernel⟩
abbrev s_many_longs : Stmt := inClass (top 23) 10
theorem sc_many_longs : FnScope ["self"] ["self"] (defScope s_many_longs) := ⟨rfl, rfl, rfl, by decide +kernel, rfl, by decide +kernel, by decide +kernel⟩
def spMany (K : PySem.W.Frag) (C : Addr) (g : Wd → Nat) : Sp := fun vs H Q _ => ∃ (x : Addr) (wd : Wd), vs = [.ref x] ∧ LineAt K C wd H x ∧ Q (.int (g wd : Nat)) H
theorem ok_many_stretches {f C : Addr} {fd : FuncData} (F : Fun K "many_stretches" "Line.many_stretches" s_many_stretches f fd) (T : Txt mg) (TC : ClsT K C) : FnOk P w K mg base CX0 1 f fd ["self"] (spMany K C fun wd => wd.st.length) := by
  refine F.ok sc_many_stretches (fun vs H Q E h => ?_) (fun cdv A outer s H vs Q E hr h => ?_)
  · obtain ⟨x, wd, rfl, _⟩ := h
    rfl
  · obtain ⟨x, wd, rfl, ⟨dx, p1, p2, p3, d, xs1, xs2, xs3, hx, hp1, hd1, hp2, hd2, hp3, hd3, hN⟩, k⟩ := h
    refine ⟨_, pss_one (ps_ret (pe_callB call_len_seq (by rfl) T.len_ PySem.boot_len (pa_cons (pe_fld (pv 0) rfl) pa_nil))), ?_⟩
    refine ⟨_, rfl, x, C, dx, _, _, rfl, hx, TC.cl, TC.n2, lf_stretches _ _ _ _, p2, xs2, rfl, .inr hp2, ?_⟩
    rw [show (xs2.length : Int) = (wd.st.length : Nat) by rw [dpAll_len hd2, List.length_map]]
    exact k
theorem ok_many_longs {f C : Addr} {fd : FuncData} (F : Fun K "many_longs" "Line.many_longs" s_many_longs f fd) (T : Txt mg) (TC : ClsT K C) : FnOk P w K mg base CX0 1 f fd ["self"] (spMany K C fun wd => wd.lo.length) := by
  refine F.ok sc_many_longs (fun vs H Q E h => ?_) (fun cdv A outer s H vs Q E hr h => ?_)
  · obtain ⟨x, wd, rfl, _⟩ := h
    rfl
  · obtain ⟨x, wd, rfl, ⟨dx, p1, p2, p3, d, xs1, xs2, xs3, hx, hp1, hd1, hp2, hd2, hp3, hd3, hN⟩, k⟩ := h
    refine ⟨_, pss_one (ps_ret (pe_callB call_len_seq (by rfl) T.len_ PySem.boot_len (pa_cons (pe_fld (pv 0) rfl) pa_nil))), ?_⟩
    refine ⟨_, rfl, x, C, dx, _, _, rfl, hx, TC.cl, TC.n3, lf_longs _ _ _ _, p3, xs3, rfl, .inr hp3, ?_⟩
    rw [show (xs3.length : Int) = (wd.lo.length : Nat) by rw [dpAll_len hd3, List.length_map]]
    exact k
def spNamesOf (K : PySem.W.Frag) (C : Addr) : Sp := fun vs H Q _ => ∃ (x : Addr) (wd : Wd), vs = [.ref x] ∧ LineAt K C wd H x ∧ wd.ps.length ≤ 6 ∧ ∀ a H', H a = none → Same H H' → H' a = some (.lst ((wd.ps.map (·.1)).map V.str)) → Q (.ref a) H'
theorem ok_names_of {f C : Addr} {fd : FuncData} (F : Fun K "names" "Line.names" s_names f fd) (T : Txt mg) (TC : ClsT K C) : FnOk P w K mg base CX0 1 f fd ["self"] (spNamesOf K C) := by
  refine F.ok sc_names (fun vs H Q E h => ?_) (fun cdv A outer s H vs Q E hr h => ?_)
  · obtain ⟨x, wd, rfl, _⟩ := h
    rfl
  · obtain ⟨x, wd, rfl, ⟨dx, p1, p2, p3, d, xs1, xs2, xs3, hx, hp1, hd1, hp2, hd2, hp3, hd3, hN⟩, h6, k⟩ := h
    have l1 : xs1.length = wd.ps.length := by rw [dpAll_len hd1, List.length_map]
    refine ⟨_, pss_one (ps_ret (pe_lc (own := [("name", 1), ("_", 2)]) (g := gTup K 2 (gCons (gName 1) (gCons (gName 2) gNil))) (tt := tYes) rfl sc_names.nd (pi_tup (pe_fld (pv 0) rfl)) (blkOk_by (own := [("name", 1), ("_", 2)]) (N := ["self", "name", "_"]) (sc := defScope s_names) (by decide +kernel)) (fun _ _ _ _ _ => (pg_tup (by rfl) (pgs_cons (pg_name (i := 1) sc_names.nd rfl (Or.inl rfl)) (pgs_cons (pg_name (i := 2) sc_names.nd rfl (Or.inl rfl)) pgs_nil)))) (fun _ _ _ _ _ => pts_nil) (fun _ _ _ _ _ => (pv 1)))), ?_⟩
    refine ⟨_, rfl, x, C, dx, _, _, rfl, hx, TC.cl, TC.n1, lf_places _ _ _ _, p1, rfl, ⟨_, hp1⟩, fun D hD => lc_it (walk_tup (K := K) (xs := xs1)) (fun i H' => H' = upd H D (.lst (((wd.ps.take i).map (·.1)).map V.str))) rfl ?_ ?_ ?_⟩
    · rintro i H' _ rfl
      exact (same_nt (same_alloc hD)).seqT hp1
    · rintro i v H' H'' hi rfl ⟨rfl, hv⟩
      obtain ⟨d', hg1, hg2⟩ := dpAll_get hd1 hv
      obtain ⟨p, hp, rfl⟩ := get_map hg1
      obtain ⟨t, y1, y2, rfl, ht, r1, r2⟩ := dp_two hg2
      obtain rfl := dp_str r1
      obtain rfl := dp_int r2
      refine ⟨t, _, rfl, (same_nt (same_alloc hD)).seqT ht, rfl, _, _, rfl, _, _, rfl, rfl, rfl, lcY ⟨_, rfl, _, upd_same, ?_, ?_⟩⟩
      · rw [List.length_map, List.length_map, List.length_take]
        exact lt_line _ (by omega)
      · rw [upd_upd, take_at hp, List.map_append, List.map_append]
        rfl
    · rintro H' rfl
      refine k D _ hD (same_alloc hD) ?_
      rw [upd_same, l1, List.take_of_length_le (Nat.le_refl _)]
end
end K6

set_option maxRecDepth 100000
set_option maxHeartbeats 800000
namespace K6
open PySem PySem.Spec PyProof.Rows L2 GxR Gd TL My HT RT
section
variable {P : Program} {w : World} {K : PySem.W.Frag} {mg : Str → Option Value} {base : Heap}
abbrev s_law_stretches_asked_right : Stmt := top 36
theorem sc_law_stretches_asked_right : FnScope ["_law_line", "_law_world_here", "_law_names_here", "_law_k", "_law_kind", "_law_home", "_law_j", "_law_due_here", "_law_name", "_law_roads", "_law_one", "_law_low", "_law_high", "_law_at"] ["_law_line", "_law_world_here"] (defScope s_law_stretches_asked_right) := ⟨rfl, rfl, rfl, by decide +kernel, rfl, by decide +kernel, by decide +kernel⟩
def spAsk (K : PySem.W.Frag) (C : Addr) (g : Wd → PyData) : Sp := fun vs H Q _ => ∃ (x : Addr) (v : V) (wd : Wd), vs = [.ref x, v] ∧ LineAt K C wd H x ∧ Dp K H v (g wd) ∧ wd.Ok ∧ ∀ H', Same H H' → Q (.bl true) H'
theorem ok_stretches_askedL {f fM fN fE fK fH fO fJ fS fG C : Addr} {fd fdM fdN fdE fdK fdH fdO fdJ fdS fdG : FuncData} (F : Fun K "_law_stretches_asked_right" "_law_stretches_asked_right" s_law_stretches_asked_right f fd) (T : Txt mg) (TC : ClsT K C)
    (Mmany_stretches : Mt K C "many_stretches" "Line.many_stretches" s_many_stretches ["self"] fM fdM) (Gmany_stretches : FnOk P w K mg base CX0 1 fM fdM ["self"] (spMany K C fun wd => wd.st.length))
    (Mmany_longs : Mt K C "many_longs" "Line.many_longs" s_many_longs ["self"] fN fdN) (Gmany_longs : FnOk P w K mg base CX0 1 fN fdN ["self"] (spMany K C fun wd => wd.lo.length))
    (Mends : Mt K C "ends" "Line.ends" s_ends ["self", "k"] fE fdE) (Gends : FnOk P w K mg base CX0 3 fE fdE ["self", "k"] (spEnds K C))
    (Mkind : Mt K C "kind" "Line.kind" s_kind ["self", "k"] fK fdK) (Gkind : FnOk P w K mg base CX0 3 fK fdK ["self", "k"] (spKind K C))
    (Mhome : Mt K C "home" "Line.home" s_home ["self", "k"] fH fdH) (Ghome : FnOk P w K mg base CX0 4 fH fdH ["self", "k"] (spHome K C))
    (Mlong_of : Mt K C "long_of" "Line.long_of" s_long_of ["self", "k"] fO fdO) (Glong_of : FnOk P w K mg base CX0 3 fO fdO ["self", "k"] (spLongOf K C))
    (Mlong_ends : Mt K C "long_ends" "Line.long_ends" s_long_ends ["self", "j"] fJ fdJ) (Glong_ends : FnOk P w K mg base CX0 3 fJ fdJ ["self", "j"] (spLongEnds K C))
    (Mlong_stretches : Mt K C "long_stretches" "Line.long_stretches" s_long_stretches ["self", "j"] fS fdS) (Glong_stretches : FnOk P w K mg base CX0 3 fS fdS ["self", "j"] (spLongStretches K C))
    (Mlong_home : Mt K C "long_home" "Line.long_home" s_long_home ["self", "j"] fG fdG) (Glong_home : FnOk P w K mg base CX0 4 fG fdG ["self", "j"] (spLongHome K C)) :
    GOk P w K mg base CX0 5 f fd ["_law_line", "_law_world_here"] (spAsk K C Wd.data) := by
  refine gok F sc_law_stretches_asked_right (fun vs H Q E h => ?_) (fun cdv A outer s H vs Q E gd hr h => ?_)
  · obtain ⟨x, v, wd, rfl, _⟩ := h
    rfl
  · obtain ⟨x, v, wd, rfl, hL, hD, ok, k⟩ := h
    obtain ⟨wa, vp, vs_, vl, vu, rfl, hw, hp, hs, hl, _⟩ := dp_four hD
    obtain ⟨ap, xp, rfl, hap, dap⟩ := dp_list hp
    obtain ⟨as_, xs, rfl, has, das⟩ := dp_list hs
    obtain ⟨al, xl, rfl, hal, dal⟩ := dp_list hl
    obtain ⟨dx, p1, p2, p3, d, xs1, xs2, xs3, hx, _⟩ := id hL
    have lp : xp.length = wd.ps.length := by rw [dpAll_len dap, List.length_map]
    have ls : xs.length = wd.st.length := by rw [dpAll_len das, List.length_map]
    have ll : xl.length = wd.lo.length := by rw [dpAll_len dal, List.length_map]
    have p6 := ok.p6
    have sl := ok.sl
    have ll2 := ok.ll
    refine ⟨_, pss_cons (ps_setLc (i := 2) (own := [("_law_name", 8), ("_law_roads", 9)]) (g := gTup K 2 (gCons (gName 8) (gCons (gName 9) gNil))) (tt := tYes) rfl sc_law_stretches_asked_right.nd rfl rfl (sw_true rfl rfl rfl (by decide +kernel)) (pi_list (pe_ix (ixL (K := K) rfl) (pv 1) pe_int (fun _ _ => rfl))) (blkOk_by (own := [("_law_name", 8), ("_law_roads", 9)]) (N := ["_law_line", "_law_world_here", "_law_names_here", "_law_k", "_law_kind", "_law_home", "_law_j", "_law_due_here", "_law_name", "_law_roads", "_law_one", "_law_low", "_law_high", "_law_at"]) (sc := defScope s_law_stretches_asked_right) (by decide +kernel)) (fun _ _ _ _ _ => (pg_tup (by rfl) (pgs_cons (pg_name (i := 8) sc_law_stretches_asked_right.nd rfl (Or.inl rfl)) (pgs_cons (pg_name (i := 9) sc_law_stretches_asked_right.nd rfl (Or.inl rfl)) pgs_nil)))) (fun _ _ _ _ _ => pts_nil) (fun _ _ _ _ _ => (pv 8)))
      (pss_cons (ps_if (pt_cmpR op_ne (pe_callB (call_repr gd hr) (by rfl) T.repr_ (by decide +kernel) (pa_cons (pe_lst (pa_cons (pe_meth0 (pv 0) TC.cl Mmany_stretches.m Gmany_stretches (hr.mono (by decide)) Mmany_stretches.b .nil pass0) (pa_cons (pe_meth0 (pv 0) TC.cl Mmany_longs.m Gmany_longs (hr.mono (by decide)) Mmany_longs.b .nil pass0) pa_nil))) pa_nil)) (pe_callB (call_repr gd hr) (by rfl) T.repr_ (by decide +kernel) (pa_cons (pe_lst (pa_cons (pe_callB call_len_seq (by rfl) T.len_ PySem.boot_len (pa_cons (pe_ix (ixL (K := K) rfl) (pv 1) pe_int (fun _ _ => rfl)) pa_nil)) (pa_cons (pe_callB call_len_seq (by rfl) T.len_ PySem.boot_len (pa_cons (pe_ix (ixL (K := K) rfl) (pv 1) pe_int (fun _ _ => rfl)) pa_nil)) pa_nil))) pa_nil)) (nomark _)) (pss_one (ps_ret pe_bl)) pss_nil)
      (pss_cons (ps_for PassesOwn.never rfl (pi_enum (by rfl) T.enumerate_ (pa_cons (pe_ix (ixL (K := K) rfl) (pv 1) pe_int (fun _ _ => rfl)) pa_nil)) (pg_tup (by rfl) (pgs_cons (pg_name (i := 3) sc_law_stretches_asked_right.nd rfl (Or.inr rfl)) (pgs_cons (pg_tup (by rfl) (pgs_cons (pg_name (i := 4) sc_law_stretches_asked_right.nd rfl (Or.inl rfl)) (pgs_cons (pg_name (i := 5) sc_law_stretches_asked_right.nd rfl (Or.inl rfl)) pgs_nil))) pgs_nil))) (pss_cons (ps_set (i := 6) sc_law_stretches_asked_right.nd rfl (Or.inl rfl) (pe_ix (ixL (K := K) rfl) (pe_op op_cat (pe_lc (own := [("_law_one", 10), ("_law_low", 11), ("_law_high", 12), ("_law_at", 13)]) (g := gTup K 2 (gCons (gName 10) (gCons (gTup K 3 (gCons (gName 11) (gCons (gName 12) (gCons (gName 13) gNil)))) gNil))) rfl sc_law_stretches_asked_right.nd (pi_enum (by rfl) T.enumerate_ (pa_cons (pe_ix (ixL (K := K) rfl) (pv 1) pe_int (fun _ _ => rfl)) pa_nil)) (blkOk_by (own := [("_law_one", 10), ("_law_low", 11), ("_law_high", 12), ("_law_at", 13)]) (N := ["_law_line", "_law_world_here", "_law_names_here", "_law_k", "_law_kind", "_law_home", "_law_j", "_law_due_here", "_law_name", "_law_roads", "_law_one", "_law_low", "_law_high", "_law_at"]) (sc := defScope s_law_stretches_asked_right) (by decide +kernel)) (fun _ _ _ _ _ => (pg_tup (by rfl) (pgs_cons (pg_name (i := 10) sc_law_stretches_asked_right.nd rfl (Or.inl rfl)) (pgs_cons (pg_tup (by rfl) (pgs_cons (pg_name (i := 11) sc_law_stretches_asked_right.nd rfl (Or.inl rfl)) (pgs_cons (pg_name (i := 12) sc_law_stretches_asked_right.nd rfl (Or.inl rfl)) (pgs_cons (pg_name (i := 13) sc_law_stretches_asked_right.nd rfl (Or.inl rfl)) pgs_nil)))) pgs_nil)))) (fun _ _ _ _ _ => pts_one (pt_chain op_le op_lt (pv 11) (pv 3) (pv 12))) (fun _ _ _ _ _ => (pv 10))) (pe_lst (pa_cons pe_non pa_nil))) pe_int (fun _ _ => rfl)))
          (pss_cons (ps_set (i := 7) sc_law_stretches_asked_right.nd rfl (Or.inl rfl) (pe_lst (pa_cons (pe_tup (pa_cons (pe_ix (ixL (K := K) rfl) (pv 2) (pv 3) (fun _ _ => rfl)) (pa_cons (pe_ix (ixL (K := K) rfl) (pv 2) (pe_op op_add (pv 3) pe_int) (fun _ _ => rfl)) pa_nil))) (pa_cons (pv 4) (pa_cons (pe_ix (ixL (K := K) rfl) (pv 2) (pe_op op_add (pv 3) (pv 5)) (fun _ _ => rfl)) (pa_cons (pv 6) pa_nil))))))
          (pss_one (ps_if (pt_cmpR op_ne (pe_callB (call_repr gd hr) (by rfl) T.repr_ (by decide +kernel) (pa_cons (pe_lst (pa_cons (pe_meth (pv 0) TC.cl Mends.m Gends (hr.mono (by decide)) Mends.b .nil pass0 (pa_cons (pv 3) pa_nil)) (pa_cons (pe_meth (pv 0) TC.cl Mkind.m Gkind (hr.mono (by decide)) Mkind.b .nil pass0 (pa_cons (pv 3) pa_nil)) (pa_cons (pe_meth (pv 0) TC.cl Mhome.m Ghome (hr.mono (by decide)) Mhome.b .nil pass0 (pa_cons (pv 3) pa_nil)) (pa_cons (pe_meth (pv 0) TC.cl Mlong_of.m Glong_of (hr.mono (by decide)) Mlong_of.b .nil pass0 (pa_cons (pv 3) pa_nil)) pa_nil))))) pa_nil)) (pe_callB (call_repr gd hr) (by rfl) T.repr_ (by decide +kernel) (pa_cons (pv 7) pa_nil)) (nomark _)) (pss_one (ps_ret pe_bl)) pss_nil)))))
      (pss_cons (ps_for PassesOwn.never rfl (pi_enum (by rfl) T.enumerate_ (pa_cons (pe_ix (ixL (K := K) rfl) (pv 1) pe_int (fun _ _ => rfl)) pa_nil)) (pg_tup (by rfl) (pgs_cons (pg_name (i := 6) sc_law_stretches_asked_right.nd rfl (Or.inl rfl)) (pgs_cons (pg_tup (by rfl) (pgs_cons (pg_name (i := 11) sc_law_stretches_asked_right.nd rfl (Or.inl rfl)) (pgs_cons (pg_name (i := 12) sc_law_stretches_asked_right.nd rfl (Or.inl rfl)) (pgs_cons (pg_name (i := 5) sc_law_stretches_asked_right.nd rfl (Or.inl rfl)) pgs_nil)))) pgs_nil))) (pss_cons (ps_set (i := 7) sc_law_stretches_asked_right.nd rfl (Or.inl rfl) (pe_lst (pa_cons (pe_tup (pa_cons (pe_ix (ixL (K := K) rfl) (pv 2) (pv 11) (fun _ _ => rfl)) (pa_cons (pe_ix (ixL (K := K) rfl) (pv 2) (pv 12) (fun _ _ => rfl)) pa_nil))) (pa_cons (pe_listRg rfl (by rfl) T.list_ (prg_2 (by rfl) T.range_ (pv 11) (pv 12))) (pa_cons (pe_ix (ixL (K := K) rfl) (pv 2) (pe_ix (ixL (K := K) rfl) (pe_lst (pa_cons (pv 11) (pa_cons (pv 12) pa_nil))) (pv 5) (fun _ _ => rfl)) (fun _ _ => rfl)) pa_nil)))))
          (pss_one (ps_if (pt_cmpR op_ne (pe_callB (call_repr gd hr) (by rfl) T.repr_ (by decide +kernel) (pa_cons (pe_lst (pa_cons (pe_meth (pv 0) TC.cl Mlong_ends.m Glong_ends (hr.mono (by decide)) Mlong_ends.b .nil pass0 (pa_cons (pv 6) pa_nil)) (pa_cons (pe_meth (pv 0) TC.cl Mlong_stretches.m Glong_stretches (hr.mono (by decide)) Mlong_stretches.b .nil pass0 (pa_cons (pv 6) pa_nil)) (pa_cons (pe_meth (pv 0) TC.cl Mlong_home.m Glong_home (hr.mono (by decide)) Mlong_home.b .nil pass0 (pa_cons (pv 6) pa_nil)) pa_nil)))) pa_nil)) (pe_callB (call_repr gd hr) (by rfl) T.repr_ (by decide +kernel) (pa_cons (pv 7) pa_nil)) (nomark _)) (pss_one (ps_ret pe_bl)) pss_nil))))
      (pss_one (ps_ret pe_bl))))), ?_⟩
    generalize hσ : L2.start _ _ = σ0
    obtain rfl : σ0 = [some (.ref x), some (.ref wa), none, none, none, none, none, none, none, none, none, none, none, none] := hσ.symm.trans rfl
    rw [tSeq, tAsg]
    refine names_compL (σ := [some (.ref x), some (.ref wa), none, none, none, none, none, none, none, none, none, none, none, none]) (i := 1) (a := 8) (b := 9) rfl hw hap dap p6 (Nat.le_of_ble_eq_true rfl) (by decide) fun N H1 hN0 s1 eN => ?_
    have hL1 := hL.nt (same_nt s1)
    have no1 : (lf p1 p2 p3 d).lookup (Str.ofString "many_stretches") = none := lf_no _ _ _ _ (by decide +kernel)
    have no2 : (lf p1 p2 p3 d).lookup (Str.ofString "many_longs") = none := lf_no _ _ _ _ (by decide +kernel)
    have no3 : (lf p1 p2 p3 d).lookup (Str.ofString "ends") = none := lf_no _ _ _ _ (by decide +kernel)
    have no4 : (lf p1 p2 p3 d).lookup (Str.ofString "kind") = none := lf_no _ _ _ _ (by decide +kernel)
    have no5 : (lf p1 p2 p3 d).lookup (Str.ofString "home") = none := lf_no _ _ _ _ (by decide +kernel)
    have no6 : (lf p1 p2 p3 d).lookup (Str.ofString "long_of") = none := lf_no _ _ _ _ (by decide +kernel)
    have no7 : (lf p1 p2 p3 d).lookup (Str.ofString "long_ends") = none := lf_no _ _ _ _ (by decide +kernel)
    have no8 : (lf p1 p2 p3 d).lookup (Str.ofString "long_stretches") = none := lf_no _ _ _ _ (by decide +kernel)
    have no9 : (lf p1 p2 p3 d).lookup (Str.ofString "long_home") = none := lf_no _ _ _ _ (by decide +kernel)
    obtain ⟨m1, m2, m3⟩ := (sm_list (k := 0) (m := 20) (ds := [.int (wd.st.length : Nat), .int (wd.lo.length : Nat)]) (fun d hd => by
      simp only [List.mem_cons, List.not_mem_nil, or_false] at hd
      rcases hd with rfl | rfl
      · exact sm_int (by omega)
      · exact sm_int (by omega))).rep (by decide) (by show 2 * 21 ≤ 2 ^ 20; decide)
    simp only [List.set_cons_succ, List.set_cons_zero]
    refine ⟨_, rfl, x, dx, _, rfl, s1 _ _ hx, no1, x, wd, rfl, hL1, _, rfl, x, dx, _, rfl, s1 _ _ hx, no2, x, wd, rfl, hL1, two_line, fun c1 hc1 => ?_⟩
    have q1 := s1.trans (same_alloc (o := .lst [V.int (wd.st.length : Nat), .int (wd.lo.length : Nat)]) hc1)
    refine ⟨_, .list [.int (wd.st.length : Nat), .int (wd.lo.length : Nat)], rfl, .lst (SqL.of upd_same) (.cons (.int _) (.cons (.int _) .nil)), m1, m2, m3, ?_⟩
    have n1 := same_nt q1
    refine ⟨_, rfl, wa, _, 1, _, rfl, rfl, n1.seq hw, rfl, as_, xs, rfl, .inl (n1.seq has), _, rfl, wa, _, 2, _, rfl, rfl, n1.seq hw, rfl, al, xl, rfl, .inl (n1.seq hal), two_line, fun c2 hc2 => ?_⟩
    refine ⟨_, .list [.int (wd.st.length : Nat), .int (wd.lo.length : Nat)], rfl, .lst (SqL.of upd_same) (by rw [ls, ll]; exact .cons (.int _) (.cons (.int _) .nil)), m1, m2, m3, rfl, _, rfl, iteNS rfl ?_⟩
    clear m1 m2 m3 n1
    have q2 := q1.trans (same_alloc (o := .lst [V.int (xs.length : Nat), .int (xl.length : Nat)]) hc2)
    have eN2 := (same_alloc (o := .lst [V.int (xs.length : Nat), .int (xl.length : Nat)]) hc2) _ _ ((same_alloc (o := .lst [V.int (wd.st.length : Nat), .int (wd.lo.length : Nat)]) hc1) _ _ eN)
    generalize upd (upd H1 c1 (.lst [V.int (wd.st.length : Nat), .int (wd.lo.length : Nat)])) c2 (.lst [V.int (xs.length : Nat), .int (xl.length : Nat)]) = H2 at q2 eN2 ⊢
    clear q1 hL1 s1 hc1 hc2 eN
    have hP : ∀ {i : Nat} {p : Str × Int}, wd.ps[i]? = some p → ((wd.ps.map (·.1)).map V.str)[i]? = some (.str p.1) := fun e => by rw [List.getElem?_map, List.getElem?_map, e]; rfl
    refine ⟨_, rfl, wa, _, 1, _, rfl, rfl, (same_nt q2).seq hw, rfl, as_, xs, rfl, (same_nt q2).seq has, for_it (walk_enum (K := K) (xs := xs)) (fun i σ H' => ∃ v3 v4 v5 v6 v7 v8 v9 v10 v11 v12 v13 : Option V, σ = [some (.ref x), some (.ref wa), some (.ref N), v3, v4, v5, v6, v7, v8, v9, v10, v11, v12, v13] ∧ Same H2 H') ?_ ?_ ?_ ?_⟩
    · exact ⟨_, _, _, _, _, _, _, _, _, _, _, rfl, Same.refl H2⟩
    · rintro i σ H' _ ⟨_, _, _, _, _, _, _, _, _, _, _, _, s2⟩
      exact (same_nt (q2.trans s2)).seq has
    · rintro i v σ X1 X2 hi ⟨v3, v4, v5, v6, v7, v8, v9, v10, v11, v12, v13, rfl, s2⟩ ⟨T1, X, Y, rfl, hT1, rfl, z1, z2⟩
      obtain rfl := Option.some.inj z1
      obtain ⟨d', hg1, hg2⟩ := dpAll_get das z2
      obtain ⟨r, hr0, rfl⟩ := get_map hg1
      obtain ⟨t, y1, y2, rfl, ht, r1, r2⟩ := dp_two hg2
      obtain rfl := dp_str r1
      obtain rfl := dp_int r2
      have s3 := s2.trans (same_alloc (o := .tup [.int (i : Nat), .ref t]) hT1)
      have ht1 := (same_nt (q2.trans s3)).seqT ht
      have hi' : i < wd.st.length := by omega
      obtain ⟨p, ep⟩ : ∃ p, wd.ps[i]? = some p := ⟨_, List.getElem?_eq_getElem (by omega)⟩
      obtain ⟨q, eq⟩ : ∃ q, wd.ps[i + 1]? = some q := ⟨_, List.getElem?_eq_getElem (by omega)⟩
      have okp := (ok.nm p (List.mem_of_getElem? ep)).1
      have okq := (ok.nm q (List.mem_of_getElem? eq)).1
      obtain ⟨okr, r0, r1⟩ := ok.st r (List.mem_of_getElem? hr0)
      have okr6 : Good r.1 ∧ r.1.length ≤ 6 := by rcases okr with e | e <;> (rw [e]; exact ⟨good_of _, by decide⟩)
      have eadd : V.int ((i : Int) + 1) = V.int ((i + 1 : Nat) : Int) := by rw [show ((i : Int) + 1) = ((i + 1 : Nat) : Int) by omega]
      refine ⟨T1, _, rfl, SqT.of upd_same, rfl, _, _, rfl, _, _, rfl, t, _, rfl, ht1, rfl, _, _, rfl, _, _, rfl, rfl, rfl, ?_⟩
      generalize upd X1 T1 (.tup [.int (i : Nat), .ref t]) = H3 at s3 ⊢
      have s9 := q2.trans s3
      simp only [List.set_cons_succ, List.set_cons_zero]
      refine ⟨_, rfl, wa, _, 2, _, rfl, rfl, (same_nt s9).seq hw, rfl, al, xl, rfl, (same_nt s9).seq hal, fun D hD => lc_it (walk_enum (K := K) (xs := xl)) (fun k H' => ∃ acc : List V, H' D = some (.lst acc) ∧ (acc.length ≤ k ∧ ∀ y ∈ acc, y ≠ V.non) ∧ (acc ++ [V.non]).head? = some (lof (wd.lo.take k) (i : Nat)) ∧ Same H3 H') ?_ ?_ ?_ ?_⟩
      · exact ⟨[], upd_same, ⟨Nat.le_refl _, by simp⟩, rfl, same_alloc hD⟩
      · rintro k' H' _ ⟨_, _, _, _, s4⟩
        exact (same_nt (s9.trans s4)).seq hal
      · rintro k' v H7 H8 hk ⟨acc, f1, ⟨f2, f2'⟩, f3, s10⟩ ⟨T3, X, Y, rfl, hT3, rfl, z1, z2⟩
        obtain rfl := Option.some.inj z1
        obtain ⟨d', hg1, hg2⟩ := dpAll_get dal z2
        obtain ⟨pk, hpk, rfl⟩ := get_map hg1
        obtain ⟨t3, y1, y2, y3, rfl, ht3, r1, r2, r3⟩ := dp_three hg2
        obtain rfl := dp_int r1
        obtain rfl := dp_int r2
        obtain rfl := dp_int r3
        have s11 := s10.trans (same_alloc (o := .tup [.int (k' : Nat), .ref t3]) hT3)
        have ht3' := (same_nt (s9.trans s11)).seqT ht3
        refine ⟨T3, _, rfl, SqT.of upd_same, rfl, _, _, rfl, _, _, rfl, t3, _, rfl, ht3', rfl, _, _, rfl, _, _, rfl, _, _, rfl, rfl, rfl, wipe4 (by decide) (by decide) (by decide) (by decide), ?_⟩
        simp only [wipe, List.map_cons, List.map_nil, List.set_cons_succ, List.set_cons_zero]
        have hk' : k' < wd.lo.length := by omega
        have etk : (wd.lo.take k').length = k' := by rw [List.length_take]; omega
        have s12 := same_alloc (o := .tup [.int (k' : Nat), .ref t3]) hT3
        have no : ¬ (pk.1 ≤ (i : Int) ∧ (i : Int) < pk.2.1) → ∃ acc : List V, (upd H7 T3 (.tup [.int (k' : Nat), .ref t3])) D = some (.lst acc) ∧ (acc.length ≤ k' + 1 ∧ ∀ y ∈ acc, y ≠ V.non) ∧ (acc ++ [V.non]).head? = some (lof (wd.lo.take (k' + 1)) (i : Nat)) ∧ Same H3 (upd H7 T3 (.tup [.int (k' : Nat), .ref t3])) := by
          intro c
          refine ⟨acc, s12 _ _ f1, ⟨Nat.le_succ_of_le f2, f2'⟩, ?_, s11⟩
          rw [take_at hpk, lof_snoc, if_neg c, f3]
          split
          · rename_i z
            rw [z]
          · rfl
        refine ⟨_, rfl, _, rfl, _, _, rfl, rfl, _, rfl, ite2 (fun c => ?_) (fun c => ?_)⟩
        · have c1 : pk.1 ≤ (i : Int) := of_decide_eq_true c
          refine ⟨_, rfl, _, _, rfl, rfl, _, rfl, ite2 (fun c2 => ?_) (fun c2 => ?_)⟩
          · have c2' : (i : Int) < pk.2.1 := of_decide_eq_true c2
            refine ⟨_, rfl, acc, s12 _ _ f1, Nat.lt_of_le_of_lt f2 (lt_line _ (by omega)), acc ++ [.int (k' : Nat)], upd_same, ⟨?_, ?_⟩, ?_, ?_⟩
            · rw [List.length_append]
              exact Nat.succ_le_succ f2
            · intro y hy
              rcases List.mem_append.mp hy with q | q
              · exact f2' y q
              · rw [List.mem_singleton.mp q]
                simp
            · rw [take_at hpk, lof_snoc, if_pos (show pk.1 ≤ ((i : Nat) : Int) ∧ ((i : Nat) : Int) < pk.2.1 from ⟨c1, c2'⟩), etk]
              cases acc with
              | nil =>
                have z : V.non = lof (wd.lo.take k') (i : Nat) := Option.some.inj f3
                rw [← z]
                rfl
              | cons a r =>
                have z : a = lof (wd.lo.take k') (i : Nat) := Option.some.inj f3
                rw [← z, if_neg (f2' a (by simp))]
                rfl
            · intro c o h
              rw [upd_ne (ne_of_none h hD)]
              exact s12 _ _ (s10 _ _ h)
          · exact no (fun h => c2 (decide_eq_true h.2))
        · exact ⟨_, rfl, iteF (no (fun h => c (decide_eq_true h.1)))⟩
      · rintro H7 ⟨acc, f1, ⟨f2, _⟩, f3, s10⟩
        rw [ll, List.take_of_length_le (Nat.le_refl _)] at f3
        have s11 := s3.trans s10
        obtain ⟨db, hb⟩ := ans_lof ok.ll ((i : Nat) : Int)
        refine ⟨one_line, fun LN hLN => ?_⟩
        refine ⟨D, LN, acc, [.non], rfl, rfl, (same_alloc hLN) _ _ f1, upd_same, (by show acc.length + 1 ≤ sizeLine; exact Nat.le_trans (Nat.succ_le_succ f2) (Nat.le_of_lt (lt_line _ (by omega)))), fun pp hpp => ?_⟩
        have s12 := (s11.trans (same_alloc (o := .lst [V.non]) hLN)).trans (same_alloc (o := .lst (acc ++ [V.non])) hpp)
        refine ⟨pp, _, 0, lof wd.lo (i : Nat), rfl, rfl, SqL.of upd_same, ?_, ?_⟩
        · rw [List.head?_eq_getElem?] at f3
          exact atI_nat f3
        generalize upd (upd H7 LN (.lst [V.non])) pp (.lst (acc ++ [V.non])) = H8 at s12 ⊢
        clear f1 f2 f3 s11 s10 hpp hLN
        have eN8 := s12 _ _ eN2
        have hpick : atI ((wd.ps.map (·.1)).map V.str) ((i : Int) + r.2) = some (.str (pick r.2 p.1 q.1)) := by
          rcases (by omega : r.2 = 0 ∨ r.2 = 1) with e | e
          · rw [e, Int.add_zero]
            exact atI_nat (hP ep)
          · rw [e, show ((i : Int) + 1) = ((i + 1 : Nat) : Int) by omega]
            exact atI_nat (hP eq)
        have okk : Good (pick r.2 p.1 q.1) ∧ (pick r.2 p.1 q.1).length ≤ 6 := by
          unfold pick
          split
          · exact ⟨okp.good, okp.2.1⟩
          · exact ⟨okq.good, okq.2.1⟩
        obtain ⟨m1, m2, m3⟩ := (sm_list (k := 1) (m := 20) (ds := [.tuple [.str p.1, .str q.1], .str r.1, .str (pick r.2 p.1 q.1), db]) (fun d hd => by
          simp only [List.mem_cons, List.not_mem_nil, or_false] at hd
          rcases hd with rfl | rfl | rfl | rfl
          · exact (sm_names okp okq).mono (Nat.le_refl _) (by decide)
          · exact (sm_str okr6.1 okr6.2).mono (by decide) (by decide)
          · exact (sm_str okk.1 okk.2).mono (by decide) (by decide)
          · exact hb.sm.mono (by decide) (by decide))).rep (by decide) (by show 4 * 21 ≤ 2 ^ 20; decide)
        simp only [List.set_cons_succ, List.set_cons_zero]
        refine ⟨_, rfl, _, rfl, N, _, _, .str p.1, rfl, rfl, SqL.of eN8, atI_nat (hP ep), _, rfl, _, rfl, _, _, rfl, rfl, N, _, ((i + 1 : Nat) : Int), .str q.1, rfl, eadd, SqL.of eN8, atI_nat (hP eq), two_line, fun u1 hu1 => ?_⟩
        have w1 : Same H8 (upd H8 u1 (.tup [.str p.1, .str q.1])) := same_alloc hu1
        have e1 : upd H8 u1 (.tup [.str p.1, .str q.1]) u1 = some (.tup [.str p.1, .str q.1]) := upd_same
        generalize upd H8 u1 (.tup [.str p.1, .str q.1]) = H9 at w1 e1 ⊢
        refine ⟨_, rfl, _, rfl, _, rfl, _, rfl, _, _, rfl, rfl, N, _, _, .str (pick r.2 p.1 q.1), rfl, rfl, SqL.of (w1 _ _ eN8), hpick, _, rfl, four_line, fun u2 hu2 => ?_⟩
        have w2 : Same H9 (upd H9 u2 (.lst [.ref u1, .str r.1, .str (pick r.2 p.1 q.1), lof wd.lo (i : Nat)])) := same_alloc hu2
        have e2 : upd H9 u2 (.lst [.ref u1, .str r.1, .str (pick r.2 p.1 q.1), lof wd.lo (i : Nat)]) u2 = some (.lst [.ref u1, .str r.1, .str (pick r.2 p.1 q.1), lof wd.lo (i : Nat)]) := upd_same
        generalize upd H9 u2 (.lst [.ref u1, .str r.1, .str (pick r.2 p.1 q.1), lof wd.lo (i : Nat)]) = H10 at w2 e2 ⊢
        have w12 := w1.trans w2
        have sA := q2.trans (s12.trans w12)
        have hLA := hL.nt (same_nt sA)
        simp only [List.set_cons_succ, List.set_cons_zero]
        refine ⟨_, rfl, x, dx, _, rfl, sA _ _ hx, no3, _, rfl, x, wd, i, p, q, rfl, hLA, hi', ep, eq, fun u3 H11 w3 hu3 => ?_⟩
        have sB := sA.trans w3
        refine ⟨_, rfl, x, dx, _, rfl, sB _ _ hx, no4, _, rfl, x, wd, i, r, rfl, hL.nt (same_nt sB), hr0, _, rfl, x, dx, _, rfl, sB _ _ hx, no5, _, rfl, x, wd, i, r, p, q, rfl, hL.nt (same_nt sB), hr0, r0, r1, ep, eq, fun H12 w4 => ?_⟩
        have sC := sB.trans w4
        refine ⟨_, rfl, x, dx, _, rfl, sC _ _ hx, no6, _, rfl, x, wd, i, rfl, hL.nt (same_nt sC), hi', fun H13 w5 => ⟨four_line, fun u4 hu4 => ?_⟩⟩
        have w6 := same_alloc (o := .lst [.ref u3, .str r.1, .str (pick r.2 p.1 q.1), lof wd.lo (i : Nat)]) hu4
        have w36 := ((w3.trans w4).trans w5).trans w6
        refine ⟨_, .list [.tuple [.str p.1, .str q.1], .str r.1, .str (pick r.2 p.1 q.1), db], rfl, .lst (SqL.of upd_same) (.cons (.tup (SqT.of (w6 _ _ (w5 _ _ (w4 _ _ hu3)))) (.cons (.str _) (.cons (.str _) .nil))) (.cons (.str _) (.cons (.str _) (.cons hb.dp .nil)))), m1, m2, m3, ?_⟩
        refine ⟨_, rfl, _, .list [.tuple [.str p.1, .str q.1], .str r.1, .str (pick r.2 p.1 q.1), db], rfl, .lst (SqL.of (w36 _ _ e2)) (.cons (.tup (SqT.of (w36 _ _ (w2 _ _ e1))) (.cons (.str _) (.cons (.str _) .nil))) (.cons (.str _) (.cons (.str _) (.cons hb.dp .nil)))), m1, m2, m3, rfl, _, rfl, iteNS rfl ?_⟩
        exact ⟨_, _, _, _, _, _, _, _, _, _, _, rfl, (s12.trans w12).trans w36⟩
    · rintro σ H3 ⟨v3, v4, v5, v6, v7, v8, v9, v10, v11, v12, v13, rfl, s3⟩
      have s9 := q2.trans s3
      have eN3 := s3 _ _ eN2
      refine ⟨_, rfl, wa, _, 2, _, rfl, rfl, (same_nt s9).seq hw, rfl, al, xl, rfl, (same_nt s9).seq hal, for_it (walk_enum (K := K) (xs := xl)) (fun i σ H' => ∃ v3 v4 v5 v6 v7 v8 v9 v10 v11 v12 v13 : Option V, σ = [some (.ref x), some (.ref wa), some (.ref N), v3, v4, v5, v6, v7, v8, v9, v10, v11, v12, v13] ∧ Same H3 H') ?_ ?_ ?_ ?_⟩
      · exact ⟨_, _, _, _, _, _, _, _, _, _, _, rfl, Same.refl H3⟩
      · rintro i σ H' _ ⟨_, _, _, _, _, _, _, _, _, _, _, _, s2⟩
        exact (same_nt (s9.trans s2)).seq hal
      · rintro j v σ X1 X2 hi ⟨v3, v4, v5, v6, v7, v8, v9, v10, v11, v12, v13, rfl, s2⟩ ⟨T1, X, Y, rfl, hT1, rfl, z1, z2⟩
        obtain rfl := Option.some.inj z1
        obtain ⟨d', hg1, hg2⟩ := dpAll_get dal z2
        obtain ⟨r, hr0, rfl⟩ := get_map hg1
        obtain ⟨t, y1, y2, y3, rfl, ht, r1, r2, r3⟩ := dp_three hg2
        obtain rfl := dp_int r1
        obtain rfl := dp_int r2
        obtain rfl := dp_int r3
        have s4 := s2.trans (same_alloc (o := .tup [.int (j : Nat), .ref t]) hT1)
        have ht1 := (same_nt (s9.trans s4)).seqT ht
        obtain ⟨a, c, h, rfl⟩ : ∃ a c h, r = (a, c, h) := ⟨r.1, r.2.1, r.2.2, rfl⟩
        obtain ⟨o1, o2, o3, o4, o5⟩ := longs_get ok.lo hr0
        have a0 : 0 ≤ a := longs_nonneg (Int.le_refl 0) ok.lo _ (List.mem_of_getElem? hr0)
        obtain ⟨a, rfl⟩ := Int.eq_ofNat_of_zero_le a0
        obtain ⟨c, rfl⟩ := Int.eq_ofNat_of_zero_le (show 0 ≤ c by simp at o2; omega)
        have o2' : (a : Int) + 2 ≤ (c : Int) := o2
        have o3' : (c : Int) ≤ ((wd.ps.length - 1 : Nat) : Int) := o3
        have rgo : RgOk (a : Int) (c : Int) := RgOk.of_le (by omega) (by omega) (by omega) (by omega)
        obtain ⟨p, ep⟩ : ∃ p, wd.ps[a]? = some p := ⟨_, List.getElem?_eq_getElem (by omega)⟩
        obtain ⟨q, eq⟩ : ∃ q, wd.ps[c]? = some q := ⟨_, List.getElem?_eq_getElem (by omega)⟩
        have okp := (ok.nm p (List.mem_of_getElem? ep)).1
        have okq := (ok.nm q (List.mem_of_getElem? eq)).1
        have okk : Good (pick h p.1 q.1) ∧ (pick h p.1 q.1).length ≤ 6 := by
          unfold pick
          split
          · exact ⟨okp.good, okp.2.1⟩
          · exact ⟨okq.good, okq.2.1⟩
        obtain ⟨e, he1, he2⟩ : ∃ e : Nat, atI [V.int (a : Nat), .int (c : Nat)] h = some (.int (e : Nat)) ∧ ((wd.ps.map (·.1)).map V.str)[e]? = some (.str (pick h p.1 q.1)) := by
          rcases (by simp at o4 o5; omega : h = 0 ∨ h = 1) with rfl | rfl
          · exact ⟨a, rfl, hP ep⟩
          · exact ⟨c, rfl, hP eq⟩
        obtain ⟨m1, m2, m3⟩ := (sm_list (k := 1) (m := 300) (ds := [.tuple [.str p.1, .str q.1], .list (rgD (a : Int) (c : Int)), .str (pick h p.1 q.1)]) (fun d hd => by
          simp only [List.mem_cons, List.not_mem_nil, or_false] at hd
          rcases hd with rfl | rfl | rfl
          · exact (sm_names okp okq).mono (Nat.le_refl _) (by decide)
          · exact (rg_sm (a := (a : Int)) (b := (c : Int)) (by omega) (by omega)).mono (Nat.le_refl _) (by rw [rgD_len]; omega)
          · exact (sm_str okk.1 okk.2).mono (by decide) (by decide))).rep (by decide) (by show 3 * 301 ≤ 2 ^ 20; decide)
        refine ⟨T1, _, rfl, SqT.of upd_same, rfl, _, _, rfl, _, _, rfl, t, _, rfl, ht1, rfl, _, _, rfl, _, _, rfl, _, _, rfl, rfl, rfl, ?_⟩
        generalize upd X1 T1 (.tup [.int (j : Nat), .ref t]) = H8 at s4 ⊢
        have eN8 := s4 _ _ eN3
        simp only [List.set_cons_succ, List.set_cons_zero]
        refine ⟨_, rfl, _, rfl, N, _, _, .str p.1, rfl, rfl, SqL.of eN8, atI_nat (hP ep), _, rfl, _, rfl, N, _, _, .str q.1, rfl, rfl, SqL.of eN8, atI_nat (hP eq), two_line, fun u1 hu1 => ?_⟩
        have w1 : Same H8 (upd H8 u1 (.tup [.str p.1, .str q.1])) := same_alloc hu1
        have e1 : upd H8 u1 (.tup [.str p.1, .str q.1]) u1 = some (.tup [.str p.1, .str q.1]) := upd_same
        generalize upd H8 u1 (.tup [.str p.1, .str q.1]) = H9 at w1 e1 ⊢
        refine ⟨_, rfl, _, rfl, _, _, rfl, rfl, rgo, fun A hA => ?_⟩
        have w2 : Same H9 (upd H9 A (.lst (rgV (a : Int) (c : Int)))) := same_alloc hA
        have eA : upd H9 A (.lst (rgV (a : Int) (c : Int))) A = some (.lst (rgV (a : Int) (c : Int))) := upd_same
        generalize upd H9 A (.lst (rgV (a : Int) (c : Int))) = H10 at w2 eA ⊢
        refine ⟨_, rfl, _, rfl, _, rfl, two_line, fun u3 hu3 => ?_⟩
        have w3 := same_alloc (o := .lst [V.int (a : Nat), .int (c : Nat)]) hu3
        refine ⟨_, rfl, u3, _, h, _, rfl, rfl, SqL.of upd_same, he1, N, _, _, .str (pick h p.1 q.1), rfl, rfl, SqL.of (w3 _ _ (w2 _ _ (w1 _ _ eN8))), atI_nat he2, three_line, fun u4 hu4 => ?_⟩
        have w4 := w3.trans (same_alloc (o := .lst [V.ref u1, .ref A, .str (pick h p.1 q.1)]) hu4)
        have e4 : upd (upd H10 u3 (.lst [V.int (a : Nat), .int (c : Nat)])) u4 (.lst [V.ref u1, .ref A, .str (pick h p.1 q.1)]) u4 = some (.lst [V.ref u1, .ref A, .str (pick h p.1 q.1)]) := upd_same
        generalize upd (upd H10 u3 (.lst [V.int (a : Nat), .int (c : Nat)])) u4 (.lst [V.ref u1, .ref A, .str (pick h p.1 q.1)]) = H11 at w4 e4 ⊢
        clear w3 hu3 hu4
        have w14 := (w1.trans w2).trans w4
        have sA := s9.trans (s4.trans w14)
        simp only [List.set_cons_succ, List.set_cons_zero]
        refine ⟨_, rfl, x, dx, _, rfl, sA _ _ hx, no7, _, rfl, x, wd, j, a, c, h, p, q, rfl, hL.nt (same_nt sA), hr0, ep, eq, fun u5 H12 w5 hu5 => ?_⟩
        have sB := sA.trans w5
        refine ⟨_, rfl, x, dx, _, rfl, sB _ _ hx, no8, _, rfl, x, wd, j, _, rfl, hL.nt (same_nt sB), hr0, rgo, fun A2 hA2 => ?_⟩
        have w6 := same_alloc (o := .lst (rgV (a : Int) (c : Int))) hA2
        have eA2 : upd H12 A2 (.lst (rgV (a : Int) (c : Int))) A2 = some (.lst (rgV (a : Int) (c : Int))) := upd_same
        generalize upd H12 A2 (.lst (rgV (a : Int) (c : Int))) = H13 at w6 eA2 ⊢
        have sC := sB.trans w6
        refine ⟨_, rfl, x, dx, _, rfl, sC _ _ hx, no9, _, rfl, x, wd, j, a, c, h, p, q, rfl, hL.nt (same_nt sC), hr0, o4, o5, ep, eq, fun H14 w7 => ⟨three_line, fun u6 hu6 => ?_⟩⟩
        have w8 := same_alloc (o := .lst [V.ref u5, .ref A2, .str (pick h p.1 q.1)]) hu6
        have w58 := ((w5.trans w6).trans w7).trans w8
        refine ⟨_, .list [.tuple [.str p.1, .str q.1], .list (rgD (a : Int) (c : Int)), .str (pick h p.1 q.1)], rfl, .lst (SqL.of upd_same) (.cons (.tup (SqT.of (w8 _ _ (w7 _ _ (w6 _ _ hu5)))) (.cons (.str _) (.cons (.str _) .nil))) (.cons (.lst (SqL.of (w8 _ _ (w7 _ _ eA2))) (rg_dp _ _)) (.cons (.str _) .nil))), m1, m2, m3, ?_⟩
        refine ⟨_, rfl, _, .list [.tuple [.str p.1, .str q.1], .list (rgD (a : Int) (c : Int)), .str (pick h p.1 q.1)], rfl, .lst (SqL.of (w58 _ _ e4)) (.cons (.tup (SqT.of (w58 _ _ (w4 _ _ (w2 _ _ e1)))) (.cons (.str _) (.cons (.str _) .nil))) (.cons (.lst (SqL.of (w58 _ _ (w4 _ _ eA))) (rg_dp _ _)) (.cons (.str _) .nil))), m1, m2, m3, rfl, _, rfl, iteNS rfl ?_⟩
        exact ⟨_, _, _, _, _, _, _, _, _, _, _, rfl, (s4.trans w14).trans w58⟩
      · rintro σ H4 ⟨v3, v4, v5, v6, v7, v8, v9, v10, v11, v12, v13, rfl, s4⟩
        exact k H4 (s9.trans s4)
theorem ok_stretches_askedT {f fM fN fE fK fH fO fJ fS fG C : Addr} {fd fdM fdN fdE fdK fdH fdO fdJ fdS fdG : FuncData} (F : Fun K "_law_stretches_asked_right" "_law_stretches_asked_right" s_law_stretches_asked_right f fd) (T : Txt mg) (TC : ClsT K C)
    (Mmany_stretches : Mt K C "many_stretches" "Line.many_stretches" s_many_stretches ["self"] fM fdM) (Gmany_stretches : FnOk P w K mg base CX0 1 fM fdM ["self"] (spMany K C fun wd => wd.st.length))
    (Mmany_longs : Mt K C "many_longs" "Line.many_longs" s_many_longs ["self"] fN fdN) (Gmany_longs : FnOk P w K mg base CX0 1 fN fdN ["self"] (spMany K C fun wd => wd.lo.length))
    (Mends : Mt K C "ends" "Line.ends" s_ends ["self", "k"] fE fdE) (Gends : FnOk P w K mg base CX0 3 fE fdE ["self", "k"] (spEnds K C))
    (Mkind : Mt K C "kind" "Line.kind" s_kind ["self", "k"] fK fdK) (Gkind : FnOk P w K mg base CX0 3 fK fdK ["self", "k"] (spKind K C))
    (Mhome : Mt K C "home" "Line.home" s_home ["self", "k"] fH fdH) (Ghome : FnOk P w K mg base CX0 4 fH fdH ["self", "k"] (spHome K C))
    (Mlong_of : Mt K C "long_of" "Line.long_of" s_long_of ["self", "k"] fO fdO) (Glong_of : FnOk P w K mg base CX0 3 fO fdO ["self", "k"] (spLongOf K C))
    (Mlong_ends : Mt K C "long_ends" "Line.long_ends" s_long_ends ["self", "j"] fJ fdJ) (Glong_ends : FnOk P w K mg base CX0 3 fJ fdJ ["self", "j"] (spLongEnds K C))
    (Mlong_stretches : Mt K C "long_stretches" "Line.long_stretches" s_long_stretches ["self", "j"] fS fdS) (Glong_stretches : FnOk P w K mg base CX0 3 fS fdS ["self", "j"] (spLongStretches K C))
    (Mlong_home : Mt K C "long_home" "Line.long_home" s_long_home ["self", "j"] fG fdG) (Glong_home : FnOk P w K mg base CX0 4 fG fdG ["self", "j"] (spLongHome K C)) :
    GOk P w K mg base CX0 5 f fd ["_law_line", "_law_world_here"] (spAsk K C toldD) := by
  refine gok F sc_law_stretches_asked_right (fun vs H Q E h => ?_) (fun cdv A outer s H vs Q E gd hr h => ?_)
  · obtain ⟨x, v, wd, rfl, _⟩ := h
    rfl
  · obtain ⟨x, v, wd, rfl, hL, hD, ok, k⟩ := h
    obtain ⟨wa, vp, vs_, vl, rfl, hw, hp, hs, hl⟩ := dp_three hD
    obtain ⟨ap, xp, rfl, hap, dap⟩ := dp_tuple hp
    obtain ⟨as_, xs, rfl, has, das⟩ := dp_tuple hs
    obtain ⟨al, xl, rfl, hal, dal⟩ := dp_tuple hl
    obtain ⟨dx, p1, p2, p3, d, xs1, xs2, xs3, hx, _⟩ := id hL
    have lp : xp.length = wd.ps.length := by rw [dpAll_len dap, List.length_map]
    have ls : xs.length = wd.st.length := by rw [dpAll_len das, List.length_map]
    have ll : xl.length = wd.lo.length := by rw [dpAll_len dal, List.length_map]
    have p6 := ok.p6
    have sl := ok.sl
    have ll2 := ok.ll
    refine ⟨_, pss_cons (ps_setLc (i := 2) (own := [("_law_name", 8), ("_law_roads", 9)]) (g := gTup K 2 (gCons (gName 8) (gCons (gName 9) gNil))) (tt := tYes) rfl sc_law_stretches_asked_right.nd rfl rfl (sw_true rfl rfl rfl (by decide +kernel)) (pi_tup (pe_ix (ixT (K := K) rfl) (pv 1) pe_int (fun _ _ => rfl))) (blkOk_by (own := [("_law_name", 8), ("_law_roads", 9)]) (N := ["_law_line", "_law_world_here", "_law_names_here", "_law_k", "_law_kind", "_law_home", "_law_j", "_law_due_here", "_law_name", "_law_roads", "_law_one", "_law_low", "_law_high", "_law_at"]) (sc := defScope s_law_stretches_asked_right) (by decide +kernel)) (fun _ _ _ _ _ => (pg_tup (by rfl) (pgs_cons (pg_name (i := 8) sc_law_stretches_asked_right.nd rfl (Or.inl rfl)) (pgs_cons (pg_name (i := 9) sc_law_stretches_asked_right.nd rfl (Or.inl rfl)) pgs_nil)))) (fun _ _ _ _ _ => pts_nil) (fun _ _ _ _ _ => (pv 8)))
      (pss_cons (ps_if (pt_cmpR op_ne (pe_callB (call_repr gd hr) (by rfl) T.repr_ (by decide +kernel) (pa_cons (pe_lst (pa_cons (pe_meth0 (pv 0) TC.cl Mmany_stretches.m Gmany_stretches (hr.mono (by decide)) Mmany_stretches.b .nil pass0) (pa_cons (pe_meth0 (pv 0) TC.cl Mmany_longs.m Gmany_longs (hr.mono (by decide)) Mmany_longs.b .nil pass0) pa_nil))) pa_nil)) (pe_callB (call_repr gd hr) (by rfl) T.repr_ (by decide +kernel) (pa_cons (pe_lst (pa_cons (pe_callB call_len_seq (by rfl) T.len_ PySem.boot_len (pa_cons (pe_ix (ixT (K := K) rfl) (pv 1) pe_int (fun _ _ => rfl)) pa_nil)) (pa_cons (pe_callB call_len_seq (by rfl) T.len_ PySem.boot_len (pa_cons (pe_ix (ixT (K := K) rfl) (pv 1) pe_int (fun _ _ => rfl)) pa_nil)) pa_nil))) pa_nil)) (nomark _)) (pss_one (ps_ret pe_bl)) pss_nil)
      (pss_cons (ps_for PassesOwn.never rfl (pi_enumT (by rfl) T.enumerate_ (pa_cons (pe_ix (ixT (K := K) rfl) (pv 1) pe_int (fun _ _ => rfl)) pa_nil)) (pg_tup (by rfl) (pgs_cons (pg_name (i := 3) sc_law_stretches_asked_right.nd rfl (Or.inr rfl)) (pgs_cons (pg_tup (by rfl) (pgs_cons (pg_name (i := 4) sc_law_stretches_asked_right.nd rfl (Or.inl rfl)) (pgs_cons (pg_name (i := 5) sc_law_stretches_asked_right.nd rfl (Or.inl rfl)) pgs_nil))) pgs_nil))) (pss_cons (ps_set (i := 6) sc_law_stretches_asked_right.nd rfl (Or.inl rfl) (pe_ix (ixL (K := K) rfl) (pe_op op_cat (pe_lc (own := [("_law_one", 10), ("_law_low", 11), ("_law_high", 12), ("_law_at", 13)]) (g := gTup K 2 (gCons (gName 10) (gCons (gTup K 3 (gCons (gName 11) (gCons (gName 12) (gCons (gName 13) gNil)))) gNil))) rfl sc_law_stretches_asked_right.nd (pi_enumT (by rfl) T.enumerate_ (pa_cons (pe_ix (ixT (K := K) rfl) (pv 1) pe_int (fun _ _ => rfl)) pa_nil)) (blkOk_by (own := [("_law_one", 10), ("_law_low", 11), ("_law_high", 12), ("_law_at", 13)]) (N := ["_law_line", "_law_world_here", "_law_names_here", "_law_k", "_law_kind", "_law_home", "_law_j", "_law_due_here", "_law_name", "_law_roads", "_law_one", "_law_low", "_law_high", "_law_at"]) (sc := defScope s_law_stretches_asked_right) (by decide +kernel)) (fun _ _ _ _ _ => (pg_tup (by rfl) (pgs_cons (pg_name (i := 10) sc_law_stretches_asked_right.nd rfl (Or.inl rfl)) (pgs_cons (pg_tup (by rfl) (pgs_cons (pg_name (i := 11) sc_law_stretches_asked_right.nd rfl (Or.inl rfl)) (pgs_cons (pg_name (i := 12) sc_law_stretches_asked_right.nd rfl (Or.inl rfl)) (pgs_cons (pg_name (i := 13) sc_law_stretches_asked_right.nd rfl (Or.inl rfl)) pgs_nil)))) pgs_nil)))) (fun _ _ _ _ _ => pts_one (pt_chain op_le op_lt (pv 11) (pv 3) (pv 12))) (fun _ _ _ _ _ => (pv 10))) (pe_lst (pa_cons pe_non pa_nil))) pe_int (fun _ _ => rfl)))
          (pss_cons (ps_set (i := 7) sc_law_stretches_asked_right.nd rfl (Or.inl rfl) (pe_lst (pa_cons (pe_tup (pa_cons (pe_ix (ixL (K := K) rfl) (pv 2) (pv 3) (fun _ _ => rfl)) (pa_cons (pe_ix (ixL (K := K) rfl) (pv 2) (pe_op op_add (pv 3) pe_int) (fun _ _ => rfl)) pa_nil))) (pa_cons (pv 4) (pa_cons (pe_ix (ixL (K := K) rfl) (pv 2) (pe_op op_add (pv 3) (pv 5)) (fun _ _ => rfl)) (pa_cons (pv 6) pa_nil))))))
          (pss_one (ps_if (pt_cmpR op_ne (pe_callB (call_repr gd hr) (by rfl) T.repr_ (by decide +kernel) (pa_cons (pe_lst (pa_cons (pe_meth (pv 0) TC.cl Mends.m Gends (hr.mono (by decide)) Mends.b .nil pass0 (pa_cons (pv 3) pa_nil)) (pa_cons (pe_meth (pv 0) TC.cl Mkind.m Gkind (hr.mono (by decide)) Mkind.b .nil pass0 (pa_cons (pv 3) pa_nil)) (pa_cons (pe_meth (pv 0) TC.cl Mhome.m Ghome (hr.mono (by decide)) Mhome.b .nil pass0 (pa_cons (pv 3) pa_nil)) (pa_cons (pe_meth (pv 0) TC.cl Mlong_of.m Glong_of (hr.mono (by decide)) Mlong_of.b .nil pass0 (pa_cons (pv 3) pa_nil)) pa_nil))))) pa_nil)) (pe_callB (call_repr gd hr) (by rfl) T.repr_ (by decide +kernel) (pa_cons (pv 7) pa_nil)) (nomark _)) (pss_one (ps_ret pe_bl)) pss_nil)))))
      (pss_cons (ps_for PassesOwn.never rfl (pi_enumT (by rfl) T.enumerate_ (pa_cons (pe_ix (ixT (K := K) rfl) (pv 1) pe_int (fun _ _ => rfl)) pa_nil)) (pg_tup (by rfl) (pgs_cons (pg_name (i := 6) sc_law_stretches_asked_right.nd rfl (Or.inl rfl)) (pgs_cons (pg_tup (by rfl) (pgs_cons (pg_name (i := 11) sc_law_stretches_asked_right.nd rfl (Or.inl rfl)) (pgs_cons (pg_name (i := 12) sc_law_stretches_asked_right.nd rfl (Or.inl rfl)) (pgs_cons (pg_name (i := 5) sc_law_stretches_asked_right.nd rfl (Or.inl rfl)) pgs_nil)))) pgs_nil))) (pss_cons (ps_set (i := 7) sc_law_stretches_asked_right.nd rfl (Or.inl rfl) (pe_lst (pa_cons (pe_tup (pa_cons (pe_ix (ixL (K := K) rfl) (pv 2) (pv 11) (fun _ _ => rfl)) (pa_cons (pe_ix (ixL (K := K) rfl) (pv 2) (pv 12) (fun _ _ => rfl)) pa_nil))) (pa_cons (pe_listRg rfl (by rfl) T.list_ (prg_2 (by rfl) T.range_ (pv 11) (pv 12))) (pa_cons (pe_ix (ixL (K := K) rfl) (pv 2) (pe_ix (ixL (K := K) rfl) (pe_lst (pa_cons (pv 11) (pa_cons (pv 12) pa_nil))) (pv 5) (fun _ _ => rfl)) (fun _ _ => rfl)) pa_nil)))))
          (pss_one (ps_if (pt_cmpR op_ne (pe_callB (call_repr gd hr) (by rfl) T.repr_ (by decide +kernel) (pa_cons (pe_lst (pa_cons (pe_meth (pv 0) TC.cl Mlong_ends.m Glong_ends (hr.mono (by decide)) Mlong_ends.b .nil pass0 (pa_cons (pv 6) pa_nil)) (pa_cons (pe_meth (pv 0) TC.cl Mlong_stretches.m Glong_stretches (hr.mono (by decide)) Mlong_stretches.b .nil pass0 (pa_cons (pv 6) pa_nil)) (pa_cons (pe_meth (pv 0) TC.cl Mlong_home.m Glong_home (hr.mono (by decide)) Mlong_home.b .nil pass0 (pa_cons (pv 6) pa_nil)) pa_nil)))) pa_nil)) (pe_callB (call_repr gd hr) (by rfl) T.repr_ (by decide +kernel) (pa_cons (pv 7) pa_nil)) (nomark _)) (pss_one (ps_ret pe_bl)) pss_nil))))
      (pss_one (ps_ret pe_bl))))), ?_⟩
    generalize hσ : L2.start _ _ = σ0
    obtain rfl : σ0 = [some (.ref x), some (.ref wa), none, none, none, none, none, none, none, none, none, none, none, none] := hσ.symm.trans rfl
    rw [tSeq, tAsg]
    refine names_compT (σ := [some (.ref x), some (.ref wa), none, none, none, none, none, none, none, none, none, none, none, none]) (i := 1) (a := 8) (b := 9) rfl hw hap dap p6 (Nat.le_of_ble_eq_true rfl) (by decide) fun N H1 hN0 s1 eN => ?_
    have hL1 := hL.nt (same_nt s1)
    have no1 : (lf p1 p2 p3 d).lookup (Str.ofString "many_stretches") = none := lf_no _ _ _ _ (by decide +kernel)
    have no2 : (lf p1 p2 p3 d).lookup (Str.ofString "many_longs") = none := lf_no _ _ _ _ (by decide +kernel)
    have no3 : (lf p1 p2 p3 d).lookup (Str.ofString "ends") = none := lf_no _ _ _ _ (by decide +kernel)
    have no4 : (lf p1 p2 p3 d).lookup (Str.ofString "kind") = none := lf_no _ _ _ _ (by decide +kernel)
    have no5 : (lf p1 p2 p3 d).lookup (Str.ofString "home") = none := lf_no _ _ _ _ (by decide +kernel)
    have no6 : (lf p1 p2 p3 d).lookup (Str.ofString "long_of") = none := lf_no _ _ _ _ (by decide +kernel)
    have no7 : (lf p1 p2 p3 d).lookup (Str.ofString "long_ends") = none := lf_no _ _ _ _ (by decide +kernel)
    have no8 : (lf p1 p2 p3 d).lookup (Str.ofString "long_stretches") = none := lf_no _ _ _ _ (by decide +kernel)
    have no9 : (lf p1 p2 p3 d).lookup (Str.ofString "long_home") = none := lf_no _ _ _ _ (by decide +kernel)
    obtain ⟨m1, m2, m3⟩ := (sm_list (k := 0) (m := 20) (ds := [.int (wd.st.length : Nat), .int (wd.lo.length : Nat)]) (fun d hd => by
      simp only [List.mem_cons, List.not_mem_nil, or_false] at hd
      rcases hd with rfl | rfl
      · exact sm_int (by omega)
      · exact sm_int (by omega))).rep (by decide) (by show 2 * 21 ≤ 2 ^ 20; decide)
    simp only [List.set_cons_succ, List.set_cons_zero]
    refine ⟨_, rfl, x, dx, _, rfl, s1 _ _ hx, no1, x, wd, rfl, hL1, _, rfl, x, dx, _, rfl, s1 _ _ hx, no2, x, wd, rfl, hL1, two_line, fun c1 hc1 => ?_⟩
    have q1 := s1.trans (same_alloc (o := .lst [V.int (wd.st.length : Nat), .int (wd.lo.length : Nat)]) hc1)
    refine ⟨_, .list [.int (wd.st.length : Nat), .int (wd.lo.length : Nat)], rfl, .lst (SqL.of upd_same) (.cons (.int _) (.cons (.int _) .nil)), m1, m2, m3, ?_⟩
    have n1 := same_nt q1
    refine ⟨_, rfl, wa, _, 1, _, rfl, rfl, n1.seqT hw, rfl, as_, xs, rfl, .inr (n1.seqT has), _, rfl, wa, _, 2, _, rfl, rfl, n1.seqT hw, rfl, al, xl, rfl, .inr (n1.seqT hal), two_line, fun c2 hc2 => ?_⟩
    refine ⟨_, .list [.int (wd.st.length : Nat), .int (wd.lo.length : Nat)], rfl, .lst (SqL.of upd_same) (by rw [ls, ll]; exact .cons (.int _) (.cons (.int _) .nil)), m1, m2, m3, rfl, _, rfl, iteNS rfl ?_⟩
    clear m1 m2 m3 n1
    have q2 := q1.trans (same_alloc (o := .lst [V.int (xs.length : Nat), .int (xl.length : Nat)]) hc2)
    have eN2 := (same_alloc (o := .lst [V.int (xs.length : Nat), .int (xl.length : Nat)]) hc2) _ _ ((same_alloc (o := .lst [V.int (wd.st.length : Nat), .int (wd.lo.length : Nat)]) hc1) _ _ eN)
    generalize upd (upd H1 c1 (.lst [V.int (wd.st.length : Nat), .int (wd.lo.length : Nat)])) c2 (.lst [V.int (xs.length : Nat), .int (xl.length : Nat)]) = H2 at q2 eN2 ⊢
    clear q1 hL1 s1 hc1 hc2 eN
    have hP : ∀ {i : Nat} {p : Str × Int}, wd.ps[i]? = some p → ((wd.ps.map (·.1)).map V.str)[i]? = some (.str p.1) := fun e => by rw [List.getElem?_map, List.getElem?_map, e]; rfl
    refine ⟨_, rfl, wa, _, 1, _, rfl, rfl, (same_nt q2).seqT hw, rfl, as_, xs, rfl, (same_nt q2).seqT has, for_it (walk_enumT (K := K) (xs := xs)) (fun i σ H' => ∃ v3 v4 v5 v6 v7 v8 v9 v10 v11 v12 v13 : Option V, σ = [some (.ref x), some (.ref wa), some (.ref N), v3, v4, v5, v6, v7, v8, v9, v10, v11, v12, v13] ∧ Same H2 H') ?_ ?_ ?_ ?_⟩
    · exact ⟨_, _, _, _, _, _, _, _, _, _, _, rfl, Same.refl H2⟩
    · rintro i σ H' _ ⟨_, _, _, _, _, _, _, _, _, _, _, _, s2⟩
      exact (same_nt (q2.trans s2)).seqT has
    · rintro i v σ X1 X2 hi ⟨v3, v4, v5, v6, v7, v8, v9, v10, v11, v12, v13, rfl, s2⟩ ⟨T1, X, Y, rfl, hT1, rfl, z1, z2⟩
      obtain rfl := Option.some.inj z1
      obtain ⟨d', hg1, hg2⟩ := dpAll_get das z2
      obtain ⟨r, hr0, rfl⟩ := get_map hg1
      obtain ⟨t, y1, y2, rfl, ht, r1, r2⟩ := dp_two hg2
      obtain rfl := dp_str r1
      obtain rfl := dp_int r2
      have s3 := s2.trans (same_alloc (o := .tup [.int (i : Nat), .ref t]) hT1)
      have ht1 := (same_nt (q2.trans s3)).seqT ht
      have hi' : i < wd.st.length := by omega
      obtain ⟨p, ep⟩ : ∃ p, wd.ps[i]? = some p := ⟨_, List.getElem?_eq_getElem (by omega)⟩
      obtain ⟨q, eq⟩ : ∃ q, wd.ps[i + 1]? = some q := ⟨_, List.getElem?_eq_getElem (by omega)⟩
      have okp := (ok.nm p (List.mem_of_getElem? ep)).1
      have okq := (ok.nm q (List.mem_of_getElem? eq)).1
      obtain ⟨okr, r0, r1⟩ := ok.st r (List.mem_of_getElem? hr0)
      have okr6 : Good r.1 ∧ r.1.length ≤ 6 := by rcases okr with e | e <;> (rw [e]; exact ⟨good_of _, by decide⟩)
      have eadd : V.int ((i : Int) + 1) = V.int ((i + 1 : Nat) : Int) := by rw [show ((i : Int) + 1) = ((i + 1 : Nat) : Int) by omega]
      refine ⟨T1, _, rfl, SqT.of upd_same, rfl, _, _, rfl, _, _, rfl, t, _, rfl, ht1, rfl, _, _, rfl, _, _, rfl, rfl, rfl, ?_⟩
      generalize upd X1 T1 (.tup [.int (i : Nat), .ref t]) = H3 at s3 ⊢
      have s9 := q2.trans s3
      simp only [List.set_cons_succ, List.set_cons_zero]
      refine ⟨_, rfl, wa, _, 2, _, rfl, rfl, (same_nt s9).seqT hw, rfl, al, xl, rfl, (same_nt s9).seqT hal, fun D hD => lc_it (walk_enumT (K := K) (xs := xl)) (fun k H' => ∃ acc : List V, H' D = some (.lst acc) ∧ (acc.length ≤ k ∧ ∀ y ∈ acc, y ≠ V.non) ∧ (acc ++ [V.non]).head? = some (lof (wd.lo.take k) (i : Nat)) ∧ Same H3 H') ?_ ?_ ?_ ?_⟩
      · exact ⟨[], upd_same, ⟨Nat.le_refl _, by simp⟩, rfl, same_alloc hD⟩
      · rintro k' H' _ ⟨_, _, _, _, s4⟩
        exact (same_nt (s9.trans s4)).seqT hal
      · rintro k' v H7 H8 hk ⟨acc, f1, ⟨f2, f2'⟩, f3, s10⟩ ⟨T3, X, Y, rfl, hT3, rfl, z1, z2⟩
        obtain rfl := Option.some.inj z1
        obtain ⟨d', hg1, hg2⟩ := dpAll_get dal z2
        obtain ⟨pk, hpk, rfl⟩ := get_map hg1
        obtain ⟨t3, y1, y2, y3, rfl, ht3, r1, r2, r3⟩ := dp_three hg2
        obtain rfl := dp_int r1
        obtain rfl := dp_int r2
        obtain rfl := dp_int r3
        have s11 := s10.trans (same_alloc (o := .tup [.int (k' : Nat), .ref t3]) hT3)
        have ht3' := (same_nt (s9.trans s11)).seqT ht3
        refine ⟨T3, _, rfl, SqT.of upd_same, rfl, _, _, rfl, _, _, rfl, t3, _, rfl, ht3', rfl, _, _, rfl, _, _, rfl, _, _, rfl, rfl, rfl, wipe4 (by decide) (by decide) (by decide) (by decide), ?_⟩
        simp only [wipe, List.map_cons, List.map_nil, List.set_cons_succ, List.set_cons_zero]
        have hk' : k' < wd.lo.length := by omega
        have etk : (wd.lo.take k').length = k' := by rw [List.length_take]; omega
        have s12 := same_alloc (o := .tup [.int (k' : Nat), .ref t3]) hT3
        have no : ¬ (pk.1 ≤ (i : Int) ∧ (i : Int) < pk.2.1) → ∃ acc : List V, (upd H7 T3 (.tup [.int (k' : Nat), .ref t3])) D = some (.lst acc) ∧ (acc.length ≤ k' + 1 ∧ ∀ y ∈ acc, y ≠ V.non) ∧ (acc ++ [V.non]).head? = some (lof (wd.lo.take (k' + 1)) (i : Nat)) ∧ Same H3 (upd H7 T3 (.tup [.int (k' : Nat), .ref t3])) := by
          intro c
          refine ⟨acc, s12 _ _ f1, ⟨Nat.le_succ_of_le f2, f2'⟩, ?_, s11⟩
          rw [take_at hpk, lof_snoc, if_neg c, f3]
          split
          · rename_i z
            rw [z]
          · rfl
        refine ⟨_, rfl, _, rfl, _, _, rfl, rfl, _, rfl, ite2 (fun c => ?_) (fun c => ?_)⟩
        · have c1 : pk.1 ≤ (i : Int) := of_decide_eq_true c
          refine ⟨_, rfl, _, _, rfl, rfl, _, rfl, ite2 (fun c2 => ?_) (fun c2 => ?_)⟩
          · have c2' : (i : Int) < pk.2.1 := of_decide_eq_true c2
            refine ⟨_, rfl, acc, s12 _ _ f1, Nat.lt_of_le_of_lt f2 (lt_line _ (by omega)), acc ++ [.int (k' : Nat)], upd_same, ⟨?_, ?_⟩, ?_, ?_⟩
            · rw [List.length_append]
              exact Nat.succ_le_succ f2
            · intro y hy
              rcases List.mem_append.mp hy with q | q
              · exact f2' y q
              · rw [List.mem_singleton.mp q]
                simp
            · rw [take_at hpk, lof_snoc, if_pos (show pk.1 ≤ ((i : Nat) : Int) ∧ ((i : Nat) : Int) < pk.2.1 from ⟨c1, c2'⟩), etk]
              cases acc with
              | nil =>
                have z : V.non = lof (wd.lo.take k') (i : Nat) := Option.some.inj f3
                rw [← z]
                rfl
              | cons a r =>
                have z : a = lof (wd.lo.take k') (i : Nat) := Option.some.inj f3
                rw [← z, if_neg (f2' a (by simp))]
                rfl
            · intro c o h
              rw [upd_ne (ne_of_none h hD)]
              exact s12 _ _ (s10 _ _ h)
          · exact no (fun h => c2 (decide_eq_true h.2))
        · exact ⟨_, rfl, iteF (no (fun h => c (decide_eq_true h.1)))⟩
      · rintro H7 ⟨acc, f1, ⟨f2, _⟩, f3, s10⟩
        rw [ll, List.take_of_length_le (Nat.le_refl _)] at f3
        have s11 := s3.trans s10
        obtain ⟨db, hb⟩ := ans_lof ok.ll ((i : Nat) : Int)
        refine ⟨one_line, fun LN hLN => ?_⟩
        refine ⟨D, LN, acc, [.non], rfl, rfl, (same_alloc hLN) _ _ f1, upd_same, (by show acc.length + 1 ≤ sizeLine; exact Nat.le_trans (Nat.succ_le_succ f2) (Nat.le_of_lt (lt_line _ (by omega)))), fun pp hpp => ?_⟩
        have s12 := (s11.trans (same_alloc (o := .lst [V.non]) hLN)).trans (same_alloc (o := .lst (acc ++ [V.non])) hpp)
        refine ⟨pp, _, 0, lof wd.lo (i : Nat), rfl, rfl, SqL.of upd_same, ?_, ?_⟩
        · rw [List.head?_eq_getElem?] at f3
          exact atI_nat f3
        generalize upd (upd H7 LN (.lst [V.non])) pp (.lst (acc ++ [V.non])) = H8 at s12 ⊢
        clear f1 f2 f3 s11 s10 hpp hLN
        have eN8 := s12 _ _ eN2
        have hpick : atI ((wd.ps.map (·.1)).map V.str) ((i : Int) + r.2) = some (.str (pick r.2 p.1 q.1)) := by
          rcases (by omega : r.2 = 0 ∨ r.2 = 1) with e | e
          · rw [e, Int.add_zero]
            exact atI_nat (hP ep)
          · rw [e, show ((i : Int) + 1) = ((i + 1 : Nat) : Int) by omega]
            exact atI_nat (hP eq)
        have okk : Good (pick r.2 p.1 q.1) ∧ (pick r.2 p.1 q.1).length ≤ 6 := by
          unfold pick
          split
          · exact ⟨okp.good, okp.2.1⟩
          · exact ⟨okq.good, okq.2.1⟩
        obtain ⟨m1, m2, m3⟩ := (sm_list (k := 1) (m := 20) (ds := [.tuple [.str p.1, .str q.1], .str r.1, .str (pick r.2 p.1 q.1), db]) (fun d hd => by
          simp only [List.mem_cons, List.not_mem_nil, or_false] at hd
          rcases hd with rfl | rfl | rfl | rfl
          · exact (sm_names okp okq).mono (Nat.le_refl _) (by decide)
          · exact (sm_str okr6.1 okr6.2).mono (by decide) (by decide)
          · exact (sm_str okk.1 okk.2).mono (by decide) (by decide)
          · exact hb.sm.mono (by decide) (by decide))).rep (by decide) (by show 4 * 21 ≤ 2 ^ 20; decide)
        simp only [List.set_cons_succ, List.set_cons_zero]
        refine ⟨_, rfl, _, rfl, N, _, _, .str p.1, rfl, rfl, SqL.of eN8, atI_nat (hP ep), _, rfl, _, rfl, _, _, rfl, rfl, N, _, ((i + 1 : Nat) : Int), .str q.1, rfl, eadd, SqL.of eN8, atI_nat (hP eq), two_line, fun u1 hu1 => ?_⟩
        have w1 : Same H8 (upd H8 u1 (.tup [.str p.1, .str q.1])) := same_alloc hu1
        have e1 : upd H8 u1 (.tup [.str p.1, .str q.1]) u1 = some (.tup [.str p.1, .str q.1]) := upd_same
        generalize upd H8 u1 (.tup [.str p.1, .str q.1]) = H9 at w1 e1 ⊢
        refine ⟨_, rfl, _, rfl, _, rfl, _, rfl, _, _, rfl, rfl, N, _, _, .str (pick r.2 p.1 q.1), rfl, rfl, SqL.of (w1 _ _ eN8), hpick, _, rfl, four_line, fun u2 hu2 => ?_⟩
        have w2 : Same H9 (upd H9 u2 (.lst [.ref u1, .str r.1, .str (pick r.2 p.1 q.1), lof wd.lo (i : Nat)])) := same_alloc hu2
        have e2 : upd H9 u2 (.lst [.ref u1, .str r.1, .str (pick r.2 p.1 q.1), lof wd.lo (i : Nat)]) u2 = some (.lst [.ref u1, .str r.1, .str (pick r.2 p.1 q.1), lof wd.lo (i : Nat)]) := upd_same
        generalize upd H9 u2 (.lst [.ref u1, .str r.1, .str (pick r.2 p.1 q.1), lof wd.lo (i : Nat)]) = H10 at w2 e2 ⊢
        have w12 := w1.trans w2
        have sA := q2.trans (s12.trans w12)
        have hLA := hL.nt (same_nt sA)
        simp only [List.set_cons_succ, List.set_cons_zero]
        refine ⟨_, rfl, x, dx, _, rfl, sA _ _ hx, no3, _, rfl, x, wd, i, p, q, rfl, hLA, hi', ep, eq, fun u3 H11 w3 hu3 => ?_⟩
        have sB := sA.trans w3
        refine ⟨_, rfl, x, dx, _, rfl, sB _ _ hx, no4, _, rfl, x, wd, i, r, rfl, hL.nt (same_nt sB), hr0, _, rfl, x, dx, _, rfl, sB _ _ hx, no5, _, rfl, x, wd, i, r, p, q, rfl, hL.nt (same_nt sB), hr0, r0, r1, ep, eq, fun H12 w4 => ?_⟩
        have sC := sB.trans w4
        refine ⟨_, rfl, x, dx, _, rfl, sC _ _ hx, no6, _, rfl, x, wd, i, rfl, hL.nt (same_nt sC), hi', fun H13 w5 => ⟨four_line, fun u4 hu4 => ?_⟩⟩
        have w6 := same_alloc (o := .lst [.ref u3, .str r.1, .str (pick r.2 p.1 q.1), lof wd.lo (i : Nat)]) hu4
        have w36 := ((w3.trans w4).trans w5).trans w6
        refine ⟨_, .list [.tuple [.str p.1, .str q.1], .str r.1, .str (pick r.2 p.1 q.1), db], rfl, .lst (SqL.of upd_same) (.cons (.tup (SqT.of (w6 _ _ (w5 _ _ (w4 _ _ hu3)))) (.cons (.str _) (.cons (.str _) .nil))) (.cons (.str _) (.cons (.str _) (.cons hb.dp .nil)))), m1, m2, m3, ?_⟩
        refine ⟨_, rfl, _, .list [.tuple [.str p.1, .str q.1], .str r.1, .str (pick r.2 p.1 q.1), db], rfl, .lst (SqL.of (w36 _ _ e2)) (.cons (.tup (SqT.of (w36 _ _ (w2 _ _ e1))) (.cons (.str _) (.cons (.str _) .nil))) (.cons (.str _) (.cons (.str _) (.cons hb.dp .nil)))), m1, m2, m3, rfl, _, rfl, iteNS rfl ?_⟩
        exact ⟨_, _, _, _, _, _, _, _, _, _, _, rfl, (s12.trans w12).trans w36⟩
    · rintro σ H3 ⟨v3, v4, v5, v6, v7, v8, v9, v10, v11, v12, v13, rfl, s3⟩
      have s9 := q2.trans s3
      have eN3 := s3 _ _ eN2
      refine ⟨_, rfl, wa, _, 2, _, rfl, rfl, (same_nt s9).seqT hw, rfl, al, xl, rfl, (same_nt s9).seqT hal, for_it (walk_enumT (K := K) (xs := xl)) (fun i σ H' => ∃ v3 v4 v5 v6 v7 v8 v9 v10 v11 v12 v13 : Option V, σ = [some (.ref x), some (.ref wa), some (.ref N), v3, v4, v5, v6, v7, v8, v9, v10, v11, v12, v13] ∧ Same H3 H') ?_ ?_ ?_ ?_⟩
      · exact ⟨_, _, _, _, _, _, _, _, _, _, _, rfl, Same.refl H3⟩
      · rintro i σ H' _ ⟨_, _, _, _, _, _, _, _, _, _, _, _, s2⟩
        exact (same_nt (s9.trans s2)).seqT hal
      · rintro j v σ X1 X2 hi ⟨v3, v4, v5, v6, v7, v8, v9, v10, v11, v12, v13, rfl, s2⟩ ⟨T1, X, Y, rfl, hT1, rfl, z1, z2⟩
        obtain rfl := Option.some.inj z1
        obtain ⟨d', hg1, hg2⟩ := dpAll_get dal z2
        obtain ⟨r, hr0, rfl⟩ := get_map hg1
        obtain ⟨t, y1, y2, y3, rfl, ht, r1, r2, r3⟩ := dp_three hg2
        obtain rfl := dp_int r1
        obtain rfl := dp_int r2
        obtain rfl := dp_int r3
        have s4 := s2.trans (same_alloc (o := .tup [.int (j : Nat), .ref t]) hT1)
        have ht1 := (same_nt (s9.trans s4)).seqT ht
        obtain ⟨a, c, h, rfl⟩ : ∃ a c h, r = (a, c, h) := ⟨r.1, r.2.1, r.2.2, rfl⟩
        obtain ⟨o1, o2, o3, o4, o5⟩ := longs_get ok.lo hr0
        have a0 : 0 ≤ a := longs_nonneg (Int.le_refl 0) ok.lo _ (List.mem_of_getElem? hr0)
        obtain ⟨a, rfl⟩ := Int.eq_ofNat_of_zero_le a0
        obtain ⟨c, rfl⟩ := Int.eq_ofNat_of_zero_le (show 0 ≤ c by simp at o2; omega)
        have o2' : (a : Int) + 2 ≤ (c : Int) := o2
        have o3' : (c : Int) ≤ ((wd.ps.length - 1 : Nat) : Int) := o3
        have rgo : RgOk (a : Int) (c : Int) := RgOk.of_le (by omega) (by omega) (by omega) (by omega)
        obtain ⟨p, ep⟩ : ∃ p, wd.ps[a]? = some p := ⟨_, List.getElem?_eq_getElem (by omega)⟩
        obtain ⟨q, eq⟩ : ∃ q, wd.ps[c]? = some q := ⟨_, List.getElem?_eq_getElem (by omega)⟩
        have okp := (ok.nm p (List.mem_of_getElem? ep)).1
        have okq := (ok.nm q (List.mem_of_getElem? eq)).1
        have okk : Good (pick h p.1 q.1) ∧ (pick h p.1 q.1).length ≤ 6 := by
          unfold pick
          split
          · exact ⟨okp.good, okp.2.1⟩
          · exact ⟨okq.good, okq.2.1⟩
        obtain ⟨e, he1, he2⟩ : ∃ e : Nat, atI [V.int (a : Nat), .int (c : Nat)] h = some (.int (e : Nat)) ∧ ((wd.ps.map (·.1)).map V.str)[e]? = some (.str (pick h p.1 q.1)) := by
          rcases (by simp at o4 o5; omega : h = 0 ∨ h = 1) with rfl | rfl
          · exact ⟨a, rfl, hP ep⟩
          · exact ⟨c, rfl, hP eq⟩
        obtain ⟨m1, m2, m3⟩ := (sm_list (k := 1) (m := 300) (ds := [.tuple [.str p.1, .str q.1], .list (rgD (a : Int) (c : Int)), .str (pick h p.1 q.1)]) (fun d hd => by
          simp only [List.mem_cons, List.not_mem_nil, or_false] at hd
          rcases hd with rfl | rfl | rfl
          · exact (sm_names okp okq).mono (Nat.le_refl _) (by decide)
          · exact (rg_sm (a := (a : Int)) (b := (c : Int)) (by omega) (by omega)).mono (Nat.le_refl _) (by rw [rgD_len]; omega)
          · exact (sm_str okk.1 okk.2).mono (by decide) (by decide))).rep (by decide) (by show 3 * 301 ≤ 2 ^ 20; decide)
        refine ⟨T1, _, rfl, SqT.of upd_same, rfl, _, _, rfl, _, _, rfl, t, _, rfl, ht1, rfl, _, _, rfl, _, _, rfl, _, _, rfl, rfl, rfl, ?_⟩
        generalize upd X1 T1 (.tup [.int (j : Nat), .ref t]) = H8 at s4 ⊢
        have eN8 := s4 _ _ eN3
        simp only [List.set_cons_succ, List.set_cons_zero]
        refine ⟨_, rfl, _, rfl, N, _, _, .str p.1, rfl, rfl, SqL.of eN8, atI_nat (hP ep), _, rfl, _, rfl, N, _, _, .str q.1, rfl, rfl, SqL.of eN8, atI_nat (hP eq), two_line, fun u1 hu1 => ?_⟩
        have w1 : Same H8 (upd H8 u1 (.tup [.str p.1, .str q.1])) := same_alloc hu1
        have e1 : upd H8 u1 (.tup [.str p.1, .str q.1]) u1 = some (.tup [.str p.1, .str q.1]) := upd_same
        generalize upd H8 u1 (.tup [.str p.1, .str q.1]) = H9 at w1 e1 ⊢
        refine ⟨_, rfl, _, rfl, _, _, rfl, rfl, rgo, fun A hA => ?_⟩
        have w2 : Same H9 (upd H9 A (.lst (rgV (a : Int) (c : Int)))) := same_alloc hA
        have eA : upd H9 A (.lst (rgV (a : Int) (c : Int))) A = some (.lst (rgV (a : Int) (c : Int))) := upd_same
        generalize upd H9 A (.lst (rgV (a : Int) (c : Int))) = H10 at w2 eA ⊢
        refine ⟨_, rfl, _, rfl, _, rfl, two_line, fun u3 hu3 => ?_⟩
        have w3 := same_alloc (o := .lst [V.int (a : Nat), .int (c : Nat)]) hu3
        refine ⟨_, rfl, u3, _, h, _, rfl, rfl, SqL.of upd_same, he1, N, _, _, .str (pick h p.1 q.1), rfl, rfl, SqL.of (w3 _ _ (w2 _ _ (w1 _ _ eN8))), atI_nat he2, three_line, fun u4 hu4 => ?_⟩
        have w4 := w3.trans (same_alloc (o := .lst [V.ref u1, .ref A, .str (pick h p.1 q.1)]) hu4)
        have e4 : upd (upd H10 u3 (.lst [V.int (a : Nat), .int (c : Nat)])) u4 (.lst [V.ref u1, .ref A, .str (pick h p.1 q.1)]) u4 = some (.lst [V.ref u1, .ref A, .str (pick h p.1 q.1)]) := upd_same
        generalize upd (upd H10 u3 (.lst [V.int (a : Nat), .int (c : Nat)])) u4 (.lst [V.ref u1, .ref A, .str (pick h p.1 q.1)]) = H11 at w4 e4 ⊢
        clear w3 hu3 hu4
        have w14 := (w1.trans w2).trans w4
        have sA := s9.trans (s4.trans w14)
        simp only [List.set_cons_succ, List.set_cons_zero]
        refine ⟨_, rfl, x, dx, _, rfl, sA _ _ hx, no7, _, rfl, x, wd, j, a, c, h, p, q, rfl, hL.nt (same_nt sA), hr0, ep, eq, fun u5 H12 w5 hu5 => ?_⟩
        have sB := sA.trans w5
        refine ⟨_, rfl, x, dx, _, rfl, sB _ _ hx, no8, _, rfl, x, wd, j, _, rfl, hL.nt (same_nt sB), hr0, rgo, fun A2 hA2 => ?_⟩
        have w6 := same_alloc (o := .lst (rgV (a : Int) (c : Int))) hA2
        have eA2 : upd H12 A2 (.lst (rgV (a : Int) (c : Int))) A2 = some (.lst (rgV (a : Int) (c : Int))) := upd_same
        generalize upd H12 A2 (.lst (rgV (a : Int) (c : Int))) = H13 at w6 eA2 ⊢
        have sC := sB.trans w6
        refine ⟨_, rfl, x, dx, _, rfl, sC _ _ hx, no9, _, rfl, x, wd, j, a, c, h, p, q, rfl, hL.nt (same_nt sC), hr0, o4, o5, ep, eq, fun H14 w7 => ⟨three_line, fun u6 hu6 => ?_⟩⟩
        have w8 := same_alloc (o := .lst [V.ref u5, .ref A2, .str (pick h p.1 q.1)]) hu6
        have w58 := ((w5.trans w6).trans w7).trans w8
        refine ⟨_, .list [.tuple [.str p.1, .str q.1], .list (rgD (a : Int) (c : Int)), .str (pick h p.1 q.1)], rfl, .lst (SqL.of upd_same) (.cons (.tup (SqT.of (w8 _ _ (w7 _ _ (w6 _ _ hu5)))) (.cons (.str _) (.cons (.str _) .nil))) (.cons (.lst (SqL.of (w8 _ _ (w7 _ _ eA2))) (rg_dp _ _)) (.cons (.str _) .nil))), m1, m2, m3, ?_⟩
        refine ⟨_, rfl, _, .list [.tuple [.str p.1, .str q.1], .list (rgD (a : Int) (c : Int)), .str (pick h p.1 q.1)], rfl, .lst (SqL.of (w58 _ _ e4)) (.cons (.tup (SqT.of (w58 _ _ (w4 _ _ (w2 _ _ e1)))) (.cons (.str _) (.cons (.str _) .nil))) (.cons (.lst (SqL.of (w58 _ _ (w4 _ _ eA))) (rg_dp _ _)) (.cons (.str _) .nil))), m1, m2, m3, rfl, _, rfl, iteNS rfl ?_⟩
        exact ⟨_, _, _, _, _, _, _, _, _, _, _, rfl, (s4.trans w14).trans w58⟩
      · rintro σ H4 ⟨v3, v4, v5, v6, v7, v8, v9, v10, v11, v12, v13, rfl, s4⟩
        exact k H4 (s9.trans s4)
end
end K6

set_option maxRecDepth 100000
set_option maxHeartbeats 800000
namespace K6
open PySem PySem.Spec PyProof.Rows L2 GxR Gd TL My HT RT
def mnI (i j : Nat) : Int := if (j : Int) < (i : Int) then (j : Int) else (i : Int)
def mxI (i j : Nat) : Int := if (j : Int) > (i : Int) then (j : Int) else (i : Int)
theorem mnI_eq (i j : Nat) : ((min i j : Nat) : Int) = mnI i j := by unfold mnI; split <;> omega
theorem mxI_eq (i j : Nat) : ((max i j : Nat) : Int) = mxI i j := by unfold mxI; split <;> omega
theorem betw_yes {i j : Nat} (c : mnI i j + 1 = mxI i j) : betw i j = .int (mnI i j) := by
  unfold betw
  unfold mnI mxI at *
  split at c <;> split at c <;> (try omega)
  · rename_i h1 h2
    rw [if_neg (by omega), if_pos (by omega), if_pos (by omega)]
  · rename_i h1 h2
    rw [if_pos (by omega), if_neg (by omega)]
theorem betw_no {i j : Nat} (c : ¬ mnI i j + 1 = mxI i j) : betw i j = .non := by
  unfold betw
  unfold mnI mxI at *
  rw [if_neg, if_neg]
  · intro e
    apply c
    split <;> split <;> omega
  · intro e
    apply c
    split <;> split <;> omega
theorem eqv2t (a b f l : Int) : PyData.eqv (.tuple [.int a, .int b]) (.tuple [.int f, .int l]) = (decide (a = f) && decide (b = l)) := by
  simp [PyData.eqv, PyData.eqvAll]
  rw [Bool.eq_iff_iff]
  simp
def dE (p : Int × Int × Int) : PyData := .tuple [.int p.1, .int p.2.1]
theorem any_lbt {lo : List (Int × Int × Int)} {a b : Int} : ((lo.map dE).any fun z => PyData.eqv z (.tuple [.int a, .int b])) = (lo.findIdx? fun p => decide (p.1 = a) && decide (p.2.1 = b)).isSome := by
  rw [List.findIdx?_isSome, List.any_map]
  congr 1
  funext p
  exact eqv2t _ _ _ _
theorem inDK {X : Cx} {K : PySem.W.Frag} (h : X.K = K) (hu : X.A.units + 65 < cLine) : OpR X (compareOp .In) (rInD K) := h ▸ op_inD hu
theorem indexDK {X : Cx} {K : PySem.W.Frag} (h : X.K = K) (hu : X.A.units + 65 < cLine) : MtR X "list.index" (rIndexD K) := h ▸ mt_indexD hu
theorem lo_small {wd : Wd} (ok : wd.Ok) : ∀ p ∈ wd.lo, p.1.natAbs ≤ 1000 ∧ p.2.1.natAbs ≤ 1000 ∧ p.2.2.natAbs ≤ 1000 := by
  have p6 := ok.p6
  intro p hp
  obtain ⟨j, hj⟩ := List.getElem?_of_mem hp
  obtain ⟨o1, o2, o3, o4, o5⟩ := longs_get ok.lo hj
  have a0 : 0 ≤ p.1 := longs_nonneg (Int.le_refl 0) ok.lo _ hp
  exact ⟨by omega, by omega, by omega⟩
theorem sm_roads {wd : Wd} (ok : wd.Ok) : Sm (.list ((wd.ps.map (·.2)).map PyData.int)) 1 126 := (sm_list (k := 0) (m := 20) (fun d hd => by
  obtain ⟨z, hz, rfl⟩ := List.mem_map.mp hd
  obtain ⟨p, hp, rfl⟩ := List.mem_map.mp hz
  obtain ⟨_, n1, n2⟩ := ok.nm p hp
  exact sm_int (by omega))).mono (Nat.le_refl _) (by have := ok.p6; rw [List.length_map, List.length_map]; omega)
theorem sm_ends {wd : Wd} (ok : wd.Ok) : Sm (.list (wd.lo.map dE)) 2 100 := (sm_list (k := 1) (m := 42) (fun d hd => by
  obtain ⟨p, hp, rfl⟩ := List.mem_map.mp hd
  obtain ⟨n1, n2, _⟩ := lo_small ok p hp
  exact sm_tuple (k := 0) (m := 20) (ds := [.int p.1, .int p.2.1]) (fun d hd => by
    simp only [List.mem_cons, List.not_mem_nil, or_false] at hd
    rcases hd with rfl | rfl <;> exact sm_int (by assumption)))).mono (Nat.le_refl _) (by have := ok.ll; rw [List.length_map]; omega)
theorem sm_pair {a b : Int} (ha : a.natAbs ≤ 1000) (hb : b.natAbs ≤ 1000) : Sm (.tuple [.int a, .int b]) 1 42 := sm_tuple (k := 0) (m := 20) (ds := [.int a, .int b]) (fun d hd => by
  simp only [List.mem_cons, List.not_mem_nil, or_false] at hd
  rcases hd with rfl | rfl <;> exact sm_int (by assumption))
theorem ints_dp {K : PySem.W.Frag} {H : Hp} : ∀ l : List Int, DpAll K H (l.map V.int) (l.map PyData.int)
  | [] => .nil
  | z :: r => .cons (.int z) (ints_dp r)
theorem due1 {K : PySem.W.Frag} {σ : L2.St} {H : Hp} {i j : Nat} {u : Addr} {G : VK} (h8 : σ[8]? = some (some (.ref u))) (eu : SqT K H u [.int (mnI i j), .int (mxI i j)]) (k : G (betw i j) H) :
    tIf (tTest (tOp rEq (tOp (rI0 fun i j => V.int (i + j)) (tOp (rIxT K) (tVar 8) (tC (V.int 0))) (tC (V.int 1))) (tOp (rIxT K) (tVar 8) (tC (V.int 1))))) (tOp (rIxT K) (tVar 8) (tC (V.int 0))) (tC V.non) σ H G := by
  refine ⟨_, h8, u, _, 0, _, rfl, rfl, eu, rfl, _, _, rfl, rfl, _, h8, u, _, 1, _, rfl, rfl, eu, rfl, rfl, _, rfl, ite2 (fun c => ?_) (fun c => ?_)⟩
  · have c' : mnI i j + 1 = mxI i j := V.int.inj (of_decide_eq_true c)
    rw [betw_yes c'] at k
    exact ⟨_, h8, u, _, 0, _, rfl, rfl, eu, rfl, k⟩
  · have c' : ¬ mnI i j + 1 = mxI i j := fun e => c (decide_eq_true (congrArg V.int e))
    rw [betw_no c'] at k
    exact k
theorem due2 {K : PySem.W.Frag} {σ : L2.St} {H : Hp} {a b : Int} {u e : Addr} {lo : List (Int × Int × Int)} {G : VK} (h8 : σ[8]? = some (some (.ref u))) (h3 : σ[3]? = some (some (.ref e))) (eu : SqT K H u [.int a, .int b]) (de : Dp K H (.ref e) (.list (lo.map dE)))
    (s1 : SeqAt.shaped (.tuple [.int a, .int b]) = true) (s2 : SeqAt.shaped (.list (lo.map dE)) = true) (k : G (lbt lo a b) H) :
    tIf (tTest (tOp (rInD K) (tVar 8) (tVar 3))) (tBM K "list" (rIndexD K) (tVar 3) (tCons (tVar 8) tNil)) (tC V.non) σ H G := by
  have du : Dp K H (.ref u) (.tuple [.int a, .int b]) := .tup eu (.cons (.int _) (.cons (.int _) .nil))
  obtain ⟨e', ys, ee, hys, _⟩ := dp_list de
  obtain rfl := V.ref.inj ee
  refine ⟨_, h8, _, h3, .tuple [.int a, .int b], lo.map dE, du, de, s1, s2, _, rfl, ?_⟩
  rw [any_lbt]
  unfold lbt at k
  cases h : lo.findIdx? (fun p => decide (p.1 = a) && decide (p.2.1 = b)) with
  | none =>
    rw [h] at k
    exact iteF k
  | some j =>
    rw [h] at k
    obtain ⟨hj, h1, h2⟩ := List.findIdx?_eq_some_iff_getElem.mp h
    refine iteT ⟨_, h3, .inl ⟨rfl, _, hys⟩, _, h8, e, .ref u, .tuple [.int a, .int b], lo.map dE, j, dE lo[j], rfl, rfl, de, du, s2, s1, by rw [List.getElem?_map, List.getElem?_eq_getElem hj]; rfl, ?_, fun m z hm hz => ?_, k⟩
    · unfold dE
      rw [eqv2t]
      exact h1
    · obtain ⟨p, hp, rfl⟩ := get_map hz
      unfold dE
      rw [eqv2t]
      have hm' : m < lo.length := by omega
      have := h2 m hm
      rw [List.getElem?_eq_getElem hm'] at hp
      obtain rfl := Option.some.inj hp
      simpa using this
section
variable {P : Program} {w : World} {K : PySem.W.Frag} {mg : Str → Option Value} {base : Heap}
abbrev s_law_asked_right : Stmt := top 37
theorem sc_law_asked_right : FnScope ["_law_line", "_law_world_here", "_law_names_here", "_law_ends", "_law_at", "_law_one", "_law_to", "_law_other", "_law_pair", "_law_due_here", "_law_name", "_law_roads", "_law_low", "_law_high", "_law_home"] ["_law_line", "_law_world_here"] (defScope s_law_asked_right) := ⟨rfl, rfl, rfl, by decide +kernel, rfl, by decide +kernel, by decide +kernel⟩
theorem ok_askedL {f fR fN fU fB fL fS C : Addr} {fd fdR fdN fdU fdB fdL fdS : FuncData} (F : Fun K "_law_asked_right" "_law_asked_right" s_law_asked_right f fd) (T : Txt mg) (TC : ClsT K C)
    (Mroads : Mt K C "roads" "Line.roads" s_roads ["self", "name"] fR fdR) (Groads : FnOk P w K mg base CX0 2 fR fdR ["self", "name"] (spRoads K C))
    (Mnames : Mt K C "names" "Line.names" s_names ["self"] fN fdN) (Gnames : FnOk P w K mg base CX0 1 fN fdN ["self"] (spNamesOf K C))
    (Mnumber_of : Mt K C "number_of" "Line.number_of" s_number_of ["self", "name"] fU fdU) (Gnumber_of : FnOk P w K mg base CX0 1 fU fdU ["self", "name"] (spNum K C))
    (Mbetween : Mt K C "between" "Line.between" s_between ["self", "one", "other"] fB fdB) (Gbetween : FnOk P w K mg base CX0 2 fB fdB ["self", "one", "other"] (spBetween K C))
    (Mlong_between : Mt K C "long_between" "Line.long_between" s_long_between ["self", "one", "other"] fL fdL) (Glong_between : FnOk P w K mg base CX0 2 fL fdL ["self", "one", "other"] (spLongBetween K C))
    (Nlaw_stretches_asked_right : Fn K mg "_law_stretches_asked_right" s_law_stretches_asked_right ["_law_line", "_law_world_here"] fS fdS) (Glaw_stretches_askedL : GOk P w K mg base CX0 5 fS fdS ["_law_line", "_law_world_here"] (spAsk K C Wd.data)) :
    GOk P w K mg base CX0 6 f fd ["_law_line", "_law_world_here"] (spAsk K C Wd.data) := by
  refine gok F sc_law_asked_right (fun vs H Q E h => ?_) (fun cdv A outer s H vs Q E gd hr h => ?_)
  · obtain ⟨x, v, wd, rfl, _⟩ := h
    rfl
  · obtain ⟨x, v, wd, rfl, hL, hD, ok, k⟩ := h
    have hD0 := hD
    obtain ⟨wa, vp, vs_, vl, vu, rfl, hw, hp, hs, hl, _⟩ := dp_four hD
    obtain ⟨ap, xp, rfl, hap, dap⟩ := dp_list hp
    obtain ⟨as_, xs, rfl, has, das⟩ := dp_list hs
    obtain ⟨al, xl, rfl, hal, dal⟩ := dp_list hl
    obtain ⟨dx, p1, p2, p3, d, xs1, xs2, xs3, hx, _⟩ := id hL
    have lp : xp.length = wd.ps.length := by rw [dpAll_len dap, List.length_map]
    have ll : xl.length = wd.lo.length := by rw [dpAll_len dal, List.length_map]
    have p6 := ok.p6
    have ll2 := ok.ll
    have hu : A.units + 3 + 65 < cLine := by have := hr.un; have e : (A.deeper (envOfC (Str.ofString "_law_asked_right") (defScope s_law_asked_right) s.heap.objs.size f cdv)).units = A.units + 3 := rfl; omega
    refine ⟨_, pss_cons (ps_setLc (i := 2) (own := [("_law_name", 10), ("_law_roads", 11)]) (g := gTup K 2 (gCons (gName 10) (gCons (gName 11) gNil))) (tt := tYes) rfl sc_law_asked_right.nd rfl rfl (sw_true rfl rfl rfl (by decide +kernel)) (pi_list (pe_ix (ixL (K := K) rfl) (pv 1) pe_int (fun _ _ => rfl))) (blkOk_by (own := [("_law_name", 10), ("_law_roads", 11)]) (N := ["_law_line", "_law_world_here", "_law_names_here", "_law_ends", "_law_at", "_law_one", "_law_to", "_law_other", "_law_pair", "_law_due_here", "_law_name", "_law_roads", "_law_low", "_law_high", "_law_home"]) (sc := defScope s_law_asked_right) (by decide +kernel)) (fun _ _ _ _ _ => (pg_tup (by rfl) (pgs_cons (pg_name (i := 10) sc_law_asked_right.nd rfl (Or.inl rfl)) (pgs_cons (pg_name (i := 11) sc_law_asked_right.nd rfl (Or.inl rfl)) pgs_nil)))) (fun _ _ _ _ _ => pts_nil) (fun _ _ _ _ _ => (pv 10)))
      (pss_cons (ps_if (pt_cmpR op_ne (pe_callB (call_repr gd hr) (by rfl) T.repr_ (by decide +kernel) (pa_cons (pe_lc (own := [("_law_name", 10)]) (g := gName 10) (tt := tYes) rfl sc_law_asked_right.nd (pi_list (pv 2)) (blkOk_by (own := [("_law_name", 10)]) (N := ["_law_line", "_law_world_here", "_law_names_here", "_law_ends", "_law_at", "_law_one", "_law_to", "_law_other", "_law_pair", "_law_due_here", "_law_name", "_law_roads", "_law_low", "_law_high", "_law_home"]) (sc := defScope s_law_asked_right) (by decide +kernel)) (fun _ _ _ _ _ => (pg_name (i := 10) sc_law_asked_right.nd rfl (Or.inl rfl))) (fun _ _ _ _ _ => pts_nil) (fun _ _ _ _ _ => (pe_meth (pv 0) TC.cl Mroads.m Groads (hr.mono (by decide)) Mroads.b .nil pass0 (pa_cons (pv 10) pa_nil)))) pa_nil)) (pe_callB (call_repr gd hr) (by rfl) T.repr_ (by decide +kernel) (pa_cons (pe_lc (own := [("_law_name", 10), ("_law_roads", 11)]) (g := gTup K 2 (gCons (gName 10) (gCons (gName 11) gNil))) (tt := tYes) rfl sc_law_asked_right.nd (pi_list (pe_ix (ixL (K := K) rfl) (pv 1) pe_int (fun _ _ => rfl))) (blkOk_by (own := [("_law_name", 10), ("_law_roads", 11)]) (N := ["_law_line", "_law_world_here", "_law_names_here", "_law_ends", "_law_at", "_law_one", "_law_to", "_law_other", "_law_pair", "_law_due_here", "_law_name", "_law_roads", "_law_low", "_law_high", "_law_home"]) (sc := defScope s_law_asked_right) (by decide +kernel)) (fun _ _ _ _ _ => (pg_tup (by rfl) (pgs_cons (pg_name (i := 10) sc_law_asked_right.nd rfl (Or.inl rfl)) (pgs_cons (pg_name (i := 11) sc_law_asked_right.nd rfl (Or.inl rfl)) pgs_nil)))) (fun _ _ _ _ _ => pts_nil) (fun _ _ _ _ _ => (pv 11))) pa_nil)) (nomark _)) (pss_one (ps_ret pe_bl)) pss_nil)
      (pss_cons (ps_if (pt_cmpR op_ne (pe_callB (call_repr gd hr) (by rfl) T.repr_ (by decide +kernel) (pa_cons (pe_lst (pa_cons (pe_meth0 (pv 0) TC.cl Mnames.m Gnames (hr.mono (by decide)) Mnames.b .nil pass0) (pa_cons (pe_lc (own := [("_law_name", 10)]) (g := gName 10) (tt := tYes) rfl sc_law_asked_right.nd (pi_list (pv 2)) (blkOk_by (own := [("_law_name", 10)]) (N := ["_law_line", "_law_world_here", "_law_names_here", "_law_ends", "_law_at", "_law_one", "_law_to", "_law_other", "_law_pair", "_law_due_here", "_law_name", "_law_roads", "_law_low", "_law_high", "_law_home"]) (sc := defScope s_law_asked_right) (by decide +kernel)) (fun _ _ _ _ _ => (pg_name (i := 10) sc_law_asked_right.nd rfl (Or.inl rfl))) (fun _ _ _ _ _ => pts_nil) (fun _ _ _ _ _ => (pe_meth (pv 0) TC.cl Mnumber_of.m Gnumber_of (hr.mono (by decide)) Mnumber_of.b .nil pass0 (pa_cons (pv 10) pa_nil)))) pa_nil))) pa_nil)) (pe_callB (call_repr gd hr) (by rfl) T.repr_ (by decide +kernel) (pa_cons (pe_lst (pa_cons (pv 2) (pa_cons (pe_listRg rfl (by rfl) T.list_ (prg_1 (by rfl) T.range_ (pe_callB call_len_seq (by rfl) T.len_ PySem.boot_len (pa_cons (pv 2) pa_nil)))) pa_nil))) pa_nil)) (nomark _)) (pss_one (ps_ret pe_bl)) pss_nil)
      (pss_cons (ps_setLc (i := 3) (own := [("_law_low", 12), ("_law_high", 13), ("_law_home", 14)]) (g := gTup K 3 (gCons (gName 12) (gCons (gName 13) (gCons (gName 14) gNil)))) (tt := tYes) rfl sc_law_asked_right.nd rfl rfl (sw_true rfl rfl rfl (by decide +kernel)) (pi_list (pe_ix (ixL (K := K) rfl) (pv 1) pe_int (fun _ _ => rfl))) (blkOk_by (own := [("_law_low", 12), ("_law_high", 13), ("_law_home", 14)]) (N := ["_law_line", "_law_world_here", "_law_names_here", "_law_ends", "_law_at", "_law_one", "_law_to", "_law_other", "_law_pair", "_law_due_here", "_law_name", "_law_roads", "_law_low", "_law_high", "_law_home"]) (sc := defScope s_law_asked_right) (by decide +kernel)) (fun _ _ _ _ _ => (pg_tup (by rfl) (pgs_cons (pg_name (i := 12) sc_law_asked_right.nd rfl (Or.inl rfl)) (pgs_cons (pg_name (i := 13) sc_law_asked_right.nd rfl (Or.inl rfl)) (pgs_cons (pg_name (i := 14) sc_law_asked_right.nd rfl (Or.inl rfl)) pgs_nil))))) (fun _ _ _ _ _ => pts_nil) (fun _ _ _ _ _ => (pe_tup (pa_cons (pv 12) (pa_cons (pv 13) pa_nil)))))
      (pss_cons (ps_for PassesOwn.never rfl (pi_enum (by rfl) T.enumerate_ (pa_cons (pv 2) pa_nil)) (pg_tup (by rfl) (pgs_cons (pg_name (i := 4) sc_law_asked_right.nd rfl (Or.inl rfl)) (pgs_cons (pg_name (i := 5) sc_law_asked_right.nd rfl (Or.inl rfl)) pgs_nil))) (pss_one (ps_for PassesOwn.never rfl (pi_enum (by rfl) T.enumerate_ (pa_cons (pv 2) pa_nil)) (pg_tup (by rfl) (pgs_cons (pg_name (i := 6) sc_law_asked_right.nd rfl (Or.inl rfl)) (pgs_cons (pg_name (i := 7) sc_law_asked_right.nd rfl (Or.inl rfl)) pgs_nil))) (pss_cons (ps_set (i := 8) sc_law_asked_right.nd rfl (Or.inl rfl) (pe_tup (pa_cons (pe_callB (call_min2 rfl) (by rfl) T.min_ (by decide +kernel) (pa_cons (pv 4) (pa_cons (pv 6) pa_nil))) (pa_cons (pe_callB (call_max2 rfl) (by rfl) T.max_ (by decide +kernel) (pa_cons (pv 4) (pa_cons (pv 6) pa_nil))) pa_nil))))
              (pss_cons (ps_set (i := 9) sc_law_asked_right.nd rfl (Or.inl rfl) (pe_lst (pa_cons (pe_ifExp (pt_cmpR op_eq (pe_op op_add (pe_ix (ixT (K := K) rfl) (pv 8) pe_int (fun _ _ => rfl)) pe_int) (pe_ix (ixT (K := K) rfl) (pv 8) pe_int (fun _ _ => rfl)) (nomark _)) (pe_ix (ixT (K := K) rfl) (pv 8) pe_int (fun _ _ => rfl)) pe_non) (pa_cons (pe_ifExp (pt_cmpR (inDK (K := K) rfl hu) (pv 8) (pv 3) rfl) (pe_bm PySem.F.plainAttrs_list PySem.F.slot_list_index PySem.F.type_list_index (indexDK (K := K) rfl hu) (pv 3) (pa_cons (pv 8) pa_nil)) pe_non) pa_nil))))
              (pss_one (ps_if (pt_cmpR op_ne (pe_callB (call_repr gd hr) (by rfl) T.repr_ (by decide +kernel) (pa_cons (pe_lst (pa_cons (pe_meth (pv 0) TC.cl Mbetween.m Gbetween (hr.mono (by decide)) Mbetween.b .nil pass0 (pa_cons (pv 5) (pa_cons (pv 7) pa_nil))) (pa_cons (pe_meth (pv 0) TC.cl Mlong_between.m Glong_between (hr.mono (by decide)) Mlong_between.b .nil pass0 (pa_cons (pv 5) (pa_cons (pv 7) pa_nil))) pa_nil))) pa_nil)) (pe_callB (call_repr gd hr) (by rfl) T.repr_ (by decide +kernel) (pa_cons (pv 9) pa_nil)) (nomark _)) (pss_one (ps_ret pe_bl)) pss_nil)))))))
      (pss_one (ps_ret (pe_gcall gd Glaw_stretches_askedL (hr.mono (by decide)) (by rfl) Nlaw_stretches_asked_right.g Nlaw_stretches_asked_right.kp Nlaw_stretches_asked_right.b .nil pass0 (pa_cons (pv 0) (pa_cons (pv 1) pa_nil))))))))), ?_⟩
    generalize hσ : L2.start _ _ = σ0
    obtain rfl : σ0 = [some (.ref x), some (.ref wa), none, none, none, none, none, none, none, none, none, none, none, none, none] := hσ.symm.trans rfl
    rw [tSeq, tAsg]
    refine names_compL (σ := [some (.ref x), some (.ref wa), none, none, none, none, none, none, none, none, none, none, none, none, none]) (i := 1) (a := 10) (b := 11) rfl hw hap dap p6 (Nat.le_of_ble_eq_true rfl) (by decide) fun N H1 hN0 s1 eN => ?_
    have no1 : (lf p1 p2 p3 d).lookup (Str.ofString "roads") = none := lf_no _ _ _ _ (by decide +kernel)
    have no2 : (lf p1 p2 p3 d).lookup (Str.ofString "names") = none := lf_no _ _ _ _ (by decide +kernel)
    have no3 : (lf p1 p2 p3 d).lookup (Str.ofString "number_of") = none := lf_no _ _ _ _ (by decide +kernel)
    have no4 : (lf p1 p2 p3 d).lookup (Str.ofString "between") = none := lf_no _ _ _ _ (by decide +kernel)
    have no5 : (lf p1 p2 p3 d).lookup (Str.ofString "long_between") = none := lf_no _ _ _ _ (by decide +kernel)
    have hP : ∀ {i : Nat} {v : V}, ((wd.ps.map (·.1)).map V.str)[i]? = some v → ∃ p, wd.ps[i]? = some p ∧ v = .str p.1 := fun {i v} e => by
      obtain ⟨z, hz, rfl⟩ := get_map e
      obtain ⟨p, hp, rfl⟩ := get_map hz
      exact ⟨p, hp, rfl⟩
    have lN : ((wd.ps.map (·.1)).map V.str).length = wd.ps.length := by rw [List.length_map, List.length_map]
    obtain ⟨m1, m2, m3⟩ := (sm_roads ok).rep (by decide) (by decide)
    have mD : ∀ {H' : Hp} {a : Addr}, H' a = some (.lst ((wd.ps.map (·.2)).map V.int)) → Dp K H' (.ref a) (.list ((wd.ps.map (·.2)).map PyData.int)) := fun e => .lst (SqL.of e) (ints_dp _)
    generalize PyData.list ((wd.ps.map (·.2)).map PyData.int) = dr at m1 m2 m3 mD
    simp only [List.set_cons_succ, List.set_cons_zero]
    refine ⟨_, rfl, N, rfl, ⟨_, SqL.of eN⟩, fun D hD => lc_it (walk_list (K := K) (xs := (wd.ps.map (·.1)).map V.str)) (fun i H' => H' = upd H1 D (.lst (((wd.ps.take i).map (·.2)).map V.int))) rfl ?_ ?_ ?_⟩
    · rintro i H' _ rfl
      exact SqL.of ((same_alloc hD) _ _ eN)
    · rintro i v H' H'' hi rfl ⟨rfl, hv⟩
      obtain ⟨p, hp, rfl⟩ := hP hv
      have sD := s1.trans (same_alloc (o := .lst (((wd.ps.take i).map (·.2)).map V.int)) hD)
      refine ⟨wipe1 (by simp), ?_⟩
      simp only [wipe, List.map_cons, List.map_nil, List.set_cons_succ, List.set_cons_zero]
      refine lcY ⟨_, rfl, x, dx, _, rfl, sD _ _ hx, no1, _, rfl, x, wd, p.1, i, p, rfl, hL.nt (same_nt sD), posOf_at ok.nd hp, hp, _, upd_same, ?_, ?_⟩
      · rw [List.length_map, List.length_map, List.length_take]
        exact lt_line _ (by omega)
      · rw [upd_upd, take_at hp, List.map_append, List.map_append]
        rfl
    rintro H2 rfl
    rw [lN, List.take_of_length_le (Nat.le_refl _)]
    have w1 := same_alloc (o := .lst ((wd.ps.map (·.2)).map V.int)) hD
    have eD : upd H1 D (.lst ((wd.ps.map (·.2)).map V.int)) D = some (.lst ((wd.ps.map (·.2)).map V.int)) := upd_same
    generalize upd H1 D (.lst ((wd.ps.map (·.2)).map V.int)) = H2 at w1 eD ⊢
    refine ⟨_, dr, rfl, mD eD, m1, m2, m3, ?_⟩
    have s2 := s1.trans w1
    have n2 := same_nt s2
    refine ⟨_, rfl, wa, _, 0, _, rfl, rfl, n2.seq hw, rfl, ap, rfl, ⟨_, n2.seq hap⟩, fun D2 hD2 => lc_it (walk_list (K := K) (xs := xp)) (fun i H' => H' = upd H2 D2 (.lst (((wd.ps.take i).map (·.2)).map V.int))) rfl ?_ ?_ ?_⟩
    · rintro i H' _ rfl
      exact (same_nt (same_alloc hD2)).seq (n2.seq hap)
    · rintro i v H' H'' hi rfl ⟨rfl, hv⟩
      obtain ⟨d', hg1, hg2⟩ := dpAll_get dap hv
      obtain ⟨p, hp, rfl⟩ := get_map hg1
      obtain ⟨t, y1, y2, rfl, ht, r1, r2⟩ := dp_two hg2
      obtain rfl := dp_str r1
      obtain rfl := dp_int r2
      refine ⟨t, _, rfl, (same_nt (s2.trans (same_alloc hD2))).seqT ht, rfl, _, _, rfl, _, _, rfl, rfl, wipe2 (by simp) (by simp), ?_⟩
      simp only [wipe, List.map_cons, List.map_nil, List.set_cons_succ, List.set_cons_zero]
      refine lcY ⟨_, rfl, _, upd_same, ?_, ?_⟩
      · rw [List.length_map, List.length_map, List.length_take]
        exact lt_line _ (by omega)
      · rw [upd_upd, take_at hp, List.map_append, List.map_append]
        rfl
    rintro H3 rfl
    rw [lp, List.take_of_length_le (Nat.le_refl _)]
    refine ⟨_, dr, rfl, mD upd_same, m1, m2, m3, rfl, _, rfl, iteNS rfl ?_⟩
    have w2 := w1.trans (same_alloc (o := .lst ((wd.ps.map (·.2)).map V.int)) hD2)
    have eN3 := w2 _ _ eN
    have s3 := s1.trans w2
    generalize upd H2 D2 (.lst ((wd.ps.map (·.2)).map V.int)) = H3 at s3 eN3 ⊢
    clear m1 m2 m3 mD w1 w2 s2 n2 eD hD hD2 eN
    -- the names and their numbers
    have r6 : RgOk (0 : Int) (wd.ps.length : Int) := RgOk.of_le (by omega) (by omega) (by omega) (by omega)
    obtain ⟨m1, m2, m3⟩ := (sm_list (k := 1) (m := 200) (ds := [.list ((wd.ps.map (·.1)).map PyData.str), .list (rgD 0 (wd.ps.length : Int))]) (fun d hd => by
      simp only [List.mem_cons, List.not_mem_nil, or_false] at hd
      rcases hd with rfl | rfl
      · exact (sm_nms ok).mono (Nat.le_refl _) (by decide)
      · exact (rg_sm (a := 0) (b := (wd.ps.length : Int)) (by omega) (by omega)).mono (Nat.le_refl _) (by rw [rgD_len]; omega))).rep (by decide) (by show 2 * 201 ≤ 2 ^ 20; decide)
    have mD : ∀ {H' : Hp} {a b c : Addr}, H' a = some (.lst [.ref b, .ref c]) → H' b = some (.lst ((wd.ps.map (·.1)).map V.str)) → H' c = some (.lst (rgV 0 (wd.ps.length : Nat))) → Dp K H' (.ref a) (.list [.list ((wd.ps.map (·.1)).map PyData.str), .list (rgD 0 (wd.ps.length : Int))]) := fun e1 e2 e3 => .lst (SqL.of e1) (.cons (.lst (SqL.of e2) (strs_dp _)) (.cons (.lst (SqL.of e3) (rg_dp _ _)) .nil))
    generalize PyData.list [.list ((wd.ps.map (·.1)).map PyData.str), .list (rgD 0 (wd.ps.length : Int))] = dr2 at m1 m2 m3 mD
    simp only [List.set_cons_succ, List.set_cons_zero]
    refine ⟨_, rfl, x, dx, _, rfl, s3 _ _ hx, no2, x, wd, rfl, hL.nt (same_nt s3), p6, fun A1 H4 hA1 s4 eA1 => ?_⟩
    have s04 := s3.trans s4
    have eN4 := s4 _ _ eN3
    refine ⟨_, rfl, N, rfl, ⟨_, SqL.of eN4⟩, fun D hD => lc_it (walk_list (K := K) (xs := (wd.ps.map (·.1)).map V.str)) (fun i H' => H' = upd H4 D (.lst (rgV 0 (i : Nat)))) rfl ?_ ?_ ?_⟩
    · rintro i H' _ rfl
      exact SqL.of ((same_alloc hD) _ _ eN4)
    · rintro i v H' H'' hi rfl ⟨rfl, hv⟩
      obtain ⟨p, hp, rfl⟩ := hP hv
      have sD := s04.trans (same_alloc (o := .lst (rgV 0 (i : Nat))) hD)
      refine ⟨wipe1 (by simp), ?_⟩
      simp only [wipe, List.map_cons, List.map_nil, List.set_cons_succ, List.set_cons_zero]
      refine lcY ⟨_, rfl, x, dx, _, rfl, sD _ _ hx, no3, _, rfl, x, p.1, wd, i, rfl, hL.nt (same_nt sD), posOf_at ok.nd hp, _, upd_same, ?_, ?_⟩
      · rw [rgV_len]
        exact lt_line _ (by omega)
      · rw [upd_upd]
        have e := rgV_snoc (f := 0) (i := (i : Int)) (by omega)
        rw [show (((i + 1 : Nat) : Int)) = (i : Int) + 1 by omega, e]
    rintro H5 rfl
    rw [lN]
    have w5 := same_alloc (o := .lst (rgV 0 (wd.ps.length : Nat))) hD
    have eD : upd H4 D (.lst (rgV 0 (wd.ps.length : Nat))) D = some (.lst (rgV 0 (wd.ps.length : Nat))) := upd_same
    generalize upd H4 D (.lst (rgV 0 (wd.ps.length : Nat))) = H5 at w5 eD ⊢
    refine ⟨two_line, fun c1 hc1 => ?_⟩
    have w6 := same_alloc (o := .lst [V.ref A1, .ref D]) hc1
    refine ⟨_, dr2, rfl, mD upd_same (w6 _ _ (w5 _ _ eA1)) (w6 _ _ eD), m1, m2, m3, ?_⟩
    have w56 := w5.trans w6
    have eN6 := w56 _ _ eN4
    generalize upd H5 c1 (.lst [V.ref A1, .ref D]) = H6 at w56 eN6 ⊢
    refine ⟨_, rfl, _, rfl, N, _, rfl, .inl (SqL.of eN6), _, rfl, by rw [lN]; exact r6, fun A2 hA2 => ?_⟩
    rw [lN]
    have w7 := same_alloc (o := .lst (rgV 0 (wd.ps.length : Nat))) hA2
    have eA2 : upd H6 A2 (.lst (rgV 0 (wd.ps.length : Nat))) A2 = some (.lst (rgV 0 (wd.ps.length : Nat))) := upd_same
    generalize upd H6 A2 (.lst (rgV 0 (wd.ps.length : Nat))) = H7 at w7 eA2 ⊢
    refine ⟨two_line, fun c2 hc2 => ?_⟩
    have w8 := same_alloc (o := .lst [V.ref N, .ref A2]) hc2
    refine ⟨_, dr2, rfl, mD upd_same (w8 _ _ (w7 _ _ eN6)) (w8 _ _ eA2), m1, m2, m3, rfl, _, rfl, iteNS rfl ?_⟩
    have eN8 := w8 _ _ (w7 _ _ eN6)
    have s8 := s04.trans ((w56.trans w7).trans w8)
    generalize upd H7 c2 (.lst [V.ref N, .ref A2]) = H8 at eN8 s8 ⊢
    clear m1 m2 m3 mD w5 w6 w56 w7 w8 eA1 eA2 eD hD hc1 hc2 hA2 eN4 eN6 s04 s4 hA1 eN3 s3
    have n8 := same_nt s8
    refine ⟨_, rfl, wa, _, 2, _, rfl, rfl, n8.seq hw, rfl, al, rfl, ⟨_, n8.seq hal⟩, fun E1 hE => lc_it (walk_list (K := K) (xs := xl)) (fun i H' => ∃ ys, H' E1 = some (.lst ys) ∧ DpAll K (hide E1 H') ys ((wd.lo.take i).map dE) ∧ KB E1 H8 H') ?_ ?_ ?_ ?_⟩
    · exact ⟨[], upd_same, .nil, KB.alloc hE⟩
    · rintro i H' hi ⟨ys, _, _, kb⟩
      exact (KB.seq' hE kb).seq (n8.seq hal)
    · rintro i v H' H'' hi ⟨ys, e, dy, kb⟩ ⟨rfl, hv⟩
      obtain ⟨q, hq1, hq2⟩ := dpAll_get dal hv
      obtain ⟨p, hp, rfl⟩ := get_map hq1
      obtain ⟨t, y1, y2, y3, rfl, ht, r1, r2, r3⟩ := dp_three hq2
      obtain rfl := dp_int r1
      obtain rfl := dp_int r2
      obtain rfl := dp_int r3
      have ht2 := (KB.seq' hE kb).seqT (n8.seqT ht)
      have li : ys.length ≤ 6 := by
        rw [dpAll_len dy, List.length_map, List.length_take]
        omega
      refine ⟨t, _, rfl, ht2, rfl, _, _, rfl, _, _, rfl, _, _, rfl, rfl, wipe3 (by simp) (by simp) (by simp), ?_⟩
      simp only [wipe, List.map_cons, List.map_nil, List.set_cons_succ, List.set_cons_zero]
      refine lcY ⟨_, rfl, _, rfl, two_line, fun z hz => ?_⟩
      have nz : z ≠ E1 := (ne_of_none e hz).symm
      refine ⟨ys, same_alloc hz _ _ e, lt_line _ (by omega), ys ++ [.ref z], upd_same, ?_, fun c o n h => by rw [upd_ne n]; exact same_alloc hz _ _ (kb c o n h)⟩
      rw [take_at hp, List.map_append]
      exact dpAll_app (dpAll_nt ((hide_mono (same_nt (same_alloc hz))).trans hide_put1) dy) (.cons (.tup (hide_put1.seqT (SqT.of (by rw [hide_ne nz]; exact upd_same))) (.cons (.int _) (.cons (.int _) .nil))) .nil)
    rintro H9 ⟨ys, eE, dy, kb⟩
    have w9 : Same H8 H9 := fun c o h => kb c o (ne_of_none h hE) h
    have s9 := s8.trans w9
    rw [ll, List.take_of_length_le (Nat.le_refl _)] at dy
    have dE9 : Dp K H9 (.ref E1) (.list (wd.lo.map dE)) := .lst (SqL.of eE) (dpAll_nt (hide_nt E1 H9) dy)
    have eN9 := w9 _ _ eN8
    clear dy kb eE n8 s8 eN8 w9 hE
    simp only [List.set_cons_succ, List.set_cons_zero]
    refine ⟨_, rfl, N, _, rfl, SqL.of eN9, for_it (walk_enum (K := K) (xs := (wd.ps.map (·.1)).map V.str)) (fun i σ H' => ∃ v4 v5 v6 v7 v8 v9 v10 v11 v12 v13 v14 : Option V, σ = [some (.ref x), some (.ref wa), some (.ref N), some (.ref E1), v4, v5, v6, v7, v8, v9, v10, v11, v12, v13, v14] ∧ Same H9 H') ?_ ?_ ?_ ?_⟩
    · exact ⟨_, _, _, _, _, _, _, _, _, _, _, rfl, Same.refl H9⟩
    · rintro i σ H' _ ⟨_, _, _, _, _, _, _, _, _, _, _, _, s2⟩
      exact SqL.of (s2 _ _ eN9)
    · rintro i v σ X1 X2 hi ⟨v4, v5, v6, v7, v8, v9, v10, v11, v12, v13, v14, rfl, s2⟩ ⟨T1, X, Y, rfl, hT1, rfl, z1, z2⟩
      obtain rfl := Option.some.inj z1
      obtain ⟨pi, hpi, rfl⟩ := hP z2
      have s3 := s2.trans (same_alloc (o := .tup [.int (i : Nat), .str pi.1]) hT1)
      refine ⟨T1, _, rfl, SqT.of upd_same, rfl, _, _, rfl, _, _, rfl, rfl, ?_⟩
      generalize upd X1 T1 (.tup [.int (i : Nat), .str pi.1]) = X3 at s3 ⊢
      simp only [List.set_cons_succ, List.set_cons_zero]
      refine ⟨_, rfl, N, _, rfl, SqL.of (s3 _ _ eN9), for_it (walk_enum (K := K) (xs := (wd.ps.map (·.1)).map V.str)) (fun j σ H' => ∃ v6 v7 v8 v9 v10 v11 v12 v13 v14 : Option V, σ = [some (.ref x), some (.ref wa), some (.ref N), some (.ref E1), some (.int (i : Nat)), some (.str pi.1), v6, v7, v8, v9, v10, v11, v12, v13, v14] ∧ Same H9 H') ?_ ?_ ?_ ?_⟩
      · exact ⟨_, _, _, _, _, _, _, _, _, rfl, s3⟩
      · rintro j σ H' _ ⟨_, _, _, _, _, _, _, _, _, _, s2⟩
        exact SqL.of (s2 _ _ eN9)
      · clear s3 hT1 s2 z1 z2
        rintro j v σ X1 X2 hj ⟨v6, v7, v8, v9, v10, v11, v12, v13, v14, rfl, s2⟩ ⟨T2, X, Y, rfl, hT2, rfl, z1, z2⟩
        obtain rfl := Option.some.inj z1
        obtain ⟨pj, hpj, rfl⟩ := hP z2
        have s3 := s2.trans (same_alloc (o := .tup [.int (j : Nat), .str pj.1]) hT2)
        refine ⟨T2, _, rfl, SqT.of upd_same, rfl, _, _, rfl, _, _, rfl, rfl, ?_⟩
        generalize upd X1 T2 (.tup [.int (j : Nat), .str pj.1]) = X3 at s3 ⊢
        simp only [List.set_cons_succ, List.set_cons_zero]
        refine ⟨_, rfl, _, rfl, _, _, rfl, _, rfl, _, rfl, _, _, rfl, two_line, fun u hu0 => ?_⟩
        have s4 := s3.trans (same_alloc (o := .tup [.int (mnI i j), .int (mxI i j)]) hu0)
        have eu : upd X3 u (.tup [.int (mnI i j), .int (mxI i j)]) u = some (.tup [.int (mnI i j), .int (mxI i j)]) := upd_same
        show gName 8 _ _ (upd X3 u (.tup [.int (mnI i j), .int (mxI i j)])) _
        generalize upd X3 u (.tup [.int (mnI i j), .int (mxI i j)]) = X4 at s4 eu ⊢
        simp only [List.set_cons_succ, List.set_cons_zero]
        have dE4 := dp_nt (same_nt s4) dE9
        have b1 : (mnI i j).natAbs ≤ 1000 := by
          have e := mnI_eq i j
          omega
        have b2 : (mxI i j).natAbs ≤ 1000 := by
          have e := mxI_eq i j
          omega
        have e1 := posOf_at ok.nd hpi
        have e2 := posOf_at ok.nd hpj
        obtain ⟨da, han⟩ := ans_betw (i := i) (j := j) (by omega) (by omega)
        obtain ⟨db, hbn⟩ := ans_lbt ok.ll (mnI i j) (mxI i j)
        have hv : lbt wd.lo ((min i j : Nat) : Int) ((max i j : Nat) : Int) = lbt wd.lo (mnI i j) (mxI i j) := by rw [mnI_eq, mxI_eq]
        obtain ⟨m1, m2, m3⟩ := (sm_list (k := 0) (m := 20) (ds := [da, db]) (fun d hd => by
          simp only [List.mem_cons, List.not_mem_nil, or_false] at hd
          rcases hd with rfl | rfl
          · exact han.sm
          · exact hbn.sm)).rep (by decide) (by show 2 * 21 ≤ 2 ^ 20; decide)
        refine due1 (i := i) (j := j) rfl (SqT.of eu) ?_
        refine due2 rfl rfl (SqT.of eu) dE4 (sm_shaped (sm_pair b1 b2) (by decide)) (sm_shaped (sm_ends ok) (by decide)) ?_
        refine ⟨two_line, fun c1 hc1 => ?_⟩
        have w1 := same_alloc (o := .lst [betw i j, lbt wd.lo (mnI i j) (mxI i j)]) hc1
        have ec1 : upd X4 c1 (.lst [betw i j, lbt wd.lo (mnI i j) (mxI i j)]) c1 = some (.lst [betw i j, lbt wd.lo (mnI i j) (mxI i j)]) := upd_same
        generalize upd X4 c1 (.lst [betw i j, lbt wd.lo (mnI i j) (mxI i j)]) = X5 at w1 ec1 ⊢
        have sA := s9.trans (s4.trans w1)
        simp only [List.set_cons_succ, List.set_cons_zero]
        refine ⟨_, rfl, x, dx, _, rfl, sA _ _ hx, no4, _, rfl, _, rfl, x, pi.1, pj.1, wd, i, j, rfl, hL.nt (same_nt sA), e1, e2, ?_⟩
        refine ⟨_, rfl, x, dx, _, rfl, sA _ _ hx, no5, _, rfl, _, rfl, x, pi.1, pj.1, wd, i, j, rfl, hL.nt (same_nt sA), e1, e2, fun X6 w2 => ?_⟩
        rw [hv]
        refine ⟨two_line, fun c2 hc2 => ?_⟩
        have w3 := same_alloc (o := .lst [betw i j, lbt wd.lo (mnI i j) (mxI i j)]) hc2
        refine ⟨_, .list [da, db], rfl, .lst (SqL.of upd_same) (.cons han.dp (.cons hbn.dp .nil)), m1, m2, m3, ?_⟩
        refine ⟨_, rfl, _, .list [da, db], rfl, .lst (SqL.of (w3 _ _ (w2 _ _ ec1))) (.cons han.dp (.cons hbn.dp .nil)), m1, m2, m3, rfl, _, rfl, iteNS rfl ?_⟩
        exact ⟨_, _, _, _, _, _, _, _, _, rfl, (s4.trans w1).trans (w2.trans w3)⟩
      · rintro σ H' ⟨_, _, _, _, _, _, _, _, _, rfl, s1⟩
        exact ⟨_, _, _, _, _, _, _, _, _, _, _, rfl, s1⟩
    · rintro σ X9 ⟨v4, v5, v6, v7, v8, v9, v10, v11, v12, v13, v14, rfl, s2⟩
      have sX := s9.trans s2
      exact ⟨_, rfl, _, rfl, x, _, wd, rfl, hL.nt (same_nt sX), dp_nt (same_nt sX) hD0, ok, fun H' s' => k H' (sX.trans s')⟩
theorem ok_askedT {f fR fN fU fB fL fS C : Addr} {fd fdR fdN fdU fdB fdL fdS : FuncData} (F : Fun K "_law_asked_right" "_law_asked_right" s_law_asked_right f fd) (T : Txt mg) (TC : ClsT K C)
    (Mroads : Mt K C "roads" "Line.roads" s_roads ["self", "name"] fR fdR) (Groads : FnOk P w K mg base CX0 2 fR fdR ["self", "name"] (spRoads K C))
    (Mnames : Mt K C "names" "Line.names" s_names ["self"] fN fdN) (Gnames : FnOk P w K mg base CX0 1 fN fdN ["self"] (spNamesOf K C))
    (Mnumber_of : Mt K C "number_of" "Line.number_of" s_number_of ["self", "name"] fU fdU) (Gnumber_of : FnOk P w K mg base CX0 1 fU fdU ["self", "name"] (spNum K C))
    (Mbetween : Mt K C "between" "Line.between" s_between ["self", "one", "other"] fB fdB) (Gbetween : FnOk P w K mg base CX0 2 fB fdB ["self", "one", "other"] (spBetween K C))
    (Mlong_between : Mt K C "long_between" "Line.long_between" s_long_between ["self", "one", "other"] fL fdL) (Glong_between : FnOk P w K mg base CX0 2 fL fdL ["self", "one", "other"] (spLongBetween K C))
    (Nlaw_stretches_asked_right : Fn K mg "_law_stretches_asked_right" s_law_stretches_asked_right ["_law_line", "_law_world_here"] fS fdS) (Glaw_stretches_askedT : GOk P w K mg base CX0 5 fS fdS ["_law_line", "_law_world_here"] (spAsk K C toldD)) :
    GOk P w K mg base CX0 6 f fd ["_law_line", "_law_world_here"] (spAsk K C toldD) := by
  refine gok F sc_law_asked_right (fun vs H Q E h => ?_) (fun cdv A outer s H vs Q E gd hr h => ?_)
  · obtain ⟨x, v, wd, rfl, _⟩ := h
    rfl
  · obtain ⟨x, v, wd, rfl, hL, hD, ok, k⟩ := h
    have hD0 := hD
    obtain ⟨wa, vp, vs_, vl, rfl, hw, hp, hs, hl⟩ := dp_three hD
    obtain ⟨ap, xp, rfl, hap, dap⟩ := dp_tuple hp
    obtain ⟨as_, xs, rfl, has, das⟩ := dp_tuple hs
    obtain ⟨al, xl, rfl, hal, dal⟩ := dp_tuple hl
    obtain ⟨dx, p1, p2, p3, d, xs1, xs2, xs3, hx, _⟩ := id hL
    have lp : xp.length = wd.ps.length := by rw [dpAll_len dap, List.length_map]
    have ll : xl.length = wd.lo.length := by rw [dpAll_len dal, List.length_map]
    have p6 := ok.p6
    have ll2 := ok.ll
    have hu : A.units + 3 + 65 < cLine := by have := hr.un; have e : (A.deeper (envOfC (Str.ofString "_law_asked_right") (defScope s_law_asked_right) s.heap.objs.size f cdv)).units = A.units + 3 := rfl; omega
    refine ⟨_, pss_cons (ps_setLc (i := 2) (own := [("_law_name", 10), ("_law_roads", 11)]) (g := gTup K 2 (gCons (gName 10) (gCons (gName 11) gNil))) (tt := tYes) rfl sc_law_asked_right.nd rfl rfl (sw_true rfl rfl rfl (by decide +kernel)) (pi_tup (pe_ix (ixT (K := K) rfl) (pv 1) pe_int (fun _ _ => rfl))) (blkOk_by (own := [("_law_name", 10), ("_law_roads", 11)]) (N := ["_law_line", "_law_world_here", "_law_names_here", "_law_ends", "_law_at", "_law_one", "_law_to", "_law_other", "_law_pair", "_law_due_here", "_law_name", "_law_roads", "_law_low", "_law_high", "_law_home"]) (sc := defScope s_law_asked_right) (by decide +kernel)) (fun _ _ _ _ _ => (pg_tup (by rfl) (pgs_cons (pg_name (i := 10) sc_law_asked_right.nd rfl (Or.inl rfl)) (pgs_cons (pg_name (i := 11) sc_law_asked_right.nd rfl (Or.inl rfl)) pgs_nil)))) (fun _ _ _ _ _ => pts_nil) (fun _ _ _ _ _ => (pv 10)))
      (pss_cons (ps_if (pt_cmpR op_ne (pe_callB (call_repr gd hr) (by rfl) T.repr_ (by decide +kernel) (pa_cons (pe_lc (own := [("_law_name", 10)]) (g := gName 10) (tt := tYes) rfl sc_law_asked_right.nd (pi_list (pv 2)) (blkOk_by (own := [("_law_name", 10)]) (N := ["_law_line", "_law_world_here", "_law_names_here", "_law_ends", "_law_at", "_law_one", "_law_to", "_law_other", "_law_pair", "_law_due_here", "_law_name", "_law_roads", "_law_low", "_law_high", "_law_home"]) (sc := defScope s_law_asked_right) (by decide +kernel)) (fun _ _ _ _ _ => (pg_name (i := 10) sc_law_asked_right.nd rfl (Or.inl rfl))) (fun _ _ _ _ _ => pts_nil) (fun _ _ _ _ _ => (pe_meth (pv 0) TC.cl Mroads.m Groads (hr.mono (by decide)) Mroads.b .nil pass0 (pa_cons (pv 10) pa_nil)))) pa_nil)) (pe_callB (call_repr gd hr) (by rfl) T.repr_ (by decide +kernel) (pa_cons (pe_lc (own := [("_law_name", 10), ("_law_roads", 11)]) (g := gTup K 2 (gCons (gName 10) (gCons (gName 11) gNil))) (tt := tYes) rfl sc_law_asked_right.nd (pi_tup (pe_ix (ixT (K := K) rfl) (pv 1) pe_int (fun _ _ => rfl))) (blkOk_by (own := [("_law_name", 10), ("_law_roads", 11)]) (N := ["_law_line", "_law_world_here", "_law_names_here", "_law_ends", "_law_at", "_law_one", "_law_to", "_law_other", "_law_pair", "_law_due_here", "_law_name", "_law_roads", "_law_low", "_law_high", "_law_home"]) (sc := defScope s_law_asked_right) (by decide +kernel)) (fun _ _ _ _ _ => (pg_tup (by rfl) (pgs_cons (pg_name (i := 10) sc_law_asked_right.nd rfl (Or.inl rfl)) (pgs_cons (pg_name (i := 11) sc_law_asked_right.nd rfl (Or.inl rfl)) pgs_nil)))) (fun _ _ _ _ _ => pts_nil) (fun _ _ _ _ _ => (pv 11))) pa_nil)) (nomark _)) (pss_one (ps_ret pe_bl)) pss_nil)
      (pss_cons (ps_if (pt_cmpR op_ne (pe_callB (call_repr gd hr) (by rfl) T.repr_ (by decide +kernel) (pa_cons (pe_lst (pa_cons (pe_meth0 (pv 0) TC.cl Mnames.m Gnames (hr.mono (by decide)) Mnames.b .nil pass0) (pa_cons (pe_lc (own := [("_law_name", 10)]) (g := gName 10) (tt := tYes) rfl sc_law_asked_right.nd (pi_list (pv 2)) (blkOk_by (own := [("_law_name", 10)]) (N := ["_law_line", "_law_world_here", "_law_names_here", "_law_ends", "_law_at", "_law_one", "_law_to", "_law_other", "_law_pair", "_law_due_here", "_law_name", "_law_roads", "_law_low", "_law_high", "_law_home"]) (sc := defScope s_law_asked_right) (by decide +kernel)) (fun _ _ _ _ _ => (pg_name (i := 10) sc_law_asked_right.nd rfl (Or.inl rfl))) (fun _ _ _ _ _ => pts_nil) (fun _ _ _ _ _ => (pe_meth (pv 0) TC.cl Mnumber_of.m Gnumber_of (hr.mono (by decide)) Mnumber_of.b .nil pass0 (pa_cons (pv 10) pa_nil)))) pa_nil))) pa_nil)) (pe_callB (call_repr gd hr) (by rfl) T.repr_ (by decide +kernel) (pa_cons (pe_lst (pa_cons (pv 2) (pa_cons (pe_listRg rfl (by rfl) T.list_ (prg_1 (by rfl) T.range_ (pe_callB call_len_seq (by rfl) T.len_ PySem.boot_len (pa_cons (pv 2) pa_nil)))) pa_nil))) pa_nil)) (nomark _)) (pss_one (ps_ret pe_bl)) pss_nil)
      (pss_cons (ps_setLc (i := 3) (own := [("_law_low", 12), ("_law_high", 13), ("_law_home", 14)]) (g := gTup K 3 (gCons (gName 12) (gCons (gName 13) (gCons (gName 14) gNil)))) (tt := tYes) rfl sc_law_asked_right.nd rfl rfl (sw_true rfl rfl rfl (by decide +kernel)) (pi_tup (pe_ix (ixT (K := K) rfl) (pv 1) pe_int (fun _ _ => rfl))) (blkOk_by (own := [("_law_low", 12), ("_law_high", 13), ("_law_home", 14)]) (N := ["_law_line", "_law_world_here", "_law_names_here", "_law_ends", "_law_at", "_law_one", "_law_to", "_law_other", "_law_pair", "_law_due_here", "_law_name", "_law_roads", "_law_low", "_law_high", "_law_home"]) (sc := defScope s_law_asked_right) (by decide +kernel)) (fun _ _ _ _ _ => (pg_tup (by rfl) (pgs_cons (pg_name (i := 12) sc_law_asked_right.nd rfl (Or.inl rfl)) (pgs_cons (pg_name (i := 13) sc_law_asked_right.nd rfl (Or.inl rfl)) (pgs_cons (pg_name (i := 14) sc_law_asked_right.nd rfl (Or.inl rfl)) pgs_nil))))) (fun _ _ _ _ _ => pts_nil) (fun _ _ _ _ _ => (pe_tup (pa_cons (pv 12) (pa_cons (pv 13) pa_nil)))))
      (pss_cons (ps_for PassesOwn.never rfl (pi_enum (by rfl) T.enumerate_ (pa_cons (pv 2) pa_nil)) (pg_tup (by rfl) (pgs_cons (pg_name (i := 4) sc_law_asked_right.nd rfl (Or.inl rfl)) (pgs_cons (pg_name (i := 5) sc_law_asked_right.nd rfl (Or.inl rfl)) pgs_nil))) (pss_one (ps_for PassesOwn.never rfl (pi_enum (by rfl) T.enumerate_ (pa_cons (pv 2) pa_nil)) (pg_tup (by rfl) (pgs_cons (pg_name (i := 6) sc_law_asked_right.nd rfl (Or.inl rfl)) (pgs_cons (pg_name (i := 7) sc_law_asked_right.nd rfl (Or.inl rfl)) pgs_nil))) (pss_cons (ps_set (i := 8) sc_law_asked_right.nd rfl (Or.inl rfl) (pe_tup (pa_cons (pe_callB (call_min2 rfl) (by rfl) T.min_ (by decide +kernel) (pa_cons (pv 4) (pa_cons (pv 6) pa_nil))) (pa_cons (pe_callB (call_max2 rfl) (by rfl) T.max_ (by decide +kernel) (pa_cons (pv 4) (pa_cons (pv 6) pa_nil))) pa_nil))))
              (pss_cons (ps_set (i := 9) sc_law_asked_right.nd rfl (Or.inl rfl) (pe_lst (pa_cons (pe_ifExp (pt_cmpR op_eq (pe_op op_add (pe_ix (ixT (K := K) rfl) (pv 8) pe_int (fun _ _ => rfl)) pe_int) (pe_ix (ixT (K := K) rfl) (pv 8) pe_int (fun _ _ => rfl)) (nomark _)) (pe_ix (ixT (K := K) rfl) (pv 8) pe_int (fun _ _ => rfl)) pe_non) (pa_cons (pe_ifExp (pt_cmpR (inDK (K := K) rfl hu) (pv 8) (pv 3) rfl) (pe_bm PySem.F.plainAttrs_list PySem.F.slot_list_index PySem.F.type_list_index (indexDK (K := K) rfl hu) (pv 3) (pa_cons (pv 8) pa_nil)) pe_non) pa_nil))))
              (pss_one (ps_if (pt_cmpR op_ne (pe_callB (call_repr gd hr) (by rfl) T.repr_ (by decide +kernel) (pa_cons (pe_lst (pa_cons (pe_meth (pv 0) TC.cl Mbetween.m Gbetween (hr.mono (by decide)) Mbetween.b .nil pass0 (pa_cons (pv 5) (pa_cons (pv 7) pa_nil))) (pa_cons (pe_meth (pv 0) TC.cl Mlong_between.m Glong_between (hr.mono (by decide)) Mlong_between.b .nil pass0 (pa_cons (pv 5) (pa_cons (pv 7) pa_nil))) pa_nil))) pa_nil)) (pe_callB (call_repr gd hr) (by rfl) T.repr_ (by decide +kernel) (pa_cons (pv 9) pa_nil)) (nomark _)) (pss_one (ps_ret pe_bl)) pss_nil)))))))
      (pss_one (ps_ret (pe_gcall gd Glaw_stretches_askedT (hr.mono (by decide)) (by rfl) Nlaw_stretches_asked_right.g Nlaw_stretches_asked_right.kp Nlaw_stretches_asked_right.b .nil pass0 (pa_cons (pv 0) (pa_cons (pv 1) pa_nil))))))))), ?_⟩
    generalize hσ : L2.start _ _ = σ0
    obtain rfl : σ0 = [some (.ref x), some (.ref wa), none, none, none, none, none, none, none, none, none, none, none, none, none] := hσ.symm.trans rfl
    rw [tSeq, tAsg]
    refine names_compT (σ := [some (.ref x), some (.ref wa), none, none, none, none, none, none, none, none, none, none, none, none, none]) (i := 1) (a := 10) (b := 11) rfl hw hap dap p6 (Nat.le_of_ble_eq_true rfl) (by decide) fun N H1 hN0 s1 eN => ?_
    have no1 : (lf p1 p2 p3 d).lookup (Str.ofString "roads") = none := lf_no _ _ _ _ (by decide +kernel)
    have no2 : (lf p1 p2 p3 d).lookup (Str.ofString "names") = none := lf_no _ _ _ _ (by decide +kernel)
    have no3 : (lf p1 p2 p3 d).lookup (Str.ofString "number_of") = none := lf_no _ _ _ _ (by decide +kernel)
    have no4 : (lf p1 p2 p3 d).lookup (Str.ofString "between") = none := lf_no _ _ _ _ (by decide +kernel)
    have no5 : (lf p1 p2 p3 d).lookup (Str.ofString "long_between") = none := lf_no _ _ _ _ (by decide +kernel)
    have hP : ∀ {i : Nat} {v : V}, ((wd.ps.map (·.1)).map V.str)[i]? = some v → ∃ p, wd.ps[i]? = some p ∧ v = .str p.1 := fun {i v} e => by
      obtain ⟨z, hz, rfl⟩ := get_map e
      obtain ⟨p, hp, rfl⟩ := get_map hz
      exact ⟨p, hp, rfl⟩
    have lN : ((wd.ps.map (·.1)).map V.str).length = wd.ps.length := by rw [List.length_map, List.length_map]
    obtain ⟨m1, m2, m3⟩ := (sm_roads ok).rep (by decide) (by decide)
    have mD : ∀ {H' : Hp} {a : Addr}, H' a = some (.lst ((wd.ps.map (·.2)).map V.int)) → Dp K H' (.ref a) (.list ((wd.ps.map (·.2)).map PyData.int)) := fun e => .lst (SqL.of e) (ints_dp _)
    generalize PyData.list ((wd.ps.map (·.2)).map PyData.int) = dr at m1 m2 m3 mD
    simp only [List.set_cons_succ, List.set_cons_zero]
    refine ⟨_, rfl, N, rfl, ⟨_, SqL.of eN⟩, fun D hD => lc_it (walk_list (K := K) (xs := (wd.ps.map (·.1)).map V.str)) (fun i H' => H' = upd H1 D (.lst (((wd.ps.take i).map (·.2)).map V.int))) rfl ?_ ?_ ?_⟩
    · rintro i H' _ rfl
      exact SqL.of ((same_alloc hD) _ _ eN)
    · rintro i v H' H'' hi rfl ⟨rfl, hv⟩
      obtain ⟨p, hp, rfl⟩ := hP hv
      have sD := s1.trans (same_alloc (o := .lst (((wd.ps.take i).map (·.2)).map V.int)) hD)
      refine ⟨wipe1 (by simp), ?_⟩
      simp only [wipe, List.map_cons, List.map_nil, List.set_cons_succ, List.set_cons_zero]
      refine lcY ⟨_, rfl, x, dx, _, rfl, sD _ _ hx, no1, _, rfl, x, wd, p.1, i, p, rfl, hL.nt (same_nt sD), posOf_at ok.nd hp, hp, _, upd_same, ?_, ?_⟩
      · rw [List.length_map, List.length_map, List.length_take]
        exact lt_line _ (by omega)
      · rw [upd_upd, take_at hp, List.map_append, List.map_append]
        rfl
    rintro H2 rfl
    rw [lN, List.take_of_length_le (Nat.le_refl _)]
    have w1 := same_alloc (o := .lst ((wd.ps.map (·.2)).map V.int)) hD
    have eD : upd H1 D (.lst ((wd.ps.map (·.2)).map V.int)) D = some (.lst ((wd.ps.map (·.2)).map V.int)) := upd_same
    generalize upd H1 D (.lst ((wd.ps.map (·.2)).map V.int)) = H2 at w1 eD ⊢
    refine ⟨_, dr, rfl, mD eD, m1, m2, m3, ?_⟩
    have s2 := s1.trans w1
    have n2 := same_nt s2
    refine ⟨_, rfl, wa, _, 0, _, rfl, rfl, n2.seqT hw, rfl, ap, rfl, ⟨_, n2.seqT hap⟩, fun D2 hD2 => lc_it (walk_tup (K := K) (xs := xp)) (fun i H' => H' = upd H2 D2 (.lst (((wd.ps.take i).map (·.2)).map V.int))) rfl ?_ ?_ ?_⟩
    · rintro i H' _ rfl
      exact (same_nt (same_alloc hD2)).seqT (n2.seqT hap)
    · rintro i v H' H'' hi rfl ⟨rfl, hv⟩
      obtain ⟨d', hg1, hg2⟩ := dpAll_get dap hv
      obtain ⟨p, hp, rfl⟩ := get_map hg1
      obtain ⟨t, y1, y2, rfl, ht, r1, r2⟩ := dp_two hg2
      obtain rfl := dp_str r1
      obtain rfl := dp_int r2
      refine ⟨t, _, rfl, (same_nt (s2.trans (same_alloc hD2))).seqT ht, rfl, _, _, rfl, _, _, rfl, rfl, wipe2 (by simp) (by simp), ?_⟩
      simp only [wipe, List.map_cons, List.map_nil, List.set_cons_succ, List.set_cons_zero]
      refine lcY ⟨_, rfl, _, upd_same, ?_, ?_⟩
      · rw [List.length_map, List.length_map, List.length_take]
        exact lt_line _ (by omega)
      · rw [upd_upd, take_at hp, List.map_append, List.map_append]
        rfl
    rintro H3 rfl
    rw [lp, List.take_of_length_le (Nat.le_refl _)]
    refine ⟨_, dr, rfl, mD upd_same, m1, m2, m3, rfl, _, rfl, iteNS rfl ?_⟩
    have w2 := w1.trans (same_alloc (o := .lst ((wd.ps.map (·.2)).map V.int)) hD2)
    have eN3 := w2 _ _ eN
    have s3 := s1.trans w2
    generalize upd H2 D2 (.lst ((wd.ps.map (·.2)).map V.int)) = H3 at s3 eN3 ⊢
    clear m1 m2 m3 mD w1 w2 s2 n2 eD hD hD2 eN
    -- the names and their numbers
    have r6 : RgOk (0 : Int) (wd.ps.length : Int) := RgOk.of_le (by omega) (by omega) (by omega) (by omega)
    obtain ⟨m1, m2, m3⟩ := (sm_list (k := 1) (m := 200) (ds := [.list ((wd.ps.map (·.1)).map PyData.str), .list (rgD 0 (wd.ps.length : Int))]) (fun d hd => by
      simp only [List.mem_cons, List.not_mem_nil, or_false] at hd
      rcases hd with rfl | rfl
      · exact (sm_nms ok).mono (Nat.le_refl _) (by decide)
      · exact (rg_sm (a := 0) (b := (wd.ps.length : Int)) (by omega) (by omega)).mono (Nat.le_refl _) (by rw [rgD_len]; omega))).rep (by decide) (by show 2 * 201 ≤ 2 ^ 20; decide)
    have mD : ∀ {H' : Hp} {a b c : Addr}, H' a = some (.lst [.ref b, .ref c]) → H' b = some (.lst ((wd.ps.map (·.1)).map V.str)) → H' c = some (.lst (rgV 0 (wd.ps.length : Nat))) → Dp K H' (.ref a) (.list [.list ((wd.ps.map (·.1)).map PyData.str), .list (rgD 0 (wd.ps.length : Int))]) := fun e1 e2 e3 => .lst (SqL.of e1) (.cons (.lst (SqL.of e2) (strs_dp _)) (.cons (.lst (SqL.of e3) (rg_dp _ _)) .nil))
    generalize PyData.list [.list ((wd.ps.map (·.1)).map PyData.str), .list (rgD 0 (wd.ps.length : Int))] = dr2 at m1 m2 m3 mD
    simp only [List.set_cons_succ, List.set_cons_zero]
    refine ⟨_, rfl, x, dx, _, rfl, s3 _ _ hx, no2, x, wd, rfl, hL.nt (same_nt s3), p6, fun A1 H4 hA1 s4 eA1 => ?_⟩
    have s04 := s3.trans s4
    have eN4 := s4 _ _ eN3
    refine ⟨_, rfl, N, rfl, ⟨_, SqL.of eN4⟩, fun D hD => lc_it (walk_list (K := K) (xs := (wd.ps.map (·.1)).map V.str)) (fun i H' => H' = upd H4 D (.lst (rgV 0 (i : Nat)))) rfl ?_ ?_ ?_⟩
    · rintro i H' _ rfl
      exact SqL.of ((same_alloc hD) _ _ eN4)
    · rintro i v H' H'' hi rfl ⟨rfl, hv⟩
      obtain ⟨p, hp, rfl⟩ := hP hv
      have sD := s04.trans (same_alloc (o := .lst (rgV 0 (i : Nat))) hD)
      refine ⟨wipe1 (by simp), ?_⟩
      simp only [wipe, List.map_cons, List.map_nil, List.set_cons_succ, List.set_cons_zero]
      refine lcY ⟨_, rfl, x, dx, _, rfl, sD _ _ hx, no3, _, rfl, x, p.1, wd, i, rfl, hL.nt (same_nt sD), posOf_at ok.nd hp, _, upd_same, ?_, ?_⟩
      · rw [rgV_len]
        exact lt_line _ (by omega)
      · rw [upd_upd]
        have e := rgV_snoc (f := 0) (i := (i : Int)) (by omega)
        rw [show (((i + 1 : Nat) : Int)) = (i : Int) + 1 by omega, e]
    rintro H5 rfl
    rw [lN]
    have w5 := same_alloc (o := .lst (rgV 0 (wd.ps.length : Nat))) hD
    have eD : upd H4 D (.lst (rgV 0 (wd.ps.length : Nat))) D = some (.lst (rgV 0 (wd.ps.length : Nat))) := upd_same
    generalize upd H4 D (.lst (rgV 0 (wd.ps.length : Nat))) = H5 at w5 eD ⊢
    refine ⟨two_line, fun c1 hc1 => ?_⟩
    have w6 := same_alloc (o := .lst [V.ref A1, .ref D]) hc1
    refine ⟨_, dr2, rfl, mD upd_same (w6 _ _ (w5 _ _ eA1)) (w6 _ _ eD), m1, m2, m3, ?_⟩
    have w56 := w5.trans w6
    have eN6 := w56 _ _ eN4
    generalize upd H5 c1 (.lst [V.ref A1, .ref D]) = H6 at w56 eN6 ⊢
    refine ⟨_, rfl, _, rfl, N, _, rfl, .inl (SqL.of eN6), _, rfl, by rw [lN]; exact r6, fun A2 hA2 => ?_⟩
    rw [lN]
    have w7 := same_alloc (o := .lst (rgV 0 (wd.ps.length : Nat))) hA2
    have eA2 : upd H6 A2 (.lst (rgV 0 (wd.ps.length : Nat))) A2 = some (.lst (rgV 0 (wd.ps.length : Nat))) := upd_same
    generalize upd H6 A2 (.lst (rgV 0 (wd.ps.length : Nat))) = H7 at w7 eA2 ⊢
    refine ⟨two_line, fun c2 hc2 => ?_⟩
    have w8 := same_alloc (o := .lst [V.ref N, .ref A2]) hc2
    refine ⟨_, dr2, rfl, mD upd_same (w8 _ _ (w7 _ _ eN6)) (w8 _ _ eA2), m1, m2, m3, rfl, _, rfl, iteNS rfl ?_⟩
    have eN8 := w8 _ _ (w7 _ _ eN6)
    have s8 := s04.trans ((w56.trans w7).trans w8)
    generalize upd H7 c2 (.lst [V.ref N, .ref A2]) = H8 at eN8 s8 ⊢
    clear m1 m2 m3 mD w5 w6 w56 w7 w8 eA1 eA2 eD hD hc1 hc2 hA2 eN4 eN6 s04 s4 hA1 eN3 s3
    have n8 := same_nt s8
    refine ⟨_, rfl, wa, _, 2, _, rfl, rfl, n8.seqT hw, rfl, al, rfl, ⟨_, n8.seqT hal⟩, fun E1 hE => lc_it (walk_tup (K := K) (xs := xl)) (fun i H' => ∃ ys, H' E1 = some (.lst ys) ∧ DpAll K (hide E1 H') ys ((wd.lo.take i).map dE) ∧ KB E1 H8 H') ?_ ?_ ?_ ?_⟩
    · exact ⟨[], upd_same, .nil, KB.alloc hE⟩
    · rintro i H' hi ⟨ys, _, _, kb⟩
      exact (KB.seq' hE kb).seqT (n8.seqT hal)
    · rintro i v H' H'' hi ⟨ys, e, dy, kb⟩ ⟨rfl, hv⟩
      obtain ⟨q, hq1, hq2⟩ := dpAll_get dal hv
      obtain ⟨p, hp, rfl⟩ := get_map hq1
      obtain ⟨t, y1, y2, y3, rfl, ht, r1, r2, r3⟩ := dp_three hq2
      obtain rfl := dp_int r1
      obtain rfl := dp_int r2
      obtain rfl := dp_int r3
      have ht2 := (KB.seq' hE kb).seqT (n8.seqT ht)
      have li : ys.length ≤ 6 := by
        rw [dpAll_len dy, List.length_map, List.length_take]
        omega
      refine ⟨t, _, rfl, ht2, rfl, _, _, rfl, _, _, rfl, _, _, rfl, rfl, wipe3 (by simp) (by simp) (by simp), ?_⟩
      simp only [wipe, List.map_cons, List.map_nil, List.set_cons_succ, List.set_cons_zero]
      refine lcY ⟨_, rfl, _, rfl, two_line, fun z hz => ?_⟩
      have nz : z ≠ E1 := (ne_of_none e hz).symm
      refine ⟨ys, same_alloc hz _ _ e, lt_line _ (by omega), ys ++ [.ref z], upd_same, ?_, fun c o n h => by rw [upd_ne n]; exact same_alloc hz _ _ (kb c o n h)⟩
      rw [take_at hp, List.map_append]
      exact dpAll_app (dpAll_nt ((hide_mono (same_nt (same_alloc hz))).trans hide_put1) dy) (.cons (.tup (hide_put1.seqT (SqT.of (by rw [hide_ne nz]; exact upd_same))) (.cons (.int _) (.cons (.int _) .nil))) .nil)
    rintro H9 ⟨ys, eE, dy, kb⟩
    have w9 : Same H8 H9 := fun c o h => kb c o (ne_of_none h hE) h
    have s9 := s8.trans w9
    rw [ll, List.take_of_length_le (Nat.le_refl _)] at dy
    have dE9 : Dp K H9 (.ref E1) (.list (wd.lo.map dE)) := .lst (SqL.of eE) (dpAll_nt (hide_nt E1 H9) dy)
    have eN9 := w9 _ _ eN8
    clear dy kb eE n8 s8 eN8 w9 hE
    simp only [List.set_cons_succ, List.set_cons_zero]
    refine ⟨_, rfl, N, _, rfl, SqL.of eN9, for_it (walk_enum (K := K) (xs := (wd.ps.map (·.1)).map V.str)) (fun i σ H' => ∃ v4 v5 v6 v7 v8 v9 v10 v11 v12 v13 v14 : Option V, σ = [some (.ref x), some (.ref wa), some (.ref N), some (.ref E1), v4, v5, v6, v7, v8, v9, v10, v11, v12, v13, v14] ∧ Same H9 H') ?_ ?_ ?_ ?_⟩
    · exact ⟨_, _, _, _, _, _, _, _, _, _, _, rfl, Same.refl H9⟩
    · rintro i σ H' _ ⟨_, _, _, _, _, _, _, _, _, _, _, _, s2⟩
      exact SqL.of (s2 _ _ eN9)
    · rintro i v σ X1 X2 hi ⟨v4, v5, v6, v7, v8, v9, v10, v11, v12, v13, v14, rfl, s2⟩ ⟨T1, X, Y, rfl, hT1, rfl, z1, z2⟩
      obtain rfl := Option.some.inj z1
      obtain ⟨pi, hpi, rfl⟩ := hP z2
      have s3 := s2.trans (same_alloc (o := .tup [.int (i : Nat), .str pi.1]) hT1)
      refine ⟨T1, _, rfl, SqT.of upd_same, rfl, _, _, rfl, _, _, rfl, rfl, ?_⟩
      generalize upd X1 T1 (.tup [.int (i : Nat), .str pi.1]) = X3 at s3 ⊢
      simp only [List.set_cons_succ, List.set_cons_zero]
      refine ⟨_, rfl, N, _, rfl, SqL.of (s3 _ _ eN9), for_it (walk_enum (K := K) (xs := (wd.ps.map (·.1)).map V.str)) (fun j σ H' => ∃ v6 v7 v8 v9 v10 v11 v12 v13 v14 : Option V, σ = [some (.ref x), some (.ref wa), some (.ref N), some (.ref E1), some (.int (i : Nat)), some (.str pi.1), v6, v7, v8, v9, v10, v11, v12, v13, v14] ∧ Same H9 H') ?_ ?_ ?_ ?_⟩
      · exact ⟨_, _, _, _, _, _, _, _, _, rfl, s3⟩
      · rintro j σ H' _ ⟨_, _, _, _, _, _, _, _, _, _, s2⟩
        exact SqL.of (s2 _ _ eN9)
      · clear s3 hT1 s2 z1 z2
        rintro j v σ X1 X2 hj ⟨v6, v7, v8, v9, v10, v11, v12, v13, v14, rfl, s2⟩ ⟨T2, X, Y, rfl, hT2, rfl, z1, z2⟩
        obtain rfl := Option.some.inj z1
        obtain ⟨pj, hpj, rfl⟩ := hP z2
        have s3 := s2.trans (same_alloc (o := .tup [.int (j : Nat), .str pj.1]) hT2)
        refine ⟨T2, _, rfl, SqT.of upd_same, rfl, _, _, rfl, _, _, rfl, rfl, ?_⟩
        generalize upd X1 T2 (.tup [.int (j : Nat), .str pj.1]) = X3 at s3 ⊢
        simp only [List.set_cons_succ, List.set_cons_zero]
        refine ⟨_, rfl, _, rfl, _, _, rfl, _, rfl, _, rfl, _, _, rfl, two_line, fun u hu0 => ?_⟩
        have s4 := s3.trans (same_alloc (o := .tup [.int (mnI i j), .int (mxI i j)]) hu0)
        have eu : upd X3 u (.tup [.int (mnI i j), .int (mxI i j)]) u = some (.tup [.int (mnI i j), .int (mxI i j)]) := upd_same
        show gName 8 _ _ (upd X3 u (.tup [.int (mnI i j), .int (mxI i j)])) _
        generalize upd X3 u (.tup [.int (mnI i j), .int (mxI i j)]) = X4 at s4 eu ⊢
        simp only [List.set_cons_succ, List.set_cons_zero]
        have dE4 := dp_nt (same_nt s4) dE9
        have b1 : (mnI i j).natAbs ≤ 1000 := by
          have e := mnI_eq i j
          omega
        have b2 : (mxI i j).natAbs ≤ 1000 := by
          have e := mxI_eq i j
          omega
        have e1 := posOf_at ok.nd hpi
        have e2 := posOf_at ok.nd hpj
        obtain ⟨da, han⟩ := ans_betw (i := i) (j := j) (by omega) (by omega)
        obtain ⟨db, hbn⟩ := ans_lbt ok.ll (mnI i j) (mxI i j)
        have hv : lbt wd.lo ((min i j : Nat) : Int) ((max i j : Nat) : Int) = lbt wd.lo (mnI i j) (mxI i j) := by rw [mnI_eq, mxI_eq]
        obtain ⟨m1, m2, m3⟩ := (sm_list (k := 0) (m := 20) (ds := [da, db]) (fun d hd => by
          simp only [List.mem_cons, List.not_mem_nil, or_false] at hd
          rcases hd with rfl | rfl
          · exact han.sm
          · exact hbn.sm)).rep (by decide) (by show 2 * 21 ≤ 2 ^ 20; decide)
        refine due1 (i := i) (j := j) rfl (SqT.of eu) ?_
        refine due2 rfl rfl (SqT.of eu) dE4 (sm_shaped (sm_pair b1 b2) (by decide)) (sm_shaped (sm_ends ok) (by decide)) ?_
        refine ⟨two_line, fun c1 hc1 => ?_⟩
        have w1 := same_alloc (o := .lst [betw i j, lbt wd.lo (mnI i j) (mxI i j)]) hc1
        have ec1 : upd X4 c1 (.lst [betw i j, lbt wd.lo (mnI i j) (mxI i j)]) c1 = some (.lst [betw i j, lbt wd.lo (mnI i j) (mxI i j)]) := upd_same
        generalize upd X4 c1 (.lst [betw i j, lbt wd.lo (mnI i j) (mxI i j)]) = X5 at w1 ec1 ⊢
        have sA := s9.trans (s4.trans w1)
        simp only [List.set_cons_succ, List.set_cons_zero]
        refine ⟨_, rfl, x, dx, _, rfl, sA _ _ hx, no4, _, rfl, _, rfl, x, pi.1, pj.1, wd, i, j, rfl, hL.nt (same_nt sA), e1, e2, ?_⟩
        refine ⟨_, rfl, x, dx, _, rfl, sA _ _ hx, no5, _, rfl, _, rfl, x, pi.1, pj.1, wd, i, j, rfl, hL.nt (same_nt sA), e1, e2, fun X6 w2 => ?_⟩
        rw [hv]
        refine ⟨two_line, fun c2 hc2 => ?_⟩
        have w3 := same_alloc (o := .lst [betw i j, lbt wd.lo (mnI i j) (mxI i j)]) hc2
        refine ⟨_, .list [da, db], rfl, .lst (SqL.of upd_same) (.cons han.dp (.cons hbn.dp .nil)), m1, m2, m3, ?_⟩
        refine ⟨_, rfl, _, .list [da, db], rfl, .lst (SqL.of (w3 _ _ (w2 _ _ ec1))) (.cons han.dp (.cons hbn.dp .nil)), m1, m2, m3, rfl, _, rfl, iteNS rfl ?_⟩
        exact ⟨_, _, _, _, _, _, _, _, _, rfl, (s4.trans w1).trans (w2.trans w3)⟩
      · rintro σ H' ⟨_, _, _, _, _, _, _, _, _, rfl, s1⟩
        exact ⟨_, _, _, _, _, _, _, _, _, _, _, rfl, s1⟩
    · rintro σ X9 ⟨v4, v5, v6, v7, v8, v9, v10, v11, v12, v13, v14, rfl, s2⟩
      have sX := s9.trans s2
      exact ⟨_, rfl, _, rfl, x, _, wd, rfl, hL.nt (same_nt sX), dp_nt (same_nt sX) hD0, ok, fun H' s' => k H' (sX.trans s')⟩
end
end K6

set_option maxRecDepth 100000
set_option maxHeartbeats 400000
/-! what repr asks of a dict -/
namespace My
open PySem PySem.Spec PyProof.Rows L2 GxR Gd TL
theorem sb_kv {k m : Nat} : ∀ {ps : List (PyData × PyData)}, (∀ p ∈ ps, Sb p.1 k m ∧ Sb p.2 k m) → PyData.leavesShortKv 40 ps = true ∧ PyData.depthKv ps ≤ k ∧ PyData.weightKv ps ≤ ps.length * (2 * m + 2) ∧ PyData.showableKv ps = true
  | [], _ => ⟨rfl, Nat.zero_le _, Nat.zero_le _, rfl⟩
  | (a, b) :: r, h => by
    obtain ⟨a1, a2, a3, a4⟩ := sb_kv (ps := r) fun x hx => h x (List.mem_cons_of_mem _ hx)
    obtain ⟨b1, b2⟩ := h (a, b) List.mem_cons_self
    refine ⟨?_, ?_, ?_, ?_⟩
    · unfold PyData.leavesShortKv; rw [b1.lv, b2.lv, a1]; rfl
    · unfold PyData.depthKv
      have := b1.dep
      have := b2.dep
      simp only [Nat.max_le]
      exact ⟨⟨b1.dep, b2.dep⟩, a2⟩
    · unfold PyData.weightKv
      have := b1.wt
      have := b2.wt
      rw [List.length_cons, Nat.succ_mul]
      show PyData.weight a + PyData.weight b + 2 + PyData.weightKv r ≤ _
      have e1 : PyData.weight a ≤ m := b1.wt
      have e2 : PyData.weight b ≤ m := b2.wt
      omega
    · unfold PyData.showableKv; rw [b1.sh, b2.sh, a4]; rfl
theorem sb_dict {k m : Nat} {ps : List (PyData × PyData)} (h : ∀ p ∈ ps, Sb p.1 k m ∧ Sb p.2 k m) : Sb (.dict ps) (k + 1) (ps.length * (2 * m + 2)) := by
  obtain ⟨a1, a2, a3, a4⟩ := sb_kv h
  exact ⟨by unfold PyData.leavesShort; exact a1, by unfold PyData.depth; omega, by unfold PyData.weight; exact a3, by unfold PyData.showable; exact a4⟩
end My

set_option maxRecDepth 100000
set_option maxHeartbeats 800000
namespace K6
open PySem PySem.Spec PyProof.Rows L2 GxR Gd TL My HT RT
theorem sb_key {k : Key} (h : KeyOk k) : Sb (keyD k) 1 111 := by
  rcases h with ⟨z, rfl, g, l⟩ | rfl
  · exact (sb_str g l).mono (by decide) (by decide)
  · exact (sb_int (i := 7) (by decide)).mono (by decide) (by decide)
theorem kv_dq {K : PySem.W.Frag} {N : Addr → Prop} {H : Hp} {p : Addr} : ∀ {kvs : List (Key × V)}, (∀ q ∈ kvs, Wf N (hide p H) 1 1 q.2) → (∀ q ∈ kvs, KeyOk q.1) → ∃ ds, DqKv K H kvs ds ∧ ds.length = kvs.length ∧ ∀ q ∈ ds, Sb q.1 1 111 ∧ Sb q.2 1 111
  | [], _, _ => ⟨[], .nil, rfl, fun q h => by cases h⟩
  | (k, v) :: r, h1, h2 => by
    obtain ⟨d, q1, q2⟩ := (h1 (k, v) List.mem_cons_self).dq (K := K) (Nat.le_refl 1)
    obtain ⟨ds, i1, i2, i3⟩ := kv_dq (K := K) (kvs := r) (fun q hq => h1 q (List.mem_cons_of_mem _ hq)) fun q hq => h2 q (List.mem_cons_of_mem _ hq)
    exact ⟨(keyD k, d) :: ds, .cons (dq_nt (hide_nt p H) q1) i1, by rw [List.length_cons, List.length_cons, i2], fun q hq => (List.mem_cons.mp hq).elim (fun e => by rw [e]; exact ⟨sb_key (h2 (k, v) List.mem_cons_self), q2⟩) fun h => i3 q h⟩
theorem dict_dq {K : PySem.W.Frag} {N : Addr → Prop} {H : Hp} {p : Addr} {kvs : List (Key × V)} (ep : H p = some (.dK kvs)) (lk : kvs.length ≤ 10) (h1 : ∀ q ∈ kvs, Wf N (hide p H) 1 1 q.2) (h2 : ∀ q ∈ kvs, KeyOk q.1) : ∃ d, Dq K H (.ref p) d ∧ Sb d 2 2240 := by
  obtain ⟨ds, i1, i2, i3⟩ := kv_dq (K := K) h1 h2
  exact ⟨.dict ds, .dic ep i1, (sb_dict i3).mono (Nat.le_refl _) (by rw [i2]; omega)⟩
theorem neDK {X : Cx} {K : PySem.W.Frag} (h : X.K = K) (hu : X.A.units + 64 < cLine) : OpR X (compareOp .NotEq) (rNeD K) := h ▸ op_neD hu
theorem sm_kt {Pt : Addr} {H H' : Hp} (tb : TabG H Pt) (sm : SmAt H) (k : KT Pt H H') : SmAt H' := by
  obtain ⟨o, e⟩ := sm
  exact ⟨o, KT.nt tb k _ _ (by simp) e⟩
theorem sm_kb {b : Addr} {n : Int} {H H' : Hp} (hb : Bx b n H) (sm : SmAt H) (k : KB b H H') : SmAt H' := by
  obtain ⟨o, e⟩ := sm
  obtain ⟨_, _, _, q, _⟩ := hb
  exact ⟨o, k _ _ (ne_of e q (by simp)) e⟩
theorem tab_kb {b Pt : Addr} {n : Int} {H H' : Hp} (hb : Bx b n H) (tb : TabG H Pt) (k : KB b H H') : TabG H' Pt := by
  obtain ⟨ps, e, h⟩ := tb
  obtain ⟨_, _, _, q, _⟩ := hb
  exact ⟨ps, k _ _ (ne_of e q (by simp)) e, h⟩
def NotT (H : Hp) (L : Addr) : Prop := (∀ xs, H L ≠ some (.tup xs)) ∧ ∀ o u, H L ≠ some (.frz o u)
theorem notT_lst {H : Hp} {L : Addr} {xs : List V} (h : H L = some (.lst xs)) : NotT H L := ⟨fun ys e => (by rw [h] at e; cases e), fun o u e => (by rw [h] at e; cases e)⟩
theorem notT_dK {H : Hp} {L : Addr} {xs : List (Key × V)} (h : H L = some (.dK xs)) : NotT H L := ⟨fun ys e => (by rw [h] at e; cases e), fun o u e => (by rw [h] at e; cases e)⟩
theorem sqT_hide {K : PySem.W.Frag} {H : Hp} {L a : Addr} {xs : List V} (hL : NotT H L) (h : SqT K H a xs) : SqT K (hide L H) a xs := by
  rcases h with (h | ⟨o, h⟩) | h
  · exact .inl (.inl (by rw [hide_ne (fun e => hL.1 _ (e ▸ h))]; exact h))
  · exact .inl (.inr ⟨o, by rw [hide_ne (fun e => hL.2 _ _ (e ▸ h))]; exact h⟩)
  · exact .inr h
theorem dpP_hide {K : PySem.W.Frag} {H : Hp} {L : Addr} (hL : NotT H L) : ∀ {xs : List V} {ps : List (Str × Int)}, DpAll K H xs (ps.map dP) → DpAll K (hide L H) xs (ps.map dP)
  | _, [], .nil => .nil
  | _, p :: r, .cons a t => by
    obtain ⟨u, x, y, rfl, h, q1, q2⟩ := dp_two a
    obtain rfl := dp_str q1
    obtain rfl := dp_int q2
    exact .cons (.tup (sqT_hide hL h) (.cons (.str _) (.cons (.int _) .nil))) (dpP_hide hL t)
theorem dpL_hide {K : PySem.W.Frag} {H : Hp} {L : Addr} (hL : NotT H L) : ∀ {xs : List V} {ps : List (Int × Int × Int)}, DpAll K H xs (ps.map dL) → DpAll K (hide L H) xs (ps.map dL)
  | _, [], .nil => .nil
  | _, p :: r, .cons a t => by
    obtain ⟨u, x, y, z, rfl, h, q1, q2, q3⟩ := dp_three a
    obtain rfl := dp_int q1
    obtain rfl := dp_int q2
    obtain rfl := dp_int q3
    exact .cons (.tup (sqT_hide hL h) (.cons (.int _) (.cons (.int _) (.cons (.int _) .nil)))) (dpL_hide hL t)
theorem line_hide {K : PySem.W.Frag} {C : Addr} {wd : Wd} {H : Hp} {x L : Addr} (hL : NotT H L) (hi : ∀ C dx fs, H L ≠ some (.ins C dx fs)) (hd : ∀ C dx fs d, H x = some (.ins C dx fs) → fs.lookup (Str.ofString "_numbers") = some (V.ref d) → d ≠ L) (h : LineAt K C wd H x) : LineAt K C wd (hide L H) x := by
  obtain ⟨dx, p1, p2, p3, d, xs1, xs2, xs3, h1, h2, h3, h4, h5, h6, h7, kvs, h8, h9⟩ := h
  exact ⟨dx, p1, p2, p3, d, xs1, xs2, xs3, by rw [hide_ne (fun e => hi _ _ _ (e ▸ h1))]; exact h1, sqT_hide hL h2, dpP_hide hL h3, sqT_hide hL h4, dpP_hide hL h5, sqT_hide hL h6, dpL_hide hL h7, kvs, by rw [hide_ne (hd _ _ _ _ h1 (lf_numbers _ _ _ _))]; exact h8, h9⟩
theorem line_kb {K : PySem.W.Frag} {C : Addr} {wd : Wd} {H H' : Hp} {x b : Addr} {n : Int} (hb : Bx b n H) (h : LineAt K C wd H x) (k : KB b H H') : LineAt K C wd H' x := by
  obtain ⟨_, _, _, q, _⟩ := hb
  obtain ⟨dx, p1, p2, p3, d, xs1, xs2, xs3, h1, h2, h3, h4, h5, h6, h7, kvs, h8, h9⟩ := id h
  refine ((line_hide (notT_lst q) (fun C dx fs e => by rw [q] at e; cases e) (fun C' dx' fs' d' e l => ?_) h).nt k.nt).nt (hide_nt b H')
  rw [h1] at e
  injection Option.some.inj e with _ _ e3
  subst e3
  rw [lf_numbers] at l
  obtain rfl := V.ref.inj (Option.some.inj l)
  exact ne_of h8 q (by simp)
theorem line_clear {K : PySem.W.Frag} {C : Addr} {wd : Wd} {H : Hp} {x p : Addr} {kvs : List (Key × V)} {o : HO} (h : LineAt K C wd H x) (hp : H p = some (.dK kvs)) (nd : ∀ C dx fs d, H x = some (.ins C dx fs) → fs.lookup (Str.ofString "_numbers") = some (V.ref d) → d ≠ p) : LineAt K C wd (upd H p o) x :=
  ((line_hide (notT_dK hp) (fun C dx fs e => by rw [hp] at e; cases e) nd h).nt hide_put1).nt (hide_nt p _)
theorem sqL_off {K : PySem.W.Frag} {H : Hp} {p a : Addr} {kvs : List (Key × V)} {o : HO} {xs : List V} (hp : H p = some (.dK kvs)) (h : SqL K H a xs) : SqL K (upd H p o) a xs := by
  rcases h with (h | ⟨o, h⟩) | h
  · exact .inl (.inl (by rw [upd_ne (ne_of h hp (by simp))]; exact h))
  · exact .inl (.inr ⟨o, by rw [upd_ne (ne_of h hp (by simp))]; exact h⟩)
  · exact .inr h
theorem sqT_off {K : PySem.W.Frag} {H : Hp} {p a : Addr} {kvs : List (Key × V)} {o : HO} {xs : List V} (hp : H p = some (.dK kvs)) (h : SqT K H a xs) : SqT K (upd H p o) a xs := by
  rcases h with (h | ⟨o, h⟩) | h
  · exact .inl (.inl (by rw [upd_ne (ne_of h hp (by simp))]; exact h))
  · exact .inl (.inr ⟨o, by rw [upd_ne (ne_of h hp (by simp))]; exact h⟩)
  · exact .inr h
mutual
theorem dp_off {K : PySem.W.Frag} {H : Hp} {p : Addr} {kvs : List (Key × V)} {o : HO} (hp : H p = some (.dK kvs)) : ∀ {v : V} {d : PyData}, Dp K H v d → Dp K (upd H p o) v d
  | _, _, .non => .non
  | _, _, .bl b => .bl b
  | _, _, .int i => .int i
  | _, _, .str z => .str z
  | _, _, .lst h a => .lst (sqL_off hp h) (dpAll_off hp a)
  | _, _, .tup h a => .tup (sqT_off hp h) (dpAll_off hp a)
theorem dpAll_off {K : PySem.W.Frag} {H : Hp} {p : Addr} {kvs : List (Key × V)} {o : HO} (hp : H p = some (.dK kvs)) : ∀ {vs : List V} {ds : List PyData}, DpAll K H vs ds → DpAll K (upd H p o) vs ds
  | _, _, .nil => .nil
  | _, _, .cons h t => .cons (dp_off hp h) (dpAll_off hp t)
end
theorem reD_some {kvs : List (Key × V)} {t : Tag} {y : V} : ∀ {ps : List (Str × Int)} {as : List Str}, reD kvs as ps = some (t, y) → ∃ p ∈ ps, y = nv kvs p.1
  | [], _, h => by cases h
  | p :: ps, as, h => by
    cases hn : nm (nv kvs p.1) with
    | false =>
      rw [reD_name hn] at h
      cases h
      exact ⟨p, List.mem_cons_self, rfl⟩
    | true =>
      by_cases hm : nv kvs p.1 ∈ as.map V.str
      · rw [reD_twice hn hm] at h
        cases h
        exact ⟨p, List.mem_cons_self, rfl⟩
      · rw [reD_go hn hm] at h
        obtain ⟨q, hq, e⟩ := reD_some h
        exact ⟨q, List.mem_cons_of_mem _ hq, e⟩
theorem nv_wf {N : Addr → Prop} {H : Hp} {kvs : List (Key × V)} (h : ∀ q ∈ kvs, Wf N H 1 1 q.2) {z : Str} (oz : NameOk z) : Wf N H 1 1 (nv kvs z) := by
  unfold nv
  cases e : valV kvs (Sum.inr z) with
  | none => exact wf_str oz
  | some v =>
    unfold valV at e
    obtain ⟨p, hp, rfl⟩ := Option.map_eq_some_iff.mp e
    exact h p (List.mem_of_find?_eq_some hp)
theorem ifT {A B : Prop} {b : Bool} (h : b = true) (k : A) : if b = true then A else B := by rw [if_pos h]; exact k
theorem ifF {A B : Prop} {b : Bool} (h : b = false) (k : B) : if b = true then A else B := by rw [if_neg (by rw [h]; exact Bool.false_ne_true)]; exact k
theorem sb_told {c : PyData} {t : Tag} (h : Sb c 1 111) : Sb (.tuple [.str (Str.ofString t.s), c]) 2 224 := (sb_tuple (k := 1) (m := 111) (ds := [.str (Str.ofString t.s), c]) fun d hd => by
  simp only [List.mem_cons, List.not_mem_nil, or_false] at hd
  rcases hd with rfl | rfl
  · exact (sb_str (m := 11) (good_of _) (by cases t <;> decide)).mono (by decide) (by decide)
  · exact h).mono (Nat.le_refl _) (by show 2 * 112 ≤ 224; decide)
theorem sm_tolds {d : PyData} (h : Sm d 3 2000) : Sm (.tuple [.str "told", d]) 4 4002 := sm_tuple (k := 3) (m := 2000) (ds := [.str "told", d]) fun e he => by
  simp only [List.mem_cons, List.not_mem_nil, or_false] at he
  rcases he with rfl | rfl
  · exact (sm_str (good_of _) (by decide)).mono (by decide) (by decide)
  · exact h
section
variable {P : Program} {w : World} {K : PySem.W.Frag} {mg : Str → Option Value} {base : Heap} {C Pt : Addr} {cl : Tag → Addr}
variable {f1 f2 f3 f4 f5 f6 f7 : Addr} {fd1 fd2 fd3 fd4 fd5 fd6 fd7 : FuncData}
abbrev s_law_renamed_right : Stmt := top 38
theorem sc_law_renamed_right : FnScope ["_law_box_here", "_law_line", "_law_world_here", "_law_some", "_law_before", "_law_due_here", "_law_other", "_law_thing"] ["_law_box_here", "_law_line", "_law_world_here"] (defScope s_law_renamed_right) := ⟨rfl, rfl, rfl, by decide +kernel, rfl, by decide +kernel, by decide +kernel⟩
def spRenRight (K : PySem.W.Frag) (C Pt : Addr) : Sp := fun vs H Q _ => ∃ (b x W : Addr) (n : Int) (wd : Wd), vs = [.ref b, .ref x, .ref W] ∧ Bx b n H ∧ n ≤ 70000 ∧ LineAt K C wd H x ∧ Dp K (hide b H) (.ref W) wd.data ∧ wd.Ok ∧ TabG H Pt ∧ SmAt H ∧
  ∀ H', (∀ c o, c ≠ b → c ≠ Pt → H c = some o → H' c = some o) → Bx b (n + 100) H' → TabG H' Pt → Q (.bl true) H'
theorem ok_renamed_right {f : Addr} {fd : FuncData} (ns : K.lookup sysModules = none) (F : Fun K "_law_renamed_right" "_law_renamed_right" s_law_renamed_right f fd) (T : Txt mg) (TC : ClsT K C)
    (Nlaw_dict : Fn K mg "_law_dict" s_law_dict ["_law_box_here", "_law_world_here"] f1 fd1) (Glaw_dict : FnOk P w K mg base CX0 3 f1 fd1 ["_law_box_here", "_law_world_here"] (spDict K))
    (Nlaw_due : Fn K mg "_law_due" s_law_due ["_law_world_here", "_law_some"] f2 fd2) (Glaw_due : FnOk P w K mg base CX0 3 f2 fd2 ["_law_world_here", "_law_some"] (spLawDue K))
    (Nlaw_caught : Fn K mg "_law_caught" s_law_caught ["_law_line", "_law_thing"] f3 fd3) (Glaw_caught : FnOk P w K mg base CX0 9 f3 fd3 ["_law_line", "_law_thing"] (spCaught K C Pt))
    (Mrenamed : Mt K C "renamed" "Line.renamed" s_renamed ["self", "names"] f4 fd4) (Grenamed : FnOk P w K mg base (CX P w) 8 f4 fd4 ["self", "names"] (spRenamed K C cl Pt))
    (Mtold : Mt K C "told" "Line.told" s_told ["self"] f5 fd5) (Gtold : FnOk P w K mg base CX0 1 f5 fd5 ["self"] (spTold K C))
    (Nlaw_asked_right : Fn K mg "_law_asked_right" s_law_asked_right ["_law_line", "_law_world_here"] f6 fd6) (Glaw_askedT : GOk P w K mg base CX0 6 f6 fd6 ["_law_line", "_law_world_here"] (spAsk K C toldD))
    (Nlaw_take : Fn K mg "_law_take" sTake ["_law_box_here", "_law_many"] f7 fd7) (Glaw_take : FnOk P w K mg base CX0 1 f7 fd7 ["_law_box_here", "_law_many"] spTake) :
    GOk P w K mg base CX0 10 f fd ["_law_box_here", "_law_line", "_law_world_here"] (spRenRight K C Pt) := by
  refine gok F sc_law_renamed_right (fun vs H Q E h => ?_) (fun cdv A outer s H vs Q E gd hr h => ?_)
  · obtain ⟨b, x, W, n, wd, rfl, _⟩ := h
    rfl
  · obtain ⟨b, x, W, n, wd, rfl, hB, hn, hL, hD, ok, tb, sm, k⟩ := h
    have hu := hr.units
    refine ⟨_, pss_cons (ps_set (i := 3) sc_law_renamed_right.nd rfl (Or.inl rfl) (pe_call Glaw_dict (hr.mono (by decide)) (by rfl) Nlaw_dict.g Nlaw_dict.kp Nlaw_dict.b .nil pass0 (pa_cons (pv 0) (pa_cons (pv 2) pa_nil))))
      (pss_cons (ps_set (i := 4) sc_law_renamed_right.nd rfl (Or.inl rfl) (pe_callB (call_reprQ ns gd hr) (by rfl) T.repr_ (by decide +kernel) (pa_cons (pv 3) pa_nil)))
      (pss_cons (ps_set (i := 5) sc_law_renamed_right.nd rfl (Or.inl rfl) (pe_call Glaw_due (hr.mono (by decide)) (by rfl) Nlaw_due.g Nlaw_due.kp Nlaw_due.b .nil pass0 (pa_cons (pv 2) (pa_cons (pv 3) pa_nil))))
      (pss_cons (ps_if (PW.pt (pw_or (pt_cmpR op_ne (pe_callB (call_reprQ ns gd hr) (by rfl) T.repr_ (by decide +kernel) (pa_cons (pe_call Glaw_caught (hr.mono (by decide)) (by rfl) Nlaw_caught.g Nlaw_caught.kp Nlaw_caught.b .nil pass0 (pa_cons (pv 1) (pa_cons (pv 3) pa_nil))) pa_nil)) (pe_callB (call_reprQ ns gd hr) (by rfl) T.repr_ (by decide +kernel) (pa_cons (pv 5) pa_nil)) (nomark _)) (pw_or1 (pt_cmpR op_ne (pe_callB (call_reprQ ns gd hr) (by rfl) T.repr_ (by decide +kernel) (pa_cons (pv 3) pa_nil)) (pv 4) (nomark _))))) (pss_one (ps_ret pe_bl)) pss_nil)
      (pss_cons (ps_if (pt_cmpR op_eq (pe_ix (ixT (K := K) rfl) (pv 5) pe_int (fun _ _ => rfl)) pe_str (nomark _)) (pss_cons (ps_set (i := 6) sc_law_renamed_right.nd rfl (Or.inl rfl) (pe_meth (pv 1) TC.cl Mrenamed.m Grenamed (hr.mono (by decide)) Mrenamed.b .nil pass_no (pa_cons (pv 3) pa_nil)))
          (pss_cons (ps_expr (pe_dclear (pv 3)))
          (pss_one (ps_if (PW.pt (pw_or (pt_not (pt_val (pe_gcall gd Glaw_askedT (hr.mono (by decide)) (by rfl) Nlaw_asked_right.g Nlaw_asked_right.kp Nlaw_asked_right.b .nil pass0 (pa_cons (pv 6) (pa_cons (pe_ix (ixT (K := K) rfl) (pv 5) pe_int (fun _ _ => rfl)) pa_nil))))) (pw_or1 (pt_cmpR (neDK (K := K) rfl hu) (pe_meth0 (pv 6) TC.cl Mtold.m Gtold (hr.mono (by decide)) Mtold.b .nil pass0) (pe_ix (ixT (K := K) rfl) (pv 5) pe_int (fun _ _ => rfl)) (nomark _))))) (pss_one (ps_ret pe_bl)) pss_nil)))) pss_nil)
      (pss_cons (ps_set (i := 7) sc_law_renamed_right.nd rfl (Or.inl rfl) (pe_ix (ixL (K := K) rfl) (pe_lst (pa_cons pe_non (pa_cons (pe_lst pa_nil) (pa_cons (pe_tup pa_nil) (pa_cons pe_str (pa_cons pe_int (pa_cons pe_bl (pa_cons (pe_lst (pa_cons (pe_tup (pa_cons pe_str (pa_cons pe_str pa_nil))) pa_nil)) pa_nil)))))))) (pe_call Glaw_take (hr.mono (by decide)) (by rfl) Nlaw_take.g Nlaw_take.kp Nlaw_take.b .nil pass0 (pa_cons (pv 0) (pa_cons pe_int pa_nil))) (fun _ _ => rfl)))
      (pss_one (ps_ret (pe_cmpR op_eq (pe_callB (call_reprQ ns gd hr) (by rfl) T.repr_ (by decide +kernel) (pa_cons (pe_call Glaw_caught (hr.mono (by decide)) (by rfl) Nlaw_caught.g Nlaw_caught.kp Nlaw_caught.b .nil pass0 (pa_cons (pv 1) (pa_cons (pv 7) pa_nil))) pa_nil)) (pe_callB (call_reprQ ns gd hr) (by rfl) T.repr_ (by decide +kernel) (pa_cons (pe_tup (pa_cons pe_str (pa_cons (pv 7) pa_nil))) pa_nil)) (nomark _))))))))), ?_⟩
    generalize hσ : L2.start _ _ = σ0
    obtain rfl : σ0 = [some (.ref b), some (.ref x), some (.ref W), none, none, none, none, none] := hσ.symm.trans rfl
    refine ⟨_, rfl, _, rfl, b, W, n, wd, rfl, hB, by omega, ok, hD, fun p kvs H1 kb1 B1 np ep lk wf ky => ?_⟩
    have sm1 := sm_kb hB sm kb1
    have tb1 := tab_kb hB tb kb1
    have hD1 := dp_nt (kb1.nt.trans (hide_nt b H1)) hD
    have hL1 := line_kb hB hL kb1
    have npb : p ≠ b := fun e => by
      obtain ⟨_, _, _, q, _⟩ := hB
      rw [← e, np] at q
      cases q
    have tk : ∀ q ∈ kvs, Th H1 q.2 := fun q hq => th_nt (hide_nt p H1) (wf q hq).th
    obtain ⟨dd, Dd, Sd⟩ := dict_dq (K := K) ep lk wf ky
    obtain ⟨m1, m2, m3⟩ := Sd.rep (by decide) (by decide)
    clear Sd
    simp only [List.set_cons_succ, List.set_cons_zero]
    refine ⟨_, rfl, _, _, rfl, sm1, Dd, m1, m2, m3, ?_⟩
    simp only [List.set_cons_succ, List.set_cons_zero]
    refine ⟨_, rfl, _, rfl, .ref W, p, wd, kvs, rfl, hD1, ok, ep, tk, fun u H2 s2 du => ?_⟩
    simp only [List.set_cons_succ, List.set_cons_zero]
    have n2 := same_nt s2
    have tb2 := (same_kt tb1 s2).tab
    refine ⟨_, rfl, _, rfl, x, .ref p, wd, rfl, hL1.nt n2, ok, tb2, .dic p (s2 _ _ ep), fun a kv ea ha q hq => ?_, fun H3 u3 k3 res => ?_⟩
    · obtain rfl := V.ref.inj ea
      rw [s2 _ _ ep] at ha
      obtain rfl := HO.dK.inj (Option.some.inj ha)
      exact th_nt n2 (tk q hq)
    have n13 := n2.trans (KT.nt tb2 k3)
    have sm3 := sm_kt tb2 (sm1.same s2) k3
    have ep2 := s2 _ _ ep
    have ep3 := n13 _ _ (by simp) ep
    rw [RenD_dic ep2] at res
    have er : renP H2 (.ref p) wd = rew kvs wd.ps := by
      unfold renP
      simp only [ep2]
    rw [er] at res
    have kH3 : ∀ c o, c ≠ b → c ≠ Pt → H c = some o → H3 c = some o := fun c o nb nP h => k3.keep c o nP (s2 _ _ (kb1 c o nb h))
    have nbP : b ≠ Pt := by
      obtain ⟨_, _, _, q, _⟩ := hB
      exact ne_tab tb q (by simp)
    have B3 : Bx b (n + 80) H3 := by
      obtain ⟨a1, a2, a3, q, r⟩ := B1
      exact ⟨a1, a2, a3, n13 _ _ (by simp) q, r⟩
    obtain ⟨pu, xu, rfl, hu⟩ := du
    obtain ⟨pr, xr, rfl, hr'⟩ := res
    have Dd3 := dq_nt n13 Dd
    cases hd : reD kvs [] wd.ps with
    | some d =>
      obtain ⟨t, y⟩ := d
      rw [hd] at hu hr'
      obtain ⟨hu1, rfl⟩ := hu
      obtain ⟨hr1, rfl⟩ := hr'
      have hu3 := KT.nt tb2 k3 _ _ (by simp) hu1
      obtain ⟨p', hp', ey⟩ := reD_some hd
      have wy := nv_wf wf (ok.nm p' hp').1
      rw [← ey] at wy
      obtain ⟨c, q, sc⟩ := wy.dq (K := K) (Nat.le_refl 1)
      have q3 := dq_nt ((hide_nt p H1).trans n13) q
      obtain ⟨r1, r2, r3⟩ := (sb_told (t := t) sc).rep (by decide) (by decide)
      have Du : Dq K H3 (.ref pu) (.tuple [.str (Str.ofString t.s), c]) := .tup (SqT.of hu3) (.cons (.str _) (.cons q3 .nil))
      have Dr : Dq K H3 (.ref pr) (.tuple [.str (Str.ofString t.s), c]) := .tup (SqT.of hr1) (.cons (.str _) (.cons q3 .nil))
      refine ⟨_, _, rfl, sm3, Dr, r1, r2, r3, _, rfl, _, _, rfl, sm3, Du, r1, r2, r3, rfl, _, rfl, ifF (by rw [decide_eq_true rfl]; rfl) ?_⟩
      refine ⟨_, rfl, _, _, rfl, sm3, Dd3, m1, m2, m3, _, rfl, rfl, _, rfl, ifF (by rw [decide_eq_true rfl]; rfl) ?_⟩
      refine ⟨_, rfl, pu, _, 0, _, rfl, rfl, SqT.of hu3, rfl, rfl, _, rfl, ifF (by rcases reD_tag hd with rfl | rfl <;> rfl) ?_⟩
      have kH := kH3
      have BX := B3
      have tbX := k3.tab
      have smX := sm3
      have LX := hL1.nt n13
      clear kH3 B3 sm3 Dd3 Du Dr hu1 hr1 hu3 q q3 r1 r2 r3 m1 m2 m3 k3 n13 sc
      generalize H3 = HX at *
      simp only [List.set_cons_succ, List.set_cons_zero]
      refine ⟨Nat.zero_le _, fun a1 h1 => ?_⟩
      have q1 := same_alloc (o := .lst []) h1
      have e1 : upd HX a1 (.lst []) a1 = some (.lst []) := upd_same
      have b1 := BX.alloc (o := .lst []) h1
      generalize upd HX a1 (.lst []) = X1 at q1 e1 b1 ⊢
      refine ⟨Nat.zero_le _, fun a2 h2 => ?_⟩
      have q2 := same_alloc (o := .tup []) h2
      have e2 : upd X1 a2 (.tup []) a2 = some (.tup []) := upd_same
      have b2 := b1.alloc (o := .tup []) h2
      generalize upd X1 a2 (.tup []) = X2 at q2 e2 b2 ⊢
      refine ⟨two_line, fun a3 h3 => ?_⟩
      have q3 := same_alloc (o := .tup [V.str "a", .str "b"]) h3
      have e3 : upd X2 a3 (.tup [V.str "a", .str "b"]) a3 = some (.tup [V.str "a", .str "b"]) := upd_same
      have b3 := b2.alloc (o := .tup [V.str "a", .str "b"]) h3
      generalize upd X2 a3 (.tup [V.str "a", .str "b"]) = X3 at q3 e3 b3 ⊢
      refine ⟨one_line, fun a4 h4 => ?_⟩
      have q4 := same_alloc (o := .lst [V.ref a3]) h4
      have e4 : upd X3 a4 (.lst [V.ref a3]) a4 = some (.lst [V.ref a3]) := upd_same
      have b4 := b3.alloc (o := .lst [V.ref a3]) h4
      generalize upd X3 a4 (.lst [V.ref a3]) = X4 at q4 e4 b4 ⊢
      refine ⟨(by show 7 ≤ sizeLine; decide), fun a5 h5 => ?_⟩
      generalize htl : [V.non, V.ref a1, V.ref a2, V.str (Str.ofString "a"), V.int 5, V.bl true, V.ref a4] = tl_
      have tl7 : tl_.length = 7 := by rw [← htl]; rfl
      have q5 := same_alloc (o := .lst tl_) h5
      have e5 : upd X4 a5 (.lst tl_) a5 = some (.lst tl_) := upd_same
      have b5 := b4.alloc (o := .lst tl_) h5
      have n5 := b4.fresh h5
      generalize upd X4 a5 (.lst tl_) = X5 at q5 e5 b5 ⊢
      refine ⟨_, rfl, pickI b5 (by omega) (by rw [tl7]; rfl) (by omega) (by omega) e5 n5 fun y X6 hy k6 b6 => ?_⟩
      have qq := (((q1.trans q2).trans q3).trans q4).trans q5
      have kX6 : KB b HX X6 := KB.trans (fun c o _ h => qq _ _ h) k6
      have wy : Wf (fun c => c ≠ b) X6 2 2 y := by
        rw [← htl] at hy
        simp only [List.mem_cons, List.not_mem_nil, or_false] at hy
        have c1 : X6 a1 = some (.lst []) := k6 _ _ (BX.fresh h1) (q5 _ _ (q4 _ _ (q3 _ _ (q2 _ _ e1))))
        have c2 : X6 a2 = some (.tup []) := k6 _ _ (b1.fresh h2) (q5 _ _ (q4 _ _ (q3 _ _ e2)))
        have c3 : X6 a3 = some (.tup [V.str "a", .str "b"]) := k6 _ _ (b2.fresh h3) (q5 _ _ (q4 _ _ e3))
        have c4 : X6 a4 = some (.lst [V.ref a3]) := k6 _ _ (b3.fresh h4) (q5 _ _ e4)
        rcases hy with rfl | rfl | rfl | rfl | rfl | rfl | rfl
        · exact .non _
        · exact .lst a1 [] 1 c1 (BX.fresh h1) (Nat.zero_le _) fun x hx => by cases hx
        · exact .tup a2 [] 1 c2 (Nat.zero_le _) fun x hx => by cases hx
        · exact .str _ (good_of _) (by decide) _
        · exact .int _ (by decide) _
        · exact .bl _ _
        · exact .lst a4 [V.ref a3] 1 c4 (b3.fresh h4) (by show 1 ≤ 2; decide) fun x hx => by
            rw [List.mem_singleton.mp hx]
            exact .tup a3 [V.str "a", .str "b"] 0 c3 (Nat.le_refl 2) fun z hz => by
              simp only [List.mem_cons, List.not_mem_nil, or_false] at hz
              rcases hz with rfl | rfl <;> exact .str _ (good_of _) (by decide) _
      have ny : ∀ a kv, y = .ref a → X6 a ≠ some (.dK kv) := fun a kv ey ea => by
        rw [← htl] at hy
        simp only [List.mem_cons, List.not_mem_nil, or_false] at hy
        have c1 : X6 a1 = some (.lst []) := k6 _ _ (BX.fresh h1) (q5 _ _ (q4 _ _ (q3 _ _ (q2 _ _ e1))))
        have c2 : X6 a2 = some (.tup []) := k6 _ _ (b1.fresh h2) (q5 _ _ (q4 _ _ (q3 _ _ e2)))
        have c4 : X6 a4 = some (.lst [V.ref a3]) := k6 _ _ (b3.fresh h4) (q5 _ _ e4)
        rw [ey] at hy
        rcases hy with h | h | h | h | h | h | h
        · cases h
        · cases h
          rw [c1] at ea
          cases ea
        · cases h
          rw [c2] at ea
          cases ea
        · cases h
        · cases h
        · cases h
        · cases h
          rw [c4] at ea
          cases ea
      have sm6 := sm_kb BX smX kX6
      have tb6 := tab_kb BX tbX kX6
      have L6 := line_kb BX LX kX6
      obtain ⟨c, q, sc⟩ := wy.dq (K := K) (by decide)
      have Sc : Sb (.tuple [.str "name", c]) 3 2000 := (sb_tuple (k := 2) (m := 500) (ds := [.str "name", c]) fun d hd => by
        simp only [List.mem_cons, List.not_mem_nil, or_false] at hd
        rcases hd with rfl | rfl
        · exact (sb_str (m := 6) (good_of _) (by decide)).mono (by decide) (by decide)
        · exact sc.mono (Nat.le_refl _) (by decide)).mono (Nat.le_refl _) (by show 2 * 501 ≤ 2000; decide)
      obtain ⟨r1, r2, r3⟩ := Sc.rep (by decide) (by decide)
      clear sc Sc
      have hdn : RenD X6 y wd = some (.name, y) := by
        unfold RenD
        cases y with
        | ref a =>
          cases e : X6 a with
          | none => simp only [e]
          | some o =>
            cases o with
            | dK kv => exact absurd e (ny a kv rfl)
            | _ => simp only [e]
        | _ => rfl
      simp only [List.set_cons_succ, List.set_cons_zero]
      refine ⟨_, rfl, _, rfl, x, y, wd, rfl, L6, ok, tb6, wy.th, fun a kv ea ha => absurd ha (ny a kv ea), fun X7 u7 k7 res7 => ?_⟩
      rw [hdn] at res7
      obtain ⟨p7, x7, rfl, h7, rfl⟩ := res7
      have n67 := KT.nt tb6 k7
      have sm7 := sm_kt tb6 sm6 k7
      have q7 := dq_nt n67 q
      refine ⟨_, _, rfl, sm7, .tup (SqT.of h7) (.cons (.str _) (.cons q7 .nil)), r1, r2, r3, ?_⟩
      refine ⟨_, rfl, two_line, fun p8 hp8 => ?_⟩
      have s8 := same_alloc (o := .tup [V.str "name", y]) hp8
      refine ⟨_, _, rfl, sm7.same s8, .tup (SqT.of upd_same) (.cons (.str _) (.cons (dq_nt (same_nt s8) q7) .nil)), r1, r2, r3, rfl, ?_⟩
      show Q (.bl (decide (_ = _))) _
      rw [decide_eq_true (show V.str (PyData.tuple [.str (Str.ofString Tag.name.s), c]).shown = V.str (PyData.tuple [.str "name", c]).shown from rfl)]
      have B7 : Bx b (n + 100) X7 := by
        obtain ⟨z1, z2, z3, z, r⟩ := b6.mono (m := n + 100) (by omega)
        exact ⟨z1, z2, z3, k7.keep _ _ nbP z, r⟩
      refine k _ (fun c o nb nP h => s8 _ _ (k7.keep c o nP (kX6 c o nb (kH c o nb nP h)))) (B7.alloc hp8) ?_
      exact (same_kt k7.tab s8).tab
    | none =>
      rw [hd] at hu hr'
      obtain ⟨hu1, du1⟩ := hu
      obtain ⟨hr1, dr1⟩ := hr'
      obtain ⟨sp', ok'⟩ := re_ok ok hd
      have hu3 := KT.nt tb2 k3 _ _ (by simp) hu1
      have du3 := dp_nt (KT.nt tb2 k3) du1
      have smt := sm_told ok' (lo_small ok')
      obtain ⟨r1, r2, r3⟩ := (sm_tolds smt).rep (by decide) (by decide)
      have Du : Dq K H3 (.ref pu) (.tuple [.str "told", toldD ⟨rew kvs wd.ps, wd.st, wd.lo, sp'⟩]) := Dq.of (.tup (SqT.of hu3) (.cons (.str _) (.cons du3 .nil)))
      have Dr : Dq K H3 (.ref pr) (.tuple [.str "told", toldD ⟨rew kvs wd.ps, wd.st, wd.lo, sp'⟩]) := Dq.of (.tup (SqT.of hr1) (.cons (.str _) (.cons dr1 .nil)))
      generalize PyData.tuple [.str "told", toldD ⟨rew kvs wd.ps, wd.st, wd.lo, sp'⟩] = dt at r1 r2 r3 Du Dr
      refine ⟨_, _, rfl, sm3, Dr, r1, r2, r3, _, rfl, _, _, rfl, sm3, Du, r1, r2, r3, rfl, _, rfl, ifF (by rw [decide_eq_true rfl]; rfl) ?_⟩
      refine ⟨_, rfl, _, _, rfl, sm3, Dd3, m1, m2, m3, _, rfl, rfl, _, rfl, ifF (by rw [decide_eq_true rfl]; rfl) ?_⟩
      refine ⟨_, rfl, pu, _, 0, _, rfl, rfl, SqT.of hu3, rfl, rfl, _, rfl, ifT rfl ?_⟩
      have L3 := hL1.nt n13
      obtain ⟨dx, p1, p2, p3, d, xs1, xs2, xs3, hx, _⟩ := id L3
      simp only [List.set_cons_succ, List.set_cons_zero]
      refine ⟨_, rfl, x, dx, _, rfl, hx, lf_no _ _ _ _ (by decide +kernel), _, rfl, x, .ref p, wd, rfl, L3, ok, k3.tab, .dic p ep3, fun a kv ea ha q hq => ?_, fun t u hd' => ?_, fun a kv ea ha hd' y wd' H4 k4 ny e1 e2 e3 ok'' hL' nd => ?_⟩
      · obtain rfl := V.ref.inj ea
        rw [ep3] at ha
        obtain rfl := HO.dK.inj (Option.some.inj ha)
        exact th_nt n13 (tk q hq)
      · rw [RenD_dic ep3, hd] at hd'
        cases hd'
      obtain rfl := V.ref.inj ea
      rw [ep3] at ha
      obtain rfl := HO.dK.inj (Option.some.inj ha)
      have n34 := KT.nt k3.tab k4
      have ep4 := n34 _ _ (by simp) ep3
      have L5 : LineAt K C wd' (upd H4 p (.dK [])) y := line_clear hL' ep4 fun C' dx' fs d' e l z => by
        have := nd C' dx' fs d' e l
        rw [z, ep3] at this
        cases this
      have et : toldD wd' = toldD ⟨rew kvs wd.ps, wd.st, wd.lo, wd.sp⟩ := by
        unfold toldD
        rw [e1, e2, e3]
      have du4 : Dp K H4 xu (toldD wd') := by rw [et]; exact dp_nt n34 du3
      have du5 := dp_off (o := .dK []) ep4 du4
      have hu4 := n34 _ _ (by simp) hu3
      have hu5 : upd H4 p (.dK []) pu = some (.tup [.str "told", xu]) := by rw [upd_ne (ne_of hu4 ep4 (by simp))]; exact hu4
      have kp : ∀ c o, c ≠ b → c ≠ Pt → H c = some o → upd H4 p (.dK []) c = some o := fun c o nb nP h => by
        rw [upd_ne (ne_of_none h np)]
        exact k4.keep c o nP (kH3 c o nb nP h)
      have B5 : Bx b (n + 80) (upd H4 p (.dK [])) := by
        obtain ⟨a1, a2, a3, q, r⟩ := B3
        exact ⟨a1, a2, a3, by rw [upd_ne npb.symm]; exact k4.keep _ _ nbP q, r⟩
      have tb5 : TabG (upd H4 p (.dK [])) Pt := by
        obtain ⟨ps, e, z⟩ := k4.tab
        exact ⟨ps, by rw [upd_ne (ne_of e ep4 (by simp))]; exact e, z⟩
      have sm5 : SmAt (upd H4 p (.dK [])) := by
        obtain ⟨o, e⟩ := sm_kt k3.tab sm3 k4
        exact ⟨o, by rw [upd_ne (ne_of e ep4 (by simp))]; exact e⟩
      have LX5 : LineAt K C wd (upd H4 p (.dK [])) x := by
        obtain ⟨dx0, z1, z2, z3, d0, _, _, _, hx0, _, _, _, _, _, _, kv0, hd0, _⟩ := id hL
        obtain ⟨_, _, _, hbq, _⟩ := hB
        have hx4 := n34 _ _ (by simp) (n13 _ _ (by simp) (kb1 _ _ (ne_of hx0 hbq (by simp)) hx0))
        refine line_clear (L3.nt n34) ep4 fun C' dx' fs d' e l z => ?_
        rw [hx4] at e
        injection Option.some.inj e with _ _ e3
        subst e3
        rw [lf_numbers] at l
        obtain rfl := V.ref.inj (Option.some.inj l)
        rw [z, np] at hd0
        cases hd0
      obtain ⟨dy, y1, y2, y3, y4, _, _, _, hy, _⟩ := id L5
      have smw := sm_told ok'' (lo_small ok'')
      have shw := sm_shaped smw (by decide)
      have eqw := SeqAt.eqv_refl _ smw.lay
      clear smt r1 r2 r3 m1 m2 m3 Du Dr smw
      simp only [List.set_cons_succ, List.set_cons_zero]
      refine ⟨_, rfl, .inr (.inr (.inl ⟨rfl, .inl ⟨_, ep4⟩⟩)), p, kvs, rfl, rfl, ep4, ?_⟩
      generalize upd H4 p (.dK []) = H5 at *
      refine ⟨_, rfl, _, rfl, pu, _, 1, _, rfl, rfl, SqT.of hu5, rfl, y, xu, wd', rfl, L5, du5, ok'', fun H6 s6 => ?_⟩
      refine ⟨_, rfl, iteF ?_⟩
      refine ⟨_, rfl, y, dy, _, rfl, s6 _ _ hy, lf_no _ _ _ _ (by decide +kernel), y, wd', rfl, L5.nt (same_nt s6), fun t7 H7 s7 d7 => ?_⟩
      have s57 := s6.trans s7
      refine ⟨_, rfl, pu, _, 1, _, rfl, rfl, SqT.of (s57 _ _ hu5), rfl, toldD wd', toldD wd', d7, dp_nt (same_nt s57) du5, shw, shw, _, rfl, ?_⟩
      rw [eqw]
      refine iteF ?_
      have kH : ∀ c o, c ≠ b → c ≠ Pt → H c = some o → H7 c = some o := fun c o nb nP h => s57 _ _ (kp c o nb nP h)
      have BX : Bx b (n + 80) H7 := by
        obtain ⟨a1, a2, a3, q, r⟩ := B5
        exact ⟨a1, a2, a3, s57 _ _ q, r⟩
      have tbX := (same_kt tb5 s57).tab
      have smX := sm5.same s57
      have LX := LX5.nt (same_nt s57)
      clear kp B5 tb5 sm5 LX5 du5 du4 du3 du1 dr1 hu5 hu4 hu3 hu1 hr1 ep3 ep4 n13 n34 k3 k4 L5 hL' L3 kH3 B3 sm3 Dd3 shw eqw s57 d7 nd et
      generalize H7 = HX at *
      simp only [List.set_cons_succ, List.set_cons_zero]
      refine ⟨Nat.zero_le _, fun a1 h1 => ?_⟩
      have q1 := same_alloc (o := .lst []) h1
      have e1 : upd HX a1 (.lst []) a1 = some (.lst []) := upd_same
      have b1 := BX.alloc (o := .lst []) h1
      generalize upd HX a1 (.lst []) = X1 at q1 e1 b1 ⊢
      refine ⟨Nat.zero_le _, fun a2 h2 => ?_⟩
      have q2 := same_alloc (o := .tup []) h2
      have e2 : upd X1 a2 (.tup []) a2 = some (.tup []) := upd_same
      have b2 := b1.alloc (o := .tup []) h2
      generalize upd X1 a2 (.tup []) = X2 at q2 e2 b2 ⊢
      refine ⟨two_line, fun a3 h3 => ?_⟩
      have q3 := same_alloc (o := .tup [V.str "a", .str "b"]) h3
      have e3 : upd X2 a3 (.tup [V.str "a", .str "b"]) a3 = some (.tup [V.str "a", .str "b"]) := upd_same
      have b3 := b2.alloc (o := .tup [V.str "a", .str "b"]) h3
      generalize upd X2 a3 (.tup [V.str "a", .str "b"]) = X3 at q3 e3 b3 ⊢
      refine ⟨one_line, fun a4 h4 => ?_⟩
      have q4 := same_alloc (o := .lst [V.ref a3]) h4
      have e4 : upd X3 a4 (.lst [V.ref a3]) a4 = some (.lst [V.ref a3]) := upd_same
      have b4 := b3.alloc (o := .lst [V.ref a3]) h4
      generalize upd X3 a4 (.lst [V.ref a3]) = X4 at q4 e4 b4 ⊢
      refine ⟨(by show 7 ≤ sizeLine; decide), fun a5 h5 => ?_⟩
      generalize htl : [V.non, V.ref a1, V.ref a2, V.str (Str.ofString "a"), V.int 5, V.bl true, V.ref a4] = tl_
      have tl7 : tl_.length = 7 := by rw [← htl]; rfl
      have q5 := same_alloc (o := .lst tl_) h5
      have e5 : upd X4 a5 (.lst tl_) a5 = some (.lst tl_) := upd_same
      have b5 := b4.alloc (o := .lst tl_) h5
      have n5 := b4.fresh h5
      generalize upd X4 a5 (.lst tl_) = X5 at q5 e5 b5 ⊢
      refine ⟨_, rfl, pickI b5 (by omega) (by rw [tl7]; rfl) (by omega) (by omega) e5 n5 fun y X6 hy k6 b6 => ?_⟩
      have qq := (((q1.trans q2).trans q3).trans q4).trans q5
      have kX6 : KB b HX X6 := KB.trans (fun c o _ h => qq _ _ h) k6
      have wy : Wf (fun c => c ≠ b) X6 2 2 y := by
        rw [← htl] at hy
        simp only [List.mem_cons, List.not_mem_nil, or_false] at hy
        have c1 : X6 a1 = some (.lst []) := k6 _ _ (BX.fresh h1) (q5 _ _ (q4 _ _ (q3 _ _ (q2 _ _ e1))))
        have c2 : X6 a2 = some (.tup []) := k6 _ _ (b1.fresh h2) (q5 _ _ (q4 _ _ (q3 _ _ e2)))
        have c3 : X6 a3 = some (.tup [V.str "a", .str "b"]) := k6 _ _ (b2.fresh h3) (q5 _ _ (q4 _ _ e3))
        have c4 : X6 a4 = some (.lst [V.ref a3]) := k6 _ _ (b3.fresh h4) (q5 _ _ e4)
        rcases hy with rfl | rfl | rfl | rfl | rfl | rfl | rfl
        · exact .non _
        · exact .lst a1 [] 1 c1 (BX.fresh h1) (Nat.zero_le _) fun x hx => by cases hx
        · exact .tup a2 [] 1 c2 (Nat.zero_le _) fun x hx => by cases hx
        · exact .str _ (good_of _) (by decide) _
        · exact .int _ (by decide) _
        · exact .bl _ _
        · exact .lst a4 [V.ref a3] 1 c4 (b3.fresh h4) (by show 1 ≤ 2; decide) fun x hx => by
            rw [List.mem_singleton.mp hx]
            exact .tup a3 [V.str "a", .str "b"] 0 c3 (Nat.le_refl 2) fun z hz => by
              simp only [List.mem_cons, List.not_mem_nil, or_false] at hz
              rcases hz with rfl | rfl <;> exact .str _ (good_of _) (by decide) _
      have ny : ∀ a kv, y = .ref a → X6 a ≠ some (.dK kv) := fun a kv ey ea => by
        rw [← htl] at hy
        simp only [List.mem_cons, List.not_mem_nil, or_false] at hy
        have c1 : X6 a1 = some (.lst []) := k6 _ _ (BX.fresh h1) (q5 _ _ (q4 _ _ (q3 _ _ (q2 _ _ e1))))
        have c2 : X6 a2 = some (.tup []) := k6 _ _ (b1.fresh h2) (q5 _ _ (q4 _ _ (q3 _ _ e2)))
        have c4 : X6 a4 = some (.lst [V.ref a3]) := k6 _ _ (b3.fresh h4) (q5 _ _ e4)
        rw [ey] at hy
        rcases hy with h | h | h | h | h | h | h
        · cases h
        · cases h
          rw [c1] at ea
          cases ea
        · cases h
          rw [c2] at ea
          cases ea
        · cases h
        · cases h
        · cases h
        · cases h
          rw [c4] at ea
          cases ea
      have sm6 := sm_kb BX smX kX6
      have tb6 := tab_kb BX tbX kX6
      have L6 := line_kb BX LX kX6
      obtain ⟨c, q, sc⟩ := wy.dq (K := K) (by decide)
      have Sc : Sb (.tuple [.str "name", c]) 3 2000 := (sb_tuple (k := 2) (m := 500) (ds := [.str "name", c]) fun d hd => by
        simp only [List.mem_cons, List.not_mem_nil, or_false] at hd
        rcases hd with rfl | rfl
        · exact (sb_str (m := 6) (good_of _) (by decide)).mono (by decide) (by decide)
        · exact sc.mono (Nat.le_refl _) (by decide)).mono (Nat.le_refl _) (by show 2 * 501 ≤ 2000; decide)
      obtain ⟨r1, r2, r3⟩ := Sc.rep (by decide) (by decide)
      clear sc Sc
      have hdn : RenD X6 y wd = some (.name, y) := by
        unfold RenD
        cases y with
        | ref a =>
          cases e : X6 a with
          | none => simp only [e]
          | some o =>
            cases o with
            | dK kv => exact absurd e (ny a kv rfl)
            | _ => simp only [e]
        | _ => rfl
      simp only [List.set_cons_succ, List.set_cons_zero]
      refine ⟨_, rfl, _, rfl, x, y, wd, rfl, L6, ok, tb6, wy.th, fun a kv ea ha => absurd ha (ny a kv ea), fun X7 u7 k7 res7 => ?_⟩
      rw [hdn] at res7
      obtain ⟨p7, x7, rfl, h7, rfl⟩ := res7
      have n67 := KT.nt tb6 k7
      have sm7 := sm_kt tb6 sm6 k7
      have q7 := dq_nt n67 q
      refine ⟨_, _, rfl, sm7, .tup (SqT.of h7) (.cons (.str _) (.cons q7 .nil)), r1, r2, r3, ?_⟩
      refine ⟨_, rfl, two_line, fun p8 hp8 => ?_⟩
      have s8 := same_alloc (o := .tup [V.str "name", y]) hp8
      refine ⟨_, _, rfl, sm7.same s8, .tup (SqT.of upd_same) (.cons (.str _) (.cons (dq_nt (same_nt s8) q7) .nil)), r1, r2, r3, rfl, ?_⟩
      show Q (.bl (decide (_ = _))) _
      rw [decide_eq_true (show V.str (PyData.tuple [.str (Str.ofString Tag.name.s), c]).shown = V.str (PyData.tuple [.str "name", c]).shown from rfl)]
      have B7 : Bx b (n + 100) X7 := by
        obtain ⟨z1, z2, z3, z, r⟩ := b6.mono (m := n + 100) (by omega)
        exact ⟨z1, z2, z3, k7.keep _ _ nbP z, r⟩
      refine k _ (fun c o nb nP h => s8 _ _ (k7.keep c o nP (kX6 c o nb (kH c o nb nP h)))) (B7.alloc hp8) ?_
      exact (same_kt k7.tab s8).tab
end
end K6

set_option maxRecDepth 100000
set_option maxHeartbeats 1000000
namespace K6
open PySem PySem.Spec PyProof.Rows L2 GxR Gd TL My HT RT
theorem mir_mir (wd : Wd) : mir (mir wd) = wd := by
  obtain ⟨ps, st, lo, sp⟩ := wd
  unfold mir
  simp only [List.reverse_reverse, List.length_reverse, List.map_reverse, List.map_map, Wd.mk.injEq, true_and, and_true]
  refine ⟨?_, ?_⟩
  · have : ((fun p : Str × Int => (p.1, 1 - p.2)) ∘ fun p : Str × Int => (p.1, 1 - p.2)) = id := by
      funext p
      obtain ⟨a, b⟩ := p
      show (a, 1 - (1 - b)) = (a, b)
      rw [show 1 - (1 - b) = b by omega]
    rw [this, List.map_id]
  · refine (List.map_congr_left (g := id) fun p _ => ?_).trans (List.map_id _)
    obtain ⟨a, b, c⟩ := p
    show ((ps.length : Int) - 1 - ((ps.length : Int) - 1 - a), (ps.length : Int) - 1 - ((ps.length : Int) - 1 - b), 1 - (1 - c)) = (a, b, c)
    rw [show (ps.length : Int) - 1 - ((ps.length : Int) - 1 - a) = a by omega, show (ps.length : Int) - 1 - ((ps.length : Int) - 1 - b) = b by omega, show 1 - (1 - c) = c by omega]
theorem nw_hide {H0 H : Hp} {L : Addr} (h : H0 L ≠ none) : Nt (nw H0 H) (hide L H) := fun c o _ e => by
  obtain ⟨h1, h2⟩ := nw_some e
  rw [hide_ne (fun q : c = L => h (by rw [← q]; exact h1))]
  exact h2
theorem line_meth {K : PySem.W.Frag} {C : Addr} {wd : Wd} {H : Hp} {x : Addr} {m : Str} (h : LineAt K C wd H x) (hm : (decide (m = "_numbers") || decide (m = "_longs") || decide (m = "_stretches") || decide (m = "_places")) = false) : ∃ dx fs, H x = some (.ins C dx fs) ∧ fs.lookup m = none := by
  obtain ⟨dx, p1, p2, p3, d, _, _, _, hx, _⟩ := h
  exact ⟨dx, _, hx, lf_no _ _ _ _ hm⟩
structure LS (K : PySem.W.Frag) (C Pt b x y W : Addr) (wd : Wd) (m : Int) (H1 H' : Hp) : Prop where
  lx : LineAt K C wd H' x
  ly : LineAt K C (mir wd) H' y
  dw : Dp K (hide b H') (.ref W) wd.data
  bx : Bx b m H'
  sm : SmAt H'
  kt : KT Pt H1 H'
theorem LS.go {K : PySem.W.Frag} {C Pt b x y W : Addr} {wd : Wd} {m : Int} {H1 A B : Hp} (h : LS K C Pt b x y W wd m H1 A) (k : KT Pt A B) : LS K C Pt b x y W wd m H1 B :=
  have n := KT.nt h.kt.tab k
  ⟨h.lx.nt n, h.ly.nt n, dp_nt (hide_mono n) h.dw, by
    obtain ⟨a1, a2, a3, q, r⟩ := h.bx
    exact ⟨a1, a2, a3, n _ _ (by simp) q, r⟩, sm_kt h.kt.tab h.sm k, h.kt.trans k⟩
theorem LS.same {K : PySem.W.Frag} {C Pt b x y W : Addr} {wd : Wd} {m : Int} {H1 A B : Hp} (h : LS K C Pt b x y W wd m H1 A) (k : Same A B) : LS K C Pt b x y W wd m H1 B := h.go (same_kt h.kt.tab k)
theorem LS.dp {K : PySem.W.Frag} {C Pt b x y W : Addr} {wd : Wd} {m : Int} {H1 A : Hp} (h : LS K C Pt b x y W wd m H1 A) : Dp K A (.ref W) wd.data := dp_nt (hide_nt b A) h.dw
theorem LS.ren {K : PySem.W.Frag} {C Pt b x y W : Addr} {wd : Wd} {m m' : Int} {H1 A B : Hp} (h : LS K C Pt b x y W wd m H1 A) (hb : H1 b = none) (k : ∀ c o, c ≠ b → c ≠ Pt → A c = some o → B c = some o) (bx : Bx b m' B) (tb : TabG B Pt) : LS K C Pt b x y W wd m' H1 B := by
  have bq := h.bx
  obtain ⟨_, _, _, q, _⟩ := id bq
  have nbP : b ≠ Pt := ne_tab h.kt.tab q (by simp)
  -- by way of a heap in which the box stands as it stood
  have n1 : Nt (hide b A) (hide b B) := fun c o no e => by
    obtain ⟨h1, h2⟩ := hide_some e
    rw [hide_ne h1]
    exact k _ _ h1 (ne_tab h.kt.tab h2 no) h2
  have li : ∀ {wd' : Wd} {z : Addr}, LineAt K C wd' A z → LineAt K C wd' B z := fun {wd' z} hz => by
    obtain ⟨dx, p1, p2, p3, d, xs1, xs2, xs3, h1, h2, h3, h4, h5, h6, h7, kvs, h8, h9⟩ := id hz
    refine ((line_hide (notT_lst q) (fun C dx fs e => by rw [q] at e; cases e) (fun C' dx' fs' d' e l => ?_) hz).nt n1).nt (hide_nt b B)
    rw [h1] at e
    injection Option.some.inj e with _ _ e3
    subst e3
    rw [lf_numbers] at l
    obtain rfl := V.ref.inj (Option.some.inj l)
    exact ne_of h8 q (by simp)
  refine ⟨li h.lx, li h.ly, dp_nt n1 h.dw, bx, ?_, ⟨fun c o nc e => k c o (ne_of_none e hb) nc (h.kt.keep c o nc e), tb⟩⟩
  obtain ⟨o, e⟩ := h.sm
  exact ⟨o, hide_nt b B _ _ (by simp) (n1 _ _ (by simp) (by rw [hide_ne (ne_of e q (by simp))]; exact e))⟩
section
variable {P : Program} {w : World} {K : PySem.W.Frag} {mg : Str → Option Value} {base : Heap}
abbrev s_law : Stmt := top 39
theorem sc_law : FnScope ["_law_script", "_law_k", "_law_box_here", "_law_world_here", "_law_line", "_law_turned_here", "_law_turn"] ["_law_script"] (defScope s_law) := ⟨rfl, rfl, rfl, by decide +kernel, rfl, by decide +kernel, by decide +kernel⟩
def spLaw (K : PySem.W.Frag) (Pt : Addr) : Sp := fun vs H Q _ => ∃ (l : Addr) (ns : List Int), vs = [.ref l] ∧ SqL K H l (ns.map V.int) ∧ ns.length ≤ 63 ∧ TabG H Pt ∧ SmAt H ∧ ∀ H', Q (.bl true) H'
theorem ok_law {f fC fB fW fI fA fT fM fU fV fR C Pt : Addr} {fd fdC fdB fdW fdI fdA fdT fdM fdU fdV fdR : FuncData} (F : Fun K "law" "law" s_law f fd) (T : Txt mg) (TC : ClsT K C) (ML : Mk K C fI) (gL : mg "Line" = some (.ref C)) (bI : Binds K fdI ["self", "places", "stretches", "longs"] [])
    (Ginit : FnOk P w K mg base CX0 5 fI fdI ["self", "places", "stretches", "longs"] (spInit K C Pt))
    (Nlaw_cell : Fn K mg "_law_cell" sCell ["_law_script", "_law_k"] fC fdC) (Glaw_cell : FnOk P w K mg base CX0 1 fC fdC ["_law_script", "_law_k"] (spCell K))
    (Nlaw_box : Fn K mg "_law_box" sBox ["_law_cell_here"] fB fdB) (Glaw_box : FnOk P w K mg base CX0 1 fB fdB ["_law_cell_here"] spBox)
    (Nlaw_world : Fn K mg "_law_world" s_law_world ["_law_box_here"] fW fdW) (Glaw_world : FnOk P w K mg base CX0 3 fW fdW ["_law_box_here"] (spWorld K))
    (Nlaw_asked_right : Fn K mg "_law_asked_right" s_law_asked_right ["_law_line", "_law_world_here"] fA fdA) (Glaw_askedL : GOk P w K mg base CX0 6 fA fdA ["_law_line", "_law_world_here"] (spAsk K C Wd.data)) (Glaw_askedT : GOk P w K mg base CX0 6 fA fdA ["_law_line", "_law_world_here"] (spAsk K C toldD))
    (Mtold : Mt K C "told" "Line.told" s_told ["self"] fT fdT) (Gtold : FnOk P w K mg base CX0 1 fT fdT ["self"] (spTold K C))
    (Mmirrored : Mt K C "mirrored" "Line.mirrored" s_mirrored ["self"] fM fdM) (Gmirrored : FnOk P w K mg base CX0 7 fM fdM ["self"] (spMirrored K C Pt))
    (Nlaw_told : Fn K mg "_law_told" s_law_told ["_law_world_here"] fU fdU) (Glaw_told : FnOk P w K mg base CX0 1 fU fdU ["_law_world_here"] (spLawTold K id fun _ => True))
    (Nlaw_turned : Fn K mg "_law_turned" s_law_turned ["_law_world_here"] fV fdV) (Glaw_turned : FnOk P w K mg base CX0 1 fV fdV ["_law_world_here"] (spLawTold K mir Wd.Ok))
    (Nlaw_renamed_right : Fn K mg "_law_renamed_right" s_law_renamed_right ["_law_box_here", "_law_line", "_law_world_here"] fR fdR) (Glaw_renamed_right : GOk P w K mg base CX0 10 fR fdR ["_law_box_here", "_law_line", "_law_world_here"] (spRenRight K C Pt)) :
    GOk P w K mg base CX0 11 f fd ["_law_script"] (spLaw K Pt) := by
  refine gok F sc_law (fun vs H Q E h => ?_) (fun cdv A outer s H vs Q E gd hr h => ?_)
  · obtain ⟨l, ns, rfl, _⟩ := h
    rfl
  · obtain ⟨l, ns, rfl, hS, hlen, hT, sm, k⟩ := h
    have hu := hr.units
    refine ⟨_, pss_cons (ps_for PassesOwn.never rfl (pi_range1 (by rfl) T.range_ (pa_cons (pe_callB (call_max2 rfl) (by rfl) T.max_ (by decide +kernel) (pa_cons pe_int (pa_cons (pe_callB (call_min2 rfl) (by rfl) T.min_ (by decide +kernel) (pa_cons pe_int (pa_cons (pe_callB call_len_seq (by rfl) T.len_ PySem.boot_len (pa_cons (pv 0) pa_nil)) pa_nil))) pa_nil))) pa_nil)) (pg_name (i := 1) sc_law.nd rfl (Or.inl rfl)) (pss_cons (ps_set (i := 2) sc_law.nd rfl (Or.inl rfl) (pe_call Glaw_box (hr.mono (by decide)) (by rfl) Nlaw_box.g Nlaw_box.kp Nlaw_box.b .nil pass0 (pa_cons (pe_call Glaw_cell (hr.mono (by decide)) (by rfl) Nlaw_cell.g Nlaw_cell.kp Nlaw_cell.b .nil pass0 (pa_cons (pv 0) (pa_cons (pv 1) pa_nil))) pa_nil)))
          (pss_cons (ps_set (i := 3) sc_law.nd rfl (Or.inl rfl) (pe_call Glaw_world (hr.mono (by decide)) (by rfl) Nlaw_world.g Nlaw_world.kp Nlaw_world.b .nil pass0 (pa_cons (pv 2) pa_nil)))
          (pss_cons (ps_set (i := 4) sc_law.nd rfl (Or.inl rfl) (pe_make ML Ginit (hr.mono (by decide)) (by rfl) gL bI .nil pass0 (pa_cons (pe_ix (ixL (K := K) rfl) (pv 3) pe_int (fun _ _ => rfl)) (pa_cons (pe_ix (ixL (K := K) rfl) (pv 3) pe_int (fun _ _ => rfl)) (pa_cons (pe_ix (ixL (K := K) rfl) (pv 3) pe_int (fun _ _ => rfl)) pa_nil)))))
          (pss_cons (ps_set (i := 5) sc_law.nd rfl (Or.inl rfl) (pe_meth0 (pv 4) TC.cl Mmirrored.m Gmirrored (hr.mono (by decide)) Mmirrored.b .nil pass0))
          (pss_cons (ps_if (PW.pt (pw_or (pt_not (pt_val (pe_gcall gd Glaw_askedT (hr.mono (by decide)) (by rfl) Nlaw_asked_right.g Nlaw_asked_right.kp Nlaw_asked_right.b .nil pass0 (pa_cons (pv 5) (pa_cons (pe_call Glaw_turned (hr.mono (by decide)) (by rfl) Nlaw_turned.g Nlaw_turned.kp Nlaw_turned.b .nil pass0 (pa_cons (pv 3) pa_nil)) pa_nil))))) (pw_or1 (pt_not (pt_val (pe_gcall gd Glaw_askedL (hr.mono (by decide)) (by rfl) Nlaw_asked_right.g Nlaw_asked_right.kp Nlaw_asked_right.b .nil pass0 (pa_cons (pv 4) (pa_cons (pv 3) pa_nil)))))))) (pss_one (ps_ret pe_bl)) pss_nil)
          (pss_cons (ps_if (PW.pt (pw_or (pt_cmpR op_ne (pe_callB (call_repr gd hr) (by rfl) T.repr_ (by decide +kernel) (pa_cons (pe_meth0 (pv 5) TC.cl Mtold.m Gtold (hr.mono (by decide)) Mtold.b .nil pass0) pa_nil)) (pe_callB (call_repr gd hr) (by rfl) T.repr_ (by decide +kernel) (pa_cons (pe_call Glaw_turned (hr.mono (by decide)) (by rfl) Nlaw_turned.g Nlaw_turned.kp Nlaw_turned.b .nil pass0 (pa_cons (pv 3) pa_nil)) pa_nil)) (nomark _)) (pw_or1 (pt_cmpR (neDK (K := K) rfl hu) (pe_meth0 (pe_meth0 (pv 5) TC.cl Mmirrored.m Gmirrored (hr.mono (by decide)) Mmirrored.b .nil pass0) TC.cl Mtold.m Gtold (hr.mono (by decide)) Mtold.b .nil pass0) (pe_call Glaw_told (hr.mono (by decide)) (by rfl) Nlaw_told.g Nlaw_told.kp Nlaw_told.b .nil pass0 (pa_cons (pv 3) pa_nil)) (nomark _))))) (pss_one (ps_ret pe_bl)) pss_nil)
          (pss_cons (ps_for PassesOwn.never rfl (pi_range1 (by rfl) T.range_ (pa_cons pe_int pa_nil)) (pg_name (i := 6) sc_law.nd rfl (Or.inl rfl)) (pss_one (ps_if (PW.pt (pw_or (pt_not (pt_val (pe_gcall gd Glaw_renamed_right (hr.mono (by decide)) (by rfl) Nlaw_renamed_right.g Nlaw_renamed_right.kp Nlaw_renamed_right.b .nil pass0 (pa_cons (pv 2) (pa_cons (pv 4) (pa_cons (pv 3) pa_nil)))))) (pw_or1 (pt_cmpR (neDK (K := K) rfl hu) (pe_meth0 (pv 4) TC.cl Mtold.m Gtold (hr.mono (by decide)) Mtold.b .nil pass0) (pe_call Glaw_told (hr.mono (by decide)) (by rfl) Nlaw_told.g Nlaw_told.kp Nlaw_told.b .nil pass0 (pa_cons (pv 3) pa_nil)) (nomark _))))) (pss_one (ps_ret pe_bl)) pss_nil)))
          (pss_cons (ps_if (PW.pt (pw_or (pt_cmpR (neDK (K := K) rfl hu) (pe_meth0 (pv 5) TC.cl Mtold.m Gtold (hr.mono (by decide)) Mtold.b .nil pass0) (pe_call Glaw_turned (hr.mono (by decide)) (by rfl) Nlaw_turned.g Nlaw_turned.kp Nlaw_turned.b .nil pass0 (pa_cons (pv 3) pa_nil)) (nomark _)) (pw_or1 (pt_cmpR (neDK (K := K) rfl hu) (pe_meth0 (pe_meth0 (pv 4) TC.cl Mmirrored.m Gmirrored (hr.mono (by decide)) Mmirrored.b .nil pass0) TC.cl Mtold.m Gtold (hr.mono (by decide)) Mtold.b .nil pass0) (pe_meth0 (pv 5) TC.cl Mtold.m Gtold (hr.mono (by decide)) Mtold.b .nil pass0) (nomark _))))) (pss_one (ps_ret pe_bl)) pss_nil)
          (pss_one (ps_if (PW.pt (pw_or (pt_not (pt_val (pe_gcall gd Glaw_askedL (hr.mono (by decide)) (by rfl) Nlaw_asked_right.g Nlaw_asked_right.kp Nlaw_asked_right.b .nil pass0 (pa_cons (pv 4) (pa_cons (pv 3) pa_nil))))) (pw_or1 (pt_not (pt_val (pe_gcall gd Glaw_askedL (hr.mono (by decide)) (by rfl) Nlaw_asked_right.g Nlaw_asked_right.kp Nlaw_asked_right.b .nil pass0 (pa_cons (pe_meth0 (pv 5) TC.cl Mmirrored.m Gmirrored (hr.mono (by decide)) Mmirrored.b .nil pass0) (pa_cons (pv 3) pa_nil)))))))) (pss_one (ps_ret pe_bl)) pss_nil)))))))))))
      (pss_one (ps_ret pe_bl)), ?_⟩
    generalize hσ : L2.start _ _ = σ0
    obtain rfl : σ0 = [some (.ref l), none, none, none, none, none, none] := hσ.symm.trans rfl
    refine ⟨_, rfl, l, _, rfl, .inl hS, _, _, rfl, _, _, rfl, ?_⟩
    obtain ⟨N, hN, N2, N10⟩ : ∃ N : Nat, (if (if (((ns.map V.int).length : Nat) : Int) < 10 then (((ns.map V.int).length : Nat) : Int) else 10) > 2 then (if (((ns.map V.int).length : Nat) : Int) < 10 then (((ns.map V.int).length : Nat) : Int) else 10) else 2) = (N : Int) ∧ 2 ≤ N ∧ N ≤ 10 := by
      rw [List.length_map]
      refine ⟨max 2 (min 10 ns.length), ?_, by omega, by omega⟩
      split <;> split <;> omega
    rw [hN]
    refine ⟨_, rfl, by omega, by omega, ?_⟩
    rw [Int.toNat_natCast]
    refine for_range (lo := 0) (n := N) (fun i σ H' => ∃ v1 v2 v3 v4 v5 v6 : Option V, σ = [some (.ref l), v1, v2, v3, v4, v5, v6] ∧ KT Pt H H') ⟨_, _, _, _, _, _, rfl, KT.refl hT⟩ ?_ ?_
    · rintro i σ H1 hi ⟨v1, v2, v3, v4, v5, v6, rfl, k1⟩
      have hS1 := seq_kt hT k1 hS
      refine ⟨_, rfl, _, rfl, l, ns, i, ?_, hS1, fun c => ?_⟩
      · show [V.ref l, V.int (0 + (i : Int))] = [V.ref l, V.int i]
        rw [Int.zero_add]
      refine ⟨c, rfl, fun b H2 fb off2 B2 => ?_⟩
      refine ⟨_, rfl, b, 0, rfl, B2, by omega, fun wd v H3 ok k3 hD B3 => ?_⟩
      have kk : KT Pt H1 H3 := KT.box k1.tab fb off2 k3
      have hb2 : H2 b ≠ none := by
        obtain ⟨_, _, _, q, _⟩ := B2
        rw [q]
        simp
      have hDh := dp_nt (nw_hide (H := H3) hb2) (Dr.dp (K := K) hD)
      have k13 := k1.trans kk
      have tab3 := kk.tab
      have sm3 : SmAt H3 := by
        obtain ⟨o, e⟩ := sm
        exact ⟨o, k13.keep _ _ (ne_tab hT e (by simp)) e⟩
      have hDk := hDh
      obtain ⟨wa, vp, vs_, vl, vu, rfl, hw, hp, hs, hl, hu4⟩ := dp_four hDh
      obtain rfl := dp_str hu4
      obtain ⟨ap, xp, rfl, hap, dap⟩ := dp_list hp
      obtain ⟨as_, xs, rfl, has, das⟩ := dp_list hs
      obtain ⟨al, xl, rfl, hal, dal⟩ := dp_list hl
      have hn : Nt (hide b H3) H3 := hide_nt b H3
      refine ⟨_, rfl, wa, _, 0, .ref ap, rfl, rfl, hn.seq hw, rfl, _, rfl, wa, _, 1, .ref as_, rfl, rfl, hn.seq hw, rfl, _, rfl, wa, _, 2, .ref al, rfl, rfl, hn.seq hw, rfl, fun x dx hx0 hdx ne => ?_⟩
      have s34 : Same H3 (upd (upd H3 dx (.own x)) x (.ins C dx [])) := (same_alloc hdx).trans (same_alloc (by rw [upd_ne ne.symm]; exact hx0))
      have e4 := hn.trans (same_nt s34)
      refine ⟨x, dx, ap, as_, .ref al, xp, xs, wd, rfl, upd_same, .inl (e4.seq hap), dpAll_nt e4 dap, .inl (e4.seq has), dpAll_nt e4 das, .inr ⟨al, xl, rfl, .inl (e4.seq hal), dpAll_nt e4 dal⟩, ok, (same_kt tab3 s34).tab, fun H5 ki hLine _ => ⟨rfl, ?_⟩⟩
      have k35 : KT Pt H3 H5 := ⟨fun c o n h => ki.keep c o (ne_of_none h hx0) n (s34 c o h), ki.tab⟩
      have h35 : Nt (hide b H3) (hide b H5) := hide_mono (KT.nt tab3 k35)
      have B5 : Bx b 100 H5 := by
        obtain ⟨a1, a2, a3, q, r⟩ := B3
        exact ⟨a1, a2, a3, KT.nt tab3 k35 _ _ (by simp) q, r⟩
      have D5 := dp_nt h35 hDk
      have sm5 := sm_kt tab3 sm3 k35
      have k5 := kk.trans k35
      clear hDh hDk hw hp hs hl hap has hal dap das dal hn e4 s34 k35 h35 B3 B2 off2 k3 hD kk tab3 k13 sm3 hu4 ki
      obtain ⟨dx', p1, p2, p3, d, _, _, _, hx, _⟩ := id hLine
      simp only [List.set_cons_succ, List.set_cons_zero]
      have no1 : (lf p1 p2 p3 d).lookup (Str.ofString "mirrored") = none := lf_no _ _ _ _ (by decide +kernel)
      have no2 : (lf p1 p2 p3 d).lookup (Str.ofString "told") = none := lf_no _ _ _ _ (by decide +kernel)
      refine ⟨_, rfl, x, dx', _, rfl, hx, no1, x, wd, rfl, hLine, ok, k5.tab, fun y H6 k6 _ hyL => ?_⟩
      have n6 := KT.nt k5.tab k6
      have ls : LS K C Pt b x y wa wd 100 H1 H6 := LS.go (A := H6) ⟨hLine.nt n6, hyL, dp_nt (hide_mono n6) D5, by
        obtain ⟨a1, a2, a3, q, r⟩ := B5
        exact ⟨a1, a2, a3, n6 _ _ (by simp) q, r⟩, sm_kt k5.tab sm5 k6, k5.trans k6⟩ (KT.refl k6.tab)
      have hx6 := n6 _ _ (by simp) hx
      clear k6 n6 D5 B5 sm5 k5 hLine hx
      obtain ⟨dy, y1, y2, y3, y4, _, _, _, hy6, _⟩ := id hyL
      have no3 : (lf y1 y2 y3 y4).lookup (Str.ofString "mirrored") = none := lf_no _ _ _ _ (by decide +kernel)
      have no4 : (lf y1 y2 y3 y4).lookup (Str.ofString "told") = none := lf_no _ _ _ _ (by decide +kernel)
      clear hyL
      have okm := mir_ok ok
      have smw := sm_told ok (lo_small ok)
      have smm := sm_told okm (lo_small okm)
      obtain ⟨m1, m2, m3⟩ := smm.rep (by decide) (by decide)
      have shw := sm_shaped smw (by decide)
      have shm := sm_shaped smm (by decide)
      have eqw := SeqAt.eqv_refl _ smw.lay
      have eqm := SeqAt.eqv_refl _ smm.lay
      have emm := mir_mir wd
      obtain ⟨dm, hdm⟩ : ∃ dm, dm = toldD (mir wd) := ⟨_, rfl⟩
      obtain ⟨dw, hdw⟩ : ∃ dw, dw = toldD wd := ⟨_, rfl⟩
      have cm : ∀ {H' : Hp} {t : Addr}, Dp K H' (.ref t) (.tuple [.tuple ((mir wd).ps.map dP), .tuple ((mir wd).st.map dP), .tuple ((mir wd).lo.map dL)]) → Dp K H' (.ref t) dm := fun h => by rw [hdm]; exact h
      have cw : ∀ {H' : Hp} {t : Addr}, Dp K H' (.ref t) (.tuple [.tuple (wd.ps.map dP), .tuple (wd.st.map dP), .tuple (wd.lo.map dL)]) → Dp K H' (.ref t) dw := fun h => by rw [hdw]; exact h
      have cm2 : ∀ {H' : Hp} {t : Addr}, Dp K H' (.ref t) (toldD (mir wd)) → Dp K H' (.ref t) dm := fun h => by rw [hdm]; exact h
      have cw2 : ∀ {H' : Hp} {t : Addr}, Dp K H' (.ref t) (toldD (id wd)) → Dp K H' (.ref t) dw := fun h => by rw [hdw]; exact h
      rw [← hdm] at m1 m2 m3 shm eqm
      rw [← hdw] at shw eqw
      clear smw smm
      -- what both tell, asked one by one
      refine ⟨_, rfl, _, rfl, .ref wa, wd, rfl, ls.dp, ok, fun t7 H7 s7 d7 => ?_⟩
      have ls7 := ls.same s7
      refine ⟨y, .ref t7, mir wd, rfl, ls7.ly, d7, okm, fun H8 s8 => ⟨_, rfl, iteF ?_⟩⟩
      have ls8 := ls7.same s8
      refine ⟨_, rfl, _, rfl, x, .ref wa, wd, rfl, ls8.lx, ls8.dp, ok, fun H9 s9 => ⟨_, rfl, iteF ?_⟩⟩
      have ls9 := ls8.same s9
      have s69 := (s7.trans s8).trans s9
      have hx9 := s69 _ _ hx6
      have hy9 := s69 _ _ hy6
      clear ls ls7 ls8 s69 s7 s8 s9 hx6 hy6 d7
      have toldX : ∀ {wd' : Wd} {H' : Hp} {z : Addr}, LineAt K C wd' H' z → ∃ dz fs, H' z = some (.ins C dz fs) ∧ fs.lookup (Str.ofString "told") = none := fun h => line_meth h (by decide +kernel)
      have mirX : ∀ {wd' : Wd} {H' : Hp} {z : Addr}, LineAt K C wd' H' z → ∃ dz fs, H' z = some (.ins C dz fs) ∧ fs.lookup (Str.ofString "mirrored") = none := fun h => line_meth h (by decide +kernel)
      have not_ : ∀ {a : Str}, (!decide (V.str a = V.str a)) = false := fun {a} => by rw [decide_eq_true rfl]; rfl
      refine ⟨_, rfl, y, dy, _, rfl, hy9, no4, y, mir wd, rfl, ls9.ly, fun t1 X1 s1 d1 => ⟨_, dm, rfl, cm d1, m1, m2, m3, ?_⟩⟩
      have l1 := ls9.same s1
      refine ⟨_, rfl, .ref wa, wd, rfl, l1.dp, ok, fun t2 X2 s2 d2 => ⟨_, dm, rfl, cm2 d2, m1, m2, m3, rfl, _, rfl, ifF not_ ?_⟩⟩
      have l2 := l1.same s2
      clear m1 m2 m3 d1 d2 l1
      obtain ⟨dz, fz, hz, nz⟩ := mirX l2.ly
      refine ⟨_, rfl, y, dz, fz, rfl, hz, nz, y, mir wd, rfl, l2.ly, okm, l2.kt.tab, fun z3 X3 k3 _ lz => ?_⟩
      rw [emm] at lz
      have l3 := l2.go k3
      clear hz nz dz fz l2
      obtain ⟨dz, fz, hz, nz⟩ := toldX lz
      refine ⟨z3, dz, fz, rfl, hz, nz, z3, wd, rfl, lz, fun t4 X4 s4 d4 => ?_⟩
      have l4 := l3.same s4
      refine ⟨_, rfl, .ref wa, wd, rfl, l4.dp, trivial, fun t5 X5 s5 d5 => ⟨dw, dw, dp_nt (same_nt s5) (cw d4), cw2 d5, shw, shw, _, rfl, ?_⟩⟩
      rw [eqw]
      refine iteF ?_
      have l5 := l4.same s5
      clear hz nz dz fz l3 l4 d4 d5 lz s4 s5 k3
      refine ⟨3, rfl, by decide, by decide, for_range (lo := 0) (n := 3) (fun j σ H' => ∃ v6 : Option V, σ = [some (.ref l), some (.int (0 + (i : Int))), some (.ref b), some (.ref wa), some (.ref x), some (.ref y), v6] ∧ LS K C Pt b x y wa wd (100 + 100 * j) H1 H') ⟨_, rfl, (by rw [show (100 + 100 * ((0 : Nat) : Int)) = 100 from rfl]; exact l5)⟩ ?_ ?_⟩
      · rintro j σ Y1 hj ⟨v6, rfl, e1⟩
        refine ⟨_, rfl, _, rfl, _, rfl, b, x, wa, _, wd, rfl, e1.bx, by omega, e1.lx, e1.dw, ok, e1.kt.tab, e1.sm, fun Y2 kk bb tt => ⟨_, rfl, iteF ?_⟩⟩
        have e2 := e1.ren fb kk (bb.mono (m := 100 + 100 * ((j + 1 : Nat) : Int)) (by push_cast; omega)) tt
        obtain ⟨dz, fz, hz, nz⟩ := toldX e2.lx
        refine ⟨_, rfl, x, dz, fz, rfl, hz, nz, x, wd, rfl, e2.lx, fun t4 Y4 s4 d4 => ?_⟩
        have e4 := e2.same s4
        refine ⟨_, rfl, .ref wa, wd, rfl, e4.dp, trivial, fun t5 Y5 s5 d5 => ⟨dw, dw, dp_nt (same_nt s5) (cw d4), cw2 d5, shw, shw, _, rfl, ?_⟩⟩
        rw [eqw]
        exact iteF ⟨_, rfl, e4.same s5⟩
      · rintro σ Y1 ⟨v6, rfl, e1⟩
        obtain ⟨dz, fz, hz, nz⟩ := toldX e1.ly
        refine ⟨_, rfl, y, dz, fz, rfl, hz, nz, y, mir wd, rfl, e1.ly, fun t2 Y2 s2 d2 => ?_⟩
        have e2 := e1.same s2
        refine ⟨_, rfl, .ref wa, wd, rfl, e2.dp, ok, fun t3 Y3 s3 d3 => ⟨dm, dm, dp_nt (same_nt s3) (cm d2), cm2 d3, shm, shm, _, rfl, ?_⟩⟩
        rw [eqm]
        refine iteF ?_
        have e3 := e2.same s3
        clear hz nz dz fz e2 e1 d2 d3 s2 s3
        obtain ⟨dz, fz, hz, nz⟩ := mirX e3.lx
        refine ⟨_, rfl, x, dz, fz, rfl, hz, nz, x, wd, rfl, e3.lx, ok, e3.kt.tab, fun z4 Y4 k4 _ lz => ?_⟩
        have e4 := e3.go k4
        clear hz nz dz fz
        obtain ⟨dz, fz, hz, nz⟩ := toldX lz
        refine ⟨z4, dz, fz, rfl, hz, nz, z4, mir wd, rfl, lz, fun t5 Y5 s5 d5 => ?_⟩
        have e5 := e4.same s5
        clear hz nz dz fz
        obtain ⟨dz, fz, hz, nz⟩ := toldX e5.ly
        refine ⟨_, rfl, y, dz, fz, rfl, hz, nz, y, mir wd, rfl, e5.ly, fun t6 Y6 s6 d6 => ⟨dm, dm, dp_nt (same_nt s6) (cm d5), cm d6, shm, shm, _, rfl, ?_⟩⟩
        rw [eqm]
        refine iteF ?_
        have e6 := e5.same s6
        clear hz nz dz fz e3 e4 e5 lz d5 d6 s5 s6 k4
        refine ⟨_, rfl, _, rfl, x, .ref wa, wd, rfl, e6.lx, e6.dp, ok, fun Y7 s7 => ⟨_, rfl, iteF ?_⟩⟩
        have e7 := e6.same s7
        obtain ⟨dz, fz, hz, nz⟩ := mirX e7.ly
        refine ⟨_, rfl, y, dz, fz, rfl, hz, nz, y, mir wd, rfl, e7.ly, okm, e7.kt.tab, fun z8 Y8 k8 _ lz => ?_⟩
        rw [emm] at lz
        have e8 := e7.go k8
        exact ⟨_, rfl, z8, .ref wa, wd, rfl, lz, e8.dp, ok, fun Y9 s9 => ⟨_, rfl, iteF ⟨_, _, _, _, _, _, rfl, k1.trans (e8.same s9).kt⟩⟩⟩
    · rintro σ H1 ⟨v1, v2, v3, v4, v5, v6, rfl, _⟩
      exact k H1
end
end K6

namespace K6
open PySem PySem.Spec
def clOf (a b c d e : Addr) : Tag → Addr
  | .places => a
  | .name => b
  | .twice => c
  | .number => d
  | .stretches => e
  | .longs => e
end K6

set_option maxRecDepth 100000
set_option maxHeartbeats 4000000
/-! The end of a law with tables whose own def shows dicts. -/
namespace Gd
open PySem PySem.Spec PyProof.Rows L2 GxR
open Classical in
noncomputable def hm0 (K : PySem.W.Frag) (a : Addr) (vs : List Value) (ns : List Int) (T : List Addr) (o1 : Obj) : Hp := fun b => if b = sysModules then some (.frz o1 smU) else h0 K a vs ns T b
theorem hm0_inv {K : PySem.W.Frag} {a b : Addr} {vs : List Value} {ns : List Int} {T : List Addr} {o1 : Obj} {u : HO} (h : hm0 K a vs ns T o1 b = some u) :
    (b = sysModules ∧ u = .frz o1 smU) ∨ (b = a ∧ K.lookup a = none ∧ u = .frz (scriptO vs) (.lst (ns.map V.int))) ∨ (b ∈ T ∧ u = .tbl #[]) := by
  unfold hm0 at h
  split at h
  · rename_i c
    exact .inl ⟨c, (Option.some.inj h).symm⟩
  · exact .inr (h0_inv h)
section
variable {P : Program} {w : World} {K : PySem.W.Frag} {mg mb : Str → Option Value} {CX : CXT} {k : Nat} {fa a : Addr} {cs : List (Addr × Addr)} {fd : FuncData} {x : Str} {sp : Sp} {s1 : Shared} {vs : List Value} {ns : List Int}
theorem law_mcall (KX : K.In s1.heap) (nsG : s1.heap.Ns mainGlobals mg) (nsB : s1.heap.Ns builtinsNs mb) (isB : ∀ x : Str, x ≠ "__name__" → mb x = bootBuiltins x) (lim : s1.heap.NoLimit) (gens : s1.gens = #[])
    (tabs : ∀ p ∈ cs, s1.heap.get? p.2 = some tabO) (tabK : ∀ p ∈ cs, K.lookup p.2 = none) (codes : ∀ p ∈ cs, PySem.W.CodeHd s1.heap p.1 p.2)
    (bmain : ∃ (bm : Addr) (ob : Obj), mg "__builtins__" = some (.ref bm) ∧ bm ≠ builtinsNs ∧ s1.heap.get? bm = some ob ∧ ob.cls = .type "module" ∧ ob.dict = some builtinsNs ∧ ob.data = .plain)
    (hsm : ∃ o es ep, s1.heap.get? sysModules = some o ∧ o.data = .dict es ep) (k1 : K.lookup sysModules = none) (na : a ≠ sysModules)
    (ha : s1.heap.get? a = some (scriptO vs)) (hi : IntsAre vs ns) (hl : ns.length ≤ sizeLine) (hr : Room k callerA)
    (F : ∀ base : Heap, K.In base → base.Ns mainGlobals mg → (∀ p ∈ cs, TabB base mg p.1 p.2) → GOk P w K mg base CX k fa fd [x] sp)
    (hbind : ∀ (s : Shared) (u : Value), BindsTo s fd ⟨[u], []⟩ [(x, u)])
    (hsp : ∀ H : Hp, SmAt H → (∀ p ∈ cs, H p.2 = some (.tbl #[])) → SqL K H a (ns.map V.int) → sp [.ref a] H (fun v _ => v = .bl true) fun _ _ _ => False)
    (hCX : ∀ H e s', CX [] H s1 (fun _ _ _ => False) e s' → False) :
    codeAny (model P w) callerA (.call (.ref fa) ⟨[.ref a], []⟩) (fun r s' => r = .ok (.ret (.bool true)) ∧ OldK s1.heap s'.heap ∧ s'.os = s1.os ∧ AllBare s'.gens) s1 := by
  have rv := vals_ints hi
  have hlen := hi.length
  obtain ⟨o1, es1, ep1, ho1, hd1⟩ := hsm
  let T := cs.map Prod.snd
  have inT : ∀ p ∈ cs, p.2 ∈ T := fun p hp => List.mem_map.mpr ⟨p, hp, rfl⟩
  have ofT : ∀ b ∈ T, s1.heap.get? b = some tabO ∧ K.lookup b = none := by
    intro b hb
    obtain ⟨p, hp, rfl⟩ := List.mem_map.mp hb
    exact ⟨tabs p hp, tabK p hp⟩
  have neT : a ∉ T := fun z => by
    have q := (ofT a z).1
    rw [ha] at q
    cases q
  have smT : sysModules ∉ T := fun z => by
    have q := (ofT _ z).1
    rw [ho1] at q
    rw [Option.some.inj q] at hd1
    cases hd1
  let H := hm0 K a vs ns T o1
  have notsm : ∀ {b : Addr} {o : Obj}, s1.heap.get? b = some o → (∀ es ep, o.data ≠ .dict es ep) → b ≠ sysModules := fun e n z => by
    subst z
    rw [ho1] at e
    rw [Option.some.inj e] at hd1
    exact n _ _ hd1
  have seen : ∀ {b : Addr} {o : Obj}, s1.heap.get? b = some o → (∀ us n, o.data ≠ .seq us n) → o.data ≠ .fields #[] → b ≠ sysModules → H b = none := by
    intro b o e n1 n2 n3
    cases q : H b with
    | none => rfl
    | some u =>
      exfalso
      rcases hm0_inv q with ⟨z, _⟩ | ⟨rfl, _, _⟩ | ⟨hb, _⟩
      · exact n3 z
      · rw [ha] at e
        cases e
        exact n1 _ _ rfl
      · rw [(ofT b hb).1] at e
        cases e
        exact n2 rfl
  have keepHid : ∀ {b : Addr} {o : Obj}, s1.heap.get? b = some o → H b = none → (hidT s1.heap H).get? b = some o := fun e n => hidT_get e n
  have nsHid : ∀ {b : Addr} {m : Str → Option Value}, b ≠ sysModules → s1.heap.Ns b m → (hidT s1.heap H).Ns b m := by
    rintro b m n ⟨o, es, ep, e, d, rest⟩
    refine ⟨o, es, ep, keepHid e (seen e (fun us n z => ?_) (fun z => ?_) n), d, rest⟩ <;> (rw [d] at z; cases z)
  have KH : K.In (hidT s1.heap H) := by
    intro b o e
    refine keepHid (KX b o e) ?_
    cases q : H b with
    | none => rfl
    | some u =>
      exfalso
      rcases hm0_inv q with ⟨rfl, _⟩ | ⟨rfl, z, _⟩ | ⟨hb, _⟩
      · rw [k1] at e
        cases e
      · rw [z] at e
        cases e
      · rw [(ofT b hb).2] at e
        cases e
  have limH : (hidT s1.heap H).NoLimit := by
    obtain ⟨mc, h1, h2⟩ := lim
    exact ⟨mc, nsHid (by decide) h1, h2⟩
  have M : L2.Mod K mg (hidT s1.heap H) := ⟨KH, nsHid (by decide) nsG, ⟨mb, nsHid (by decide) nsB, isB⟩, limH⟩
  have TB : ∀ p ∈ cs, TabB (hidT s1.heap H) mg p.1 p.2 := by
    intro p hp
    have tp := tabs p hp
    refine ⟨?_, ?_, ?_⟩
    · obtain ⟨o, us, file, tf, flags, tg, inF, text, tt, e1, r1, r2, r3, rest⟩ := codes p hp
      refine ⟨o, us, file, tf, flags, tg, inF, text, tt, keepHid e1 (seen e1 (fun vs n z => ?_) (fun z => ?_) (notsm e1 fun es ep z => ?_)), r1, r2, r3, rest⟩
      · rw [r2] at z
        cases z
      · rw [r2] at z
        cases z
        simp at r3
      · rw [r2] at z
        cases z
    · obtain ⟨bm, ob, b1, b2, b3, b4, b5, b6⟩ := bmain
      have g1 : bm ≠ mainGlobals := by
        rintro rfl
        obtain ⟨o, es, ep, e, d, _⟩ := nsG
        rw [b3] at e
        cases e
        rw [b6] at d
        cases d
      have g2 : bm ≠ p.2 := by
        rintro rfl
        rw [tp] at b3
        cases b3
        cases b6
      refine ⟨bm, ob, b1, b2, g1, g2, keepHid b3 (seen b3 (fun vs n z => ?_) (fun z => ?_) (notsm b3 fun es ep z => ?_)), b4, b5, b6⟩ <;> (rw [b6] at z; cases z)
    · intro z
      obtain ⟨o, es, ep, e, d, _⟩ := nsG
      rw [z, tp] at e
      cases e
      cases d
  have hH : ∀ p ∈ cs, H p.2 = some (.tbl #[]) := by
    intro p hp
    have n0 : ¬ p.2 = sysModules := fun z => smT (z ▸ inT p hp)
    have n1 : ¬ (p.2 = a ∧ K.lookup a = none) := fun z => neT (z.1 ▸ inT p hp)
    exact (if_neg n0).trans ((if_neg n1).trans (if_pos (inT p hp)))
  have hS : SqL K H a (ns.map V.int) := by
    cases q : K.lookup a with
    | none => exact .inl (.inr ⟨scriptO vs, (if_neg na).trans (if_pos ⟨rfl, q⟩)⟩)
    | some o =>
      have e := KX a o q
      rw [ha] at e
      cases e
      exact .inr ⟨_, vs.toArray, _, q, rfl, rfl, rfl, by rw [List.size_toArray, hlen]; exact hl, by simpa using rv⟩
  have hok : HOk P w H s1.heap := by
    intro b u q
    rcases hm0_inv q with ⟨rfl, rfl⟩ | ⟨rfl, _, rfl⟩ | ⟨hb, rfl⟩
    · exact ⟨ho1, ⟨_, ho1⟩, ⟨_, ho1⟩, fun h1 h2 ⟨o, z⟩ k => ⟨o, k _ z⟩⟩
    · exact ⟨ha, by rw [List.length_map]; exact hl, vs, _, rv, ha⟩
    · exact (ofT b hb).1
  have e0 : Env0 P w K mg (hidT s1.heap H) callerA [] s1 H :=
    ⟨rfl, M, fun b o e => of_hidT e, Nat.le_of_eq (hidT_size _ _), trivial, (fun b hb => by cases (show b ∈ ([] : List Addr) from hb)), hok, .of_eq gens⟩
  have run := (F _ KH (nsHid (by decide) nsG) TB).go callerA [] s1 H ⟨[.ref a], []⟩ [.ref a] [.ref a] (fun v _ => v = .bl true) (fun _ _ _ => False) rfl hr e0 (hbind s1 (.ref a)) (.cons rfl .nil) (hsp H ⟨o1, if_pos rfl⟩ hH hS)
  refine codeAny_mono run ?_
  intro r s' h
  match r, h with
  | .error e, h => exact (hCX H e s' h).elim
  | .ok .next, h => exact h.elim
  | .ok .brk, h => exact h.elim
  | .ok .cont, h => exact h.elim
  | .ok (.ret u), h =>
    obtain ⟨v, H', os, bare, un, hok', r', q⟩ := h
    obtain rfl : v = .bl true := q
    obtain rfl : u = Value.bool true := r'
    have plain : ∀ b o, b ∉ T → s1.heap.get? b = some o → s'.heap.get? b = some o := by
      intro b o nb e
      cases q : H b with
      | none => exact un.keep b o e q (fun z => by cases (show b ∈ ([] : List Addr) from z)) (by simp)
      | some y =>
        rcases hm0_inv q with ⟨rfl, rfl⟩ | ⟨rfl, _, rfl⟩ | ⟨hb, _⟩
        · obtain ⟨e2, _⟩ := hok' sysModules _ (un.frzs _ _ _ q)
          rw [ho1] at e
          exact Option.some.inj e ▸ e2
        · obtain ⟨e2, _⟩ := hok' b _ (un.frzs b _ _ q)
          rw [ha] at e
          cases e
          exact e2
        · exact absurd hb nb
    have grown : ∀ p ∈ cs, ∃ more : Array Value, s'.heap.get? p.2 = some { cls := .none, data := .fields more } := by
      intro p hp
      obtain ⟨more, z⟩ := un.tbls p.2 #[] (hH p hp)
      exact ⟨_, hok' p.2 _ z⟩
    refine ⟨rfl, ⟨fun b o e => ?_, fun b o e => ?_⟩, os, bare⟩ <;> by_cases hb : b ∈ T
    · obtain ⟨p, hp, rfl⟩ := List.mem_map.mp hb
      obtain ⟨more, hm⟩ := grown p hp
      rw [tabs p hp] at e
      cases e
      exact .inr (.inl ⟨((codes p hp).tab (tabs p hp)).isCodeTable, rfl, #[], more, rfl, by rw [Array.empty_append]; exact hm⟩)
    · exact .inl (plain b o hb e)
    · obtain ⟨p, hp, rfl⟩ := List.mem_map.mp hb
      obtain ⟨more, hm⟩ := grown p hp
      exact ⟨_, hm⟩
    · exact ⟨o, plain b o hb e⟩
end
/-- what is to be known of such a law -/
def GLawM (l : PySem.W.OpenLaw) (w : World) (K : PySem.W.Frag) (CX : CXT) (k n : Nat) (x : Str) (mg : Str → Option Value) (fa : Addr) (h : Heap) : Prop :=
  ∃ (fd : FuncData) (cs : List (Addr × Addr)) (sp : Sp), K.lookup sysModules = none ∧ (∀ p ∈ cs, h.get? p.2 = some tabO) ∧ (∀ p ∈ cs, K.lookup p.2 = none) ∧ (∀ p ∈ cs, PySem.W.CodeHd h p.1 p.2) ∧
    (∀ (s : Shared) (u : Value), BindsTo s fd ⟨[u], []⟩ [(x, u)]) ∧
    (∀ (H : Hp) (a : Addr) (ns : List Int), ns.length ≤ n → SmAt H → (∀ p ∈ cs, H p.2 = some (.tbl #[])) → SqL K H a (ns.map V.int) →
      sp [.ref a] H (fun v _ => v = .bl true) fun _ _ _ => False) ∧
    ∀ base : Heap, K.In base → base.Ns mainGlobals mg → (∀ p ∈ cs, TabB base mg p.1 p.2) → GOk l.prog w K mg base CX k fa fd [x] sp
open PySem.W in
theorem walk_m {l : PySem.W.OpenLaw} {n k : Nat} {q : Program} {loose : List Str} {XP : (Str → Option Value) → Heap → Prop} {YP : World → Heap → Prop} {d : DefRec} {K : Params → PySem.W.Frag} {CX : World → CXT} {x : Str}
    (no : importsNone q = true) (hn : l.most = some n) (small : n ≤ sizeLine) (hdf : d.params.defaults = []) (hr : Room k callerA) (hY : ∀ (w : World) (h : Heap), YP w h → (K w.params).In h)
    (F : ∀ (w : World) (mg : Str → Option Value) (fa : Addr) (h : Heap), YP w h → (K w.params).In h → h.Ns mainGlobals mg → mg d.name = some (.ref fa) → Empt q (K w.params) h → GLawM l w (K w.params) (CX w) k n x mg fa h)
    (hCX : ∀ (w : World) (H : Hp) (s : Shared) (e : Value) (s' : Shared), CX w [] H s (fun _ _ _ => False) e s' → False) :
    PySem.W.WalkO q loose XP YP l.row.toRowW d [] (fun f vs => PySem.call f vs) := by
  intro w s0 s1 mg mb G Y fa o pm cd doc dV kV ho hd hcd hD hmg hg args vals as pre lay rd well low
  obtain ⟨a, vs, ns, rfl, rfl, hobj, hints, hlen⟩ := Att.script_of hn pre well
  have na : a ≠ sysModules := by
    cases rd with
    | cons r1 r2 =>
      cases r1 with
      | list _ _ _ _ => exact beq_eq_false_iff_ne.mp (low a (by simp))
  have KX := hY w _ Y
  have em : Empt q (K w.params) s1.heap := by
    intro x f c t o1 fd1 e dd us sl hx k1 k2 k3 k4 k5 k6
    obtain ⟨r, hr1, hr2⟩ := List.any_eq_true.mp hx
    have hn1 : r.name = x := beq_iff_eq.mp hr2
    obtain ⟨a1, o2, fd2, c2, t2, y1, y2, y3, y4, y5, y6⟩ := G.T.tab r hr1
    have z1 := PySem.W.mg_of KX G.T.g k1
    rw [hn1, z1] at y1
    cases y1
    have z2 := KX _ _ k2
    rw [z2] at y2
    cases y2
    rw [k3] at y3
    cases y3
    rw [k4] at y4
    cases y4
    have y6b := y6
    obtain ⟨⟨oc, vc, e1, e2, e3, e4⟩, hP⟩ := y6b
    have z5 := KX _ _ k5
    rw [z5] at e1
    cases e1
    cases e3
    rw [k6] at e4
    cases e4
    exact ⟨PySem.W.CodeHd.of y5 y6, hP⟩
  obtain ⟨fd, cs, sp, k1, t1, t2, t3, hb, hsp, hF⟩ := F w mg fa _ Y KX G.T.g hmg em
  have run := law_mcall KX G.T.g G.T.b G.T.builtins G.T.nolimit hg t1 t2 t3 G.T.bmain (let ⟨_, ⟨o, es, ep, e, d, _⟩, _⟩ := (G.T.seer no).mods; ⟨o, es, ep, e, d⟩) k1 na hobj hints (Nat.le_trans hlen small) hr hF hb (fun H a1 a2 a3 => hsp H a ns hlen a1 a2 a3) (fun H e s' => hCX w H s1 e s')
  refine enter_call (codeAny_mono run ?_)
  rintro r z ⟨rfl, old, os, bare⟩
  exact ⟨.inl ⟨.bool true, .bool true, [], rfl, fun _ => rfl, .bool true, Att.post_true l _, fun _ => ⟨List.Pairwise.nil, fun _ m => (nomatch m)⟩⟩, old, os, bare⟩
end Gd

set_option maxRecDepth 100000
set_option maxHeartbeats 4000000
namespace K6
open PySem PySem.Spec PyProof.Rows L2 GxR Gd TL My
theorem all_mk {l : PySem.W.OpenLaw} {q : Program} {w : World} {K : PySem.W.Frag} {h : Heap} {mg : Str → Option Value} {fa C CP CN CW CM CS f1 f2 f3 f4 f5 f6 f7 f8 f9 f10 f11 f12 f13 f14 f15 f16 f17 f18 f19 f20 f21 f22 f23 f24 f25 f26 f27 f28 f29 f30 f31 f32 f33 f34 f35 f36 f37 f38 f39 f40 f41 f42 f43 f44 f45 f46 f47 f48 f49 f50 co tb : Addr} {eo : Value} {eoD : Option Addr} {us : Array Value} {usl : Array (Option Value)}
    (X : K.In h) (G : h.Ns mainGlobals mg) (hfa : mg "law" = some (.ref fa)) (em : Empt q K h)
    {dT : Addr} {oT : Obj} {mT : Nat} {nmCP qCP : Str} {NCP : Addr} {bsCP : List Value} {snCP : List Str} {subCP : List Value} {abCP : Bool} {colCP : Option Bool} {ddCP : Option Addr} {m0CP m1CP m2CP m3CP m5CP : Option Value} {nmCN qCN : Str} {NCN : Addr} {bsCN : List Value} {snCN : List Str} {subCN : List Value} {abCN : Bool} {colCN : Option Bool} {ddCN : Option Addr} {m0CN m1CN m2CN m3CN m5CN : Option Value} {nmCW qCW : Str} {NCW : Addr} {bsCW : List Value} {snCW : List Str} {subCW : List Value} {abCW : Bool} {colCW : Option Bool} {ddCW : Option Addr} {m0CW m1CW m2CW m3CW m5CW : Option Value} {nmCM qCM : Str} {NCM : Addr} {bsCM : List Value} {snCM : List Str} {subCM : List Value} {abCM : Bool} {colCM : Option Bool} {ddCM : Option Addr} {m0CM m1CM m2CM m3CM m5CM : Option Value} {od1 an1 : Option Addr} {sl1 : Array (Option Value)} {oc1 kV1 dc1 pm1 cd1 ct1 : Value} {od2 an2 : Option Addr} {sl2 : Array (Option Value)} {oc2 kV2 dc2 pm2 cd2 ct2 : Value} {od3 an3 : Option Addr} {sl3 : Array (Option Value)} {oc3 kV3 dc3 pm3 cd3 ct3 : Value} {od4 an4 : Option Addr} {sl4 : Array (Option Value)} {oc4 kV4 dc4 pm4 cd4 ct4 : Value} {od5 an5 : Option Addr} {sl5 : Array (Option Value)} {oc5 kV5 dc5 pm5 cd5 ct5 : Value} {od6 an6 : Option Addr} {sl6 : Array (Option Value)} {oc6 kV6 dc6 pm6 cd6 ct6 : Value} {od7 an7 : Option Addr} {sl7 : Array (Option Value)} {oc7 kV7 dc7 pm7 ct7 : Value} {od8 an8 : Option Addr} {sl8 : Array (Option Value)} {oc8 kV8 dc8 pm8 cd8 ct8 : Value} {od9 an9 : Option Addr} {sl9 : Array (Option Value)} {oc9 kV9 dc9 pm9 cd9 ct9 : Value} {od10 an10 : Option Addr} {sl10 : Array (Option Value)} {oc10 kV10 dc10 pm10 cd10 ct10 : Value} {od11 an11 : Option Addr} {sl11 : Array (Option Value)} {oc11 kV11 dc11 pm11 cd11 ct11 : Value} {od12 an12 : Option Addr} {sl12 : Array (Option Value)} {oc12 kV12 dc12 pm12 cd12 ct12 : Value} {od13 an13 : Option Addr} {sl13 : Array (Option Value)} {oc13 kV13 dc13 pm13 cd13 ct13 : Value} {od14 an14 : Option Addr} {sl14 : Array (Option Value)} {oc14 kV14 dc14 pm14 cd14 ct14 : Value} {od15 an15 : Option Addr} {sl15 : Array (Option Value)} {oc15 kV15 dc15 pm15 cd15 ct15 : Value} {od16 an16 : Option Addr} {sl16 : Array (Option Value)} {oc16 kV16 dc16 pm16 cd16 ct16 : Value} {od17 an17 : Option Addr} {sl17 : Array (Option Value)} {oc17 kV17 dc17 pm17 cd17 ct17 : Value} {od18 an18 : Option Addr} {sl18 : Array (Option Value)} {oc18 kV18 dc18 pm18 cd18 ct18 : Value} {od19 an19 : Option Addr} {sl19 : Array (Option Value)} {oc19 kV19 dc19 pm19 cd19 ct19 : Value} {od20 an20 : Option Addr} {sl20 : Array (Option Value)} {oc20 kV20 dc20 pm20 cd20 ct20 : Value} {od21 an21 : Option Addr} {sl21 : Array (Option Value)} {oc21 kV21 dc21 pm21 cd21 ct21 : Value} {od22 an22 : Option Addr} {sl22 : Array (Option Value)} {oc22 kV22 dc22 pm22 cd22 ct22 : Value} {od23 an23 : Option Addr} {sl23 : Array (Option Value)} {oc23 kV23 dc23 pm23 cd23 ct23 : Value} {od24 an24 : Option Addr} {sl24 : Array (Option Value)} {oc24 kV24 dc24 pm24 cd24 ct24 : Value} {od25 an25 : Option Addr} {sl25 : Array (Option Value)} {oc25 kV25 dc25 pm25 cd25 ct25 : Value} {od26 an26 : Option Addr} {sl26 : Array (Option Value)} {oc26 kV26 dc26 pm26 cd26 ct26 : Value} {od27 an27 : Option Addr} {sl27 : Array (Option Value)} {oc27 kV27 dc27 pm27 cd27 ct27 : Value} {od28 an28 : Option Addr} {sl28 : Array (Option Value)} {oc28 kV28 dc28 pm28 cd28 ct28 : Value} {od29 an29 : Option Addr} {sl29 : Array (Option Value)} {oc29 kV29 dc29 pm29 cd29 ct29 : Value} {od30 an30 : Option Addr} {sl30 : Array (Option Value)} {oc30 kV30 dc30 pm30 cd30 ct30 : Value} {od31 an31 : Option Addr} {sl31 : Array (Option Value)} {oc31 kV31 dc31 pm31 cd31 ct31 : Value} {od32 an32 : Option Addr} {sl32 : Array (Option Value)} {oc32 kV32 dc32 pm32 cd32 ct32 : Value} {od33 an33 : Option Addr} {sl33 : Array (Option Value)} {oc33 kV33 dc33 pm33 cd33 ct33 : Value} {od34 an34 : Option Addr} {sl34 : Array (Option Value)} {oc34 kV34 dc34 pm34 cd34 ct34 : Value} {od35 an35 : Option Addr} {sl35 : Array (Option Value)} {oc35 kV35 dc35 pm35 cd35 ct35 : Value} {od36 an36 : Option Addr} {sl36 : Array (Option Value)} {oc36 kV36 dc36 pm36 cd36 ct36 : Value} {od37 an37 : Option Addr} {sl37 : Array (Option Value)} {oc37 kV37 dc37 pm37 cd37 ct37 : Value} {od38 an38 : Option Addr} {sl38 : Array (Option Value)} {oc38 kV38 dc38 pm38 cd38 ct38 : Value} {od39 an39 : Option Addr} {sl39 : Array (Option Value)} {oc39 kV39 dc39 pm39 cd39 ct39 : Value} {od40 an40 : Option Addr} {sl40 : Array (Option Value)} {oc40 kV40 dc40 pm40 cd40 ct40 : Value} {od41 an41 : Option Addr} {sl41 : Array (Option Value)} {oc41 kV41 dc41 pm41 cd41 ct41 : Value} {od42 an42 : Option Addr} {sl42 : Array (Option Value)} {oc42 kV42 dc42 pm42 cd42 ct42 : Value} {od43 an43 : Option Addr} {sl43 : Array (Option Value)} {oc43 kV43 dc43 pm43 cd43 ct43 : Value} {od44 an44 : Option Addr} {sl44 : Array (Option Value)} {oc44 kV44 dc44 pm44 cd44 ct44 : Value} {od45 an45 : Option Addr} {sl45 : Array (Option Value)} {oc45 kV45 dc45 pm45 cd45 ct45 : Value} {od46 an46 : Option Addr} {sl46 : Array (Option Value)} {oc46 kV46 dc46 pm46 cd46 ct46 : Value} {od47 an47 : Option Addr} {sl47 : Array (Option Value)} {oc47 kV47 dc47 pm47 cd47 ct47 : Value} {od48 an48 : Option Addr} {sl48 : Array (Option Value)} {oc48 kV48 dc48 pm48 cd48 ct48 : Value} {od49 an49 : Option Addr} {sl49 : Array (Option Value)} {oc49 kV49 dc49 pm49 cd49 ct49 : Value} {od50 an50 : Option Addr} {sl50 : Array (Option Value)} {oc50 kV50 dc50 pm50 cd50 ct50 : Value}
    (aC : PySem.W.nsIn K mainGlobals "Line" = some (some (.ref C))) (pgC : PySem.W.plainGet K C Str.empty = true) (hdC : PySem.W.hasDictIn K C = true) (poC : PySem.W.plainOver K C = true) (saC : PySem.W.findIn K (.ref C) "__setattr__" = some (some (.builtin "object.__setattr__"))) (mkC : PySem.W.makesIn K C = true) (kcC : PySem.W.keepIn K (.ref C) = true) (n0C : PySem.W.findIn K (.ref C) "_places" = some none) (n1C : PySem.W.findIn K (.ref C) "_stretches" = some none) (n2C : PySem.W.findIn K (.ref C) "_longs" = some none) (n3C : PySem.W.findIn K (.ref C) "_numbers" = some none) (aCP : PySem.W.nsIn K mainGlobals "NoPlaces" = some (some (.ref CP))) (xlCP : K.lookup CP = some (excClassObj nmCP qCP CP NCP bsCP [.ref CS, .type "ValueError", .type "Exception", .type "BaseException", .type "object"] true snCP subCP abCP colCP ddCP m0CP m1CP m2CP m3CP m5CP "ValueError.__new__")) (saCP : PySem.W.findIn K (.ref CP) "__setattr__" = some (some (.builtin "object.__setattr__"))) (gaCP : PySem.W.findIn K (.ref CP) "__getattribute__" = some (some (.builtin "BaseException.__getattribute__"))) (ggCP : PySem.W.findIn K (.ref CP) "__getattr__" = some none) (kcCP : PySem.W.keepIn K (.ref CP) = true) (exCP : PySem.W.subIn K (.ref CP) (.type "BaseException") = some true) (tyCP : PySem.W.typeIn K (.ref CP) = some (.type "type")) (hdCP : PySem.W.hasDictIn K CP = true) (icCP : PySem.W.isClsIn K CP = true) (coCP : PySem.W.findIn K (.ref CP) "__class__" = some (some (.builtin "object.__class__"))) (moCP : PySem.W.mroIn K CP (.type "object") = some true) (n0CP : PySem.W.findIn K (.ref CP) "found" = some none) (aCN : PySem.W.nsIn K mainGlobals "NoName" = some (some (.ref CN))) (xlCN : K.lookup CN = some (excClassObj nmCN qCN CN NCN bsCN [.ref CS, .type "ValueError", .type "Exception", .type "BaseException", .type "object"] true snCN subCN abCN colCN ddCN m0CN m1CN m2CN m3CN m5CN "ValueError.__new__")) (saCN : PySem.W.findIn K (.ref CN) "__setattr__" = some (some (.builtin "object.__setattr__"))) (gaCN : PySem.W.findIn K (.ref CN) "__getattribute__" = some (some (.builtin "BaseException.__getattribute__"))) (ggCN : PySem.W.findIn K (.ref CN) "__getattr__" = some none) (kcCN : PySem.W.keepIn K (.ref CN) = true) (exCN : PySem.W.subIn K (.ref CN) (.type "BaseException") = some true) (tyCN : PySem.W.typeIn K (.ref CN) = some (.type "type")) (hdCN : PySem.W.hasDictIn K CN = true) (icCN : PySem.W.isClsIn K CN = true) (coCN : PySem.W.findIn K (.ref CN) "__class__" = some (some (.builtin "object.__class__"))) (moCN : PySem.W.mroIn K CN (.type "object") = some true) (n0CN : PySem.W.findIn K (.ref CN) "found" = some none) (aCW : PySem.W.nsIn K mainGlobals "Twice" = some (some (.ref CW))) (xlCW : K.lookup CW = some (excClassObj nmCW qCW CW NCW bsCW [.ref CS, .type "ValueError", .type "Exception", .type "BaseException", .type "object"] true snCW subCW abCW colCW ddCW m0CW m1CW m2CW m3CW m5CW "ValueError.__new__")) (saCW : PySem.W.findIn K (.ref CW) "__setattr__" = some (some (.builtin "object.__setattr__"))) (gaCW : PySem.W.findIn K (.ref CW) "__getattribute__" = some (some (.builtin "BaseException.__getattribute__"))) (ggCW : PySem.W.findIn K (.ref CW) "__getattr__" = some none) (kcCW : PySem.W.keepIn K (.ref CW) = true) (exCW : PySem.W.subIn K (.ref CW) (.type "BaseException") = some true) (tyCW : PySem.W.typeIn K (.ref CW) = some (.type "type")) (hdCW : PySem.W.hasDictIn K CW = true) (icCW : PySem.W.isClsIn K CW = true) (coCW : PySem.W.findIn K (.ref CW) "__class__" = some (some (.builtin "object.__class__"))) (moCW : PySem.W.mroIn K CW (.type "object") = some true) (n0CW : PySem.W.findIn K (.ref CW) "found" = some none) (aCM : PySem.W.nsIn K mainGlobals "NoNumber" = some (some (.ref CM))) (xlCM : K.lookup CM = some (excClassObj nmCM qCM CM NCM bsCM [.ref CS, .type "ValueError", .type "Exception", .type "BaseException", .type "object"] true snCM subCM abCM colCM ddCM m0CM m1CM m2CM m3CM m5CM "ValueError.__new__")) (saCM : PySem.W.findIn K (.ref CM) "__setattr__" = some (some (.builtin "object.__setattr__"))) (gaCM : PySem.W.findIn K (.ref CM) "__getattribute__" = some (some (.builtin "BaseException.__getattribute__"))) (ggCM : PySem.W.findIn K (.ref CM) "__getattr__" = some none) (kcCM : PySem.W.keepIn K (.ref CM) = true) (exCM : PySem.W.subIn K (.ref CM) (.type "BaseException") = some true) (tyCM : PySem.W.typeIn K (.ref CM) = some (.type "type")) (hdCM : PySem.W.hasDictIn K CM = true) (icCM : PySem.W.isClsIn K CM = true) (coCM : PySem.W.findIn K (.ref CM) "__class__" = some (some (.builtin "object.__class__"))) (moCM : PySem.W.mroIn K CM (.type "object") = some true) (n0CM : PySem.W.findIn K (.ref CM) "found" = some none) (a1 : PySem.W.findIn K (.ref CS) "__init__" = some (some (.ref f1))) (i1 : PySem.W.isFn K (.ref f1) = true) (l1 : K.lookup f1 = some ⟨oc1, od1, .func (PySem.W.fnOf "__init__" "StaffError.__init__" (defArgs sSE) (defBody sSE) (defScope sSE) .none kV1 dc1 pm1 an1 cd1 ct1), sl1⟩) (c1 : PySem.W.codeIn K cd1 "StaffError.__init__" = true) (k1 : PySem.W.keepIn K (.ref f1) = true) (a2 : PySem.W.findIn K (.ref CP) "__init__" = some (some (.ref f2))) (i2 : PySem.W.isFn K (.ref f2) = true) (l2 : K.lookup f2 = some ⟨oc2, od2, .func (PySem.W.fnOf "__init__" "NoPlaces.__init__" (defArgs sNoPlaces) (defBody sNoPlaces) (defScope sNoPlaces) .none kV2 dc2 pm2 an2 cd2 ct2), sl2⟩) (c2 : PySem.W.codeIn K cd2 "NoPlaces.__init__" = true) (k2 : PySem.W.keepIn K (.ref f2) = true) (a3 : PySem.W.findIn K (.ref CN) "__init__" = some (some (.ref f3))) (i3 : PySem.W.isFn K (.ref f3) = true) (l3 : K.lookup f3 = some ⟨oc3, od3, .func (PySem.W.fnOf "__init__" "NoName.__init__" (defArgs sNoName) (defBody sNoName) (defScope sNoName) .none kV3 dc3 pm3 an3 cd3 ct3), sl3⟩) (c3 : PySem.W.codeIn K cd3 "NoName.__init__" = true) (k3 : PySem.W.keepIn K (.ref f3) = true) (a4 : PySem.W.findIn K (.ref CW) "__init__" = some (some (.ref f4))) (i4 : PySem.W.isFn K (.ref f4) = true) (l4 : K.lookup f4 = some ⟨oc4, od4, .func (PySem.W.fnOf "__init__" "Twice.__init__" (defArgs sTwice) (defBody sTwice) (defScope sTwice) .none kV4 dc4 pm4 an4 cd4 ct4), sl4⟩) (c4 : PySem.W.codeIn K cd4 "Twice.__init__" = true) (k4 : PySem.W.keepIn K (.ref f4) = true) (a5 : PySem.W.findIn K (.ref CM) "__init__" = some (some (.ref f5))) (i5 : PySem.W.isFn K (.ref f5) = true) (l5 : K.lookup f5 = some ⟨oc5, od5, .func (PySem.W.fnOf "__init__" "NoNumber.__init__" (defArgs sNoNumber) (defBody sNoNumber) (defScope sNoNumber) .none kV5 dc5 pm5 an5 cd5 ct5), sl5⟩) (c5 : PySem.W.codeIn K cd5 "NoNumber.__init__" = true) (k5 : PySem.W.keepIn K (.ref f5) = true) (a6 : PySem.W.nsIn K mainGlobals "is_whole" = some (some (.ref f6))) (l6 : K.lookup f6 = some ⟨oc6, od6, .func (PySem.W.fnOf "is_whole" "is_whole" (defArgs sWhole) (defBody sWhole) (defScope sWhole) .none kV6 dc6 pm6 an6 cd6 ct6), sl6⟩) (c6 : PySem.W.codeIn K cd6 "is_whole" = true) (k6 : PySem.W.keepIn K (.ref f6) = true) (a7 : PySem.W.nsIn K mainGlobals "is_name" = some (some (.ref f7))) (l7 : K.lookup f7 = some ⟨oc7, od7, .func (PySem.W.fnOf "is_name" "is_name" (defArgs sName) (defBody sName) (defScope sName) .none kV7 dc7 pm7 an7 (.ref co) ct7), sl7⟩) (c7 : PySem.W.codeIn K (.ref co) "is_name" = true) (k7 : PySem.W.keepIn K (.ref f7) = true) (a8 : PySem.W.nsIn K mainGlobals "is_list" = some (some (.ref f8))) (l8 : K.lookup f8 = some ⟨oc8, od8, .func (PySem.W.fnOf "is_list" "is_list" (defArgs s_is_list) (defBody s_is_list) (defScope s_is_list) .none kV8 dc8 pm8 an8 cd8 ct8), sl8⟩) (c8 : PySem.W.codeIn K cd8 "is_list" = true) (k8 : PySem.W.keepIn K (.ref f8) = true) (a9 : PySem.W.nsIn K mainGlobals "is_tuple" = some (some (.ref f9))) (l9 : K.lookup f9 = some ⟨oc9, od9, .func (PySem.W.fnOf "is_tuple" "is_tuple" (defArgs s_is_tuple) (defBody s_is_tuple) (defScope s_is_tuple) .none kV9 dc9 pm9 an9 cd9 ct9), sl9⟩) (c9 : PySem.W.codeIn K cd9 "is_tuple" = true) (k9 : PySem.W.keepIn K (.ref f9) = true) (a10 : PySem.W.nsIn K mainGlobals "_check_place" = some (some (.ref f10))) (l10 : K.lookup f10 = some ⟨oc10, od10, .func (PySem.W.fnOf "_check_place" "_check_place" (defArgs s_check_place) (defBody s_check_place) (defScope s_check_place) .none kV10 dc10 pm10 an10 cd10 ct10), sl10⟩) (c10 : PySem.W.codeIn K cd10 "_check_place" = true) (k10 : PySem.W.keepIn K (.ref f10) = true) (a11 : PySem.W.nsIn K mainGlobals "_check_places" = some (some (.ref f11))) (l11 : K.lookup f11 = some ⟨oc11, od11, .func (PySem.W.fnOf "_check_places" "_check_places" (defArgs s_check_places) (defBody s_check_places) (defScope s_check_places) .none kV11 dc11 pm11 an11 cd11 ct11), sl11⟩) (c11 : PySem.W.codeIn K cd11 "_check_places" = true) (k11 : PySem.W.keepIn K (.ref f11) = true) (a12 : PySem.W.nsIn K mainGlobals "_is_stretch" = some (some (.ref f12))) (l12 : K.lookup f12 = some ⟨oc12, od12, .func (PySem.W.fnOf "_is_stretch" "_is_stretch" (defArgs s_is_stretch) (defBody s_is_stretch) (defScope s_is_stretch) .none kV12 dc12 pm12 an12 cd12 ct12), sl12⟩) (c12 : PySem.W.codeIn K cd12 "_is_stretch" = true) (k12 : PySem.W.keepIn K (.ref f12) = true) (a13 : PySem.W.nsIn K mainGlobals "_check_stretches" = some (some (.ref f13))) (l13 : K.lookup f13 = some ⟨oc13, od13, .func (PySem.W.fnOf "_check_stretches" "_check_stretches" (defArgs s_check_stretches) (defBody s_check_stretches) (defScope s_check_stretches) .none kV13 dc13 pm13 an13 cd13 ct13), sl13⟩) (c13 : PySem.W.codeIn K cd13 "_check_stretches" = true) (k13 : PySem.W.keepIn K (.ref f13) = true) (a14 : PySem.W.nsIn K mainGlobals "_is_long" = some (some (.ref f14))) (l14 : K.lookup f14 = some ⟨oc14, od14, .func (PySem.W.fnOf "_is_long" "_is_long" (defArgs s_is_long) (defBody s_is_long) (defScope s_is_long) .none kV14 dc14 pm14 an14 cd14 ct14), sl14⟩) (c14 : PySem.W.codeIn K cd14 "_is_long" = true) (k14 : PySem.W.keepIn K (.ref f14) = true) (a15 : PySem.W.nsIn K mainGlobals "_check_longs" = some (some (.ref f15))) (l15 : K.lookup f15 = some ⟨oc15, od15, .func (PySem.W.fnOf "_check_longs" "_check_longs" (defArgs s_check_longs) (defBody s_check_longs) (defScope s_check_longs) .none kV15 dc15 pm15 an15 cd15 ct15), sl15⟩) (c15 : PySem.W.codeIn K cd15 "_check_longs" = true) (k15 : PySem.W.keepIn K (.ref f15) = true) (a16 : PySem.W.findIn K (.ref C) "__init__" = some (some (.ref f16))) (i16 : PySem.W.isFn K (.ref f16) = true) (l16 : K.lookup f16 = some ⟨oc16, od16, .func (PySem.W.fnOf "__init__" "Line.__init__" (defArgs s_init) (defBody s_init) (defScope s_init) (.ref dT) kV16 dc16 pm16 an16 cd16 ct16), sl16⟩) (c16 : PySem.W.codeIn K cd16 "Line.__init__" = true) (k16 : PySem.W.keepIn K (.ref f16) = true) (a17 : PySem.W.findIn K (.ref C) "number_of" = some (some (.ref f17))) (i17 : PySem.W.isFn K (.ref f17) = true) (l17 : K.lookup f17 = some ⟨oc17, od17, .func (PySem.W.fnOf "number_of" "Line.number_of" (defArgs s_number_of) (defBody s_number_of) (defScope s_number_of) .none kV17 dc17 pm17 an17 cd17 ct17), sl17⟩) (c17 : PySem.W.codeIn K cd17 "Line.number_of" = true) (k17 : PySem.W.keepIn K (.ref f17) = true) (a18 : PySem.W.findIn K (.ref C) "names" = some (some (.ref f18))) (i18 : PySem.W.isFn K (.ref f18) = true) (l18 : K.lookup f18 = some ⟨oc18, od18, .func (PySem.W.fnOf "names" "Line.names" (defArgs s_names) (defBody s_names) (defScope s_names) .none kV18 dc18 pm18 an18 cd18 ct18), sl18⟩) (c18 : PySem.W.codeIn K cd18 "Line.names" = true) (k18 : PySem.W.keepIn K (.ref f18) = true) (a19 : PySem.W.findIn K (.ref C) "roads" = some (some (.ref f19))) (i19 : PySem.W.isFn K (.ref f19) = true) (l19 : K.lookup f19 = some ⟨oc19, od19, .func (PySem.W.fnOf "roads" "Line.roads" (defArgs s_roads) (defBody s_roads) (defScope s_roads) .none kV19 dc19 pm19 an19 cd19 ct19), sl19⟩) (c19 : PySem.W.codeIn K cd19 "Line.roads" = true) (k19 : PySem.W.keepIn K (.ref f19) = true) (a20 : PySem.W.findIn K (.ref C) "many_stretches" = some (some (.ref f20))) (i20 : PySem.W.isFn K (.ref f20) = true) (l20 : K.lookup f20 = some ⟨oc20, od20, .func (PySem.W.fnOf "many_stretches" "Line.many_stretches" (defArgs s_many_stretches) (defBody s_many_stretches) (defScope s_many_stretches) .none kV20 dc20 pm20 an20 cd20 ct20), sl20⟩) (c20 : PySem.W.codeIn K cd20 "Line.many_stretches" = true) (k20 : PySem.W.keepIn K (.ref f20) = true) (a21 : PySem.W.findIn K (.ref C) "_check_stretch" = some (some (.ref f21))) (i21 : PySem.W.isFn K (.ref f21) = true) (l21 : K.lookup f21 = some ⟨oc21, od21, .func (PySem.W.fnOf "_check_stretch" "Line._check_stretch" (defArgs s_check_stretch) (defBody s_check_stretch) (defScope s_check_stretch) .none kV21 dc21 pm21 an21 cd21 ct21), sl21⟩) (c21 : PySem.W.codeIn K cd21 "Line._check_stretch" = true) (k21 : PySem.W.keepIn K (.ref f21) = true) (a22 : PySem.W.findIn K (.ref C) "ends" = some (some (.ref f22))) (i22 : PySem.W.isFn K (.ref f22) = true) (l22 : K.lookup f22 = some ⟨oc22, od22, .func (PySem.W.fnOf "ends" "Line.ends" (defArgs s_ends) (defBody s_ends) (defScope s_ends) .none kV22 dc22 pm22 an22 cd22 ct22), sl22⟩) (c22 : PySem.W.codeIn K cd22 "Line.ends" = true) (k22 : PySem.W.keepIn K (.ref f22) = true) (a23 : PySem.W.findIn K (.ref C) "kind" = some (some (.ref f23))) (i23 : PySem.W.isFn K (.ref f23) = true) (l23 : K.lookup f23 = some ⟨oc23, od23, .func (PySem.W.fnOf "kind" "Line.kind" (defArgs s_kind) (defBody s_kind) (defScope s_kind) .none kV23 dc23 pm23 an23 cd23 ct23), sl23⟩) (c23 : PySem.W.codeIn K cd23 "Line.kind" = true) (k23 : PySem.W.keepIn K (.ref f23) = true) (a24 : PySem.W.findIn K (.ref C) "home" = some (some (.ref f24))) (i24 : PySem.W.isFn K (.ref f24) = true) (l24 : K.lookup f24 = some ⟨oc24, od24, .func (PySem.W.fnOf "home" "Line.home" (defArgs s_home) (defBody s_home) (defScope s_home) .none kV24 dc24 pm24 an24 cd24 ct24), sl24⟩) (c24 : PySem.W.codeIn K cd24 "Line.home" = true) (k24 : PySem.W.keepIn K (.ref f24) = true) (a25 : PySem.W.findIn K (.ref C) "between" = some (some (.ref f25))) (i25 : PySem.W.isFn K (.ref f25) = true) (l25 : K.lookup f25 = some ⟨oc25, od25, .func (PySem.W.fnOf "between" "Line.between" (defArgs s_between) (defBody s_between) (defScope s_between) .none kV25 dc25 pm25 an25 cd25 ct25), sl25⟩) (c25 : PySem.W.codeIn K cd25 "Line.between" = true) (k25 : PySem.W.keepIn K (.ref f25) = true) (a26 : PySem.W.findIn K (.ref C) "many_longs" = some (some (.ref f26))) (i26 : PySem.W.isFn K (.ref f26) = true) (l26 : K.lookup f26 = some ⟨oc26, od26, .func (PySem.W.fnOf "many_longs" "Line.many_longs" (defArgs s_many_longs) (defBody s_many_longs) (defScope s_many_longs) .none kV26 dc26 pm26 an26 cd26 ct26), sl26⟩) (c26 : PySem.W.codeIn K cd26 "Line.many_longs" = true) (k26 : PySem.W.keepIn K (.ref f26) = true) (a27 : PySem.W.findIn K (.ref C) "_long" = some (some (.ref f27))) (i27 : PySem.W.isFn K (.ref f27) = true) (l27 : K.lookup f27 = some ⟨oc27, od27, .func (PySem.W.fnOf "_long" "Line._long" (defArgs s_long) (defBody s_long) (defScope s_long) .none kV27 dc27 pm27 an27 cd27 ct27), sl27⟩) (c27 : PySem.W.codeIn K cd27 "Line._long" = true) (k27 : PySem.W.keepIn K (.ref f27) = true) (a28 : PySem.W.findIn K (.ref C) "long_ends" = some (some (.ref f28))) (i28 : PySem.W.isFn K (.ref f28) = true) (l28 : K.lookup f28 = some ⟨oc28, od28, .func (PySem.W.fnOf "long_ends" "Line.long_ends" (defArgs s_long_ends) (defBody s_long_ends) (defScope s_long_ends) .none kV28 dc28 pm28 an28 cd28 ct28), sl28⟩) (c28 : PySem.W.codeIn K cd28 "Line.long_ends" = true) (k28 : PySem.W.keepIn K (.ref f28) = true) (a29 : PySem.W.findIn K (.ref C) "long_stretches" = some (some (.ref f29))) (i29 : PySem.W.isFn K (.ref f29) = true) (l29 : K.lookup f29 = some ⟨oc29, od29, .func (PySem.W.fnOf "long_stretches" "Line.long_stretches" (defArgs s_long_stretches) (defBody s_long_stretches) (defScope s_long_stretches) .none kV29 dc29 pm29 an29 cd29 ct29), sl29⟩) (c29 : PySem.W.codeIn K cd29 "Line.long_stretches" = true) (k29 : PySem.W.keepIn K (.ref f29) = true) (a30 : PySem.W.findIn K (.ref C) "long_home" = some (some (.ref f30))) (i30 : PySem.W.isFn K (.ref f30) = true) (l30 : K.lookup f30 = some ⟨oc30, od30, .func (PySem.W.fnOf "long_home" "Line.long_home" (defArgs s_long_home) (defBody s_long_home) (defScope s_long_home) .none kV30 dc30 pm30 an30 cd30 ct30), sl30⟩) (c30 : PySem.W.codeIn K cd30 "Line.long_home" = true) (k30 : PySem.W.keepIn K (.ref f30) = true) (a31 : PySem.W.findIn K (.ref C) "long_between" = some (some (.ref f31))) (i31 : PySem.W.isFn K (.ref f31) = true) (l31 : K.lookup f31 = some ⟨oc31, od31, .func (PySem.W.fnOf "long_between" "Line.long_between" (defArgs s_long_between) (defBody s_long_between) (defScope s_long_between) .none kV31 dc31 pm31 an31 cd31 ct31), sl31⟩) (c31 : PySem.W.codeIn K cd31 "Line.long_between" = true) (k31 : PySem.W.keepIn K (.ref f31) = true) (a32 : PySem.W.findIn K (.ref C) "long_of" = some (some (.ref f32))) (i32 : PySem.W.isFn K (.ref f32) = true) (l32 : K.lookup f32 = some ⟨oc32, od32, .func (PySem.W.fnOf "long_of" "Line.long_of" (defArgs s_long_of) (defBody s_long_of) (defScope s_long_of) .none kV32 dc32 pm32 an32 cd32 ct32), sl32⟩) (c32 : PySem.W.codeIn K cd32 "Line.long_of" = true) (k32 : PySem.W.keepIn K (.ref f32) = true) (a33 : PySem.W.findIn K (.ref C) "told" = some (some (.ref f33))) (i33 : PySem.W.isFn K (.ref f33) = true) (l33 : K.lookup f33 = some ⟨oc33, od33, .func (PySem.W.fnOf "told" "Line.told" (defArgs s_told) (defBody s_told) (defScope s_told) .none kV33 dc33 pm33 an33 cd33 ct33), sl33⟩) (c33 : PySem.W.codeIn K cd33 "Line.told" = true) (k33 : PySem.W.keepIn K (.ref f33) = true) (a34 : PySem.W.findIn K (.ref C) "mirrored" = some (some (.ref f34))) (i34 : PySem.W.isFn K (.ref f34) = true) (l34 : K.lookup f34 = some ⟨oc34, od34, .func (PySem.W.fnOf "mirrored" "Line.mirrored" (defArgs s_mirrored) (defBody s_mirrored) (defScope s_mirrored) .none kV34 dc34 pm34 an34 cd34 ct34), sl34⟩) (c34 : PySem.W.codeIn K cd34 "Line.mirrored" = true) (k34 : PySem.W.keepIn K (.ref f34) = true) (a35 : PySem.W.findIn K (.ref C) "renamed" = some (some (.ref f35))) (i35 : PySem.W.isFn K (.ref f35) = true) (l35 : K.lookup f35 = some ⟨oc35, od35, .func (PySem.W.fnOf "renamed" "Line.renamed" (defArgs s_renamed) (defBody s_renamed) (defScope s_renamed) .none kV35 dc35 pm35 an35 cd35 ct35), sl35⟩) (c35 : PySem.W.codeIn K cd35 "Line.renamed" = true) (k35 : PySem.W.keepIn K (.ref f35) = true) (a36 : PySem.W.nsIn K mainGlobals "_law_cell" = some (some (.ref f36))) (l36 : K.lookup f36 = some ⟨oc36, od36, .func (PySem.W.fnOf "_law_cell" "_law_cell" (defArgs sCell) (defBody sCell) (defScope sCell) .none kV36 dc36 pm36 an36 cd36 ct36), sl36⟩) (c36 : PySem.W.codeIn K cd36 "_law_cell" = true) (k36 : PySem.W.keepIn K (.ref f36) = true) (a37 : PySem.W.nsIn K mainGlobals "_law_box" = some (some (.ref f37))) (l37 : K.lookup f37 = some ⟨oc37, od37, .func (PySem.W.fnOf "_law_box" "_law_box" (defArgs sBox) (defBody sBox) (defScope sBox) .none kV37 dc37 pm37 an37 cd37 ct37), sl37⟩) (c37 : PySem.W.codeIn K cd37 "_law_box" = true) (k37 : PySem.W.keepIn K (.ref f37) = true) (a38 : PySem.W.nsIn K mainGlobals "_law_take" = some (some (.ref f38))) (l38 : K.lookup f38 = some ⟨oc38, od38, .func (PySem.W.fnOf "_law_take" "_law_take" (defArgs sTake) (defBody sTake) (defScope sTake) .none kV38 dc38 pm38 an38 cd38 ct38), sl38⟩) (c38 : PySem.W.codeIn K cd38 "_law_take" = true) (k38 : PySem.W.keepIn K (.ref f38) = true) (a39 : PySem.W.nsIn K mainGlobals "_law_names" = some (some (.ref f39))) (l39 : K.lookup f39 = some ⟨oc39, od39, .func (PySem.W.fnOf "_law_names" "_law_names" (defArgs s_law_names) (defBody s_law_names) (defScope s_law_names) .none kV39 dc39 pm39 an39 cd39 ct39), sl39⟩) (c39 : PySem.W.codeIn K cd39 "_law_names" = true) (k39 : PySem.W.keepIn K (.ref f39) = true) (a40 : PySem.W.nsIn K mainGlobals "_law_world" = some (some (.ref f40))) (l40 : K.lookup f40 = some ⟨oc40, od40, .func (PySem.W.fnOf "_law_world" "_law_world" (defArgs s_law_world) (defBody s_law_world) (defScope s_law_world) .none kV40 dc40 pm40 an40 cd40 ct40), sl40⟩) (c40 : PySem.W.codeIn K cd40 "_law_world" = true) (k40 : PySem.W.keepIn K (.ref f40) = true) (a41 : PySem.W.nsIn K mainGlobals "_law_is_name" = some (some (.ref f41))) (l41 : K.lookup f41 = some ⟨oc41, od41, .func (PySem.W.fnOf "_law_is_name" "_law_is_name" (defArgs s_law_is_name) (defBody s_law_is_name) (defScope s_law_is_name) .none kV41 dc41 pm41 an41 cd41 ct41), sl41⟩) (c41 : PySem.W.codeIn K cd41 "_law_is_name" = true) (k41 : PySem.W.keepIn K (.ref f41) = true) (a42 : PySem.W.nsIn K mainGlobals "_law_told" = some (some (.ref f42))) (l42 : K.lookup f42 = some ⟨oc42, od42, .func (PySem.W.fnOf "_law_told" "_law_told" (defArgs s_law_told) (defBody s_law_told) (defScope s_law_told) .none kV42 dc42 pm42 an42 cd42 ct42), sl42⟩) (c42 : PySem.W.codeIn K cd42 "_law_told" = true) (k42 : PySem.W.keepIn K (.ref f42) = true) (a43 : PySem.W.nsIn K mainGlobals "_law_turned" = some (some (.ref f43))) (l43 : K.lookup f43 = some ⟨oc43, od43, .func (PySem.W.fnOf "_law_turned" "_law_turned" (defArgs s_law_turned) (defBody s_law_turned) (defScope s_law_turned) .none kV43 dc43 pm43 an43 cd43 ct43), sl43⟩) (c43 : PySem.W.codeIn K cd43 "_law_turned" = true) (k43 : PySem.W.keepIn K (.ref f43) = true) (a44 : PySem.W.nsIn K mainGlobals "_law_dict" = some (some (.ref f44))) (l44 : K.lookup f44 = some ⟨oc44, od44, .func (PySem.W.fnOf "_law_dict" "_law_dict" (defArgs s_law_dict) (defBody s_law_dict) (defScope s_law_dict) .none kV44 dc44 pm44 an44 cd44 ct44), sl44⟩) (c44 : PySem.W.codeIn K cd44 "_law_dict" = true) (k44 : PySem.W.keepIn K (.ref f44) = true) (a45 : PySem.W.nsIn K mainGlobals "_law_due" = some (some (.ref f45))) (l45 : K.lookup f45 = some ⟨oc45, od45, .func (PySem.W.fnOf "_law_due" "_law_due" (defArgs s_law_due) (defBody s_law_due) (defScope s_law_due) .none kV45 dc45 pm45 an45 cd45 ct45), sl45⟩) (c45 : PySem.W.codeIn K cd45 "_law_due" = true) (k45 : PySem.W.keepIn K (.ref f45) = true) (a46 : PySem.W.nsIn K mainGlobals "_law_caught" = some (some (.ref f46))) (l46 : K.lookup f46 = some ⟨oc46, od46, .func (PySem.W.fnOf "_law_caught" "_law_caught" (defArgs s_law_caught) (defBody s_law_caught) (defScope s_law_caught) .none kV46 dc46 pm46 an46 cd46 ct46), sl46⟩) (c46 : PySem.W.codeIn K cd46 "_law_caught" = true) (k46 : PySem.W.keepIn K (.ref f46) = true) (a47 : PySem.W.nsIn K mainGlobals "_law_stretches_asked_right" = some (some (.ref f47))) (l47 : K.lookup f47 = some ⟨oc47, od47, .func (PySem.W.fnOf "_law_stretches_asked_right" "_law_stretches_asked_right" (defArgs s_law_stretches_asked_right) (defBody s_law_stretches_asked_right) (defScope s_law_stretches_asked_right) .none kV47 dc47 pm47 an47 cd47 ct47), sl47⟩) (c47 : PySem.W.codeIn K cd47 "_law_stretches_asked_right" = true) (k47 : PySem.W.keepIn K (.ref f47) = true) (a48 : PySem.W.nsIn K mainGlobals "_law_asked_right" = some (some (.ref f48))) (l48 : K.lookup f48 = some ⟨oc48, od48, .func (PySem.W.fnOf "_law_asked_right" "_law_asked_right" (defArgs s_law_asked_right) (defBody s_law_asked_right) (defScope s_law_asked_right) .none kV48 dc48 pm48 an48 cd48 ct48), sl48⟩) (c48 : PySem.W.codeIn K cd48 "_law_asked_right" = true) (k48 : PySem.W.keepIn K (.ref f48) = true) (a49 : PySem.W.nsIn K mainGlobals "_law_renamed_right" = some (some (.ref f49))) (l49 : K.lookup f49 = some ⟨oc49, od49, .func (PySem.W.fnOf "_law_renamed_right" "_law_renamed_right" (defArgs s_law_renamed_right) (defBody s_law_renamed_right) (defScope s_law_renamed_right) .none kV49 dc49 pm49 an49 cd49 ct49), sl49⟩) (c49 : PySem.W.codeIn K cd49 "_law_renamed_right" = true) (k49 : PySem.W.keepIn K (.ref f49) = true) (a50 : PySem.W.nsIn K mainGlobals "law" = some (some (.ref f50))) (l50 : K.lookup f50 = some ⟨oc50, od50, .func (PySem.W.fnOf "law" "law" (defArgs s_law) (defBody s_law) (defScope s_law) .none kV50 dc50 pm50 an50 cd50 ct50), sl50⟩) (c50 : PySem.W.codeIn K cd50 "law" = true) (k50 : PySem.W.keepIn K (.ref f50) = true) (lT : K.lookup dT = some oT) (oTd : oT.data = .seq #[.none] mT) (lco : K.lookup co = some ⟨eo, eoD, .fields us, usl⟩) (u11 : us[11]? = some (.ref tb)) (ntb : K.lookup tb = none) (hrec : ((PyProof.Rows.recsOf q).any fun r => r.name == "is_name") = true) (z0 : PySem.W.nsIn K mainGlobals "isinstance" = some none) (z1 : PySem.W.nsIn K mainGlobals "int" = some none) (z2 : PySem.W.nsIn K mainGlobals "bool" = some none) (z3 : PySem.W.nsIn K mainGlobals "str" = some none) (z4 : PySem.W.nsIn K mainGlobals "len" = some none) (z5 : PySem.W.nsIn K mainGlobals "all" = some none) (z6 : PySem.W.nsIn K mainGlobals "max" = some none) (z7 : PySem.W.nsIn K mainGlobals "min" = some none) (z8 : PySem.W.nsIn K mainGlobals "range" = some none) (z9 : PySem.W.nsIn K mainGlobals "repr" = some none) (z10 : PySem.W.nsIn K mainGlobals "list" = some none) (z11 : PySem.W.nsIn K mainGlobals "tuple" = some none) (z12 : PySem.W.nsIn K mainGlobals "enumerate" = some none) (z13 : PySem.W.nsIn K mainGlobals "sorted" = some none) (z14 : PySem.W.nsIn K mainGlobals "dict" = some none) (z15 : PySem.W.nsIn K mainGlobals "zip" = some none) (z16 : PySem.W.nsIn K mainGlobals "reversed" = some none) (z17 : PySem.W.nsIn K mainGlobals "ValueError" = some none) (aCS : PySem.W.nsIn K mainGlobals "StaffError" = some (some (.ref CS))) (gaCS : PySem.W.specialIn K (.ref CS) "__getattribute__" = some (some (.builtin "type.__getattribute__"))) (rdCS : PySem.W.readsIn K CS (.type "type") = true) (atCS : PySem.W.findCls K (.ref CS) (.type "type") "__init__" = some (.val (.ref f1))) (vi : PySem.W.findCls K (.type "ValueError") (.type "type") "__init__" = some (.val (.builtin "ValueError.__init__"))) (xWN : PySem.W.exmOne K (.ref CW) (.ref CN) = some false) (cg : PySem.W.specialIn K (.builtin "object.__class__") "__get__" = some (some (.builtin "getset_descriptor.__get__"))) (ct : PySem.W.takesIn K (.builtin "object.__class__") = some true) (smN : K.lookup sysModules = none) :
    GLawM l w K CX0 11 63 "_law_script" mg fa h := by
  have e := hfa.symm.trans (PySem.W.mg_of X G a50)
  cases e
  have T : Txt mg := ⟨PySem.W.mg_none_of X G z0, PySem.W.mg_none_of X G z1, PySem.W.mg_none_of X G z2, PySem.W.mg_none_of X G z3, PySem.W.mg_none_of X G z4, PySem.W.mg_none_of X G z5, PySem.W.mg_none_of X G z6, PySem.W.mg_none_of X G z7, PySem.W.mg_none_of X G z8, PySem.W.mg_none_of X G z9, PySem.W.mg_none_of X G z10, PySem.W.mg_none_of X G z11, PySem.W.mg_none_of X G z12, PySem.W.mg_none_of X G z13, PySem.W.mg_none_of X G z14, PySem.W.mg_none_of X G z15, PySem.W.mg_none_of X G z16⟩
  have seCP : PySem.W.subIn K (.ref CP) (.ref CP) = some true := My.sub_self (by unfold PySem.W.clsIn; rw [xlCP] <;> rfl) rfl
  have seCN : PySem.W.subIn K (.ref CN) (.ref CN) = some true := My.sub_self (by unfold PySem.W.clsIn; rw [xlCN] <;> rfl) rfl
  have seCW : PySem.W.subIn K (.ref CW) (.ref CW) = some true := My.sub_self (by unfold PySem.W.clsIn; rw [xlCW] <;> rfl) rfl
  have seCM : PySem.W.subIn K (.ref CM) (.ref CM) = some true := My.sub_self (by unfold PySem.W.clsIn; rw [xlCM] <;> rfl) rfl
  have F1 := fun_mk (st := sSE) l1 c1 k1
  have b1 := F1.binds (ps := ["self", "text"]) fun _ _ _ _ _ _ us hl => match us, hl with | [_, _], _ => rfl
  have F2 := fun_mk (st := sNoPlaces) l2 c2 k2
  have b2 := F2.binds (ps := ["self", "found"]) fun _ _ _ _ _ _ us hl => match us, hl with | [_, _], _ => rfl
  have F3 := fun_mk (st := sNoName) l3 c3 k3
  have b3 := F3.binds (ps := ["self", "found"]) fun _ _ _ _ _ _ us hl => match us, hl with | [_, _], _ => rfl
  have F4 := fun_mk (st := sTwice) l4 c4 k4
  have b4 := F4.binds (ps := ["self", "found"]) fun _ _ _ _ _ _ us hl => match us, hl with | [_, _], _ => rfl
  have F5 := fun_mk (st := sNoNumber) l5 c5 k5
  have b5 := F5.binds (ps := ["self", "found"]) fun _ _ _ _ _ _ us hl => match us, hl with | [_, _], _ => rfl
  have F6 := fun_mk (st := sWhole) l6 c6 k6
  have b6 := F6.binds (ps := ["thing", "low", "high"]) fun _ _ _ _ _ _ us hl => match us, hl with | [_, _, _], _ => rfl
  have F7 := fun_mk (st := sName) l7 c7 k7
  have b7 := F7.binds (ps := ["thing"]) fun _ _ _ _ _ _ us hl => match us, hl with | [_], _ => rfl
  have F8 := fun_mk (st := s_is_list) l8 c8 k8
  have b8 := F8.binds (ps := ["thing", "low", "high"]) fun _ _ _ _ _ _ us hl => match us, hl with | [_, _, _], _ => rfl
  have F9 := fun_mk (st := s_is_tuple) l9 c9 k9
  have b9 := F9.binds (ps := ["thing", "many"]) fun _ _ _ _ _ _ us hl => match us, hl with | [_, _], _ => rfl
  have F10 := fun_mk (st := s_check_place) l10 c10 k10
  have b10 := F10.binds (ps := ["place", "ahead"]) fun _ _ _ _ _ _ us hl => match us, hl with | [_, _], _ => rfl
  have F11 := fun_mk (st := s_check_places) l11 c11 k11
  have b11 := F11.binds (ps := ["places"]) fun _ _ _ _ _ _ us hl => match us, hl with | [_], _ => rfl
  have F12 := fun_mk (st := s_is_stretch) l12 c12 k12
  have b12 := F12.binds (ps := ["thing"]) fun _ _ _ _ _ _ us hl => match us, hl with | [_], _ => rfl
  have F13 := fun_mk (st := s_check_stretches) l13 c13 k13
  have b13 := F13.binds (ps := ["stretches", "many"]) fun _ _ _ _ _ _ us hl => match us, hl with | [_, _], _ => rfl
  have F14 := fun_mk (st := s_is_long) l14 c14 k14
  have b14 := F14.binds (ps := ["thing", "low", "top"]) fun _ _ _ _ _ _ us hl => match us, hl with | [_, _, _], _ => rfl
  have F15 := fun_mk (st := s_check_longs) l15 c15 k15
  have b15 := F15.binds (ps := ["longs", "top"]) fun _ _ _ _ _ _ us hl => match us, hl with | [_, _], _ => rfl
  have F16 : FunV K "__init__" "Line.__init__" s_init f16 _ := ⟨⟨_, _, _, _, _, _, _, _, _, _, rfl, l16, c16⟩⟩
  have b16 : Binds K (PySem.W.fnOf "__init__" "Line.__init__" (defArgs s_init) (defBody s_init) (defScope s_init) (.ref dT) kV16 dc16 pm16 an16 cd16 ct16) ["self", "places", "stretches", "longs"] [] := fun s us X hl => by
    rw [List.append_nil] at hl ⊢
    match us, hl with
    | [_, _, _, _], _ => exact BindsTo.of_defaults rfl (X _ _ lT) oTd rfl rfl
  have bd16 : Binds K (PySem.W.fnOf "__init__" "Line.__init__" (defArgs s_init) (defBody s_init) (defScope s_init) (.ref dT) kV16 dc16 pm16 an16 cd16 ct16) ["self", "places", "stretches", "longs"] [.none] := fun s us X hl => by
    have hl2 : us.length = 3 := by simpa using hl
    match us, hl2 with
    | [_, _, _], _ => exact BindsTo.of_defaults rfl (X _ _ lT) oTd rfl rfl
  have F17 := fun_mk (st := s_number_of) l17 c17 k17
  have b17 := F17.binds (ps := ["self", "name"]) fun _ _ _ _ _ _ us hl => match us, hl with | [_, _], _ => rfl
  have F18 := fun_mk (st := s_names) l18 c18 k18
  have b18 := F18.binds (ps := ["self"]) fun _ _ _ _ _ _ us hl => match us, hl with | [_], _ => rfl
  have F19 := fun_mk (st := s_roads) l19 c19 k19
  have b19 := F19.binds (ps := ["self", "name"]) fun _ _ _ _ _ _ us hl => match us, hl with | [_, _], _ => rfl
  have F20 := fun_mk (st := s_many_stretches) l20 c20 k20
  have b20 := F20.binds (ps := ["self"]) fun _ _ _ _ _ _ us hl => match us, hl with | [_], _ => rfl
  have F21 := fun_mk (st := s_check_stretch) l21 c21 k21
  have b21 := F21.binds (ps := ["self", "k"]) fun _ _ _ _ _ _ us hl => match us, hl with | [_, _], _ => rfl
  have F22 := fun_mk (st := s_ends) l22 c22 k22
  have b22 := F22.binds (ps := ["self", "k"]) fun _ _ _ _ _ _ us hl => match us, hl with | [_, _], _ => rfl
  have F23 := fun_mk (st := s_kind) l23 c23 k23
  have b23 := F23.binds (ps := ["self", "k"]) fun _ _ _ _ _ _ us hl => match us, hl with | [_, _], _ => rfl
  have F24 := fun_mk (st := s_home) l24 c24 k24
  have b24 := F24.binds (ps := ["self", "k"]) fun _ _ _ _ _ _ us hl => match us, hl with | [_, _], _ => rfl
  have F25 := fun_mk (st := s_between) l25 c25 k25
  have b25 := F25.binds (ps := ["self", "one", "other"]) fun _ _ _ _ _ _ us hl => match us, hl with | [_, _, _], _ => rfl
  have F26 := fun_mk (st := s_many_longs) l26 c26 k26
  have b26 := F26.binds (ps := ["self"]) fun _ _ _ _ _ _ us hl => match us, hl with | [_], _ => rfl
  have F27 := fun_mk (st := s_long) l27 c27 k27
  have b27 := F27.binds (ps := ["self", "j"]) fun _ _ _ _ _ _ us hl => match us, hl with | [_, _], _ => rfl
  have F28 := fun_mk (st := s_long_ends) l28 c28 k28
  have b28 := F28.binds (ps := ["self", "j"]) fun _ _ _ _ _ _ us hl => match us, hl with | [_, _], _ => rfl
  have F29 := fun_mk (st := s_long_stretches) l29 c29 k29
  have b29 := F29.binds (ps := ["self", "j"]) fun _ _ _ _ _ _ us hl => match us, hl with | [_, _], _ => rfl
  have F30 := fun_mk (st := s_long_home) l30 c30 k30
  have b30 := F30.binds (ps := ["self", "j"]) fun _ _ _ _ _ _ us hl => match us, hl with | [_, _], _ => rfl
  have F31 := fun_mk (st := s_long_between) l31 c31 k31
  have b31 := F31.binds (ps := ["self", "one", "other"]) fun _ _ _ _ _ _ us hl => match us, hl with | [_, _, _], _ => rfl
  have F32 := fun_mk (st := s_long_of) l32 c32 k32
  have b32 := F32.binds (ps := ["self", "k"]) fun _ _ _ _ _ _ us hl => match us, hl with | [_, _], _ => rfl
  have F33 := fun_mk (st := s_told) l33 c33 k33
  have b33 := F33.binds (ps := ["self"]) fun _ _ _ _ _ _ us hl => match us, hl with | [_], _ => rfl
  have F34 := fun_mk (st := s_mirrored) l34 c34 k34
  have b34 := F34.binds (ps := ["self"]) fun _ _ _ _ _ _ us hl => match us, hl with | [_], _ => rfl
  have F35 := fun_mk (st := s_renamed) l35 c35 k35
  have b35 := F35.binds (ps := ["self", "names"]) fun _ _ _ _ _ _ us hl => match us, hl with | [_, _], _ => rfl
  have F36 := fun_mk (st := sCell) l36 c36 k36
  have b36 := F36.binds (ps := ["_law_script", "_law_k"]) fun _ _ _ _ _ _ us hl => match us, hl with | [_, _], _ => rfl
  have F37 := fun_mk (st := sBox) l37 c37 k37
  have b37 := F37.binds (ps := ["_law_cell_here"]) fun _ _ _ _ _ _ us hl => match us, hl with | [_], _ => rfl
  have F38 := fun_mk (st := sTake) l38 c38 k38
  have b38 := F38.binds (ps := ["_law_box_here", "_law_many"]) fun _ _ _ _ _ _ us hl => match us, hl with | [_, _], _ => rfl
  have F39 := fun_mk (st := s_law_names) l39 c39 k39
  have b39 := F39.binds (ps := ["_law_box_here", "_law_many"]) fun _ _ _ _ _ _ us hl => match us, hl with | [_, _], _ => rfl
  have F40 := fun_mk (st := s_law_world) l40 c40 k40
  have b40 := F40.binds (ps := ["_law_box_here"]) fun _ _ _ _ _ _ us hl => match us, hl with | [_], _ => rfl
  have F41 := fun_mk (st := s_law_is_name) l41 c41 k41
  have b41 := F41.binds (ps := ["_law_thing"]) fun _ _ _ _ _ _ us hl => match us, hl with | [_], _ => rfl
  have F42 := fun_mk (st := s_law_told) l42 c42 k42
  have b42 := F42.binds (ps := ["_law_world_here"]) fun _ _ _ _ _ _ us hl => match us, hl with | [_], _ => rfl
  have F43 := fun_mk (st := s_law_turned) l43 c43 k43
  have b43 := F43.binds (ps := ["_law_world_here"]) fun _ _ _ _ _ _ us hl => match us, hl with | [_], _ => rfl
  have F44 := fun_mk (st := s_law_dict) l44 c44 k44
  have b44 := F44.binds (ps := ["_law_box_here", "_law_world_here"]) fun _ _ _ _ _ _ us hl => match us, hl with | [_, _], _ => rfl
  have F45 := fun_mk (st := s_law_due) l45 c45 k45
  have b45 := F45.binds (ps := ["_law_world_here", "_law_some"]) fun _ _ _ _ _ _ us hl => match us, hl with | [_, _], _ => rfl
  have F46 := fun_mk (st := s_law_caught) l46 c46 k46
  have b46 := F46.binds (ps := ["_law_line", "_law_thing"]) fun _ _ _ _ _ _ us hl => match us, hl with | [_, _], _ => rfl
  have F47 := fun_mk (st := s_law_stretches_asked_right) l47 c47 k47
  have b47 := F47.binds (ps := ["_law_line", "_law_world_here"]) fun _ _ _ _ _ _ us hl => match us, hl with | [_, _], _ => rfl
  have F48 := fun_mk (st := s_law_asked_right) l48 c48 k48
  have b48 := F48.binds (ps := ["_law_line", "_law_world_here"]) fun _ _ _ _ _ _ us hl => match us, hl with | [_, _], _ => rfl
  have F49 := fun_mk (st := s_law_renamed_right) l49 c49 k49
  have b49 := F49.binds (ps := ["_law_box_here", "_law_line", "_law_world_here"]) fun _ _ _ _ _ _ us hl => match us, hl with | [_, _, _], _ => rfl
  have F50 := fun_mk (st := s_law) l50 c50 k50
  have TC : ClsT K C := ⟨⟨pgC, hdC, poC, saC⟩, n0C, n1C, n2C, n3C⟩
  have ES : SeT K mg CS f1 _ sSE := ⟨PySem.W.mg_none_of X G z17, vi, PySem.W.mg_of X G aCS, ⟨gaCS, rdCS, atCS⟩, k1, F1, b1⟩
  have e0CP : ExC K mg "NoPlaces" "NoPlaces.__init__" sNoPlaces CP f2 _ := ⟨PySem.W.mg_of X G aCP, F2, b2, ⟨⟨nmCP, qCP, NCP, bsCP, _, snCP, subCP, abCP, colCP, ddCP, m0CP, m1CP, m2CP, m3CP, m5CP, xlCP, rfl⟩, saCP, exCP, tyCP, kcCP⟩, a2, (beq_iff_eq.mp i2), n0CP, PySem.W.exm_ref exCP hdCP tyCP seCP, ⟨gaCP, ggCP, exCP, hdCP⟩, ⟨icCP, gaCP, ggCP, exCP, coCP, cg, ct, moCP⟩⟩
  have ECP : ExC K mg "NoPlaces" "NoPlaces.__init__" sNoPlaces (clOf CP CN CW CM CS .places) f2 _ := e0CP
  have e0CN : ExC K mg "NoName" "NoName.__init__" sNoName CN f3 _ := ⟨PySem.W.mg_of X G aCN, F3, b3, ⟨⟨nmCN, qCN, NCN, bsCN, _, snCN, subCN, abCN, colCN, ddCN, m0CN, m1CN, m2CN, m3CN, m5CN, xlCN, rfl⟩, saCN, exCN, tyCN, kcCN⟩, a3, (beq_iff_eq.mp i3), n0CN, PySem.W.exm_ref exCN hdCN tyCN seCN, ⟨gaCN, ggCN, exCN, hdCN⟩, ⟨icCN, gaCN, ggCN, exCN, coCN, cg, ct, moCN⟩⟩
  have ECN : ExC K mg "NoName" "NoName.__init__" sNoName (clOf CP CN CW CM CS .name) f3 _ := e0CN
  have e0CW : ExC K mg "Twice" "Twice.__init__" sTwice CW f4 _ := ⟨PySem.W.mg_of X G aCW, F4, b4, ⟨⟨nmCW, qCW, NCW, bsCW, _, snCW, subCW, abCW, colCW, ddCW, m0CW, m1CW, m2CW, m3CW, m5CW, xlCW, rfl⟩, saCW, exCW, tyCW, kcCW⟩, a4, (beq_iff_eq.mp i4), n0CW, PySem.W.exm_ref exCW hdCW tyCW seCW, ⟨gaCW, ggCW, exCW, hdCW⟩, ⟨icCW, gaCW, ggCW, exCW, coCW, cg, ct, moCW⟩⟩
  have ECW : ExC K mg "Twice" "Twice.__init__" sTwice (clOf CP CN CW CM CS .twice) f4 _ := e0CW
  have e0CM : ExC K mg "NoNumber" "NoNumber.__init__" sNoNumber CM f5 _ := ⟨PySem.W.mg_of X G aCM, F5, b5, ⟨⟨nmCM, qCM, NCM, bsCM, _, snCM, subCM, abCM, colCM, ddCM, m0CM, m1CM, m2CM, m3CM, m5CM, xlCM, rfl⟩, saCM, exCM, tyCM, kcCM⟩, a5, (beq_iff_eq.mp i5), n0CM, PySem.W.exm_ref exCM hdCM tyCM seCM, ⟨gaCM, ggCM, exCM, hdCM⟩, ⟨icCM, gaCM, ggCM, exCM, coCM, cg, ct, moCM⟩⟩
  have ECM : ExC K mg "NoNumber" "NoNumber.__init__" sNoNumber (clOf CP CN CW CM CS .number) f5 _ := e0CM
  have XM : PySem.W.exmOne K (.ref (clOf CP CN CW CM CS .twice)) (.ref (clOf CP CN CW CM CS .name)) = some false := xWN
  obtain ⟨ch, tabh⟩ := em "is_name" f7 co tb _ _ eo eoD us usl hrec a7 l7 rfl rfl lco u11
  refine ⟨PySem.W.fnOf "law" "law" (defArgs s_law) (defBody s_law) (defScope s_law) .none kV50 dc50 pm50 an50 cd50 ct50, [(co, tb)], spLaw K tb, smN, ?_, ?_, ?_, fun s v => .of_eq rfl, ?_, ?_⟩
  · intro p hp
    obtain rfl := List.mem_singleton.mp hp
    exact tabh
  · intro p hp
    obtain rfl := List.mem_singleton.mp hp
    exact ntb
  · intro p hp
    obtain rfl := List.mem_singleton.mp hp
    exact ch
  · intro H a ns hn sm hT hS
    exact ⟨a, ns, rfl, hS, hn, ⟨#[], hT (co, tb) (List.mem_singleton.mpr rfl), trivial⟩, sm, fun _ => rfl⟩
  · intro base kb nb TB
    have gis_whole : FnOk l.prog w K mg base CX0 _ f6 _ _ _ := ok_whole F6 T
    have gis_name := ok_name (P := l.prog) (w := w) l7 c7 T (TB (co, tb) (List.mem_singleton.mpr rfl))
    have gis_list : FnOk l.prog w K mg base CX0 _ f8 _ _ _ := ok_is_list F8 T
    have gis_listG : FnOk l.prog w K mg base CX0 _ f8 _ _ _ := ok_is_listG F8 T
    have gis_tuple : FnOk l.prog w K mg base CX0 _ f9 _ _ _ := ok_is_tuple F9 T
    have gis_tupleG : FnOk l.prog w K mg base CX0 _ f9 _ _ _ := ok_is_tupleG F9 T
    have gcheck_place : FnOk l.prog w K mg base CX0 _ f10 _ _ _ := ok_check_place F10 T ⟨F9, PySem.W.mg_of X G a9, b9⟩ gis_tuple ⟨F7, PySem.W.mg_of X G a7, b7⟩ gis_name ⟨F6, PySem.W.mg_of X G a6, b6⟩ gis_whole
    have gplaceX : FnOk l.prog w K mg base (CX l.prog w) _ f10 _ _ _ := ok_placeX F10 T ES ECP ECN ECW ECM ⟨F9, PySem.W.mg_of X G a9, b9⟩ gis_tupleG ⟨F7, PySem.W.mg_of X G a7, b7⟩ gis_name ⟨F6, PySem.W.mg_of X G a6, b6⟩ gis_whole
    have gcheck_places : FnOk l.prog w K mg base CX0 _ f11 _ _ _ := ok_check_places F11 T ⟨F8, PySem.W.mg_of X G a8, b8⟩ gis_list ⟨F10, PySem.W.mg_of X G a10, b10⟩ gcheck_place
    have gplacesX : FnOk l.prog w K mg base (CX l.prog w) _ f11 _ _ _ := ok_placesX F11 T ES ECP ⟨F8, PySem.W.mg_of X G a8, b8⟩ gis_listG ⟨F10, PySem.W.mg_of X G a10, b10⟩ gplaceX
    have gis_stretch : FnOk l.prog w K mg base CX0 _ f12 _ _ _ := ok_is_stretch F12 T ⟨F9, PySem.W.mg_of X G a9, b9⟩ gis_tuple ⟨F6, PySem.W.mg_of X G a6, b6⟩ gis_whole
    have gcheck_stretches : FnOk l.prog w K mg base CX0 _ f13 _ _ _ := ok_check_stretches F13 T ⟨F8, PySem.W.mg_of X G a8, b8⟩ gis_list ⟨F12, PySem.W.mg_of X G a12, b12⟩ gis_stretch
    have gis_long : FnOk l.prog w K mg base CX0 _ f14 _ _ _ := ok_is_long F14 T ⟨F9, PySem.W.mg_of X G a9, b9⟩ gis_tuple ⟨F6, PySem.W.mg_of X G a6, b6⟩ gis_whole
    have gcheck_longs : FnOk l.prog w K mg base CX0 _ f15 _ _ _ := ok_check_longs F15 T ⟨F8, PySem.W.mg_of X G a8, b8⟩ gis_list ⟨F14, PySem.W.mg_of X G a14, b14⟩ gis_long
    have ginit : FnOk l.prog w K mg base CX0 _ f16 _ _ _ := ok_init F16 T TC ⟨F11, PySem.W.mg_of X G a11, b11⟩ gcheck_places ⟨F13, PySem.W.mg_of X G a13, b13⟩ gcheck_stretches ⟨F15, PySem.W.mg_of X G a15, b15⟩ gcheck_longs
    have ginitP : FnOk l.prog w K mg base (CX l.prog w) _ f16 _ _ _ := ok_initP F16 T TC ⟨F11, PySem.W.mg_of X G a11, b11⟩ gplacesX ⟨F13, PySem.W.mg_of X G a13, b13⟩ gcheck_stretches ⟨F15, PySem.W.mg_of X G a15, b15⟩ gcheck_longs
    have gnumber_of : FnOk l.prog w K mg base CX0 _ f17 _ _ _ := ok_num F17 T TC
    have gnames : FnOk l.prog w K mg base CX0 _ f18 _ _ _ := ok_names_of F18 T TC
    have groads : FnOk l.prog w K mg base CX0 _ f19 _ _ _ := ok_roads F19 T TC ⟨F17, ⟨a17, i17, k17⟩, b17⟩ gnumber_of
    have gmany_stretches : FnOk l.prog w K mg base CX0 _ f20 _ _ _ := ok_many_stretches F20 T TC
    have gcheck_stretch : FnOk l.prog w K mg base CX0 _ f21 _ _ _ := ok_check_stretch F21 T TC ⟨F6, PySem.W.mg_of X G a6, b6⟩ gis_whole
    have gends : FnOk l.prog w K mg base CX0 _ f22 _ _ _ := ok_ends F22 T TC ⟨F21, ⟨a21, i21, k21⟩, b21⟩ gcheck_stretch
    have gkind : FnOk l.prog w K mg base CX0 _ f23 _ _ _ := ok_kind F23 T TC ⟨F21, ⟨a21, i21, k21⟩, b21⟩ gcheck_stretch
    have ghome : FnOk l.prog w K mg base CX0 _ f24 _ _ _ := ok_home F24 T TC ⟨F22, ⟨a22, i22, k22⟩, b22⟩ gends
    have gbetween : FnOk l.prog w K mg base CX0 _ f25 _ _ _ := ok_between F25 T TC ⟨F17, ⟨a17, i17, k17⟩, b17⟩ gnumber_of
    have gmany_longs : FnOk l.prog w K mg base CX0 _ f26 _ _ _ := ok_many_longs F26 T TC
    have glong : FnOk l.prog w K mg base CX0 _ f27 _ _ _ := ok_long F27 T TC ⟨F6, PySem.W.mg_of X G a6, b6⟩ gis_whole
    have glong_ends : FnOk l.prog w K mg base CX0 _ f28 _ _ _ := ok_long_ends F28 T TC ⟨F27, ⟨a27, i27, k27⟩, b27⟩ glong
    have glong_stretches : FnOk l.prog w K mg base CX0 _ f29 _ _ _ := ok_long_stretches F29 T TC ⟨F27, ⟨a27, i27, k27⟩, b27⟩ glong
    have glong_home : FnOk l.prog w K mg base CX0 _ f30 _ _ _ := ok_long_home F30 T TC ⟨F28, ⟨a28, i28, k28⟩, b28⟩ glong_ends
    have glong_between : FnOk l.prog w K mg base CX0 _ f31 _ _ _ := ok_long_between F31 T TC ⟨F17, ⟨a17, i17, k17⟩, b17⟩ gnumber_of
    have glong_of : FnOk l.prog w K mg base CX0 _ f32 _ _ _ := ok_long_of F32 T TC ⟨F21, ⟨a21, i21, k21⟩, b21⟩ gcheck_stretch
    have gtold : FnOk l.prog w K mg base CX0 _ f33 _ _ _ := ok_told F33 T TC
    have gmirrored : FnOk l.prog w K mg base CX0 _ f34 _ _ _ := ok_mirrored F34 T TC ⟨mkC, a16, i16, kcC⟩ (PySem.W.mg_of X G aC) b16 ginit
    have grenamed : FnOk l.prog w K mg base (CX l.prog w) _ f35 _ _ _ := ok_renamed F35 T TC ES ECN ⟨mkC, a16, i16, kcC⟩ (PySem.W.mg_of X G aC) b16 ginit ginitP
    have glaw_cell : FnOk l.prog w K mg base CX0 _ f36 _ _ _ := ok_cell F36 T
    have glaw_box : FnOk l.prog w K mg base CX0 _ f37 _ _ _ := ok_box F37 T
    have glaw_take : FnOk l.prog w K mg base CX0 _ f38 _ _ _ := ok_take F38
    have glaw_names : FnOk l.prog w K mg base CX0 _ f39 _ _ _ := ok_names F39 T ⟨F38, PySem.W.mg_of X G a38, b38⟩ glaw_take
    have glaw_world : FnOk l.prog w K mg base CX0 _ f40 _ _ _ := ok_world F40 T ⟨F38, PySem.W.mg_of X G a38, b38⟩ glaw_take ⟨F39, PySem.W.mg_of X G a39, b39⟩ glaw_names
    have glaw_is_name : FnOk l.prog w K mg base CX0 _ f41 _ _ _ := ok_law_is_name F41 T
    have glaw_told : FnOk l.prog w K mg base CX0 _ f42 _ _ _ := ok_law_told F42 T
    have glaw_turned : FnOk l.prog w K mg base CX0 _ f43 _ _ _ := ok_law_turned F43 T
    have glaw_dict : FnOk l.prog w K mg base CX0 _ f44 _ _ _ := ok_law_dict F44 T ⟨F38, PySem.W.mg_of X G a38, b38⟩ glaw_take ⟨F39, PySem.W.mg_of X G a39, b39⟩ glaw_names
    have glaw_due : FnOk l.prog w K mg base CX0 _ f45 _ _ _ := ok_law_due F45 T ⟨F41, PySem.W.mg_of X G a41, b41⟩ glaw_is_name ⟨F42, PySem.W.mg_of X G a42, b42⟩ glaw_told
    have glaw_caught : FnOk l.prog w K mg base CX0 _ f46 _ _ _ := ok_caught F46 T TC ES ECN ECW XM ⟨F35, ⟨a35, i35, k35⟩, b35⟩ grenamed ⟨F33, ⟨a33, i33, k33⟩, b33⟩ gtold
    have glaw_stretches_asked_right : GOk l.prog w K mg base CX0 _ f47 _ _ _ := ok_stretches_askedL F47 T TC ⟨F20, ⟨a20, i20, k20⟩, b20⟩ gmany_stretches ⟨F26, ⟨a26, i26, k26⟩, b26⟩ gmany_longs ⟨F22, ⟨a22, i22, k22⟩, b22⟩ gends ⟨F23, ⟨a23, i23, k23⟩, b23⟩ gkind ⟨F24, ⟨a24, i24, k24⟩, b24⟩ ghome ⟨F32, ⟨a32, i32, k32⟩, b32⟩ glong_of ⟨F28, ⟨a28, i28, k28⟩, b28⟩ glong_ends ⟨F29, ⟨a29, i29, k29⟩, b29⟩ glong_stretches ⟨F30, ⟨a30, i30, k30⟩, b30⟩ glong_home
    have gst_T : GOk l.prog w K mg base CX0 _ f47 _ _ _ := ok_stretches_askedT F47 T TC ⟨F20, ⟨a20, i20, k20⟩, b20⟩ gmany_stretches ⟨F26, ⟨a26, i26, k26⟩, b26⟩ gmany_longs ⟨F22, ⟨a22, i22, k22⟩, b22⟩ gends ⟨F23, ⟨a23, i23, k23⟩, b23⟩ gkind ⟨F24, ⟨a24, i24, k24⟩, b24⟩ ghome ⟨F32, ⟨a32, i32, k32⟩, b32⟩ glong_of ⟨F28, ⟨a28, i28, k28⟩, b28⟩ glong_ends ⟨F29, ⟨a29, i29, k29⟩, b29⟩ glong_stretches ⟨F30, ⟨a30, i30, k30⟩, b30⟩ glong_home
    have glaw_asked_right : GOk l.prog w K mg base CX0 _ f48 _ _ _ := ok_askedL F48 T TC ⟨F19, ⟨a19, i19, k19⟩, b19⟩ groads ⟨F18, ⟨a18, i18, k18⟩, b18⟩ gnames ⟨F17, ⟨a17, i17, k17⟩, b17⟩ gnumber_of ⟨F25, ⟨a25, i25, k25⟩, b25⟩ gbetween ⟨F31, ⟨a31, i31, k31⟩, b31⟩ glong_between ⟨F47, PySem.W.mg_of X G a47, b47⟩ glaw_stretches_asked_right
    have gas_T : GOk l.prog w K mg base CX0 _ f48 _ _ _ := ok_askedT F48 T TC ⟨F19, ⟨a19, i19, k19⟩, b19⟩ groads ⟨F18, ⟨a18, i18, k18⟩, b18⟩ gnames ⟨F17, ⟨a17, i17, k17⟩, b17⟩ gnumber_of ⟨F25, ⟨a25, i25, k25⟩, b25⟩ gbetween ⟨F31, ⟨a31, i31, k31⟩, b31⟩ glong_between ⟨F47, PySem.W.mg_of X G a47, b47⟩ gst_T
    have glaw_renamed_right : GOk l.prog w K mg base CX0 _ f49 _ _ _ := ok_renamed_right smN F49 T TC ⟨F44, PySem.W.mg_of X G a44, b44⟩ glaw_dict ⟨F45, PySem.W.mg_of X G a45, b45⟩ glaw_due ⟨F46, PySem.W.mg_of X G a46, b46⟩ glaw_caught ⟨F35, ⟨a35, i35, k35⟩, b35⟩ grenamed ⟨F33, ⟨a33, i33, k33⟩, b33⟩ gtold ⟨F48, PySem.W.mg_of X G a48, b48⟩ gas_T ⟨F38, PySem.W.mg_of X G a38, b38⟩ glaw_take
    exact (ok_law F50 T TC ⟨mkC, a16, i16, kcC⟩ (PySem.W.mg_of X G aC) b16 ginit ⟨F36, PySem.W.mg_of X G a36, b36⟩ glaw_cell ⟨F37, PySem.W.mg_of X G a37, b37⟩ glaw_box ⟨F40, PySem.W.mg_of X G a40, b40⟩ glaw_world ⟨F48, PySem.W.mg_of X G a48, b48⟩ glaw_asked_right gas_T ⟨F33, ⟨a33, i33, k33⟩, b33⟩ gtold ⟨F34, ⟨a34, i34, k34⟩, b34⟩ gmirrored ⟨F42, PySem.W.mg_of X G a42, b42⟩ glaw_told ⟨F43, PySem.W.mg_of X G a43, b43⟩ glaw_turned ⟨F49, PySem.W.mg_of X G a49, b49⟩ glaw_renamed_right)
end K6

open PySem PySem.W PyProof.Rows in
set_option maxRecDepth 100000 in
set_option maxHeartbeats 0 in
theorem PySem.Challenge.cw_onestaff_k06_other_lines_holds : PySem.Challenge.rw_onestaff_k06_other_lines.Holds := by
  w_on; o_law; k_head; (case hw => w_witness2)
  k_fill
  refine Gd.walk_m (no := by first | rfl | decide +kernel) (l := PySem.Challenge.rw_onestaff_k06_other_lines) (n := 63) (k := 11) (x := "_law_script") (CX := fun _ => L2.CX0) rfl (by decide) rfl ⟨rfl, by decide, by decide⟩ (fun w h Y => PySem.W.kIn_of Y) ?F (fun _ _ _ _ _ z => z)
  case F =>
    intro w mg fa h Y KX G hmg em
    refine' K6.all_mk KX G hmg em ?QaC ?QpgC ?QhdC ?QpoC ?QsaC ?QmkC ?QkcC ?Qn0C ?Qn1C ?Qn2C ?Qn3C ?QaCP ?QxlCP ?QsaCP ?QgaCP ?QggCP ?QkcCP ?QexCP ?QtyCP ?QhdCP ?QicCP ?QcoCP ?QmoCP ?Qn0CP ?QaCN ?QxlCN ?QsaCN ?QgaCN ?QggCN ?QkcCN ?QexCN ?QtyCN ?QhdCN ?QicCN ?QcoCN ?QmoCN ?Qn0CN ?QaCW ?QxlCW ?QsaCW ?QgaCW ?QggCW ?QkcCW ?QexCW ?QtyCW ?QhdCW ?QicCW ?QcoCW ?QmoCW ?Qn0CW ?QaCM ?QxlCM ?QsaCM ?QgaCM ?QggCM ?QkcCM ?QexCM ?QtyCM ?QhdCM ?QicCM ?QcoCM ?QmoCM ?Qn0CM ?Qa1 ?Qi1 ?Ql1 ?Qc1 ?Qk1 ?Qa2 ?Qi2 ?Ql2 ?Qc2 ?Qk2 ?Qa3 ?Qi3 ?Ql3 ?Qc3 ?Qk3 ?Qa4 ?Qi4 ?Ql4 ?Qc4 ?Qk4 ?Qa5 ?Qi5 ?Ql5 ?Qc5 ?Qk5 ?Qa6 ?Ql6 ?Qc6 ?Qk6 ?Qa7 ?Ql7 ?Qc7 ?Qk7 ?Qa8 ?Ql8 ?Qc8 ?Qk8 ?Qa9 ?Ql9 ?Qc9 ?Qk9 ?Qa10 ?Ql10 ?Qc10 ?Qk10 ?Qa11 ?Ql11 ?Qc11 ?Qk11 ?Qa12 ?Ql12 ?Qc12 ?Qk12 ?Qa13 ?Ql13 ?Qc13 ?Qk13 ?Qa14 ?Ql14 ?Qc14 ?Qk14 ?Qa15 ?Ql15 ?Qc15 ?Qk15 ?Qa16 ?Qi16 ?Ql16 ?Qc16 ?Qk16 ?Qa17 ?Qi17 ?Ql17 ?Qc17 ?Qk17 ?Qa18 ?Qi18 ?Ql18 ?Qc18 ?Qk18 ?Qa19 ?Qi19 ?Ql19 ?Qc19 ?Qk19 ?Qa20 ?Qi20 ?Ql20 ?Qc20 ?Qk20 ?Qa21 ?Qi21 ?Ql21 ?Qc21 ?Qk21 ?Qa22 ?Qi22 ?Ql22 ?Qc22 ?Qk22 ?Qa23 ?Qi23 ?Ql23 ?Qc23 ?Qk23 ?Qa24 ?Qi24 ?Ql24 ?Qc24 ?Qk24 ?Qa25 ?Qi25 ?Ql25 ?Qc25 ?Qk25 ?Qa26 ?Qi26 ?Ql26 ?Qc26 ?Qk26 ?Qa27 ?Qi27 ?Ql27 ?Qc27 ?Qk27 ?Qa28 ?Qi28 ?Ql28 ?Qc28 ?Qk28 ?Qa29 ?Qi29 ?Ql29 ?Qc29 ?Qk29 ?Qa30 ?Qi30 ?Ql30 ?Qc30 ?Qk30 ?Qa31 ?Qi31 ?Ql31 ?Qc31 ?Qk31 ?Qa32 ?Qi32 ?Ql32 ?Qc32 ?Qk32 ?Qa33 ?Qi33 ?Ql33 ?Qc33 ?Qk33 ?Qa34 ?Qi34 ?Ql34 ?Qc34 ?Qk34 ?Qa35 ?Qi35 ?Ql35 ?Qc35 ?Qk35 ?Qa36 ?Ql36 ?Qc36 ?Qk36 ?Qa37 ?Ql37 ?Qc37 ?Qk37 ?Qa38 ?Ql38 ?Qc38 ?Qk38 ?Qa39 ?Ql39 ?Qc39 ?Qk39 ?Qa40 ?Ql40 ?Qc40 ?Qk40 ?Qa41 ?Ql41 ?Qc41 ?Qk41 ?Qa42 ?Ql42 ?Qc42 ?Qk42 ?Qa43 ?Ql43 ?Qc43 ?Qk43 ?Qa44 ?Ql44 ?Qc44 ?Qk44 ?Qa45 ?Ql45 ?Qc45 ?Qk45 ?Qa46 ?Ql46 ?Qc46 ?Qk46 ?Qa47 ?Ql47 ?Qc47 ?Qk47 ?Qa48 ?Ql48 ?Qc48 ?Qk48 ?Qa49 ?Ql49 ?Qc49 ?Qk49 ?Qa50 ?Ql50 ?Qc50 ?Qk50 ?QlT ?QoTd ?Qlco ?Qu11 ?Qntb ?Qhrec ?Qz0 ?Qz1 ?Qz2 ?Qz3 ?Qz4 ?Qz5 ?Qz6 ?Qz7 ?Qz8 ?Qz9 ?Qz10 ?Qz11 ?Qz12 ?Qz13 ?Qz14 ?Qz15 ?Qz16 ?Qz17 ?QaCS ?QgaCS ?QrdCS ?QatCS ?Qvi ?QxWN ?Qcg ?Qct ?QsmN
    (case QaC => k_is)
    (case QpgC => k_is)
    (case QhdC => k_is)
    (case QpoC => k_is)
    (case QsaC => k_is)
    (case QmkC => k_is)
    (case QkcC => k_is)
    (case Qn0C => k_is)
    (case Qn1C => k_is)
    (case Qn2C => k_is)
    (case Qn3C => k_is)
    (case QaCP => k_is)
    (case QxlCP => k_is)
    (case QsaCP => k_is)
    (case QgaCP => k_is)
    (case QggCP => k_is)
    (case QkcCP => k_is)
    (case QexCP => k_is)
    (case QtyCP => k_is)
    (case QhdCP => k_is)
    (case QicCP => k_is)
    (case QcoCP => k_is)
    (case QmoCP => k_is)
    (case Qn0CP => k_is)
    (case QaCN => k_is)
    (case QxlCN => k_is)
    (case QsaCN => k_is)
    (case QgaCN => k_is)
    (case QggCN => k_is)
    (case QkcCN => k_is)
    (case QexCN => k_is)
    (case QtyCN => k_is)
    (case QhdCN => k_is)
    (case QicCN => k_is)
    (case QcoCN => k_is)
    (case QmoCN => k_is)
    (case Qn0CN => k_is)
    (case QaCW => k_is)
    (case QxlCW => k_is)
    (case QsaCW => k_is)
    (case QgaCW => k_is)
    (case QggCW => k_is)
    (case QkcCW => k_is)
    (case QexCW => k_is)
    (case QtyCW => k_is)
    (case QhdCW => k_is)
    (case QicCW => k_is)
    (case QcoCW => k_is)
    (case QmoCW => k_is)
    (case Qn0CW => k_is)
    (case QaCM => k_is)
    (case QxlCM => k_is)
    (case QsaCM => k_is)
    (case QgaCM => k_is)
    (case QggCM => k_is)
    (case QkcCM => k_is)
    (case QexCM => k_is)
    (case QtyCM => k_is)
    (case QhdCM => k_is)
    (case QicCM => k_is)
    (case QcoCM => k_is)
    (case QmoCM => k_is)
    (case Qn0CM => k_is)
    (case Qa1 => k_is)
    (case Qi1 => k_is)
    (case Ql1 => k_is)
    (case Qc1 => k_is)
    (case Qk1 => k_is)
    (case Qa2 => k_is)
    (case Qi2 => k_is)
    (case Ql2 => k_is)
    (case Qc2 => k_is)
    (case Qk2 => k_is)
    (case Qa3 => k_is)
    (case Qi3 => k_is)
    (case Ql3 => k_is)
    (case Qc3 => k_is)
    (case Qk3 => k_is)
    (case Qa4 => k_is)
    (case Qi4 => k_is)
    (case Ql4 => k_is)
    (case Qc4 => k_is)
    (case Qk4 => k_is)
    (case Qa5 => k_is)
    (case Qi5 => k_is)
    (case Ql5 => k_is)
    (case Qc5 => k_is)
    (case Qk5 => k_is)
    (case Qa6 => k_is)
    (case Ql6 => k_is)
    (case Qc6 => k_is)
    (case Qk6 => k_is)
    (case Qa7 => k_is)
    (case Ql7 => k_is)
    (case Qc7 => k_is)
    (case Qk7 => k_is)
    (case Qa8 => k_is)
    (case Ql8 => k_is)
    (case Qc8 => k_is)
    (case Qk8 => k_is)
    (case Qa9 => k_is)
    (case Ql9 => k_is)
    (case Qc9 => k_is)
    (case Qk9 => k_is)
    (case Qa10 => k_is)
    (case Ql10 => k_is)
    (case Qc10 => k_is)
    (case Qk10 => k_is)
    (case Qa11 => k_is)
    (case Ql11 => k_is)
    (case Qc11 => k_is)
    (case Qk11 => k_is)
    (case Qa12 => k_is)
    (case Ql12 => k_is)
    (case Qc12 => k_is)
    (case Qk12 => k_is)
    (case Qa13 => k_is)
    (case Ql13 => k_is)
    (case Qc13 => k_is)
    (case Qk13 => k_is)
    (case Qa14 => k_is)
    (case Ql14 => k_is)
    (case Qc14 => k_is)
    (case Qk14 => k_is)
    (case Qa15 => k_is)
    (case Ql15 => k_is)
    (case Qc15 => k_is)
    (case Qk15 => k_is)
    (case Qa16 => k_is)
    (case Qi16 => k_is)
    (case Ql16 => k_is)
    (case Qc16 => k_is)
    (case Qk16 => k_is)
    (case Qa17 => k_is)
    (case Qi17 => k_is)
    (case Ql17 => k_is)
    (case Qc17 => k_is)
    (case Qk17 => k_is)
    (case Qa18 => k_is)
    (case Qi18 => k_is)
    (case Ql18 => k_is)
    (case Qc18 => k_is)
    (case Qk18 => k_is)
    (case Qa19 => k_is)
    (case Qi19 => k_is)
    (case Ql19 => k_is)
    (case Qc19 => k_is)
    (case Qk19 => k_is)
    (case Qa20 => k_is)
    (case Qi20 => k_is)
    (case Ql20 => k_is)
    (case Qc20 => k_is)
    (case Qk20 => k_is)
    (case Qa21 => k_is)
    (case Qi21 => k_is)
    (case Ql21 => k_is)
    (case Qc21 => k_is)
    (case Qk21 => k_is)
    (case Qa22 => k_is)
    (case Qi22 => k_is)
    (case Ql22 => k_is)
    (case Qc22 => k_is)
    (case Qk22 => k_is)
    (case Qa23 => k_is)
    (case Qi23 => k_is)
    (case Ql23 => k_is)
    (case Qc23 => k_is)
    (case Qk23 => k_is)
    (case Qa24 => k_is)
    (case Qi24 => k_is)
    (case Ql24 => k_is)
    (case Qc24 => k_is)
    (case Qk24 => k_is)
    (case Qa25 => k_is)
    (case Qi25 => k_is)
    (case Ql25 => k_is)
    (case Qc25 => k_is)
    (case Qk25 => k_is)
    (case Qa26 => k_is)
    (case Qi26 => k_is)
    (case Ql26 => k_is)
    (case Qc26 => k_is)
    (case Qk26 => k_is)
    (case Qa27 => k_is)
    (case Qi27 => k_is)
    (case Ql27 => k_is)
    (case Qc27 => k_is)
    (case Qk27 => k_is)
    (case Qa28 => k_is)
    (case Qi28 => k_is)
    (case Ql28 => k_is)
    (case Qc28 => k_is)
    (case Qk28 => k_is)
    (case Qa29 => k_is)
    (case Qi29 => k_is)
    (case Ql29 => k_is)
    (case Qc29 => k_is)
    (case Qk29 => k_is)
    (case Qa30 => k_is)
    (case Qi30 => k_is)
    (case Ql30 => k_is)
    (case Qc30 => k_is)
    (case Qk30 => k_is)
    (case Qa31 => k_is)
    (case Qi31 => k_is)
    (case Ql31 => k_is)
    (case Qc31 => k_is)
    (case Qk31 => k_is)
    (case Qa32 => k_is)
    (case Qi32 => k_is)
    (case Ql32 => k_is)
    (case Qc32 => k_is)
    (case Qk32 => k_is)
    (case Qa33 => k_is)
    (case Qi33 => k_is)
    (case Ql33 => k_is)
    (case Qc33 => k_is)
    (case Qk33 => k_is)
    (case Qa34 => k_is)
    (case Qi34 => k_is)
    (case Ql34 => k_is)
    (case Qc34 => k_is)
    (case Qk34 => k_is)
    (case Qa35 => k_is)
    (case Qi35 => k_is)
    (case Ql35 => k_is)
    (case Qc35 => k_is)
    (case Qk35 => k_is)
    (case Qa36 => k_is)
    (case Ql36 => k_is)
    (case Qc36 => k_is)
    (case Qk36 => k_is)
    (case Qa37 => k_is)
    (case Ql37 => k_is)
    (case Qc37 => k_is)
    (case Qk37 => k_is)
    (case Qa38 => k_is)
    (case Ql38 => k_is)
    (case Qc38 => k_is)
    (case Qk38 => k_is)
    (case Qa39 => k_is)
    (case Ql39 => k_is)
    (case Qc39 => k_is)
    (case Qk39 => k_is)
    (case Qa40 => k_is)
    (case Ql40 => k_is)
    (case Qc40 => k_is)
    (case Qk40 => k_is)
    (case Qa41 => k_is)
    (case Ql41 => k_is)
    (case Qc41 => k_is)
    (case Qk41 => k_is)
    (case Qa42 => k_is)
    (case Ql42 => k_is)
    (case Qc42 => k_is)
    (case Qk42 => k_is)
    (case Qa43 => k_is)
    (case Ql43 => k_is)
    (case Qc43 => k_is)
    (case Qk43 => k_is)
    (case Qa44 => k_is)
    (case Ql44 => k_is)
    (case Qc44 => k_is)
    (case Qk44 => k_is)
    (case Qa45 => k_is)
    (case Ql45 => k_is)
    (case Qc45 => k_is)
    (case Qk45 => k_is)
    (case Qa46 => k_is)
    (case Ql46 => k_is)
    (case Qc46 => k_is)
    (case Qk46 => k_is)
    (case Qa47 => k_is)
    (case Ql47 => k_is)
    (case Qc47 => k_is)
    (case Qk47 => k_is)
    (case Qa48 => k_is)
    (case Ql48 => k_is)
    (case Qc48 => k_is)
    (case Qk48 => k_is)
    (case Qa49 => k_is)
    (case Ql49 => k_is)
    (case Qc49 => k_is)
    (case Qk49 => k_is)
    (case Qa50 => k_is)
    (case Ql50 => k_is)
    (case Qc50 => k_is)
    (case Qk50 => k_is)
    (case QlT => k_is)
    (case QoTd => rfl)
    (case Qlco => k_is)
    (case Qu11 => rfl)
    (case Qntb => rfl)
    (case Qhrec => decide +kernel)
    (case Qz0 => k_is)
    (case Qz1 => k_is)
    (case Qz2 => k_is)
    (case Qz3 => k_is)
    (case Qz4 => k_is)
    (case Qz5 => k_is)
    (case Qz6 => k_is)
    (case Qz7 => k_is)
    (case Qz8 => k_is)
    (case Qz9 => k_is)
    (case Qz10 => k_is)
    (case Qz11 => k_is)
    (case Qz12 => k_is)
    (case Qz13 => k_is)
    (case Qz14 => k_is)
    (case Qz15 => k_is)
    (case Qz16 => k_is)
    (case Qz17 => k_is)
    (case QaCS => k_is)
    (case QgaCS => k_is)
    (case QrdCS => k_is)
    (case QatCS => k_is)
    (case Qvi => k_is)
    (case QxWN => first | kit_is | kernel_rfl | k_is)
    (case Qcg => k_is)
    (case Qct => k_is)
    (case QsmN => first | rfl | kernel_rfl)

