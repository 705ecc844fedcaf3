import PyProof.Rows.All
import Wide.All
import OpenK.AllK
import Wide.FinOn
import PyProof.EqAt
import PyProof.EqKinds
import PyProof.TupleCall
import HandS.Base
import HandS.Call
import HandS.List
import HandS.Comp
import HandS.Ends
import HandS.Text
import HandS.Exc
import HandS.Words
import HandS.WordsList
import HandS.Iter
import HandS.Dict
import HandS.Wide
import HandS.IsInst
import HandS.AnyAll
import HandS.EndBits
import HandS.EndTab
import HandS.TryMany
import HandS.ExcOwn
import HandS.WordsExc
import HandS.ExcInit
import HandS.ExcField
import HandS.ExcIs
import KE.KExcIs
import KE.KIsAll
import PyProof.Rows.RegFStrParts
import PyProof.Rows.ReprShort
import HandS.Walk
import PySem.Challenge.RW_onestaff_k22_rights_of_places
set_option Elab.async false
set_option linter.all false
set_option maxRecDepth 100000
set_option maxHeartbeats 4000000
/-! Defs that show lists and tuples: they run where no display is under way. -/
namespace Gd
open PySem PySem.Spec PyProof.Rows L2

/-- a def's promise, kept wherever no display is under way -/
structure GOk (P : Program) (w : World) (K : PySem.W.Frag) (mg : Str → Option Value) (base : Heap) (CX : CXT) (k : Nat) (f : Addr) (fd : FuncData) (ps : List Str) (sp : Sp) : Prop where
  size : ∀ vs H Q E, sp vs H Q E → vs.length = ps.length
  go : ∀ (A : Around) (out : List Env) (s : Shared) (H : Hp) (ar : Args) (us : List Value) (vs : List V) (Q : VK) (E : XK), A.guards = some [] →
    Room k A → Env0 P w K mg base A out s H → BindsTo s fd ar (ps.zip us) → Vals vs us → sp vs H Q E →
    codeAny (model P w) A (.call (.ref f) ar) (CR CX out P w H s Q E) s

section
variable {P : Program} {w : World} {K : PySem.W.Frag} {mg : Str → Option Value} {base : Heap}

/-- by its body -/
theorem gok_body {CX : CXT} {k : Nat} {x qual : Str} {st : Stmt} {f : Addr} {fd : FuncData} {N ps : List Str} {sp : Sp} (F : Fun K x qual st f fd) (S : FnScope N ps (defScope st))
    (size : ∀ vs H Q E, sp vs H Q E → vs.length = ps.length)
    (body : ∀ (cd : Value) (A : Around) (out : List Env) (s : Shared) (H : Hp) (vs : List V) (Q : VK) (E : XK), A.guards = some [] →
      Room k (A.deeper (envOfC qual (defScope st) s.heap.objs.size f cd)) → sp vs H Q E →
      ∃ t, PSs (cxOf CX P w K mg base N qual (defScope st) f cd A out s H E) (defBody st) t ∧ t { nx := fun _ H' => Q .non H', rt := Q } (start N vs) H) :
    GOk P w K mg base CX (k + 1) f fd ps sp := by
  obtain ⟨oc, od, kV, doc, pm, an, cd, ct, osl, rfl, lk, hcd⟩ := F.ex
  refine ⟨size, fun A out s H ar us vs Q E gd hr e0 hb r hsp => ?_⟩
  have hl := size _ _ _ _ hsp
  have KX : K.In s.heap := e0.mod.kin.keeps fun b o z => (e0.bs b o z).1
  have kinds : ∀ y ∈ ps.zip us, (defScope st).names.lookup y.1 = some .local ∨
      ((defScope st).names.lookup y.1 = some .cell ∧ ((cellsFrom (s.heap.objs.size + 1) (defScope st).names []).lookup y.1).isSome = true) := by
    rintro ⟨n, v⟩ hy
    have hm := (List.of_mem_zip hy).1
    cases S.par n hm with
    | inl q => exact .inl q
    | inr q => exact .inr ⟨q, PySem.W.cellsFrom_some _ _ _ (.inl q)⟩
  have Z := PySem.W.codeRec_of KX hcd
  refine codeAny_call_function hr.depth (KX _ _ lk) rfl S.co S.gen rfl Z (hb _ _ _ _ ?_)
  refine wpAny_newFunctionEnv_cells S.kind kinds fun env he s1 ic => ?_
  subst he
  have lim : s.heap.NoLimit := e0.mod.nolimit.keeps fun b o z => (e0.bs b o z).1
  refine ⟨lim.keeps ic.toInCall.keep, codeAny_func ?_⟩
  obtain ⟨t, ht, hq⟩ := body cd A out s H vs Q E gd (hr.deeper _) hsp
  have I := inv_start (CX := CX) (E := E) S hr.hd e0 hl r ic
  refine wpAny_mono (ht.run [] s1 (start N vs) H _ I hq) ?_ (fun _ _ z => z)
  intro fl s' hs
  cases fl with
  | brk => obtain ⟨_, _, _, q⟩ := hs; exact q.elim
  | cont => obtain ⟨_, _, _, q⟩ := hs; exact q.elim
  | next =>
    obtain ⟨σ', H', J, q⟩ := hs
    exact ⟨V.non, H', J.os, J.bare, J.base, J.hok, rfl, q⟩
  | ret u =>
    obtain ⟨v, σ', H', J, rv, q⟩ := hs
    exact ⟨v, H', J.os, J.bare, J.base, J.hok, rv, q⟩
/-- the same where nothing is raised -/
theorem gok {k : Nat} {x qual : Str} {st : Stmt} {f : Addr} {fd : FuncData} {N ps : List Str} {sp : Sp} (F : Fun K x qual st f fd) (S : FnScope N ps (defScope st))
    (size : ∀ vs H Q E, sp vs H Q E → vs.length = ps.length)
    (body : ∀ (cd : Value) (A : Around) (out : List Env) (s : Shared) (H : Hp) (vs : List V) (Q : VK) (E : XK), A.guards = some [] →
      Room k (A.deeper (envOfC qual (defScope st) s.heap.objs.size f cd)) → sp vs H Q E →
      ∃ t, PSs (cxOf CX0 P w K mg base N qual (defScope st) f cd A out s H E).nox (defBody st) t ∧ t { nx := fun _ H' => Q .non H', rt := Q } (start N vs) H) :
    GOk P w K mg base CX0 (k + 1) f fd ps sp := by
  refine gok_body F S size fun cd A out s H vs Q E gd hr q => ?_
  obtain ⟨t, h, z⟩ := body cd A out s H vs Q E gd hr q
  exact ⟨t, h.nox, z⟩
theorem GOk.mono {CX : CXT} {j k : Nat} {f : Addr} {fd : FuncData} {ps : List Str} {sp : Sp} (F : GOk P w K mg base CX j f fd ps sp) (h : j ≤ k) : GOk P w K mg base CX k f fd ps sp :=
  ⟨F.size, fun A out s H ar us vs Q E gd hr => F.go A out s H ar us vs Q E gd (hr.mono h)⟩
theorem gok_of {CX : CXT} {k : Nat} {f : Addr} {fd : FuncData} {ps : List Str} {sp : Sp} (F : FnOk P w K mg base CX k f fd ps sp) : GOk P w K mg base CX k f fd ps sp :=
  ⟨F.len, fun A out s H ar us vs Q E _ hr => F.run A out s H ar us vs Q E hr⟩
end

section
variable {X : Cx} {CX : CXT} {k : Nat} {f : Addr} {fd : FuncData} {ps : List Str} {sp : Sp} {dvs : List V} {ds : List Value} {E : XK} {x : Str} {p pos : Pos} {e : Expr} {es : List Expr} {t : TA}
/-- f(e, ..), f such a def, from a body of such a def -/
theorem pe_gcall (gd : X.A.guards = some []) (F : GOk X.prog X.w X.K X.mg X.base CX k f fd ps sp) (hr : Room k X.A) (hg : Gl X x) (hm : X.mg x = some (.ref f)) (hk : PySem.W.keepIn X.K (.ref f) = true)
    (hb : Binds X.K fd ps ds) (hd : Vals dvs ds) (hx : Passes CX X E) (ha : PA X (e :: es) t) (hdb : (x == ("__debug__" : Str)) = false := by decide)
    (he : starEach (e :: es) X.env = (false, eval e X.env) :: starEach es X.env := by rfl) (hpl : (backTo pos (starEach es X.env)).any (·.1) = false := by rfl) :
    PE X (.Call (.Name x p) (e :: es) [] pos) (tCall sp dvs E t) := by
  refine ⟨fun pins s σ H Q I h => wpAny_Call_Name_kw (ld_glob I hg hm ?_ hdb)⟩
  have A1 := ha.run pos pins s σ H _ I h
  refine PySem.W.callWith_K (h₀ := X.base) I.ok.mod.kin hk (thn A1 ?_) he hpl
  rintro us s1 ⟨vs, H1, I1, r, q⟩
  refine ⟨I1.kIn, ?_⟩
  have both := r.append hd
  have hl : (us ++ ds).length = ps.length := (both.length).symm.trans (F.size _ _ _ _ q)
  have run1 := F.go X.A X.stack s1 H1 ⟨us, []⟩ (us ++ ds) (vs ++ dvs) Q E gd hr I1.env0 (hb s1 us I1.kIn hl) both q
  refine wpAny_call (codeAny_mono run1 ?_)
  intro res s' hq
  match res, hq with
  | .error e, hq => exact hx pins σ H1 s1 e s' I1 hq
  | .ok (.ret u), hq => exact I1.after hq
  | .ok .next, hq => exact hq.elim
  | .ok .brk, hq => exact hq.elim
  | .ok .cont, hq => exact hq.elim

/-! ### repr of data -/
mutual
theorem dp_noDict {K : PySem.W.Frag} {H : Hp} : ∀ {v : V} {d : PyData}, Dp K H v d → d.hasDict = false
  | _, _, .non => by simp only [PyData.hasDict]
  | _, _, .bl _ => by simp only [PyData.hasDict]
  | _, _, .int _ => by simp only [PyData.hasDict]
  | _, _, .str _ => by simp only [PyData.hasDict]
  | _, _, .lst _ h => by simp only [PyData.hasDict]; exact dpAll_noDict h
  | _, _, .tup _ h => by simp only [PyData.hasDict]; exact dpAll_noDict h
theorem dpAll_noDict {K : PySem.W.Frag} {H : Hp} : ∀ {vs : List V} {ds : List PyData}, DpAll K H vs ds → PyData.hasDictAll ds = false
  | _, _, .nil => by simp only [PyData.hasDictAll]
  | _, _, .cons h t => by simp only [PyData.hasDictAll, dp_noDict h, dpAll_noDict t, Bool.or_self]
end
/-- repr(v), v some data d -/
def rRepr (K : PySem.W.Frag) : List V → Hp → VK → Prop := fun xs H Q => ∃ v d, xs = [v] ∧ Dp K H v d ∧ d.showable = true ∧ d.depth ≤ 100 ∧ d.shown.length ≤ sizeLine ∧ Q (.str d.shown) H
theorem call_repr (gd : X.A.guards = some []) (hr : Room k X.A) : CallR X (.builtin "repr") (rRepr X.K) := by
  intro pins s σ H xs us Q I r h
  obtain ⟨v, d, rfl, dp, hs, hdep, hsz, q⟩ := h
  cases r with
  | cons rv rn =>
    cases rn
    have hun := hr.un
    cases dp with
    | non =>
      cases rv
      refine PySem.P.repr_of_none ⟨.str _, H, I.tok _, ⟨_, rfl⟩, ?_⟩
      simpa only [PyData.shown] using q
    | bl b =>
      cases rv
      refine PySem.P.repr_of_bool ⟨.str _, H, I.tok _, ⟨_, rfl⟩, ?_⟩
      simpa only [PyData.shown] using q
    | int i =>
      obtain ⟨t, rfl⟩ := rv
      refine PySem.P.repr_of_int (by simpa [PyData.showable] using hs) ⟨.str _, H, I.tok _, ⟨_, rfl⟩, ?_⟩
      simpa only [PyData.shown] using q
    | str z =>
      obtain ⟨t, rfl⟩ := rv
      refine PySem.P.repr_of_str ⟨.str _, H, I.tok _, ⟨_, rfl⟩, ?_⟩ (by simpa only [PyData.shown] using hsz)
      simpa only [PyData.shown] using q
    | lst hl ha =>
      cases rv
      obtain ⟨as, rd⟩ := Dp.reads I _ _ _ (.lst hl ha) rfl
      refine repr_of_reads' rd hs (PyData.noDict_hsm (dp_noDict (.lst hl ha))) gd (by omega) (fun _ _ z => z) (fun h' u tk hk => ?_) hsz
      exact ⟨.str _, H, I.kept hk, ⟨_, rfl⟩, q⟩
    | tup hl ha =>
      cases rv
      obtain ⟨as, rd⟩ := Dp.reads I _ _ _ (.tup hl ha) rfl
      refine repr_of_reads' rd hs (PyData.noDict_hsm (dp_noDict (.tup hl ha))) gd (by omega) (fun _ _ z => z) (fun h' u tk hk => ?_) hsz
      exact ⟨.str _, H, I.kept hk, ⟨_, rfl⟩, q⟩
end
end Gd

set_option maxRecDepth 100000
set_option maxHeartbeats 4000000
/-! The end of a law whose own def shows data: no display is under way at its call. -/
namespace Gd
open PySem PySem.Spec PyProof.Rows L2 GxR

/-- the script's own object -/
def scriptO (vs : List Value) : Obj := { cls := .type "list", data := .seq vs.toArray }
def tabO : Obj := { cls := .none, data := .fields #[] }
open Classical in
/-- what is tracked at the law's call: the script (where the written part hasn't it), the tables -/
noncomputable def h0 (K : PySem.W.Frag) (a : Addr) (vs : List Value) (ns : List Int) (T : List Addr) : Hp := fun b =>
  if b = a ∧ K.lookup a = none then some (.frz (scriptO vs) (.lst (ns.map V.int))) else if b ∈ T then some (.tbl #[]) else none

theorem h0_inv {K : PySem.W.Frag} {a b : Addr} {vs : List Value} {ns : List Int} {T : List Addr} {u : HO} (h : h0 K a vs ns T b = some u) :
    (b = a ∧ K.lookup a = none ∧ u = .frz (scriptO vs) (.lst (ns.map V.int))) ∨ (b ∈ T ∧ u = .tbl #[]) := by
  unfold h0 at h
  by_cases c1 : b = a ∧ K.lookup a = none
  · rw [if_pos c1] at h
    exact .inl ⟨c1.1, c1.2, (Option.some.inj h).symm⟩
  · rw [if_neg c1] at h
    by_cases c2 : b ∈ T
    · rw [if_pos c2] at h
      exact .inr ⟨c2, (Option.some.inj h).symm⟩
    · rw [if_neg c2] at h
      cases h

section
variable {P : Program} {w : World} {K : PySem.W.Frag} {mg mb : Str → Option Value} {CX : CXT} {k : Nat} {fa a : Addr} {cs : List (Addr × Addr)} {fd : FuncData} {x : Str} {sp : Sp} {s1 : Shared} {vs : List Value} {ns : List Int}
theorem law_gcall (KX : K.In s1.heap) (nsG : s1.heap.Ns mainGlobals mg) (nsB : s1.heap.Ns builtinsNs mb) (isB : ∀ x : Str, x ≠ "__name__" → mb x = bootBuiltins x) (lim : s1.heap.NoLimit) (gens : s1.gens = #[])
    (tabs : ∀ p ∈ cs, s1.heap.get? p.2 = some tabO) (tabK : ∀ p ∈ cs, K.lookup p.2 = none) (codes : ∀ p ∈ cs, PySem.W.CodeHd s1.heap p.1 p.2)
    (bmain : ∃ (bm : Addr) (ob : Obj), mg "__builtins__" = some (.ref bm) ∧ bm ≠ builtinsNs ∧ s1.heap.get? bm = some ob ∧ ob.cls = .type "module" ∧ ob.dict = some builtinsNs ∧ ob.data = .plain)
    (ha : s1.heap.get? a = some (scriptO vs)) (hi : IntsAre vs ns) (hl : ns.length ≤ sizeLine) (hr : Room k callerA)
    (F : ∀ base : Heap, K.In base → base.Ns mainGlobals mg → (∀ p ∈ cs, TabB base mg p.1 p.2) → GOk P w K mg base CX k fa fd [x] sp)
    (hbind : ∀ (s : Shared) (u : Value), BindsTo s fd ⟨[u], []⟩ [(x, u)])
    (hsp : ∀ H : Hp, (∀ p ∈ cs, H p.2 = some (.tbl #[])) → SqL K H a (ns.map V.int) → sp [.ref a] H (fun v _ => v = .bl true) fun _ _ _ => False)
    (hCX : ∀ H e s', CX [] H s1 (fun _ _ _ => False) e s' → False) :
    codeAny (model P w) callerA (.call (.ref fa) ⟨[.ref a], []⟩) (fun r s' => r = .ok (.ret (.bool true)) ∧ OldK s1.heap s'.heap ∧ s'.os = s1.os ∧ AllBare s'.gens) s1 := by
  have rv := vals_ints hi
  have hlen := hi.length
  let T := cs.map Prod.snd
  have inT : ∀ p ∈ cs, p.2 ∈ T := fun p hp => List.mem_map.mpr ⟨p, hp, rfl⟩
  have ofT : ∀ b ∈ T, s1.heap.get? b = some tabO ∧ K.lookup b = none := by
    intro b hb
    obtain ⟨p, hp, rfl⟩ := List.mem_map.mp hb
    exact ⟨tabs p hp, tabK p hp⟩
  have neT : a ∉ T := fun z => by
    have q := (ofT a z).1
    rw [ha] at q
    cases q
  let H := h0 K a vs ns T
  -- a tracked object is the script or a table
  have seen : ∀ {b : Addr} {o : Obj}, s1.heap.get? b = some o → (∀ us n, o.data ≠ .seq us n) → o.data ≠ .fields #[] → H b = none := by
    intro b o e n1 n2
    cases q : H b with
    | none => rfl
    | some u =>
      exfalso
      rcases h0_inv q with ⟨rfl, _, _⟩ | ⟨hb, _⟩
      · rw [ha] at e
        cases e
        exact n1 _ _ rfl
      · rw [(ofT b hb).1] at e
        cases e
        exact n2 rfl
  have keepHid : ∀ {b : Addr} {o : Obj}, s1.heap.get? b = some o → H b = none → (hidT s1.heap H).get? b = some o := fun e n => hidT_get e n
  have dictHid : ∀ {b : Addr} {o : Obj} {es : Array DictEntry} {ep : Nat}, s1.heap.get? b = some o → o.data = .dict es ep → (hidT s1.heap H).get? b = some o := by
    intro b o es ep e d
    refine keepHid e (seen e (fun us n z => ?_) fun z => ?_) <;> (rw [d] at z; cases z)
  have nsHid : ∀ {b : Addr} {m : Str → Option Value}, s1.heap.Ns b m → (hidT s1.heap H).Ns b m := by
    rintro b m ⟨o, es, ep, e, d, rest⟩
    exact ⟨o, es, ep, dictHid e d, d, rest⟩
  have KH : K.In (hidT s1.heap H) := by
    intro b o e
    refine keepHid (KX b o e) ?_
    cases q : H b with
    | none => rfl
    | some u =>
      exfalso
      rcases h0_inv q with ⟨rfl, z, _⟩ | ⟨hb, _⟩
      · rw [z] at e
        cases e
      · rw [(ofT b hb).2] at e
        cases e
  have limH : (hidT s1.heap H).NoLimit := by
    obtain ⟨mc, h1, h2⟩ := lim
    exact ⟨mc, nsHid h1, h2⟩
  have M : L2.Mod K mg (hidT s1.heap H) := ⟨KH, nsHid nsG, ⟨mb, nsHid nsB, isB⟩, limH⟩
  have TB : ∀ p ∈ cs, TabB (hidT s1.heap H) mg p.1 p.2 := by
    intro p hp
    have tp := tabs p hp
    refine ⟨?_, ?_, ?_⟩
    · obtain ⟨o, us, file, tf, flags, tg, inF, text, tt, e1, r1, r2, r3, rest⟩ := codes p hp
      refine ⟨o, us, file, tf, flags, tg, inF, text, tt, keepHid e1 (seen e1 (fun vs n z => ?_) fun z => ?_), r1, r2, r3, rest⟩
      · rw [r2] at z
        cases z
      · rw [r2] at z
        cases z
        simp at r3
    · obtain ⟨bm, ob, b1, b2, b3, b4, b5, b6⟩ := bmain
      have g1 : bm ≠ mainGlobals := by
        rintro rfl
        obtain ⟨o, es, ep, e, d, _⟩ := nsG
        rw [b3] at e
        cases e
        rw [b6] at d
        cases d
      have g2 : bm ≠ p.2 := by
        rintro rfl
        rw [tp] at b3
        cases b3
        cases b6
      refine ⟨bm, ob, b1, b2, g1, g2, keepHid b3 (seen b3 (fun vs n z => ?_) fun z => ?_), b4, b5, b6⟩ <;> (rw [b6] at z; cases z)
    · intro z
      obtain ⟨o, es, ep, e, d, _⟩ := nsG
      rw [z, tp] at e
      cases e
      cases d
  have hH : ∀ p ∈ cs, H p.2 = some (.tbl #[]) := by
    intro p hp
    have n1 : ¬ (p.2 = a ∧ K.lookup a = none) := fun z => neT (z.1 ▸ inT p hp)
    exact (if_neg n1).trans (if_pos (inT p hp))
  have hS : SqL K H a (ns.map V.int) := by
    cases q : K.lookup a with
    | none => exact .inl (.inr ⟨scriptO vs, if_pos ⟨rfl, q⟩⟩)
    | some o =>
      have e := KX a o q
      rw [ha] at e
      cases e
      exact .inr ⟨_, vs.toArray, _, q, rfl, rfl, rfl, by rw [List.size_toArray, hlen]; exact hl, by simpa using rv⟩
  have hok : HOk P w H s1.heap := by
    intro b u q
    rcases h0_inv q with ⟨rfl, _, rfl⟩ | ⟨hb, rfl⟩
    · exact ⟨ha, by rw [List.length_map]; exact hl, vs, _, rv, ha⟩
    · exact (ofT b hb).1
  have e0 : Env0 P w K mg (hidT s1.heap H) callerA [] s1 H :=
    ⟨rfl, M, fun b o e => of_hidT e, Nat.le_of_eq (hidT_size _ _), trivial, (fun b hb => by cases (show b ∈ ([] : List Addr) from hb)), hok, .of_eq gens⟩
  have run := (F _ KH (nsHid nsG) TB).go callerA [] s1 H ⟨[.ref a], []⟩ [.ref a] [.ref a] (fun v _ => v = .bl true) (fun _ _ _ => False) rfl hr e0 (hbind s1 (.ref a)) (.cons rfl .nil) (hsp H hH hS)
  refine codeAny_mono run ?_
  intro r s' h
  match r, h with
  | .error e, h => exact (hCX H e s' h).elim
  | .ok .next, h => exact h.elim
  | .ok .brk, h => exact h.elim
  | .ok .cont, h => exact h.elim
  | .ok (.ret u), h =>
    obtain ⟨v, H', os, bare, un, hok', r', q⟩ := h
    obtain rfl : v = .bl true := q
    obtain rfl : u = Value.bool true := r'
    have plain : ∀ b o, b ∉ T → s1.heap.get? b = some o → s'.heap.get? b = some o := by
      intro b o nb e
      cases q : H b with
      | none => exact un.keep b o e q (fun z => by cases (show b ∈ ([] : List Addr) from z)) (by simp)
      | some y =>
        rcases h0_inv q with ⟨rfl, _, rfl⟩ | ⟨hb, _⟩
        · obtain ⟨e2, _⟩ := hok' b _ (un.frzs b _ _ q)
          rw [ha] at e
          cases e
          exact e2
        · exact absurd hb nb
    have grown : ∀ p ∈ cs, ∃ more : Array Value, s'.heap.get? p.2 = some { cls := .none, data := .fields more } := by
      intro p hp
      obtain ⟨more, z⟩ := un.tbls p.2 #[] (hH p hp)
      exact ⟨_, hok' p.2 _ z⟩
    refine ⟨rfl, ⟨fun b o e => ?_, fun b o e => ?_⟩, os, bare⟩ <;> by_cases hb : b ∈ T
    · obtain ⟨p, hp, rfl⟩ := List.mem_map.mp hb
      obtain ⟨more, hm⟩ := grown p hp
      rw [tabs p hp] at e
      cases e
      exact .inr (.inl ⟨((codes p hp).tab (tabs p hp)).isCodeTable, rfl, #[], more, rfl, by rw [Array.empty_append]; exact hm⟩)
    · exact .inl (plain b o hb e)
    · obtain ⟨p, hp, rfl⟩ := List.mem_map.mp hb
      obtain ⟨more, hm⟩ := grown p hp
      exact ⟨_, hm⟩
    · exact ⟨o, plain b o hb e⟩
end

/-- the tables of the text's own defs are empty behind the top -/
def Empt (q : Program) (K : PySem.W.Frag) (h : Heap) : Prop := ∀ (x : Str) (f c t : Addr) (o : Obj) (fd : FuncData) (e : Value) (dd : Option Addr) (us : Array Value) (sl : Array (Option Value)),
  ((PyProof.Rows.recsOf q).any fun r => r.name == x) = true → PySem.W.nsIn K mainGlobals x = some (some (.ref f)) → K.lookup f = some o → o.data = .func fd → fd.code = .ref c →
  K.lookup c = some ⟨e, dd, .fields us, sl⟩ → us[11]? = some (.ref t) → PySem.W.CodeHd h c t ∧ h.get? t = some tabO
/-- what is to be known of the law at the head's heap -/
def GLaw (l : PySem.W.OpenLaw) (w : World) (K : PySem.W.Frag) (CX : CXT) (k n : Nat) (x : Str) (mg : Str → Option Value) (fa : Addr) (h : Heap) : Prop :=
  ∃ (fd : FuncData) (cs : List (Addr × Addr)) (sp : Sp), (∀ p ∈ cs, h.get? p.2 = some tabO) ∧ (∀ p ∈ cs, K.lookup p.2 = none) ∧ (∀ p ∈ cs, PySem.W.CodeHd h p.1 p.2) ∧
    (∀ (s : Shared) (u : Value), BindsTo s fd ⟨[u], []⟩ [(x, u)]) ∧
    (∀ (H : Hp) (a : Addr) (ns : List Int), ns.length ≤ n → (∀ z ∈ ns, Builtin.Int.intBits z ≤ 1048576) → (∀ p ∈ cs, H p.2 = some (.tbl #[])) → SqL K H a (ns.map V.int) →
      sp [.ref a] H (fun v _ => v = .bl true) fun _ _ _ => False) ∧
    ∀ base : Heap, K.In base → base.Ns mainGlobals mg → (∀ p ∈ cs, TabB base mg p.1 p.2) → GOk l.prog w K mg base CX k fa fd [x] sp
theorem walk_g {l : PySem.W.OpenLaw} {n k : Nat} {q : Program} {loose : List Str} {XP : (Str → Option Value) → Heap → Prop} {YP : World → Heap → Prop} {d : DefRec} {K : Params → PySem.W.Frag} {CX : World → CXT} {x : Str}
    (hn : l.most = some n) (small : n ≤ sizeLine) (hdf : d.params.defaults = []) (hr : Room k callerA) (hY : ∀ (w : World) (h : Heap), YP w h → (K w.params).In h)
    (F : ∀ (w : World) (mg : Str → Option Value) (fa : Addr) (h : Heap), YP w h → (K w.params).In h → h.Ns mainGlobals mg → mg d.name = some (.ref fa) → Empt q (K w.params) h → GLaw l w (K w.params) (CX w) k n x mg fa h)
    (hCX : ∀ (w : World) (H : Hp) (s : Shared) (e : Value) (s' : Shared), CX w [] H s (fun _ _ _ => False) e s' → False) :
    PySem.W.WalkO q loose XP YP l.row.toRowW d [] (fun f vs => PySem.call f vs) := by
  refine Att.attach_callB hn hdf ?_
  intro w sA s1 mg mb fa o pm cd doc a vs ns G Y ho hd hcd hmg hobj hints hlen hbits hg
  have KX := hY w _ Y
  have em : Empt q (K w.params) s1.heap := by
    intro x f c t o1 fd1 e dd us sl hx k1 k2 k3 k4 k5 k6
    obtain ⟨r, hr1, hr2⟩ := List.any_eq_true.mp hx
    have hn1 : r.name = x := beq_iff_eq.mp hr2
    obtain ⟨a1, o2, fd2, c2, t2, y1, y2, y3, y4, y5, y6⟩ := G.T.tab r hr1
    have z1 := PySem.W.mg_of KX G.T.g k1
    rw [hn1, z1] at y1
    cases y1
    have z2 := KX _ _ k2
    rw [z2] at y2
    cases y2
    rw [k3] at y3
    cases y3
    rw [k4] at y4
    cases y4
    have y6b := y6
    obtain ⟨⟨oc, vc, e1, e2, e3, e4⟩, hP⟩ := y6b
    have z5 := KX _ _ k5
    rw [z5] at e1
    cases e1
    cases e3
    rw [k6] at e4
    cases e4
    exact ⟨PySem.W.CodeHd.of y5 y6, hP⟩
  obtain ⟨fd, cs, sp, t1, t2, t3, hb, hsp, hF⟩ := F w mg fa _ Y KX G.T.g hmg em
  exact law_gcall KX G.T.g G.T.b G.T.builtins G.T.nolimit hg t1 t2 t3 G.T.bmain hobj hints (Nat.le_trans hlen small) hr hF hb (fun H a1 a2 => hsp H a ns hlen hbits a1 a2) (fun H e s' => hCX w H s1 e s')
end Gd

set_option maxRecDepth 100000
set_option maxHeartbeats 4000000
/-! Things, boxes, texts: what the laws share, over no program. -/
namespace My
open PySem PySem.Spec PyProof.Rows L2 GxR Gd TL
/-! ### things -/
def Good (z : Str) : Prop := ∀ c ∈ z.cps.toList, c < 1114112
inductive Th (H : Hp) : V → Prop
  | non : Th H .non
  | bl (b : Bool) : Th H (.bl b)
  | int (i : Int) : Th H (.int i)
  | str (z : Str) (h : z.length ≤ 1000000) (g : Good z) : Th H (.str z)
  | lst (a : Addr) (xs : List V) (h : H a = some (.lst xs)) : Th H (.ref a)
  | tup (a : Addr) (xs : List V) (h : H a = some (.tup xs)) : Th H (.ref a)
  | dic (a : Addr) {kvs : List (Key × V)} (h : H a = some (.dK kvs)) : Th H (.ref a)
def lc (c : Nat) : Bool := decide (97 ≤ c) && decide (c ≤ 122)
def nm : V → Bool
  | .str z => decide (1 ≤ z.length) && decide (z.length ≤ 6) && z.cps.toList.all lc
  | _ => false
def wh (lo hi : Int) : V → Bool
  | .int i => decide (lo ≤ i) && decide (i ≤ hi)
  | _ => false
/-- its kind -/
theorem Th.ty {K : PySem.W.Frag} {H : Hp} {v : V} (h : Th H v) : ∃ t, TyX K H v (.type t) ∧
    ((∃ i, v = .int i ∧ t = "int") ∨ (∃ b, v = .bl b ∧ t = "bool") ∨ (∃ z, v = .str z ∧ (z.length ≤ 1000000 ∧ Good z) ∧ t = "str") ∨
     ((∀ i, v ≠ .int i) ∧ (∀ b, v ≠ .bl b) ∧ (∀ z, v ≠ .str z) ∧ (t = "NoneType" ∨ t = "list" ∨ t = "tuple" ∨ t = "dict"))) := by
  cases h with
  | non => exact ⟨_, .base .non, .inr (.inr (.inr ⟨by simp, by simp, by simp, .inl rfl⟩))⟩
  | bl b => exact ⟨_, .base (.bl b), .inr (.inl ⟨b, rfl, rfl⟩)⟩
  | int i => exact ⟨_, .base (.int i), .inl ⟨i, rfl, rfl⟩⟩
  | str z h g => exact ⟨_, .base (.str z), .inr (.inr (.inl ⟨z, rfl, ⟨h, g⟩, rfl⟩))⟩
  | lst a xs h => exact ⟨_, .base (.lst h), .inr (.inr (.inr ⟨by simp, by simp, by simp, .inr (.inl rfl)⟩))⟩
  | tup a xs h => exact ⟨_, .base (.tup h), .inr (.inr (.inr ⟨by simp, by simp, by simp, .inr (.inr (.inl rfl))⟩))⟩
  | dic a h => exact ⟨_, .base (.dK h), .inr (.inr (.inr ⟨by simp, by simp, by simp, .inr (.inr (.inr rfl))⟩))⟩
/-- all but the table stays -/
structure KT (P : Addr) (H H' : Hp) : Prop where
  keep : ∀ c o, c ≠ P → H c = some o → H' c = some o
  tab : TabG H' P
theorem TabG.at {H : Hp} {P : Addr} (t : TabG H P) : ∃ ps, H P = some (.tbl ps) := let ⟨ps, h, _⟩ := t; ⟨ps, h⟩
theorem ne_tab {H : Hp} {P a : Addr} {o : HO} (t : TabG H P) (h : H a = some o) (n : ∀ ps, o ≠ .tbl ps) : a ≠ P := by
  rintro rfl
  obtain ⟨ps, e⟩ := TabG.at t
  rw [h] at e
  exact n ps (Option.some.inj e)
theorem KT.refl {P : Addr} {H : Hp} (t : TabG H P) : KT P H H := ⟨fun _ _ _ h => h, t⟩
theorem KT.trans {P : Addr} {H H1 H2 : Hp} (a : KT P H H1) (b : KT P H1 H2) : KT P H H2 := ⟨fun c o n h => b.keep c o n (a.keep c o n h), b.tab⟩
theorem KT.of {P : Addr} {H H' : Hp} (t : Tabbed P H H') : KT P H H' := ⟨fun c o n h => by rw [t.2 c n]; exact h, t.1⟩
theorem KT.alloc {P p : Addr} {H : Hp} {o : HO} (t : TabG H P) (n : H p = none) : KT P H (upd H p o) := by
  obtain ⟨ps, e, ht⟩ := t
  refine ⟨fun c q _ h => by rw [upd_ne (ne_of_none h n)]; exact h, ps, by rw [upd_ne (ne_of_none e n)]; exact e, ht⟩
theorem Th.kt {P : Addr} {H H' : Hp} (t : TabG H P) (k : KT P H H') {v : V} (h : Th H v) : Th H' v := by
  cases h with
  | non => exact .non
  | bl b => exact .bl b
  | int i => exact .int i
  | str z h g => exact .str z h g
  | lst a xs h => exact .lst a xs (k.keep _ _ (ne_tab t h (by simp)) h)
  | tup a xs h => exact .tup a xs (k.keep _ _ (ne_tab t h (by simp)) h)
  | dic a h => exact .dic a (k.keep _ _ (ne_tab t h (by simp)) h)

theorem elt_between {prog : Program} {w : World} {scope : Scope} {x a b : Str} {j1 j2 : Nat} {p1 p2 p3 p4 : Pos} (hk : scope.kind = .function) (hl : scope.names.lookup x = some .local)
    (hd : (x == ("__debug__" : Str)) = false := by decide) :
    EltP prog w scope x (.Compare (.Constant (.str a) j1 p1) [.LtE, .LtE] [.Name x p2, .Constant (.str b) j2 p3] p4) (fun c => !decide ([c] < a.cps.toList) && !decide (b.cps.toList < [c])) := by
  intro cenv A' E' c t s2 m2 hs hn hm
  refine Compare_chain ?_ (by with_unfolding_all rfl)
  refine Calls.Constant_str (chain_link ?_)
  refine wpAny_Name (wpAny_loadName_local (by rw [hs]; exact hk) (show cenv.scope.names.lookup x = some .local by rw [hs]; exact hl) hn hm ?_) hd
  refine PySem.P.le_str ?_
  refine wpAny_truthy_bool ?_
  cases q : decide ([c] < a.cps.toList) with
  | true =>
    refine ite_ff ⟨?_, keeps_tok _ _⟩
    have q' : decide ((⟨#[c]⟩ : Str).cps.toList < a.cps.toList) = true := q
    simp [q']
  | false =>
    refine ite_tt (chain_last ?_)
    refine Calls.Constant_str ?_
    refine PySem.P.le_str ⟨?_, keeps_tok _ _⟩
    have q2 : ¬ [c] < a.cps.toList := of_decide_eq_false q
    simp [List.not_lt.mp q2]
def genSc : Scope := { kind := ScopeKind.function, names := [(Str.ofString ".0", NameKind.local), (Str.ofString "sign", NameKind.local)], isGenerator := true, isCoroutine := false }
theorem no_free : ∀ y ∈ genSc.names, y.2 ≠ NameKind.free := by decide +kernel
theorem one_lt (c d : Nat) : [c] < [d] ↔ c < d := by
  rw [List.cons_lt_cons_iff]
  constructor
  · rintro (h | ⟨_, h⟩)
    · exact h
    · exact absurd h (List.not_lt_nil _)
  · exact .inl
theorem lc_eq (c : Nat) : (!decide ([c] < [97]) && !decide ([122] < [c])) = lc c := by
  unfold lc
  rw [Bool.eq_iff_iff]
  simp only [Bool.and_eq_true, Bool.not_eq_true', decide_eq_false_iff_not, decide_eq_true_eq, one_lt]
  omega
/-! ### the box -/
def Bx (b : Addr) (n : Int) (H : Hp) : Prop := ∃ x y z : Int, H b = some (.lst [.int x, .int y, .int z]) ∧ 0 ≤ x ∧ 0 ≤ y ∧ y < 2147483629 ∧ 0 ≤ z ∧ z ≤ n
theorem Bx.same {b : Addr} {n : Int} {H H' : Hp} (h : Bx b n H) (e : H' b = H b) : Bx b n H' := by
  obtain ⟨x, y, z, h1, r⟩ := h
  exact ⟨x, y, z, e.trans h1, r⟩
theorem Bx.mono {b : Addr} {n m : Int} {H : Hp} (h : Bx b n H) (e : n ≤ m) : Bx b m H := by
  obtain ⟨x, y, z, h1, h2, h3, h4, h5, h6⟩ := h
  exact ⟨x, y, z, h1, h2, h3, h4, h5, by omega⟩
theorem i0 (a b c : V) : atI [a, b, c] 0 = some a := rfl
theorem i1 (a b c : V) : atI [a, b, c] 1 = some b := rfl
theorem i2 (a b c : V) : atI [a, b, c] 2 = some c := rfl
theorem j0 : ixN 3 0 = some 0 := rfl
theorem j2 : ixN 3 2 = some 2 := rfl
/-! ### lists and texts -/
theorem atI_ex {α : Type} {xs : List α} {d : Int} (h0 : 0 ≤ d) (h1 : d < xs.length) : ∃ v, v ∈ xs ∧ atI xs d = some v := by
  obtain ⟨j, rfl⟩ := Int.eq_ofNat_of_zero_le h0
  have hj : j < xs.length := by omega
  exact ⟨xs[j], List.getElem_mem hj, atI_nat (List.getElem?_eq_getElem hj)⟩
theorem joinL_len (S : List Nat) : ∀ ps : List (List Nat), (joinL S ps).length ≤ (ps.map List.length).sum + ps.length * S.length
  | [] => by simp [joinL]
  | [p] => by simp [joinL]
  | p :: q :: r => by
    have ih := joinL_len S (q :: r)
    have e : joinL S (p :: q :: r) = p ++ (S ++ joinL S (q :: r)) := rfl
    rw [e, List.length_append, List.length_append, List.map_cons, List.sum_cons, List.length_cons, Nat.succ_mul]
    omega
theorem tl_len (z : Str) : (tl z).length = z.length := by
  show z.cps.toList.length = z.cps.size
  simp
theorem join_len (y : Str) (ps : List Str) : (Txt.join y ps).length ≤ (ps.map (·.length)).sum + ps.length * y.length := by
  have h := joinL_len (tl y) (ps.map tl)
  rw [← tl_len, join_eq, tl_join]
  have e : (ps.map tl).map List.length = ps.map (·.length) := by
    rw [List.map_map]
    exact List.map_congr_left fun z _ => tl_len z
  rw [e, List.length_map, tl_len] at h
  exact h
theorem sum_ones (ps : List Str) (h : ∀ z ∈ ps, z.length ≤ 1) : (ps.map (·.length)).sum ≤ ps.length := by
  induction ps with
  | nil => simp
  | cons a r ih =>
    have h1 := h a List.mem_cons_self
    have h2 := ih fun z hz => h z (List.mem_cons_of_mem _ hz)
    simp only [List.map_cons, List.sum_cons, List.length_cons]
    omega
theorem lcY {A : TE} {σ : L2.St} {H : Hp} {G : VK} {B : Hp → Prop} (h : A σ H G) : tYes σ H (fun b H3 => if b = true then A σ H3 G else B H3) := by
  show if true = true then A σ H G else B H
  exact iteT h
theorem good_app {a b : Str} (h : Good a) (k : Good b) : Good (a ++ b) := fun c hc => by
  have e : (a ++ b).cps.toList = a.cps.toList ++ b.cps.toList := tl_append a b
  rw [e] at hc
  exact (List.mem_append.mp hc).elim (h c) (k c)
theorem good_cut {a : Str} (h : Good a) (lo hi : Option Int) : Good (cutS a lo hi) := fun c hc => by
  unfold cutS at hc
  exact h c (List.mem_of_mem_drop (List.mem_of_mem_take (by simpa using hc)))
theorem good_joinL {S : List Nat} (hS : ∀ c ∈ S, c < 1114112) : ∀ ps : List (List Nat), (∀ p ∈ ps, ∀ c ∈ p, c < 1114112) → ∀ c ∈ joinL S ps, c < 1114112
  | [], _, c, h => by simp [joinL] at h
  | [p], hp, c, h => hp p List.mem_cons_self c (by simpa [joinL] using h)
  | p :: q :: r, hp, c, h => by
    have e : joinL S (p :: q :: r) = p ++ (S ++ joinL S (q :: r)) := rfl
    rw [e, List.mem_append, List.mem_append] at h
    rcases h with h | h | h
    · exact hp p List.mem_cons_self c h
    · exact hS c h
    · exact good_joinL hS (q :: r) (fun z hz => hp z (List.mem_cons_of_mem _ hz)) c h
theorem good_join {y : Str} {ps : List Str} (hy : Good y) (h : ∀ z ∈ ps, Good z) : Good (Txt.join y ps) := fun c hc => by
  have e : (Txt.join y ps).cps.toList = joinL (tl y) (ps.map tl) := by rw [join_eq]; exact tl_join y ps
  rw [e] at hc
  refine good_joinL hy _ (fun p hp => ?_) c hc
  obtain ⟨z, hz, rfl⟩ := List.mem_map.mp hp
  exact h z hz
theorem good_of (x : String) : Good (Str.ofString x) := fun c hc => by
  have e : (Str.ofString x).cps.toList = x.toList.map Char.toNat := by
    rw [Str.ofString_eq_toList]
  rw [e] at hc
  obtain ⟨d, _, rfl⟩ := List.mem_map.mp hc
  have := d.valid
  unfold UInt32.isValidChar Nat.isValidChar at this
  show d.val.toNat < 1114112
  omega
theorem good_one {z : Str} {c : Nat} (h : Good z) (hc : c ∈ z.cps.toList) : Good ⟨#[c]⟩ := fun d hd => by
  have e : d = c := by simpa using hd
  rw [e]
  exact h c hc
/-- all but the box stays -/
def KB (b : Addr) (H H' : Hp) : Prop := ∀ c o, c ≠ b → H c = some o → H' c = some o
theorem KB.refl (b : Addr) (H : Hp) : KB b H H := fun _ _ _ h => h
theorem KB.trans {b : Addr} {H H1 H2 : Hp} (a : KB b H H1) (c : KB b H1 H2) : KB b H H2 := fun x o n h => c x o n (a x o n h)
theorem KB.off {b : Addr} {H H' : Hp} (h : ∀ a, a ≠ b → H' a = H a) : KB b H H' := fun c o n e => (h c n).trans e
theorem KB.alloc {b p : Addr} {H : Hp} {o : HO} (n : H p = none) : KB b H (upd H p o) := fun c u _ h => by rw [upd_ne (ne_of_none h n)]; exact h
theorem Bx.alloc {b p : Addr} {n : Int} {H : Hp} {o : HO} (h : Bx b n H) (f : H p = none) : Bx b n (upd H p o) := by
  obtain ⟨x, y, z, h1, r⟩ := h
  exact ⟨x, y, z, by rw [upd_ne (ne_of_none h1 f)]; exact h1, r⟩
theorem Bx.put {b p : Addr} {n : Int} {H : Hp} {o : HO} (h : Bx b n H) (f : p ≠ b) : Bx b n (upd H p o) := by
  obtain ⟨x, y, z, h1, r⟩ := h
  exact ⟨x, y, z, by rw [upd_ne f.symm]; exact h1, r⟩
/-- a comprehension over a text's signs -/
theorem lc_text {z : Str} {g : TG} {tt : TT} {te : TE} {vs : List Nat} {σ : L2.St} {H1 : Hp} {D : Addr} {Qd : Hp → Prop} (Pv : Nat → Hp → Prop) (h0 : Pv 0 (upd H1 D (.lst [])))
    (hs : ∀ i c H, z.cps.toList[i]? = some c → Pv i H → g (.str ⟨#[c]⟩) (wipe σ vs) H fun σ2 H2 => wipe σ2 vs = wipe σ vs ∧ tt σ2 H2 fun b H3 =>
      if b = true then te σ2 H3 fun y H4 => ∃ acc, H4 D = some (.lst acc) ∧ acc.length < sizeLine ∧ Pv (i + 1) (upd H4 D (.lst (acc ++ [y]))) else Pv (i + 1) H3) (hd : ∀ H, Pv z.length H → Qd H) :
    ∃ W : Nat → Nat → Hp → Prop, (∃ m, W 0 m (upd H1 D (.lst []))) ∧ ∀ i m H, W i m H →
      ((Its z).stop i H ∧ Qd H) ∨ ((Its z).go i H ∧ ∃ Nx : Hp → Prop, (∀ H', Nx H' → ∃ m', m' < m ∧ W (i + 1) m' H') ∧ ∀ x H', (Its z).yld i H x H' → g x (wipe σ vs) H' fun σ2 H2 => wipe σ2 vs = wipe σ vs ∧ tt σ2 H2 fun b H3 =>
        if b = true then te σ2 H3 fun y H4 => ∃ acc, H4 D = some (.lst acc) ∧ acc.length < sizeLine ∧ Nx (upd H4 D (.lst (acc ++ [y]))) else Nx H3) := by
  refine ⟨fun i m H => i + m = z.cps.size ∧ Pv i H, ⟨z.cps.size, by simp, h0⟩, fun i m H hW => ?_⟩
  obtain ⟨e, p⟩ := hW
  cases m with
  | zero =>
    have ei : i = z.cps.size := e
    subst ei
    exact .inl ⟨Nat.le_refl _, hd H p⟩
  | succ m =>
    refine .inr ⟨show i < z.cps.size by omega, Pv (i + 1), fun H' q => ⟨m, Nat.lt_succ_self m, by omega, q⟩, ?_⟩
    rintro x H' ⟨rfl, c, hc, rfl⟩
    exact hs i c _ (by rw [← hc]; simp) p
def badOf (l : List Nat) : List V := (l.filter fun c => !lc c).map fun c => V.str ⟨#[c]⟩
theorem bad_data {K : PySem.W.Frag} {H : Hp} : ∀ l : List Nat, DpAll K H (l.map fun c => V.str ⟨#[c]⟩) (l.map fun c => PyData.str ⟨#[c]⟩)
  | [] => .nil
  | c :: r => .cons (.str _) (bad_data r)
theorem one_ok {c : Nat} (h : c < 1114112) : PyData.strOk ⟨#[c]⟩ = true := by
  simp [PyData.strOk, h]
theorem bad_shaped : ∀ l : List Nat, (∀ c ∈ l, c < 1114112) → PyData.canLayAll0 (l.map fun c => PyData.str ⟨#[c]⟩) = true
  | [], _ => by simp [PyData.canLayAll0]
  | c :: r, h => by
    simp only [List.map_cons, PyData.canLayAll0, PyData.canLay0, Bool.and_eq_true]
    exact ⟨one_ok (h c List.mem_cons_self), bad_shaped r fun d hd => h d (List.mem_cons_of_mem _ hd)⟩
theorem bad_depth : ∀ l : List Nat, PyData.depthAll (l.map fun c => PyData.str ⟨#[c]⟩) = 0
  | [] => by simp [PyData.depthAll]
  | c :: r => by
    simp only [List.map_cons, PyData.depthAll, PyData.depth, bad_depth r]
    rfl
theorem letters_mem (c : Nat) : decide (c ∈ (Str.ofString "abcdefghijklmnopqrstuvwxyz").cps.toList) = lc c := by
  have e : (Str.ofString "abcdefghijklmnopqrstuvwxyz").cps.toList = (List.range 26).map (· + 97) := by decide +kernel
  rw [e]
  unfold lc
  rw [Bool.eq_iff_iff]
  simp only [decide_eq_true_eq, List.mem_map, List.mem_range, Bool.and_eq_true]
  constructor
  · rintro ⟨a, h, rfl⟩
    omega
  · intro h
    exact ⟨c - 97, by omega, by omega⟩
/-- a fresh place is no box -/
theorem Bx.fresh {b p : Addr} {n : Int} {H : Hp} (h : Bx b n H) (f : H p = none) : p ≠ b := by
  rintro rfl
  obtain ⟨x, y, z, e, _⟩ := h
  rw [f] at e
  cases e
theorem dec9000 {m : Int} (h0 : 0 < m) (h : m ≤ 10 ^ 30) : m.natAbs.log2 < 9000 := by
  have h1 : m.natAbs ≤ 10 ^ 30 := by omega
  have h2 : m.natAbs < 2 ^ 100 := Nat.lt_of_le_of_lt h1 (by decide)
  have h3 := (Nat.log2_lt (by omega)).mpr h2
  omega
theorem log1900 {m : Int} (h : m.natAbs ≤ 10 ^ 31) : m.natAbs.log2 < 1900 := by
  by_cases h0 : m.natAbs = 0
  · rw [h0]
    decide
  · have h2 : m.natAbs < 2 ^ 110 := Nat.lt_of_le_of_lt h (by decide)
    have h3 := (Nat.log2_lt h0).mpr h2
    omega
/-- a place in a list of the script stays -/
theorem seq_kt {K : PySem.W.Frag} {P a : Addr} {H H' : Hp} {xs : List V} (t : TabG H P) (k : KT P H H') (h : SqL K H a xs) : SqL K H' a xs := by
  rcases h with (h | ⟨o, h⟩) | h
  · exact .inl (.inl (k.keep _ _ (ne_tab t h (by simp)) h))
  · exact .inl (.inr ⟨o, k.keep _ _ (ne_tab t h (by simp)) h⟩)
  · exact .inr h
/-- what a row of steps with the box does to all else -/
theorem KT.box {P b : Addr} {H H' H1 : Hp} (t : TabG H P) (f : H b = none) (e : ∀ a, a ≠ b → H1 a = H a) (k : KB b H1 H') : KT P H H' := by
  obtain ⟨ps, ht, tr⟩ := t
  have nb : P ≠ b := ne_of_none ht f
  exact ⟨fun c o _ h => k c o (ne_of_none h f) ((e c (ne_of_none h f)).trans h), ps, k P _ nb ((e P nb).trans ht), tr⟩
theorem two_bools (a b : Bool) : (PyData.list [.bool a, .bool b]).shown.length ≤ sizeLine := by
  cases a <;> cases b <;> decide +kernel
end My

set_option maxRecDepth 100000
set_option maxHeartbeats 4000000
namespace K22
open PySem PySem.Spec PyProof.Rows L2 GxR Gd TL My
/-! ### the text -/
def top (i : Nat) : Stmt := PySem.Challenge.pw_onestaff_k22_rights_of_places.main.body.getD i (.Pass ⟨0, 0, 0, 0⟩)
abbrev sWhole : Stmt := top 5
abbrev sCell : Stmt := top 9
abbrev sBox : Stmt := top 10
abbrev sTake : Stmt := top 11
structure Txt (mg : Str → Option Value) : Prop where
  isinstance_ : mg "isinstance" = none
  int_ : mg "int" = none
  bool_ : mg "bool" = none
  str_ : mg "str" = none
  len_ : mg "len" = none
  all_ : mg "all" = none
  max_ : mg "max" = none
  min_ : mg "min" = none
  range_ : mg "range" = none
  repr_ : mg "repr" = none
  list_ : mg "list" = none
  tuple_ : mg "tuple" = none
  enumerate_ : mg "enumerate" = none
  sorted_ : mg "sorted" = none
  dict_ : mg "dict" = none
structure Fn (K : PySem.W.Frag) (mg : Str → Option Value) (x : Str) (st : Stmt) (ps : List Str) (f : Addr) (fd : FuncData) : Prop where
  fn : Fun K x x st f fd
  g : mg x = some (.ref f)
  b : Binds K fd ps []
theorem Fn.kp {K : PySem.W.Frag} {mg : Str → Option Value} {x : Str} {st : Stmt} {ps : List Str} {f : Addr} {fd : FuncData} (h : Fn K mg x st ps f fd) : PySem.W.keepIn K (.ref f) = true := h.fn.kp
section
variable {P : Program} {w : World} {K : PySem.W.Frag} {mg : Str → Option Value} {base : Heap}
def spWhole : Sp := fun vs H Q _ => ∃ (v : V) (lo hi : Int), vs = [v, .int lo, .int hi] ∧ Th H v ∧ Q (.bl (wh lo hi v)) H
theorem scWhole : FnScope ["thing", "low", "high"] ["thing", "low", "high"] (defScope sWhole) := ⟨rfl, rfl, rfl, by decide +kernel, rfl, by decide +kernel, by decide +kernel⟩
theorem ok_whole {f : Addr} {fd : FuncData} (F : Fun K "is_whole" "is_whole" sWhole f fd) (T : Txt mg) : FnOk P w K mg base CX0 1 f fd ["thing", "low", "high"] spWhole := by
  refine F.ok scWhole (fun vs H Q E h => ?_) (fun cdv A outer s H vs Q E hr h => ?_)
  · obtain ⟨v, lo, hi, rfl, _⟩ := h
    rfl
  · obtain ⟨v, lo, hi, rfl, th, k⟩ := h
    obtain ⟨t, ty, cs⟩ := th.ty (K := K)
    refine ⟨_, pss_cons (ps_if (PW.pt (pw_or (pt_not (pt_val (pe_callB call_isi (by rfl) T.isinstance_ (by decide +kernel) (pa_cons (pv 0) (pa_cons (pe_bltn (v := .ty "int") (by rfl) T.int_ (by decide +kernel) rfl) pa_nil)))))
        (pw_or1 (pt_val (pe_callB call_isi (by rfl) T.isinstance_ (by decide +kernel) (pa_cons (pv 0) (pa_cons (pe_bltn (v := .ty "bool") (by rfl) T.bool_ (by decide +kernel) rfl) pa_nil)))))))
        (pss_one (ps_ret pe_bl)) pss_nil)
      (pss_one (ps_ret (pe_chain op_le op_le (pv 1) (pv 0) (pv 2)))), ?_⟩
    rcases cs with ⟨i, rfl, rfl⟩ | ⟨b, rfl, rfl⟩ | ⟨z, rfl, _, rfl⟩ | ⟨n1, n2, n3, ht⟩
    · refine ⟨_, rfl, _, _, _, _, true, rfl, .ty "int", ty, (by rfl), _, rfl, iteF ?_⟩
      refine ⟨_, rfl, _, _, _, _, false, rfl, .ty "bool", ty, (by rfl), _, rfl, iteF ?_⟩
      refine ⟨_, rfl, _, rfl, _, _, rfl, rfl, _, rfl, ?_⟩
      refine ite2 (fun c => ?_) (fun c => ?_)
      · refine ⟨_, rfl, _, _, rfl, rfl, ?_⟩
        have e : (decide (i ≤ hi)) = wh lo hi (.int i) := by simp [wh, of_decide_eq_true c]
        show Q (.bl (decide (i ≤ hi))) H
        rw [e]; exact k
      · have e : false = wh lo hi (.int i) := by simp at c; simp [wh]; omega
        rw [e]; exact k
    · refine ⟨_, rfl, _, _, _, _, true, rfl, .ty "int", ty, (by rfl), _, rfl, iteF ?_⟩
      refine ⟨_, rfl, _, _, _, _, true, rfl, .ty "bool", ty, (by rfl), _, rfl, iteT ?_⟩
      exact k
    · refine ⟨_, rfl, _, _, _, _, false, rfl, .ty "int", ty, (by rfl), _, rfl, iteT (iteT ?_)⟩
      exact k
    · have e : wh lo hi v = false := by
        cases v with
        | int i => exact absurd rfl (n1 i)
        | _ => rfl
      rw [e] at k
      rcases ht with rfl | rfl | rfl | rfl
      · exact ⟨_, rfl, _, _, _, _, false, rfl, .ty "int", ty, (by rfl), _, rfl, iteT (iteT k)⟩
      · exact ⟨_, rfl, _, _, _, _, false, rfl, .ty "int", ty, (by rfl), _, rfl, iteT (iteT k)⟩
      · exact ⟨_, rfl, _, _, _, _, false, rfl, .ty "int", ty, (by rfl), _, rfl, iteT (iteT k)⟩
      · exact ⟨_, rfl, _, _, _, _, false, rfl, .ty "int", ty, (by rfl), _, rfl, iteT (iteT k)⟩

def spCell (K : PySem.W.Frag) : Sp := fun vs H Q _ => ∃ (l : Addr) (ns : List Int) (j : Nat), vs = [.ref l, .int (j : Int)] ∧ SqL K H l (ns.map V.int) ∧ ∀ i : Int, Q (.int i) H
theorem scCell : FnScope ["_law_script", "_law_k"] ["_law_script", "_law_k"] (defScope sCell) := ⟨rfl, rfl, rfl, by decide +kernel, rfl, by decide +kernel, by decide +kernel⟩
theorem ok_cell {f : Addr} {fd : FuncData} (F : Fun K "_law_cell" "_law_cell" sCell f fd) (T : Txt mg) : FnOk P w K mg base CX0 1 f fd ["_law_script", "_law_k"] (spCell K) := by
  refine F.ok scCell (fun vs H Q E h => ?_) (fun cdv A outer s H vs Q E hr h => ?_)
  · obtain ⟨l, ns, j, rfl, _⟩ := h
    rfl
  · obtain ⟨l, ns, j, rfl, hS, k⟩ := h
    refine ⟨_, pss_cons (ps_if (pt_cmpR op_lt (pv 1) (pe_callB call_len_seq (by rfl) T.len_ PySem.boot_len (pa_cons (pv 0) pa_nil)) (nomark _)) (pss_one (ps_ret (pe_ix ix_list (pv 0) (pv 1) (fun _ _ => rfl)))) pss_nil)
      (pss_one (ps_ret (pe_op op_add (pe_op op_mul pe_int (pv 1)) pe_int))), ?_⟩
    refine ⟨_, rfl, _, rfl, l, _, rfl, .inl hS, _, _, rfl, rfl, _, rfl, ite2 (fun c => ?_) (fun c => ?_)⟩
    · have c1 : (j : Int) < ((ns.map V.int).length : Nat) := of_decide_eq_true c
      have c2 : j < ns.length := by rw [List.length_map] at c1; omega
      refine ⟨_, rfl, _, rfl, l, _, _, _, rfl, rfl, hS, atI_nat (v := .int ns[j]) ?_, k _⟩
      rw [List.getElem?_map, List.getElem?_eq_getElem c2]
      rfl
    · exact ⟨_, rfl, _, _, rfl, rfl, .inl ⟨by decide, by decide⟩, _, _, rfl, rfl, k _⟩
def spBox : Sp := fun vs H Q _ => ∃ c : Int, vs = [.int c] ∧ ∀ b H', H b = none → (∀ a, a ≠ b → H' a = H a) → Bx b 0 H' → Q (.ref b) H'
theorem scBox : FnScope ["_law_cell_here"] ["_law_cell_here"] (defScope sBox) := ⟨rfl, rfl, rfl, by decide +kernel, rfl, by decide +kernel, by decide +kernel⟩
theorem ok_box {f : Addr} {fd : FuncData} (F : Fun K "_law_box" "_law_box" sBox f fd) (T : Txt mg) : FnOk P w K mg base CX0 1 f fd ["_law_cell_here"] spBox := by
  refine F.ok scBox (fun vs H Q E h => ?_) (fun cdv A outer s H vs Q E hr h => ?_)
  · obtain ⟨c, rfl, _⟩ := h
    rfl
  · obtain ⟨c, rfl, k⟩ := h
    refine ⟨_, pss_one (ps_ret (pe_lst (pa_cons (pe_callB (call_max2 rfl) (by rfl) T.max_ (by decide +kernel) (pa_cons pe_int (pa_cons (pe_op op_sub (pv 0) (pe_op op_pow pe_int pe_int)) pa_nil))) (pa_cons (pe_op op_mod (pv 0) pe_int) (pa_cons pe_int pa_nil))))), ?_⟩
    refine ⟨_, rfl, _, _, rfl, rfl, ⟨by decide, by decide, by decide⟩, _, _, rfl, rfl, _, _, rfl, ?_⟩
    refine ⟨_, rfl, _, _, rfl, rfl, (by show (0 : Int) < 2147483629; decide), ?_⟩
    refine ⟨(by show 3 ≤ sizeLine; decide), fun b hb => ?_⟩
    refine k b _ hb (fun a na => upd_ne na) ⟨_, _, 0, upd_same, ?_, ?_, ?_, Int.le_refl _, Int.le_refl _⟩
    · split <;> omega
    · exact Int.emod_nonneg _ (by decide)
    · exact Int.emod_lt_of_pos _ (by decide)
def spTake : Sp := fun vs H Q _ => ∃ (b : Addr) (many n : Int), vs = [.ref b, .int many] ∧ Bx b n H ∧ n ≤ 100000 ∧ 0 < many ∧ many.natAbs.log2 < 9000 ∧
  ∀ d H', 0 ≤ d → d < many → (∀ a, a ≠ b → H' a = H a) → Bx b (n + 1) H' → Q (.int d) H'
theorem scTake : FnScope ["_law_box_here", "_law_many", "_law_digit", "_law_number"] ["_law_box_here", "_law_many"] (defScope sTake) := ⟨rfl, rfl, rfl, by decide +kernel, rfl, by decide +kernel, by decide +kernel⟩
theorem ok_take {f : Addr} {fd : FuncData} (F : Fun K "_law_take" "_law_take" sTake f fd) : FnOk P w K mg base CX0 1 f fd ["_law_box_here", "_law_many"] spTake := by
  refine F.ok scTake (fun vs H Q E h => ?_) (fun cdv A outer s H vs Q E hr h => ?_)
  · obtain ⟨b, many, n, rfl, _⟩ := h
    rfl
  · obtain ⟨b, many, n, rfl, ⟨x, y, z, hb, x0, y0, y1, z0, zn⟩, hn, m0, ml, k⟩ := h
    refine ⟨_, pss_cons (ps_if (pt_cmpR op_gt (pe_ix ix_list (pv 0) pe_int (fun _ _ => rfl)) pe_int (nomark _))
        (pss_cons (ps_set (i := 2) scTake.nd rfl (Or.inl rfl) (pe_op op_mod (pe_ix ix_list (pv 0) pe_int (fun _ _ => rfl)) (pv 1)))
        (pss_cons (ps_asg (pe_op op_fdivW (pe_ix ix_list (pv 0) pe_int (fun _ _ => rfl)) (pv 1)) (pg_sub (pv 0) pe_int set_list))
        (pss_one (ps_ret (pv 2))))) pss_nil)
      (pss_cons (ps_asg (pe_op op_add (pe_ix ix_list (pv 0) pe_int (fun _ _ => rfl)) pe_int) (pg_sub (pv 0) pe_int set_list))
      (pss_cons (ps_set (i := 3) scTake.nd rfl (Or.inl rfl) (pe_op op_mod (pe_op op_pow (pe_op op_add (pe_op op_add (pe_ix ix_list (pv 0) pe_int (fun _ _ => rfl)) (pe_op op_mul pe_int (pe_ix ix_list (pv 0) pe_int (fun _ _ => rfl)))) pe_int) pe_int) pe_int))
      (pss_cons (ps_set (i := 3) scTake.nd rfl (Or.inl rfl) (pe_op op_mod (pe_op op_pow (pe_op op_add (pv 3) (pe_op op_mul pe_int (pe_ix ix_list (pv 0) pe_int (fun _ _ => rfl)))) pe_int) pe_int))
      (pss_one (ps_ret (pe_op op_mod (pe_op op_fdiv (pv 3) pe_int) (pv 1))))))), ?_⟩
    have hL : SqL K H b [.int x, .int y, .int z] := SqL.of hb
    refine ⟨_, rfl, b, _, _, _, rfl, rfl, hL, i0 _ _ _, _, _, rfl, rfl, _, rfl, ite2 (fun c => ?_) (fun c => ?_)⟩
    · refine ⟨_, rfl, b, _, _, _, rfl, rfl, hL, i0 _ _ _, _, rfl, _, _, rfl, rfl, m0, ?_⟩
      refine ⟨_, rfl, b, _, _, _, rfl, rfl, hL, i0 _ _ _, _, rfl, _, _, rfl, rfl, ⟨m0, ml⟩, ?_⟩
      refine ⟨_, rfl, b, _, _, _, rfl, rfl, hb, j0, ?_⟩
      refine ⟨_, rfl, ?_⟩
      exact k _ _ (Int.emod_nonneg _ (by omega)) (Int.emod_lt_of_pos _ m0) (fun a na => upd_ne na) ⟨_, _, _, upd_same, Int.ediv_nonneg x0 (by omega), y0, y1, z0, by omega⟩
    · refine ⟨_, rfl, b, _, _, _, rfl, rfl, hL, i2 _ _ _, _, _, rfl, rfl, ?_⟩
      refine ⟨_, rfl, b, _, _, _, rfl, rfl, hb, j2, ?_⟩
      have h1 : upd H b (.lst ([V.int x, .int y, .int z].set 2 (.int (z + 1)))) b = some (.lst [.int x, .int y, .int (z + 1)]) := upd_same
      have hL1 : SqL K (upd H b (.lst ([V.int x, .int y, .int z].set 2 (.int (z + 1))))) b [.int x, .int y, .int (z + 1)] := SqL.of h1
      refine ⟨_, rfl, b, _, _, _, rfl, rfl, hL1, i1 _ _ _, _, rfl, b, _, _, _, rfl, rfl, hL1, i2 _ _ _, _, _, rfl, rfl, .inl ⟨by decide, by decide⟩, _, _, rfl, rfl, _, _, rfl, rfl,
        _, _, rfl, rfl, ⟨by decide, by decide, ?_⟩, _, _, rfl, rfl, (by show (0 : Int) < 2147483647; decide), ?_⟩
      · omega
      refine ⟨_, rfl, _, rfl, b, _, _, _, rfl, rfl, hL1, i2 _ _ _, _, _, rfl, rfl, .inl ⟨by decide, by decide⟩, _, _, rfl, rfl,
        _, _, rfl, rfl, ⟨by decide, by decide, ?_⟩, _, _, rfl, rfl, (by show (0 : Int) < 2147483629; decide), ?_⟩
      · have g0 := Int.emod_nonneg ((y + 6700417 * (z + 1) + 271) ^ (5 : Int).toNat) (show (2147483647 : Int) ≠ 0 by decide)
        have g1 := Int.emod_lt_of_pos ((y + 6700417 * (z + 1) + 271) ^ (5 : Int).toNat) (show (0 : Int) < 2147483647 by decide)
        generalize (y + 6700417 * (z + 1) + 271) ^ (5 : Int).toNat % 2147483647 = q at g0 g1 ⊢
        omega
      refine ⟨_, rfl, _, _, rfl, rfl, ⟨by decide, by decide⟩, _, rfl, _, _, rfl, rfl, m0, ?_⟩
      exact k _ _ (Int.emod_nonneg _ (by omega)) (Int.emod_lt_of_pos _ m0) (fun a na => upd_ne na) ⟨_, _, _, h1, x0, y0, y1, by omega, by omega⟩
end
end K22


set_option maxRecDepth 100000
set_option maxHeartbeats 1000000
/-! Refusals: a try with clauses, named or not, in any order; a class's def called by the class; isinstance of what was caught. -/
namespace My
open PySem PySem.Spec PyProof.Rows L2 GxR
/-! ### a try with clauses, named or not -/
abbrev Cl := Value × Option Nat × (Addr → Value → Option Addr → TS)
/-- what follows is the same by two ways: I holds there -/
theorem cutR {A : Prop} {G : Hp → Prop} (I : Hp → Prop) (main : (∀ H, I H → G H) → A) (last : ∀ H, I H → G H) : A := main last
def endsOff (i : Nat) (D : Ends) : Ends :=
  { nx := fun τ G => D.nx (τ.set i none) G, rt := D.rt, bk := fun τ G => D.bk (τ.set i none) G, ct := fun τ G => D.ct (τ.set i none) G }
def suiteOf (i : Option Nat) (t : TS) (a : Addr) (D : Ends) (σ : L2.St) (H : Hp) : Prop :=
  match i with
  | none => t D σ H
  | some i => t (endsOff i D) (σ.set i (some (.ref a))) H
/-- what the clauses wish, one behind the other -/
def wCl (K : PySem.W.Frag) (Wout : WX) (D : Ends) : List Cl → WX
  | [] => Wout
  | p :: l => fun cls d σ H => ∃ b, PySem.W.exmOne K cls p.1 = some b ∧
      (b = true → ∀ a, H a = none → suiteOf p.2.1 (p.2.2 a cls d) a D σ H) ∧ (b = false → wCl K Wout D l cls d σ H)
def SuiteOk (X : Cx) (ss : List Stmt) (ts : Addr → Value → Option Addr → TS) : Prop :=
  ∀ (a : Addr) (oe : Obj) (cls : Value) (d : Option Addr) (pn : List (Addr × Obj)), Zc cls d oe → (∃ fv, oe.data = .fields fv) → PSs (X.suite a ((a, oe) :: pn)) ss (ts a cls d)
inductive Clauses (X : Cx) : List ExceptHandler → List Cl → Prop
  | nil : Clauses X [] []
  | plain {x : Str} {c : Value} {ts : Addr → Value → Option Addr → TS} {st : Stmt} {ss : List Stmt} {p q : Pos} {hds : List ExceptHandler} {l : List Cl}
      (hc : Names X x c) (hsu : SuiteOk X (st :: ss) ts) (r : Clauses X hds l) : Clauses X (.ExceptHandler (some (.Name x p)) none (st :: ss) q :: hds) ((c, none, ts) :: l)
  | named {x n : Str} {i : Nat} {c : Value} {ts : Addr → Value → Option Addr → TS} {st : Stmt} {ss : List Stmt} {p q : Pos} {hds : List ExceptHandler} {l : List Cl}
      (hc : Names X x c) (hi : X.N[i]? = some n) (hn : X.env.kindOf n = some .local) (hsu : SuiteOk X (st :: ss) ts) (r : Clauses X hds l) :
      Clauses X (.ExceptHandler (some (.Name x p)) (some n) (st :: ss) q :: hds) ((c, some i, ts) :: l)
/-- an exception in hand -/
structure InHand (X : Cx) (pins : List (Addr × Obj)) (σ : L2.St) (H : Hp) (cls : Value) (d : Option Addr) (a : Addr) (B : Heap) (sI s : Shared) : Prop where
  inv : Inv X pins σ H sI
  grd : ∀ b o, sI.heap.get? b = some o → b ∉ frs X.stack → B.get? b = some o
  up : sI.heap.UpToSlots s.heap
  fly : HandSPX.FlyingZ B (X.env :: X.outer) a (Zc cls d) s.heap
  new : H a = none
  os : s.os = sI.os
  ag : AllBare s.gens
section
variable {X : Cx} {pins : List (Addr × Obj)} {σ : L2.St} {H : Hp} {cls : Value} {d : Option Addr} {a : Addr} {B : Heap} {sI s : Shared}
theorem InHand.now (h : InHand X pins σ H cls d a B sI s) : Inv X pins σ H s := h.inv.landed h.grd h.fly.1 h.up h.os h.ag
theorem InHand.move (h : InHand X pins σ H cls d a B sI s) {g : Heap} (f : HandSPX.FlyingZ B (X.env :: X.outer) a (Zc cls d) g) (u : s.heap.UpToSlots g) :
    InHand X pins σ H cls d a B sI { s with heap := g } := ⟨h.inv, h.grd, h.up.trans u, f, h.new, h.os, h.ag⟩
theorem InHand.seen (h : InHand X pins σ H cls d a B sI s) (hf : X.env.frame = some X.env.locals) :
    ∃ oe fv, s.heap.get? a = some oe ∧ Zc cls d oe ∧ oe.data = .fields fv ∧ a ≠ X.env.locals ∧ a ∉ X.fs := by
  obtain ⟨oe, fv, e1, e2, e3⟩ := h.fly.there
  have off : a ∉ frs (X.env :: X.outer) := by
    intro m
    obtain ⟨_, o2, e4, no⟩ := h.fly.2.2.1.mem m
    rw [e1] at e4
    obtain rfl := Option.some.inj e4
    exact no _ e3
  refine ⟨oe, fv, e1, e2, e3, fun z => off ?_, fun z => off ?_⟩
  · rw [z]
    exact List.mem_filterMap.mpr ⟨X.env, by simp, hf⟩
  · obtain ⟨v, hv, q⟩ := List.mem_filterMap.mp z
    exact List.mem_filterMap.mpr ⟨v, by simp [hv], q⟩
/-- the suite of a clause behind the try's own end -/
theorem InHand.leave (ok : X.Ok) {oe : Obj} {D : Ends} {f : Flow} {s2 : Shared} (h : SP (X.suite a ((a, oe) :: (X.pn ++ pins))) [] D f s2) : SP X pins D f s2 := by
  cases f with
  | ret u => obtain ⟨v, τ, G, J, r, q⟩ := h; exact ⟨v, τ, G, J.unsuite ok, r, q⟩
  | next => obtain ⟨τ, G, J, q⟩ := h; exact ⟨τ, G, J.unsuite ok, q⟩
  | brk => obtain ⟨τ, G, J, q⟩ := h; exact ⟨τ, G, J.unsuite ok, q⟩
  | cont => obtain ⟨τ, G, J, q⟩ := h; exact ⟨τ, G, J.unsuite ok, q⟩
/-- no clause took it -/
theorem InHand.out (hs : X.stack = X.env :: X.outer) (hf : X.env.frame = some X.env.locals) {Wout : WX} (tk : Takes X Wout) (h : InHand X pins σ H cls d a B sI s) (w : Wout cls d σ H) {Q : Flow → Shared → Prop} :
    wpAny (model X.prog X.w) X.A (handleBy (.ref a) X.env []) Q X.xe s := by
  have fly := h.fly
  refine wpAny_handleBy_nil ?_
  obtain ⟨_, _, _, oe, fv, T, _, _, e1, _, e2, e3, _⟩ := id h.fly
  unfold PySem.passOn
  refine wpAny_bind (wpAny_field e1 e2 e3 ?_)
  rw [if_neg (by simp)]
  have last : wpAny (model X.prog X.w) X.A (setFlight (.ref a) X.env.frame) (fun _ z => wpAny (model X.prog X.w) X.A (throw (.ref a) : Sem Flow) Q X.xe z) X.xe s := by
    rw [hf]
    refine HandSPX.setFlight_upZ fly fun g held up => wpAny_throw (tk _ _ ⟨a, B, sI, pins, σ, H, cls, d, rfl, h.inv, h.grd, h.up.trans up, .inr (.inr ?_), h.new, h.os, h.ag, w⟩)
    rw [hs]
    exact held
  first
    | exact wpAny_bind last
    | exact wpAny_bind (wpAny_pure (wpAny_bind last))
/-- the class that a clause names, told -/
theorem InHand.named (h : InHand X pins σ H cls d a B sI s) (hf : X.env.frame = some X.env.locals) {x : Str} {c : Value} {p : Pos} (hc : Names X x c) {Q : Value → Shared → Prop} {E : Value → Shared → Prop} (q : Q c s) :
    wpAny (model X.prog X.w) (X.A.mark (some (.ref a))) (eval (.Name x p) X.env) Q E s := by
  obtain ⟨oe, fv, e1, _, e3, n1, n2⟩ := h.seen hf
  have S := h.now.suite e1 e3 h.new n1 n2
  obtain ⟨hg, hd, hm | ⟨hm, hv, hn⟩⟩ := hc
  · exact ld_glob (X := X.suite a ((a, oe) :: (X.pn ++ pins))) S hg hm q hd
  · exact ld_blt (X := X.suite a ((a, oe) :: (X.pn ++ pins))) S hg hm hv q hn hd
theorem InHand.through (hs : X.stack = X.env :: X.outer) (hf : X.env.frame = some X.env.locals) (hN : X.N.Nodup) {Wout : WX} (tk : Takes X Wout) {D : Ends} {hds : List ExceptHandler} {l : List Cl}
    (ck : Clauses X hds l) : ∀ {s : Shared}, InHand X pins σ H cls d a B sI s → wCl X.K Wout D l cls d σ H → wpAny (model X.prog X.w) X.A (handleBy (.ref a) X.env hds) (SP X pins D) X.xe s := by
  induction ck with
  | nil => exact fun h w => h.out hs hf tk w
  | @plain x c ts st ss p q hds l hc hsu r ih =>
    rintro s h ⟨b, hb, yes, no⟩
    have fly := h.fly
    obtain ⟨oe, fv, e1, e2, _⟩ := h.seen hf
    have own : PySem.W.Looks (model X.prog X.w) s.heap (typeOf (.ref a)) cls := fun _ _ _ z k q => wpAny_typeOf_ref (k _ _ e1) (by rw [e2.1]; exact q)
    refine wpAny_handleBy_cons (codeAny_handlers_test (h.named hf hc ((PySem.W.exm_one h.now.kIn own hb).here ?_))) (fun z => by cases z)
    cases b with
    | false => exact ih h (no rfl)
    | true =>
      refine codeAny_handlers_suite (HandSPX.lands_againZ fly fun g f2 u2 => ?_)
      have h2 := h.move f2 u2
      obtain ⟨oe2, fv2, i1, i2, i3, i4, i5⟩ := h2.seen hf
      exact wpAny_mono ((hsu a oe2 cls d (X.pn ++ pins) i2 ⟨_, i3⟩).run [] _ _ _ _ (h2.now.suite i1 i3 h.new i4 i5) (yes rfl a h.new)) (fun f z y => InHand.leave h.inv.ok y) fun _ _ z => z.elim
  | @named x n i c ts st ss p q hds l hc hi hn hsu r ih =>
    rintro s h ⟨b, hb, yes, no⟩
    have fly := h.fly
    obtain ⟨oe, fv, e1, e2, _⟩ := h.seen hf
    have own : PySem.W.Looks (model X.prog X.w) s.heap (typeOf (.ref a)) cls := fun _ _ _ z k q => wpAny_typeOf_ref (k _ _ e1) (by rw [e2.1]; exact q)
    refine wpAny_handleBy_cons (codeAny_handlers_test (h.named hf hc ((PySem.W.exm_one h.now.kIn own hb).here ?_))) (fun z => by cases z)
    cases b with
    | false => exact ih h (no rfl)
    | true =>
      refine codeAny_handlers_suite_as (HandSPX.lands_againZ fly fun g f2 u2 => ?_)
      have h2 := h.move f2 u2
      obtain ⟨oe2, fv2, i1, i2, i3, i4, i5⟩ := h2.seen hf
      refine store_ok (X := X.suite a ((a, oe2) :: (X.pn ++ pins))) (v := .ref a) (h2.now.suite i1 i3 h.new i4 i5) hN hi (.inl hn) rfl (fun z J => ?_) (.inr hn)
      refine wpAny_mono ((hsu a oe2 cls d (X.pn ++ pins) i2 ⟨_, i3⟩).run [] z _ _ _ J (yes rfl a h.new)) (fun f y k => ?_) fun _ _ z => z.elim
      have k' := InHand.leave h.inv.ok k
      cases f with
      | next => obtain ⟨τ, G, J2, q2⟩ := k'; exact gone_ok J2 hN hi hn fun _ J3 => ⟨_, _, J3, q2⟩
      | brk => obtain ⟨τ, G, J2, q2⟩ := k'; exact gone_ok J2 hN hi hn fun _ J3 => ⟨_, _, J3, q2⟩
      | cont => obtain ⟨τ, G, J2, q2⟩ := k'; exact gone_ok J2 hN hi hn fun _ J3 => ⟨_, _, J3, q2⟩
      | ret u => obtain ⟨v, τ, G, J2, r2, q2⟩ := k'; exact gone_ok J2 hN hi hn fun _ J3 => ⟨_, _, _, J3, r2, q2⟩
end
/-- try: body, any clauses -/
theorem ps_try_cl {X : Cx} {body : List Stmt} {hd : ExceptHandler} {hds : List ExceptHandler} {l : List Cl} {pos : Pos} {tb : WX → TS} {Wout : WX} (hs : X.stack = X.env :: X.outer) (hf : X.env.frame = some X.env.locals) (hN : X.N.Nodup)
    (tk : Takes X Wout) (ck : Clauses X (hd :: hds) l)
    (hb : ∀ (W : WX) (pn : List (Addr × Obj)) (xe : Value → Shared → Prop), Takes (X.tr pn xe) W → PassesOwn (model X.prog X.w) X.A X.env xe → PSs (X.tr pn xe) body (tb W)) :
    PS X (.Try body (hd :: hds) [] [] pos) (fun D σ H => tb (wCl X.K Wout D l) D σ H) := by
  refine ⟨fun pins s σ H D I h => wpAny_Try_except ?_⟩
  have ok := I.ok
  have fr : X.A.frames = some (X.env :: X.outer) := by rw [ok.frames, hs]
  let xe : Value → Shared → Prop := fun e z => wpAny (model X.prog X.w) X.A (noteFrame e X.env) (fun _ z2 => wpAny (model X.prog X.w) X.A (setFlight e none)
    (fun _ z3 => wpAny (model X.prog X.w) X.A (handleBy e X.env (hd :: hds)) (SP X pins D) X.xe z3) X.xe z2) X.xe z
  have take : Takes (X.tr (X.pn ++ pins) xe) (wCl X.K Wout D l) := by
    rintro _ z ⟨a, B, sI, pn, τ, G, cls, d, rfl, J, grd, up, sky, new, os, ag, w⟩
    rw [show (X.tr (X.pn ++ pins) xe).stack = X.env :: X.outer from hs] at sky
    refine Sky.land Zc.steady fr hf sky fun g fly u => ?_
    exact InHand.through hs hf hN tk ck (s := { z with heap := g }) ⟨J.ofTry ok, grd, up.trans u, fly, new, os, ag⟩ w
  refine wpAny_mono ((hb _ _ xe take PassesOwn.looking).run [] s σ H D (I.toTry _) h) (fun f z k => ?_) fun _ _ z => z
  cases f with
  | next => obtain ⟨τ, G, J, q⟩ := k; exact wpAny_execs_nil ⟨τ, G, J.ofTry ok, q⟩
  | brk => obtain ⟨τ, G, J, q⟩ := k; exact ⟨τ, G, J.ofTry ok, q⟩
  | cont => obtain ⟨τ, G, J, q⟩ := k; exact ⟨τ, G, J.ofTry ok, q⟩
  | ret u => obtain ⟨v, τ, G, J, r, q⟩ := k; exact ⟨v, τ, G, J.ofTry ok, r, q⟩
/-! ### C.m(e, ..), C a class of the program -/
/-- what the written part says of a def f that a class at C tells by its name -/
structure ClsDef (K : PySem.W.Frag) (C f : Addr) (n : Str) : Prop where
  ga : PySem.W.specialIn K (.ref C) "__getattribute__" = some (some (.builtin "type.__getattribute__"))
  rd : PySem.W.readsIn K C (.type "type") = true
  at_ : PySem.W.findCls K (.ref C) (.type "type") n = some (.val (.ref f))
section
variable {X : Cx} {CX : CXT} {k : Nat} {C f : Addr} {fd : FuncData} {ps : List Str} {sp : Sp} {dvs : List V} {ds : List Value} {E : XK} {x n : Str} {p1 p2 pos : Pos} {e : Expr} {es : List Expr} {t : TA}
theorem pe_ccall {pl : Sem Bool} (T : ClsDef X.K C f n) (F : FnOk X.prog X.w X.K X.mg X.base CX k f fd ps sp) (hr : Room k X.A) (hg : Gl X x) (hm : X.mg x = some (.ref C)) (hk : PySem.W.keepIn X.K (.ref f) = true)
    (hb : Binds X.K fd ps ds) (hd : Vals dvs ds) (hx : Passes CX X E) (ha : PA X (e :: es) t) (hdb : (x == ("__debug__" : Str)) = false := by decide)
    (hc : eval (.Call (.Attribute (.Name x p1) n p2) (e :: es) [] pos) X.env = (do
      let ov ← eval (.Name x p1) X.env
      standAt p2.atName
      let (f, first) ← holding [ov] (getMethod ov n pl)
      callWith pos f first (backTo pos (starEach (e :: es) X.env)) (backToKw pos (keywordEach [] X.env))) := by rfl)
    (he : starEach (e :: es) X.env = (false, eval e X.env) :: starEach es X.env := by rfl) (hpl : (backTo pos (starEach es X.env)).any (·.1) = false := by rfl) :
    PE X (.Call (.Attribute (.Name x p1) n p2) (e :: es) [] pos) (tCall sp dvs E t) := by
  refine ⟨fun pins s σ H Q I h => PySem.W.methodCall_KW (ld_glob I hg hm ?_ hdb) hc⟩
  refine PySem.W.method_cls I.kIn T.ga (PySem.W.cls_value I.kIn T.rd T.at_ rfl ?_)
  refine PySem.W.callWith_K (h₀ := X.base) I.ok.mod.kin hk (thn (ha.run pos pins _ σ H _ (I.tok _) h) ?_) he hpl
  rintro us s1 ⟨vs, H1, I1, r, q⟩
  refine ⟨I1.kIn, ?_⟩
  have both := r.append hd
  have len : (us ++ ds).length = ps.length := (both.length).symm.trans (F.len _ _ _ _ q)
  refine wpAny_call (codeAny_mono (F.run X.A X.stack s1 H1 ⟨us, []⟩ (us ++ ds) (vs ++ dvs) Q E hr I1.env0 (hb s1 us I1.kIn len) both q) ?_)
  intro res z hz
  match res, hz with
  | .ok (.ret u), hz => exact I1.after hz
  | .error e, hz => exact hx pins σ H1 s1 e z I1 hz
  | .ok .next, hz => exact hz.elim
  | .ok .brk, hz => exact hz.elim
  | .ok .cont, hz => exact hz.elim
end
/-! ### o.m(e, ..) in a try's body -/
section
variable {X : Cx} {CX : CXT} {k : Nat} {C f : Addr} {fd : FuncData} {ps : List Str} {sp : Sp} {E : L2.St → XK} {m : Str} {pos apos : Pos} {e o : Expr} {es : List Expr} {ta : TE} {t : TA}
def tMethX (C : Addr) (m : Str) (sp : Sp) (E : L2.St → XK) (ta : TE) (t : TA) : TE := fun σ H Q => ta σ H fun x G => ∃ a dx fs, x = .ref a ∧ G a = some (.ins C dx fs) ∧ fs.lookup m = none ∧
  t σ G fun vs G2 => sp (x :: vs) G2 Q (E σ)
theorem pe_methX {pl : Sem Bool} (he : PE X o ta) (c : Cls X.K C) (hm : Meth X.K C m f) (F : FnOk X.prog X.w X.K X.mg X.base CX k f fd ps sp) (hr : Room k X.A) (hb : Binds X.K fd ps []) (hx : ∀ σ, PassesAt CX X σ (E σ)) (ha : PA X (e :: es) t)
    (hst : starEach (e :: es) X.env = (false, eval e X.env) :: starEach es X.env := by rfl) (hpl : (backTo pos (starEach es X.env)).any (·.1) = false := by rfl)
    (ht : eval (.Call (.Attribute o m apos) (e :: es) [] pos) X.env = (do
      let ov ← eval o X.env
      standAt apos.atName
      let (f, first) ← holding [ov] (getMethod ov m pl)
      callWith pos f first (backTo pos (starEach (e :: es) X.env)) (backToKw pos (keywordEach [] X.env))) := by rfl) :
    PE X (.Call (.Attribute o m apos) (e :: es) [] pos) (tMethX C m sp E ta t) := by
  refine ⟨fun pins s σ H Q I h => PySem.W.methodCall_KW (pl := pl) (thn (he.run pins s σ H _ I h) ?_) ht⟩
  rintro u z ⟨x, G, J, rx, a, dx, fs, rfl, ea, l, q⟩
  obtain rfl : u = Value.ref a := rx
  refine getmeth_ok J ea c hm l (PySem.W.callWith_K (first := [.ref a]) (h₀ := X.base) I.ok.mod.kin hm.kp (thn (ha.run pos pins z σ G _ J q) ?_) hst hpl)
  rintro us y ⟨vs, G2, J2, r, q2⟩
  exact ⟨J2.kIn, run_fnS (us := .ref a :: us) (vs := .ref a :: vs) F hr hb (hx σ) J2 (.cons rfl r) q2⟩
end
/-! ### the family: an __init__ over another class's, one field -/
/-- StaffError.__init__(self, text) and the like -/
def spUp (K : PySem.W.Frag) : Sp := fun vs H Q _ => ∃ (a C : Addr) (z : Str), vs = [.ref a, .str z] ∧ OexC K C ∧ H a = some (exo a C none) ∧ Q .non H
/-- C.__init__(self, x), its one field f -/
def spOne (K : PySem.W.Frag) (C : Addr) (f : Str) : Sp := fun vs H Q _ => ∃ (a : Addr) (v : V), vs = [.ref a, v] ∧ H a = some (exo a C none) ∧
  ∀ dx, H dx = none → dx ≠ a → Q .non (upd (upd H dx (exd dx [(f, v)])) a (exo a C (some dx)))
/-- what is left of a made exception: its dict alone -/
theorem made_eq {H : Hp} {a d C : Addr} {fs : List (Str × V)} (n : H a = none) (ne : d ≠ a) :
    upd (del (upd (upd (upd H a (exo a C none)) d (exd d fs)) a (exo a C (some d))) a) d (.xd fs) = upd H d (.xd fs) := by
  funext b
  by_cases hd : b = d
  · rw [hd, upd_same, upd_same]
  · rw [upd_ne hd, upd_ne hd]
    by_cases ha : b = a
    · rw [ha, del_same, n]
    · rw [del_ne ha, upd_ne ha, upd_ne hd, upd_ne ha]
/-- raise C(x): what is to be shown -/
theorem made_one {K : PySem.W.Frag} {C : Addr} {f : Str} {v : V} {H : Hp} {W : Value → Option Addr → Hp → Prop} (k : ∀ d, H d = none → W (.ref C) (some d) (upd H d (.xd [(f, v)]))) :
    ([v] : List V).length ≤ 1000 ∧ ∀ a, H a = none → spOne K C f (.ref a :: ([v] ++ [])) (upd H a (exo a C none))
      (fun u H2 => u = .non ∧ ∃ (d : Addr) (fs : List (Str × V)), H2 a = some (exo a C (some d)) ∧ H2 d = some (exd d fs) ∧ H d = none ∧ W (.ref C) (some d) (upd (del H2 a) d (.xd fs))) (fun _ _ _ => False) := by
  refine ⟨by simp, fun a n => ⟨a, v, rfl, upd_same, fun dx hdx ne => ⟨rfl, dx, [(f, v)], upd_same, ?_, ?_, ?_⟩⟩⟩
  · rw [upd_ne ne, upd_same]
  · rw [upd_ne ne] at hdx
    exact hdx
  · rw [made_eq n ne]
    rw [upd_ne ne] at hdx
    exact k dx hdx
/-- a class is its own -/
theorem sub_self {K : PySem.W.Frag} {C : Addr} {cd : ClassData} {r : List Value} (h : PySem.W.clsIn K C = some cd) (e : cd.mro = .ref C :: r) : PySem.W.subIn K (.ref C) (.ref C) = some true := by
  show PySem.W.mroIn K C (.ref C) = some true
  unfold PySem.W.mroIn
  rw [h]
  simp [e]
/-! ### isinstance of what was caught -/
structure CauC (K : PySem.W.Frag) (D : Addr) : Prop where
  cl : (PySem.W.clsIn K D).isSome = true
  ga : PySem.W.findIn K (.ref D) "__getattribute__" = some (some (.builtin "BaseException.__getattribute__"))
  gg : PySem.W.findIn K (.ref D) "__getattr__" = some none
  sub : PySem.W.subIn K (.ref D) (.type "BaseException") = some true
  co : PySem.W.findIn K (.ref D) "__class__" = some (some (.builtin "object.__class__"))
  cg : PySem.W.specialIn K (.builtin "object.__class__") "__get__" = some (some (.builtin "getset_descriptor.__get__"))
  ct : PySem.W.takesIn K (.builtin "object.__class__") = some true
  mo : PySem.W.mroIn K D (.type "object") = some true
/-- isinstance(e, c), e what the suite holds (cls its class, d its dict) -/
def rIsD (K : PySem.W.Frag) (D a : Addr) (cls : Value) (d : Option Addr) : List V → Hp → VK → Prop := fun xs H Q => ∃ (c : V) (cv : Value) (b : Bool) (dd : Addr) (fs : List (Str × V)),
  xs = [.ref a, c] ∧ (∀ u, RelV c u → u = cv) ∧ PySem.W.kitOne K (.ref D) cv = some b ∧ cls = .ref D ∧ d = some dd ∧ H dd = some (.xd fs) ∧ Q (.bl b) H
theorem call_isD {X : Cx} {a D : Addr} {cls : Value} {d : Option Addr} {oe : Obj} {pn : List (Addr × Obj)} (T : CauC X.K D) (hz : Zc cls d oe) (hf : ∃ fv, oe.data = .fields fv) :
    CallR (X.suite a ((a, oe) :: pn)) (.builtin "isinstance") (rIsD X.K D a cls d) := by
  rintro pins s σ H xs us Q I r ⟨c, cv, b, dd, fs, rfl, hcv, e, rfl, rfl, ed, q⟩
  cases r with
  | cons rx rr =>
    cases rr with
    | cons rt rr =>
      cases rr
      cases rx
      obtain rfl := hcv _ rt
      obtain ⟨hget, _⟩ := I.pin (a, oe) (by simp)
      obtain ⟨fv, hv⟩ := hf
      have hx : ObjOk X.prog X.w H s.heap dd (.xd fs) := I.hok dd _ ed
      obtain ⟨mA, hns, _⟩ := hx
      obtain ⟨od, ho, _⟩ := lookIn_ns hns
      have J : PySem.W.InstAt s.heap a oe D (some od) := ⟨hget, hz.1, by unfold PySem.W.notCls; rw [hv] <;> rfl, by rw [hz.2]; exact ho⟩
      exact PySem.W.kia_one (PySem.W.kitx_exc T.cl T.ga T.gg T.sub T.co T.cg T.ct T.mo) I.kIn J e (fun z => nomatch z) fun tk => ⟨.bl b, H, I.tok _, rfl, q⟩
/-- a call of a def that may raise, where it does not -/
theorem pass_no {X : Cx} : Passes (L2.CX X.prog X.w) X E0 := fun _ _ _ _ _ _ _ ⟨_, _, _, _, _, _, _, _, _, _, _, _, z⟩ => z.elim
theorem takes_never {X : Cx} : Takes X (fun _ _ _ _ => False) := fun _ _ ⟨_, _, _, _, _, _, _, _, _, _, _, _, _, _, _, _, z⟩ => z.elim
end My

set_option maxRecDepth 100000
set_option maxHeartbeats 400000
/-! Several refusals of one family: what the written part says of each. -/
namespace My
open PySem PySem.Spec PyProof.Rows L2 GxR Gd TL
/-- the class above them -/
structure SeT (K : PySem.W.Frag) (mg : Str → Option Value) (CS fS : Addr) (fdS : FuncData) (st : Stmt) : Prop where
  ve : mg "ValueError" = none
  vi : PySem.W.findCls K (.type "ValueError") (.type "type") "__init__" = some (.val (.builtin "ValueError.__init__"))
  g : mg "StaffError" = some (.ref CS)
  c : ClsDef K CS fS "__init__"
  k : PySem.W.keepIn K (.ref fS) = true
  F : Fun K "__init__" "StaffError.__init__" st fS fdS
  b : Binds K fdS ["self", "text"] []
/-- one of them -/
structure ExC (K : PySem.W.Frag) (mg : Str → Option Value) (x q : Str) (st : Stmt) (C f : Addr) (fd : FuncData) : Prop where
  g : mg x = some (.ref C)
  F : Fun K "__init__" q st f fd
  b : Binds K fd ["self", "found"] []
  o : OexC K C
  i : PySem.W.findIn K (.ref C) "__init__" = some (some (.ref f))
  t : PySem.W.typeIn K (.ref f) = some (.type "function")
  n : PySem.W.findIn K (.ref C) "found" = some none
  e : PySem.W.exmOne K (.ref C) (.ref C) = some true
  x : XfC K C
  u : CauC K C
section
variable {X : Cx} {CX : CXT} {k : Nat} {C f : Addr} {fd : FuncData} {ps : List Str} {sp : Sp} {E : L2.St → XK} {m : Str} {pos apos : Pos} {o : Expr} {ta : TE}
def tMethX0 (C : Addr) (m : Str) (sp : Sp) (E : L2.St → XK) (ta : TE) : TE := fun σ H Q => ta σ H fun x G => ∃ a dx fs, x = .ref a ∧ G a = some (.ins C dx fs) ∧ fs.lookup m = none ∧ sp [x] G Q (E σ)
/-- o.m() in a try's body -/
theorem pe_methX0 {pl : Sem Bool} (he : PE X o ta) (c : Cls X.K C) (hm : Meth X.K C m f) (F : FnOk X.prog X.w X.K X.mg X.base CX k f fd ps sp) (hr : Room k X.A) (hb : Binds X.K fd ps []) (hx : ∀ σ, PassesAt CX X σ (E σ))
    (ht : eval (.Call (.Attribute o m apos) [] [] pos) X.env = (do
      let who ← eval o X.env
      standAt apos.atName
      let (g, ahead) ← holding [who] (getMethod who m pl)
      callWith pos g ahead (backTo pos (starEach [] X.env)) (backToKw pos (keywordEach [] X.env))) := by rfl) :
    PE X (.Call (.Attribute o m apos) [] [] pos) (tMethX0 C m sp E ta) := by
  refine ⟨fun pins s σ H Q I h => PySem.W.methodCall_KW (pl := pl) (thn (he.run pins s σ H _ I h) ?_) ht⟩
  rintro u z ⟨x, G, J, rx, a, dx, fs, rfl, ea, l, q⟩
  obtain rfl := show u = Value.ref a from rx
  refine getmeth_ok J ea c hm l ?_
  exact PySem.W.callWith_K0 (first := [.ref a]) J.kIn hm.kp (run_fnS (us := [.ref a]) (vs := [.ref a]) F hr hb (hx σ) J (.cons rfl .nil) q)
end
end My

set_option maxRecDepth 100000
set_option maxHeartbeats 4000000
/-! Data in the heap, kept by steps that change a box, a table. -/
namespace My
open PySem PySem.Spec PyProof.Rows L2 GxR Gd TL
/-- all but tables stays -/
def Nt (H H' : Hp) : Prop := ∀ c o, (∀ ps, o ≠ .tbl ps) → H c = some o → H' c = some o
theorem Nt.refl (H : Hp) : Nt H H := fun _ _ _ h => h
theorem Nt.trans {H H1 H2 : Hp} (a : Nt H H1) (b : Nt H1 H2) : Nt H H2 := fun c o n h => b c o n (a c o n h)
theorem KT.nt {P : Addr} {H H' : Hp} (t : TabG H P) (k : KT P H H') : Nt H H' := fun c o n h => k.keep c o (ne_tab t h n) h
theorem Nt.alloc {H : Hp} {p : Addr} {o : HO} (n : H p = none) : Nt H (upd H p o) := fun c u _ h => by rw [upd_ne (ne_of_none h n)]; exact h
/-- the heap but the box -/
def hide (b : Addr) (H : Hp) : Hp := fun c => if c = b then none else H c
theorem hide_ne {b c : Addr} {H : Hp} (h : c ≠ b) : hide b H c = H c := if_neg h
theorem hide_some {b c : Addr} {H : Hp} {o : HO} (h : hide b H c = some o) : c ≠ b ∧ H c = some o := by
  unfold hide at h
  by_cases q : c = b
  · rw [if_pos q] at h
    cases h
  · rw [if_neg q] at h
    exact ⟨q, h⟩
theorem KB.nt {b : Addr} {H H' : Hp} (k : KB b H H') : Nt (hide b H) (hide b H') := fun c o _ h => by
  obtain ⟨n, h⟩ := hide_some h
  rw [hide_ne n]
  exact k c o n h
theorem hide_nt (b : Addr) (H : Hp) : Nt (hide b H) H := fun c o _ h => (hide_some h).2
theorem Nt.seq {K : PySem.W.Frag} {H H' : Hp} {a : Addr} {xs : List V} (e : Nt H H') (h : SqL K H a xs) : SqL K H' a xs := by
  rcases h with (h | ⟨o, h⟩) | h
  · exact .inl (.inl (e _ _ (by simp) h))
  · exact .inl (.inr ⟨o, e _ _ (by simp) h⟩)
  · exact .inr h
theorem Nt.seqT {K : PySem.W.Frag} {H H' : Hp} {a : Addr} {xs : List V} (e : Nt H H') (h : SqT K H a xs) : SqT K H' a xs := by
  rcases h with (h | ⟨o, h⟩) | h
  · exact .inl (.inl (e _ _ (by simp) h))
  · exact .inl (.inr ⟨o, e _ _ (by simp) h⟩)
  · exact .inr h
section
variable {K : PySem.W.Frag} {H H' : Hp}
mutual
theorem dp_nt (e : Nt H H') : ∀ {v : V} {d : PyData}, Dp K H v d → Dp K H' v d
  | _, _, .non => .non
  | _, _, .bl b => .bl b
  | _, _, .int i => .int i
  | _, _, .str z => .str z
  | _, _, .lst h a => .lst (e.seq h) (dpAll_nt e a)
  | _, _, .tup h a => .tup (e.seqT h) (dpAll_nt e a)
theorem dpAll_nt (e : Nt H H') : ∀ {vs : List V} {ds : List PyData}, DpAll K H vs ds → DpAll K H' vs ds
  | _, _, .nil => .nil
  | _, _, .cons h t => .cons (dp_nt e h) (dpAll_nt e t)
end
theorem dp_list {v : V} {ds : List PyData} (h : Dp K H v (.list ds)) : ∃ a xs, v = .ref a ∧ SqL K H a xs ∧ DpAll K H xs ds := by
  cases h with
  | lst h a => exact ⟨_, _, rfl, h, a⟩
theorem dp_tuple {v : V} {ds : List PyData} (h : Dp K H v (.tuple ds)) : ∃ a xs, v = .ref a ∧ SqT K H a xs ∧ DpAll K H xs ds := by
  cases h with
  | tup h a => exact ⟨_, _, rfl, h, a⟩
theorem dp_str {v : V} {z : Str} (h : Dp K H v (.str z)) : v = .str z := by
  cases h
  rfl
theorem dp_int {v : V} {i : Int} (h : Dp K H v (.int i)) : v = .int i := by
  cases h
  rfl
theorem dp_none {v : V} (h : Dp K H v .none) : v = .non := by
  cases h
  rfl
theorem dpAll_len : ∀ {xs : List V} {ds : List PyData}, DpAll K H xs ds → xs.length = ds.length
  | _, _, .nil => rfl
  | _, _, .cons _ t => congrArg (· + 1) (dpAll_len t)
theorem dpAll_get : ∀ {xs : List V} {ds : List PyData}, DpAll K H xs ds → ∀ {i : Nat} {x : V}, xs[i]? = some x → ∃ d, ds[i]? = some d ∧ Dp K H x d
  | _, _, .nil, _, _, h => by simp at h
  | _, _, .cons a _, 0, _, h => by simp at h; subst h; exact ⟨_, rfl, a⟩
  | _, _, .cons _ t, i + 1, x, h => by
    obtain ⟨d, h1, h2⟩ := dpAll_get t (i := i) (x := x) (by simpa using h)
    exact ⟨d, by simpa using h1, h2⟩
theorem dpAll_at : ∀ {xs : List V} {ds : List PyData}, DpAll K H xs ds → ∀ {i : Nat} {d : PyData}, ds[i]? = some d → ∃ x, xs[i]? = some x ∧ Dp K H x d
  | _, _, .nil, _, _, h => by simp at h
  | _, _, .cons a _, 0, _, h => by simp at h; subst h; exact ⟨_, rfl, a⟩
  | _, _, .cons _ t, i + 1, d, h => by
    obtain ⟨x, h1, h2⟩ := dpAll_at t (i := i) (d := d) (by simpa using h)
    exact ⟨x, by simpa using h1, h2⟩
theorem dpAll_app : ∀ {xs ys : List V} {ds es : List PyData}, DpAll K H xs ds → DpAll K H ys es → DpAll K H (xs ++ ys) (ds ++ es)
  | _, _, _, _, .nil, h => h
  | _, _, _, _, .cons a t, h => .cons a (dpAll_app t h)
theorem dp_two {v : V} {c d : PyData} (h : Dp K H v (.tuple [c, d])) : ∃ a x y, v = .ref a ∧ SqT K H a [x, y] ∧ Dp K H x c ∧ Dp K H y d := by
  obtain ⟨a, xs, rfl, h1, h2⟩ := dp_tuple h
  cases h2 with
  | cons p t =>
    cases t with
    | cons q t =>
      cases t
      exact ⟨a, _, _, rfl, h1, p, q⟩
theorem dp_three {v : V} {c d e : PyData} (h : Dp K H v (.tuple [c, d, e])) : ∃ a x y z, v = .ref a ∧ SqT K H a [x, y, z] ∧ Dp K H x c ∧ Dp K H y d ∧ Dp K H z e := by
  obtain ⟨a, xs, rfl, h1, h2⟩ := dp_tuple h
  cases h2 with
  | cons p t =>
    cases t with
    | cons q t =>
      cases t with
      | cons r t =>
        cases t
        exact ⟨a, _, _, _, rfl, h1, p, q, r⟩
theorem dp_four {v : V} {c d e f : PyData} (h : Dp K H v (.list [c, d, e, f])) : ∃ a x y z u, v = .ref a ∧ SqL K H a [x, y, z, u] ∧ Dp K H x c ∧ Dp K H y d ∧ Dp K H z e ∧ Dp K H u f := by
  obtain ⟨a, xs, rfl, h1, h2⟩ := dp_list h
  cases h2 with
  | cons p t =>
    cases t with
    | cons q t =>
      cases t with
      | cons r t =>
        cases t with
        | cons s t =>
          cases t
          exact ⟨a, _, _, _, _, rfl, h1, p, q, r, s⟩
end
/-! ### names that are good, worlds of lines -/
def NameOk (z : Str) : Prop := 1 ≤ z.length ∧ z.length ≤ 6 ∧ z.cps.toList.all lc = true
theorem NameOk.good {z : Str} (h : NameOk z) : Good z := fun c hc => by
  have := List.all_eq_true.mp h.2.2 c hc
  unfold lc at this
  simp at this
  omega
theorem NameOk.nm {z : Str} (h : NameOk z) : nm (.str z) = true := by
  obtain ⟨h1, h2, h3⟩ := h
  simp [My.nm, h1, h2, h3]
theorem NameOk.th {z : Str} {H : Hp} (h : NameOk z) : Th H (.str z) := .str z (by have := h.2.1; omega) h.good
structure Wd where
  ps : List (Str × Int)
  st : List (Str × Int)
  lo : List (Int × Int × Int)
  sp : Str
def longsOk (top : Int) : Int → List (Int × Int × Int) → Prop
  | _, [] => True
  | low, (f, l, h) :: r => low ≤ f ∧ f + 2 ≤ l ∧ l ≤ top ∧ 0 ≤ h ∧ h ≤ 1 ∧ longsOk top l r
structure Wd.Ok (w : Wd) : Prop where
  p2 : 2 ≤ w.ps.length
  p6 : w.ps.length ≤ 6
  nm : ∀ p ∈ w.ps, NameOk p.1 ∧ 1 ≤ p.2 ∧ p.2 ≤ 3
  nd : (w.ps.map (·.1)).Nodup
  sl : w.st.length + 1 = w.ps.length
  st : ∀ p ∈ w.st, (p.1 = "staff" ∨ p.1 = "ticket") ∧ 0 ≤ p.2 ∧ p.2 ≤ 1
  ll : w.lo.length ≤ 2
  lo : longsOk (w.ps.length - 1 : Nat) 0 w.lo
  sn : NameOk w.sp
  s0 : w.sp ∉ w.ps.map (·.1)
def dP (p : Str × Int) : PyData := .tuple [.str p.1, .int p.2]
def dL (p : Int × Int × Int) : PyData := .tuple [.int p.1, .int p.2.1, .int p.2.2]
def Wd.data (w : Wd) : PyData := .list [.list (w.ps.map dP), .list (w.st.map dP), .list (w.lo.map dL), .str w.sp]
end My

set_option maxRecDepth 100000
set_option maxHeartbeats 400000
/-! small data: what repr asks of them -/
namespace My
open PySem PySem.Spec PyProof.Rows L2 GxR Gd TL
structure Sm (d : PyData) (k m : Nat) : Prop where
  lay : d.canLay0 = true
  dep : d.depth ≤ k
  wt : d.weight ≤ m
  ish : d.intsShort 13 = true
  sh : d.showable = true
theorem Sm.rep {d : PyData} {k m : Nat} (h : Sm d k m) (hk : k ≤ 64) (hm : m ≤ 2 ^ 20) : d.showable = true ∧ d.depth ≤ 100 ∧ d.shown.length ≤ sizeLine := by
  refine ⟨h.sh, Nat.le_trans h.dep (by omega), Nat.le_trans (shown_le13 ?_ h.ish) (by rw [sizeLine_eq]; decide)⟩
  unfold PyData.layable0
  rw [Bool.and_eq_true, Bool.and_eq_true, decide_eq_true_eq, decide_eq_true_eq]
  exact ⟨⟨h.lay, Nat.le_trans h.dep hk⟩, Nat.le_trans h.wt hm⟩
theorem Sm.mono {d : PyData} {k m k' m' : Nat} (h : Sm d k m) (hk : k ≤ k') (hm : m ≤ m') : Sm d k' m' := ⟨h.lay, Nat.le_trans h.dep hk, Nat.le_trans h.wt hm, h.ish, h.sh⟩
theorem sm_none : Sm .none 0 0 := ⟨rfl, Nat.le_refl 0, Nat.le_refl 0, rfl, rfl⟩
theorem sm_bool (b : Bool) : Sm (.bool b) 0 0 := ⟨rfl, Nat.le_refl 0, Nat.le_refl 0, rfl, rfl⟩
theorem sm_int {i : Int} (h : i.natAbs ≤ 1000) : Sm (.int i) 0 20 := by
  have hl : i.natAbs.log2 ≤ 10 := by
    by_cases z : i.natAbs = 0
    · rw [z]; decide
    · have : i.natAbs.log2 < 11 := (Nat.log2_lt z).mpr (by omega)
      omega
  refine ⟨rfl, Nat.le_refl 0, ?_, ?_, ?_⟩
  · unfold PyData.weight
    split
    · omega
    · omega
  · exact intsShort_of_noneOrIn (lo := -2000) (hi := 2000) (by decide) (by decide) (.int i) (by simp [noneOrIn]; omega)
  · unfold PyData.showable
    rw [decide_eq_true_eq]
    omega
theorem sm_str {z : Str} (g : Good z) (h : z.length ≤ 6) : Sm (.str z) 0 6 := by
  refine ⟨?_, Nat.le_refl 0, h, rfl, rfl⟩
  unfold PyData.canLay0
  unfold PyData.strOk
  rw [Array.all_eq_true_iff_forall_mem]
  intro c hc
  exact decide_eq_true (g c (Array.mem_toList_iff.mpr hc))
theorem sm_all {k m : Nat} : ∀ {ds : List PyData}, (∀ d ∈ ds, Sm d k m) → PyData.canLayAll0 ds = true ∧ PyData.depthAll ds ≤ k ∧ PyData.weightAll ds ≤ ds.length * (m + 1) ∧ PyData.intsShortAll 13 ds = true ∧ PyData.showableAll ds = true
  | [], _ => ⟨rfl, Nat.zero_le _, Nat.zero_le _, rfl, rfl⟩
  | d :: r, h => by
    obtain ⟨a1, a2, a3, a4, a5⟩ := sm_all (ds := r) fun x hx => h x (List.mem_cons_of_mem _ hx)
    have b := h d List.mem_cons_self
    refine ⟨?_, ?_, ?_, ?_, ?_⟩
    · unfold PyData.canLayAll0; rw [b.lay, a1]; rfl
    · unfold PyData.depthAll; exact Nat.max_le.mpr ⟨b.dep, a2⟩
    · unfold PyData.weightAll
      have := b.wt
      rw [List.length_cons, Nat.succ_mul]
      omega
    · unfold PyData.intsShortAll; rw [b.ish, a4]; rfl
    · unfold PyData.showableAll; rw [b.sh, a5]; rfl
theorem sm_list {k m : Nat} {ds : List PyData} (h : ∀ d ∈ ds, Sm d k m) : Sm (.list ds) (k + 1) (ds.length * (m + 1)) := by
  obtain ⟨a1, a2, a3, a4, a5⟩ := sm_all h
  exact ⟨by unfold PyData.canLay0; exact a1, by unfold PyData.depth; omega, by unfold PyData.weight; exact a3, by unfold PyData.intsShort; exact a4, by unfold PyData.showable; exact a5⟩
theorem sm_tuple {k m : Nat} {ds : List PyData} (h : ∀ d ∈ ds, Sm d k m) : Sm (.tuple ds) (k + 1) (ds.length * (m + 1)) := by
  obtain ⟨a1, a2, a3, a4, a5⟩ := sm_all h
  exact ⟨by unfold PyData.canLay0; exact a1, by unfold PyData.depth; omega, by unfold PyData.weight; exact a3, by unfold PyData.intsShort; exact a4, by unfold PyData.showable; exact a5⟩
theorem sm_dP {p : Str × Int} (g : Good p.1) (h : p.1.length ≤ 6) (hr : p.2.natAbs ≤ 1000) : Sm (dP p) 1 42 :=
  sm_tuple (k := 0) (m := 20) (ds := [.str p.1, .int p.2]) fun d hd => by
    simp only [List.mem_cons, List.not_mem_nil, or_false] at hd
    rcases hd with rfl | rfl
    · exact (sm_str g h).mono (Nat.le_refl 0) (by decide)
    · exact sm_int hr
theorem sm_names {a b : Str} (ha : NameOk a) (hb : NameOk b) : Sm (.tuple [.str a, .str b]) 1 14 :=
  sm_tuple (k := 0) (m := 6) (ds := [.str a, .str b]) fun d hd => by
    simp only [List.mem_cons, List.not_mem_nil, or_false] at hd
    rcases hd with rfl | rfl
    · exact sm_str ha.good ha.2.1
    · exact sm_str hb.good hb.2.1
end My

set_option maxRecDepth 100000
set_option maxHeartbeats 400000
/-! data with longer texts and numbers: what repr asks of them -/
namespace My
open PySem PySem.Spec PyProof.Rows L2 GxR Gd TL
structure Sb (d : PyData) (k m : Nat) : Prop where
  lv : d.leavesShort 40 = true
  dep : d.depth ≤ k
  wt : d.weight ≤ m
  sh : d.showable = true
theorem Sb.rep {d : PyData} {k m : Nat} (h : Sb d k m) (hk : k ≤ 100) (hm : m ≤ 390000) : d.showable = true ∧ d.depth ≤ 100 ∧ d.shown.length ≤ sizeLine := by
  refine ⟨h.sh, Nat.le_trans h.dep hk, ?_⟩
  have h1 := PyData.shown_le 40 (by decide) d h.lv
  have h2 := h.wt
  refine Nat.le_trans h1 (Nat.le_trans (m := 42 * 390000 + 40) (by omega) (by rw [sizeLine_eq]; decide))
theorem Sb.mono {d : PyData} {k m k' m' : Nat} (h : Sb d k m) (hk : k ≤ k') (hm : m ≤ m') : Sb d k' m' := ⟨h.lv, Nat.le_trans h.dep hk, Nat.le_trans h.wt hm, h.sh⟩
theorem sb_none : Sb .none 0 0 := ⟨rfl, Nat.le_refl 0, Nat.le_refl 0, rfl⟩
theorem sb_bool (b : Bool) : Sb (.bool b) 0 0 := ⟨rfl, Nat.le_refl 0, Nat.le_refl 0, rfl⟩
theorem text_int {i : Int} (h : i.natAbs < 10 ^ 31) : (Str.ofString (toString i)).length ≤ 32 := by
  have e := int_text_length_le10 (k := 31) (by decide) h
  rw [PySem.ofString_length]
  exact e
theorem sb_int {i : Int} (h : i.natAbs < 10 ^ 31) : Sb (.int i) 0 110 := by
  have hl : i.natAbs.log2 ≤ 109 := by
    by_cases z : i.natAbs = 0
    · rw [z]; decide
    · have : i.natAbs.log2 < 110 := (Nat.log2_lt z).mpr (Nat.lt_of_lt_of_le h (by decide))
      omega
  refine ⟨?_, Nat.le_refl 0, ?_, ?_⟩
  · unfold PyData.leavesShort
    rw [decide_eq_true_eq]
    exact Nat.le_trans (text_int h) (by decide)
  · unfold PyData.weight
    split <;> omega
  · unfold PyData.showable
    rw [decide_eq_true_eq]
    omega
theorem sb_str {z : Str} {m : Nat} (g : Good z) (h : z.length ≤ m) : Sb (.str z) 0 m := by
  refine ⟨?_, Nat.le_refl 0, h, rfl⟩
  unfold PyData.leavesShort
  rw [List.all_eq_true]
  intro c hc
  have := g c hc
  rw [decide_eq_true_eq]
  exact Nat.lt_trans this (by decide)
theorem sb_all {k m : Nat} : ∀ {ds : List PyData}, (∀ d ∈ ds, Sb d k m) → PyData.leavesShortAll 40 ds = true ∧ PyData.depthAll ds ≤ k ∧ PyData.weightAll ds ≤ ds.length * (m + 1) ∧ PyData.showableAll ds = true
  | [], _ => ⟨rfl, Nat.zero_le _, Nat.zero_le _, rfl⟩
  | d :: r, h => by
    obtain ⟨a1, a2, a3, a4⟩ := sb_all (ds := r) fun x hx => h x (List.mem_cons_of_mem _ hx)
    have b := h d List.mem_cons_self
    refine ⟨?_, ?_, ?_, ?_⟩
    · unfold PyData.leavesShortAll; rw [b.lv, a1]; rfl
    · unfold PyData.depthAll; exact Nat.max_le.mpr ⟨b.dep, a2⟩
    · unfold PyData.weightAll
      have := b.wt
      rw [List.length_cons, Nat.succ_mul]
      omega
    · unfold PyData.showableAll; rw [b.sh, a4]; rfl
theorem sb_list {k m : Nat} {ds : List PyData} (h : ∀ d ∈ ds, Sb d k m) : Sb (.list ds) (k + 1) (ds.length * (m + 1)) := by
  obtain ⟨a1, a2, a3, a4⟩ := sb_all h
  exact ⟨by unfold PyData.leavesShort; exact a1, by unfold PyData.depth; omega, by unfold PyData.weight; exact a3, by unfold PyData.showable; exact a4⟩
theorem sb_tuple {k m : Nat} {ds : List PyData} (h : ∀ d ∈ ds, Sb d k m) : Sb (.tuple ds) (k + 1) (ds.length * (m + 1)) := by
  obtain ⟨a1, a2, a3, a4⟩ := sb_all h
  exact ⟨by unfold PyData.leavesShort; exact a1, by unfold PyData.depth; omega, by unfold PyData.weight; exact a3, by unfold PyData.showable; exact a4⟩
theorem good_int (i : Int) : Good (Str.ofString (toString i)) := good_of _
end My

set_option maxRecDepth 100000
set_option maxHeartbeats 400000
namespace K22
open PySem PySem.Spec PyProof.Rows L2 GxR Gd TL My
/-- a method of the class -/
structure Me (K : PySem.W.Frag) (C : Addr) (m qual : Str) (st : Stmt) (ps : List Str) (f : Addr) (fd : FuncData) : Prop where
  fn : Fun K m qual st f fd
  m : Meth K C m f
  b : Binds K fd ps []
/-! ### the refusals -/
abbrev sSE : Stmt := inClass (top 1) 0
theorem scSE : FnScope ["self", "text"] ["self", "text"] (defScope sSE) := ⟨rfl, rfl, rfl, by decide +kernel, rfl, by decide +kernel, by decide +kernel⟩
abbrev sNoNumber : Stmt := inClass (top 2) 0
theorem scNoNumber : FnScope ["self", "found"] ["self", "found"] (defScope sNoNumber) := ⟨rfl, rfl, rfl, by decide +kernel, rfl, by decide +kernel, by decide +kernel⟩
abbrev sNoRight : Stmt := inClass (top 3) 0
theorem scNoRight : FnScope ["self", "found"] ["self", "found"] (defScope sNoRight) := ⟨rfl, rfl, rfl, by decide +kernel, rfl, by decide +kernel, by decide +kernel⟩
section
variable {P : Program} {w : World} {K : PySem.W.Frag} {mg : Str → Option Value} {base : Heap} {CS fS C fN : Addr} {fdS fdN : FuncData}
theorem ok_SE (T : SeT K mg CS fS fdS sSE) {CX : CXT} : FnOk P w K mg base CX0 1 fS fdS ["self", "text"] (spUp K) := by
  refine T.F.ok scSE (fun vs H Q E h => ?_) (fun cdv A outer s H vs Q E hr h => ?_)
  · obtain ⟨a, C, z, rfl, _⟩ := h
    rfl
  · obtain ⟨a, C, z, rfl, o, e, k⟩ := h
    refine ⟨_, pss_one (ps_expr (pe_veinit (by rfl) T.ve T.vi (pa_cons (pv 0) (pa_cons (pv 1) pa_nil)))), ?_⟩
    exact ⟨_, rfl, _, rfl, a, C, _, rfl, by simp, o, e, k⟩
theorem ok_NoNumber (S : SeT K mg CS fS fdS sSE) (T : ExC K mg "NoNumber" "NoNumber.__init__" sNoNumber C fN fdN) : FnOk P w K mg base CX0 2 fN fdN ["self", "found"] (spOne K C "found") := by
  refine T.F.ok scNoNumber (fun vs H Q E h => ?_) (fun cdv A outer s H vs Q E hr h => ?_)
  · obtain ⟨a, v, rfl, _⟩ := h
    rfl
  · obtain ⟨a, v, rfl, e, k⟩ := h
    refine ⟨_, pss_cons (ps_expr (pe_ccall S.c (ok_SE (CX := CX0) S) hr (by rfl) S.g S.k S.b .nil pass0 (pa_cons (pv 0) (pa_cons pe_str pa_nil))))
      (pss_one (ps_ost (pv 0) (pv 1))), ?_⟩
    refine ⟨_, rfl, a, C, _, rfl, T.o, e, ?_⟩
    exact ⟨_, rfl, _, rfl, a, C, rfl, T.o, T.n, .inl ⟨e, fun dx h1 h2 => k dx h1 h2⟩⟩
theorem ok_NoRight (S : SeT K mg CS fS fdS sSE) (T : ExC K mg "NoRight" "NoRight.__init__" sNoRight C fN fdN) : FnOk P w K mg base CX0 2 fN fdN ["self", "found"] (spOne K C "found") := by
  refine T.F.ok scNoRight (fun vs H Q E h => ?_) (fun cdv A outer s H vs Q E hr h => ?_)
  · obtain ⟨a, v, rfl, _⟩ := h
    rfl
  · obtain ⟨a, v, rfl, e, k⟩ := h
    refine ⟨_, pss_cons (ps_expr (pe_ccall S.c (ok_SE (CX := CX0) S) hr (by rfl) S.g S.k S.b .nil pass0 (pa_cons (pv 0) (pa_cons pe_str pa_nil))))
      (pss_one (ps_ost (pv 0) (pv 1))), ?_⟩
    refine ⟨_, rfl, a, C, _, rfl, T.o, e, ?_⟩
    exact ⟨_, rfl, _, rfl, a, C, rfl, T.o, T.n, .inl ⟨e, fun dx h1 h2 => k dx h1 h2⟩⟩
end
/-! ### a holder -/
theorem rn_ : ¬ (("_right" : Str) = "_noted") := by decide +kernel
theorem rs_ : ¬ (("_right" : Str) = "_seen") := by decide +kernel
theorem ns_ : ¬ (("_noted" : Str) = "_seen") := by decide +kernel
theorem nr_ : ¬ (("_noted" : Str) = "_right") := by decide +kernel
theorem sr_ : ¬ (("_seen" : Str) = "_right") := by decide +kernel
theorem sn_ : ¬ (("_seen" : Str) = "_noted") := by decide +kernel
def hf (r n : V) (s : Int) : List (Str × V) := [("_right", r), ("_noted", n), ("_seen", .int s)]
theorem hf_right (r n : V) (s : Int) : (hf r n s).lookup ("_right" : Str) = some r := by
  unfold hf
  simp [List.lookup]
theorem hf_noted (r n : V) (s : Int) : (hf r n s).lookup ("_noted" : Str) = some n := by
  have : (("_noted" : Str) == "_right") = false := by decide +kernel
  unfold hf
  simp [List.lookup, this]
theorem hf_seen (r n : V) (s : Int) : (hf r n s).lookup ("_seen" : Str) = some (.int s) := by
  have h1 : (("_seen" : Str) == "_right") = false := by decide +kernel
  have h2 : (("_seen" : Str) == "_noted") = false := by decide +kernel
  unfold hf
  simp [List.lookup, h1, h2]
theorem hf_no (r n : V) (s : Int) {m : Str} (h1 : (m == "_right") = false) (h2 : (m == "_noted") = false) (h3 : (m == "_seen") = false) : (hf r n s).lookup m = none := by
  unfold hf
  simp [List.lookup, h1, h2, h3]
theorem hf_put_right (r n r' : V) (s : Int) : putF "_right" r' (hf r n s) = hf r' n s := by
  unfold hf
  simp [putF]
theorem hf_put_noted (r n n' : V) (s : Int) : putF "_noted" n' (hf r n s) = hf r n' s := by
  unfold hf
  simp [putF, rn_]
theorem hf_put_seen (r n : V) (s s' : Int) : putF "_seen" (.int s') (hf r n s) = hf r n s' := by
  unfold hf
  simp [putF, rs_, ns_]
theorem hf_len (r n : V) (s : Int) : (hf r n s).length < 1000 := by
  show 3 < 1000
  decide
structure HolT (K : PySem.W.Frag) (C : Addr) : Prop where
  cl : Cls K C
  nr : NoAttr K C "_right"
  nn : NoAttr K C "_noted"
  ns : NoAttr K C "_seen"
section
variable {P : Program} {w : World} {K : PySem.W.Frag} {mg : Str → Option Value} {base : Heap} {C CS fS CN fN CR fR : Addr} {fdS fdN fdR : FuncData}
/-- is_whole(v, lo, v) -/
def whg (lo : Int) : V → Bool
  | .int i => decide (lo ≤ i)
  | _ => false
def spWholeG : Sp := fun vs H Q _ => ∃ (v : V) (lo : Int), vs = [v, .int lo, v] ∧ Th H v ∧ Q (.bl (whg lo v)) H
theorem ok_wholeG {f : Addr} {fd : FuncData} (F : Fun K "is_whole" "is_whole" sWhole f fd) (T : Txt mg) : FnOk P w K mg base CX0 1 f fd ["thing", "low", "high"] spWholeG := by
  refine F.ok scWhole (fun vs H Q E h => ?_) (fun cdv A outer s H vs Q E hr h => ?_)
  · obtain ⟨v, lo, rfl, _⟩ := h
    rfl
  · obtain ⟨v, lo, rfl, th, k⟩ := h
    obtain ⟨t, ty, cs⟩ := th.ty (K := K)
    refine ⟨_, pss_cons (ps_if (PW.pt (pw_or (pt_not (pt_val (pe_callB call_isi (by rfl) T.isinstance_ (by decide +kernel) (pa_cons (pv 0) (pa_cons (pe_bltn (v := .ty "int") (by rfl) T.int_ (by decide +kernel) rfl) pa_nil))))) (pw_or1 (pt_val (pe_callB call_isi (by rfl) T.isinstance_ (by decide +kernel) (pa_cons (pv 0) (pa_cons (pe_bltn (v := .ty "bool") (by rfl) T.bool_ (by decide +kernel) rfl) pa_nil))))))) (pss_one (ps_ret pe_bl)) pss_nil)
      (pss_one (ps_ret (pe_chain op_le op_le (pv 1) (pv 0) (pv 2)))), ?_⟩
    rcases cs with ⟨i, rfl, rfl⟩ | ⟨b, rfl, rfl⟩ | ⟨z, rfl, _, rfl⟩ | ⟨n1, n2, n3, ht⟩
    · refine ⟨_, rfl, _, _, _, _, true, rfl, .ty "int", ty, (by rfl), _, rfl, iteF ?_⟩
      refine ⟨_, rfl, _, _, _, _, false, rfl, .ty "bool", ty, (by rfl), _, rfl, iteF ?_⟩
      refine ⟨_, rfl, _, rfl, _, _, rfl, rfl, _, rfl, ?_⟩
      refine ite2 (fun c => ?_) (fun c => ?_)
      · refine ⟨_, rfl, _, _, rfl, rfl, ?_⟩
        show Q (.bl (decide (i ≤ i))) H
        rw [decide_eq_true (Int.le_refl i)]
        rw [show whg lo (.int i) = true from c] at k
        exact k
      · rw [show whg lo (.int i) = false by simpa [whg] using c] at k
        exact k
    · refine ⟨_, rfl, _, _, _, _, true, rfl, .ty "int", ty, (by rfl), _, rfl, iteF ?_⟩
      exact ⟨_, rfl, _, _, _, _, true, rfl, .ty "bool", ty, (by rfl), _, rfl, iteT k⟩
    · exact ⟨_, rfl, _, _, _, _, false, rfl, .ty "int", ty, (by rfl), _, rfl, iteT (iteT k)⟩
    · have e : whg lo v = false := by
        cases v with
        | int i => exact absurd rfl (n1 i)
        | _ => rfl
      rw [e] at k
      rcases ht with rfl | rfl | rfl | rfl <;> exact ⟨_, rfl, _, _, _, _, false, rfl, .ty "int", ty, (by rfl), _, rfl, iteT (iteT k)⟩
abbrev s_init : Stmt := inClass (top 7) 0
theorem sc_init : FnScope ["self"] ["self"] (defScope s_init) := ⟨rfl, rfl, rfl, by decide +kernel, rfl, by decide +kernel, by decide +kernel⟩
def spInit (C : Addr) : Sp := fun vs H Q _ => ∃ c dx, vs = [.ref c] ∧ H c = some (.ins C dx []) ∧ ∀ H', (∀ x, x ≠ c → H' x = H x) → H' c = some (.ins C dx (hf .non .non 0)) → Q .non H'
theorem ok_init {f : Addr} {fd : FuncData} (F : Fun K "__init__" "Holder.__init__" s_init f fd) (TC : HolT K C) : FnOk P w K mg base CX0 1 f fd ["self"] (spInit C) := by
  refine F.ok sc_init (fun vs H Q E h => ?_) (fun cdv A outer s H vs Q E hr h => ?_)
  · obtain ⟨c, dx, rfl, _⟩ := h
    rfl
  · obtain ⟨c, dx, rfl, e, k⟩ := h
    refine ⟨_, pss_cons (ps_fld (pv 0) pe_non rfl)
      (pss_cons (ps_fld (pv 0) pe_non rfl)
      (pss_one (ps_fld (pv 0) pe_int rfl))), ?_⟩
    refine ⟨_, rfl, c, C, dx, _, rfl, e, TC.cl, TC.nr, (by decide), ?_⟩
    refine ⟨_, rfl, c, C, dx, _, rfl, upd_same, TC.cl, TC.nn, (by show 1 < 1000; decide), ?_⟩
    refine ⟨_, rfl, c, C, dx, _, rfl, upd_same, TC.cl, TC.ns, (by simp [putF, rn_]), ?_⟩
    refine k _ (fun x nx => by rw [upd_ne nx, upd_ne nx, upd_ne nx]) ?_
    rw [upd_same]
    simp [putF, hf, rn_, rs_, ns_]
abbrev s_got : Stmt := inClass (top 7) 1
theorem sc_got : FnScope ["self", "number", "place"] ["self", "number", "place"] (defScope s_got) := ⟨rfl, rfl, rfl, by decide +kernel, rfl, by decide +kernel, by decide +kernel⟩
def spGot (C CN : Addr) : Sp := fun vs H Q E => ∃ c dx r n s v z, vs = [.ref c, v, z] ∧ H c = some (.ins C dx (hf r n s)) ∧ Th H v ∧
  (∀ i, v = .int i → 1 ≤ i → i ≤ s → Q (.bl false) H) ∧
  (∀ i, v = .int i → 1 ≤ i → s < i → ∀ u, H u = none → Q (.bl true) (upd (upd (upd H c (.ins C dx (hf r n i))) u (.tup [.int i, z])) c (.ins C dx (hf (.ref u) n i)))) ∧
  (whg 1 v = false → ∀ d, H d = none → E (.ref CN) (some d) (upd H d (.xd [("found", v)])))
theorem ok_got {f fW : Addr} {fd fdW : FuncData} (F : Fun K "got" "Holder.got" s_got f fd) (T : Txt mg) (TC : HolT K C) (ES : SeT K mg CS fS fdS sSE) (ENoNumber : ExC K mg "NoNumber" "NoNumber.__init__" sNoNumber CN fN fdN)
    (Nis_whole : Fn K mg "is_whole" sWhole ["thing", "low", "high"] fW fdW) (Gis_whole : FnOk P w K mg base CX0 1 fW fdW ["thing", "low", "high"] spWholeG) :
    FnOk P w K mg base (CX P w) 4 f fd ["self", "number", "place"] (spGot C CN) := by
  refine F.okX sc_got (fun vs H Q E h => ?_) (fun cdv A outer s H vs Q E hr h => ?_)
  · obtain ⟨c, dx, r, n, s, v, z, rfl, _⟩ := h
    rfl
  · obtain ⟨c, dx, r, n, s, v, z, rfl, e, th, k1, k2, k3⟩ := h
    refine ⟨_, pss_cons (ps_if (pt_not (pt_val (pe_call Gis_whole (hr.mono (by decide)) (by rfl) Nis_whole.g Nis_whole.kp Nis_whole.b .nil pass0 (pa_cons (pv 1) (pa_cons pe_int (pa_cons (pv 1) pa_nil)))))) (pss_one (ps_raise rfl (takes_of rfl rfl rfl rfl) (pmk_oex ENoNumber.o ENoNumber.i ENoNumber.t (ok_NoNumber ES ENoNumber) (hr.mono (by decide)) ENoNumber.b .nil pass0 (by rfl) ENoNumber.g (pa_cons (pv 1) pa_nil)))) pss_nil)
      (pss_cons (ps_if (pt_cmpR op_le (pv 1) (pe_fld (pv 0) rfl) (nomark _)) (pss_one (ps_ret pe_bl)) pss_nil)
      (pss_cons (ps_fld (pv 0) (pv 1) rfl)
      (pss_cons (ps_fld (pv 0) (pe_tup (pa_cons (pv 1) (pa_cons (pv 2) pa_nil))) rfl)
      (pss_one (ps_ret pe_bl))))), ?_⟩
    refine ⟨_, rfl, _, rfl, v, 1, rfl, th, ?_⟩
    cases hw : whg 1 v with
    | false => exact ⟨_, rfl, iteT ⟨_, rfl, made_one (k3 hw)⟩⟩
    | true =>
      obtain ⟨i, rfl⟩ : ∃ i, v = .int i := by
        cases v with
        | int i => exact ⟨i, rfl⟩
        | _ => cases hw
      have h1 : 1 ≤ i := by simpa [whg] using hw
      refine ⟨_, rfl, iteF ?_⟩
      refine ⟨_, rfl, _, rfl, c, C, dx, _, _, rfl, e, TC.cl, TC.ns, hf_seen r n s, _, _, rfl, rfl, _, rfl, ite2 (fun q => k1 i rfl h1 (of_decide_eq_true q)) (fun q => ?_)⟩
      have h2 : s < i := by
        have : ¬ i ≤ s := fun z => q (decide_eq_true z)
        omega
      refine ⟨_, rfl, _, rfl, c, C, dx, _, rfl, e, TC.cl, TC.ns, hf_len _ _ _, ?_⟩
      rw [hf_put_seen]
      refine ⟨_, rfl, _, rfl, (by show 2 ≤ sizeLine; decide), fun u nu => ?_⟩
      have ncu : c ≠ u := ne_of_none upd_same nu
      refine ⟨_, rfl, c, C, dx, _, rfl, (by rw [upd_ne ncu, upd_same]), TC.cl, TC.nr, hf_len _ _ _, ?_⟩
      rw [hf_put_right]
      exact k2 i rfl h1 h2 u (by rw [upd_ne ncu.symm] at nu; exact nu)
abbrev s_right : Stmt := inClass (top 7) 2
theorem sc_right : FnScope ["self"] ["self"] (defScope s_right) := ⟨rfl, rfl, rfl, by decide +kernel, rfl, by decide +kernel, by decide +kernel⟩
def spRight (C : Addr) : Sp := fun vs H Q _ => ∃ c dx r n s, vs = [.ref c] ∧ H c = some (.ins C dx (hf r n s)) ∧ Q r H
theorem ok_right {f : Addr} {fd : FuncData} (F : Fun K "right" "Holder.right" s_right f fd) (TC : HolT K C) : FnOk P w K mg base CX0 1 f fd ["self"] (spRight C) := by
  refine F.ok sc_right (fun vs H Q E h => ?_) (fun cdv A outer s H vs Q E hr h => ?_)
  · obtain ⟨c, dx, r, n, s, rfl, _⟩ := h
    rfl
  · obtain ⟨c, dx, r, n, s, rfl, e, k⟩ := h
    refine ⟨_, pss_one (ps_ret (pe_fld (pv 0) rfl)), ?_⟩
    exact ⟨_, rfl, c, C, dx, _, _, rfl, e, TC.cl, TC.nr, hf_right r n s, k⟩
abbrev s_noted : Stmt := inClass (top 7) 6
theorem sc_noted : FnScope ["self"] ["self"] (defScope s_noted) := ⟨rfl, rfl, rfl, by decide +kernel, rfl, by decide +kernel, by decide +kernel⟩
def spNoted (C : Addr) : Sp := fun vs H Q _ => ∃ c dx r n s, vs = [.ref c] ∧ H c = some (.ins C dx (hf r n s)) ∧ Q n H
theorem ok_noted {f : Addr} {fd : FuncData} (F : Fun K "noted" "Holder.noted" s_noted f fd) (TC : HolT K C) : FnOk P w K mg base CX0 1 f fd ["self"] (spNoted C) := by
  refine F.ok sc_noted (fun vs H Q E h => ?_) (fun cdv A outer s H vs Q E hr h => ?_)
  · obtain ⟨c, dx, r, n, s, rfl, _⟩ := h
    rfl
  · obtain ⟨c, dx, r, n, s, rfl, e, k⟩ := h
    refine ⟨_, pss_one (ps_ret (pe_fld (pv 0) rfl)), ?_⟩
    exact ⟨_, rfl, c, C, dx, _, _, rfl, e, TC.cl, TC.nn, hf_noted r n s, k⟩
abbrev s_seen : Stmt := inClass (top 7) 7
theorem sc_seen : FnScope ["self"] ["self"] (defScope s_seen) := ⟨rfl, rfl, rfl, by decide +kernel, rfl, by decide +kernel, by decide +kernel⟩
def spSeen (C : Addr) : Sp := fun vs H Q _ => ∃ c dx r n s, vs = [.ref c] ∧ H c = some (.ins C dx (hf r n s)) ∧ Q (.int s) H
theorem ok_seen {f : Addr} {fd : FuncData} (F : Fun K "seen" "Holder.seen" s_seen f fd) (TC : HolT K C) : FnOk P w K mg base CX0 1 f fd ["self"] (spSeen C) := by
  refine F.ok sc_seen (fun vs H Q E h => ?_) (fun cdv A outer s H vs Q E hr h => ?_)
  · obtain ⟨c, dx, r, n, s, rfl, _⟩ := h
    rfl
  · obtain ⟨c, dx, r, n, s, rfl, e, k⟩ := h
    refine ⟨_, pss_one (ps_ret (pe_fld (pv 0) rfl)), ?_⟩
    exact ⟨_, rfl, c, C, dx, _, _, rfl, e, TC.cl, TC.ns, hf_seen r n s, k⟩
abbrev s_use : Stmt := inClass (top 7) 3
theorem sc_use : FnScope ["self", "right"] ["self"] (defScope s_use) := ⟨rfl, rfl, rfl, by decide +kernel, rfl, by decide +kernel, by decide +kernel⟩
def spUse (C CR : Addr) : Sp := fun vs H Q E => ∃ c dx r n s, vs = [.ref c] ∧ H c = some (.ins C dx (hf r n s)) ∧ (r ≠ .non → Q r (upd H c (.ins C dx (hf .non n s)))) ∧
  (r = .non → ∀ d, H d = none → E (.ref CR) (some d) (upd H d (.xd [("found", .non)])))
theorem ok_use {f : Addr} {fd : FuncData} (F : Fun K "use" "Holder.use" s_use f fd) (TC : HolT K C) (ES : SeT K mg CS fS fdS sSE) (ENoRight : ExC K mg "NoRight" "NoRight.__init__" sNoRight CR fR fdR) :
    FnOk P w K mg base (CX P w) 4 f fd ["self"] (spUse C CR) := by
  refine F.okX sc_use (fun vs H Q E h => ?_) (fun cdv A outer s H vs Q E hr h => ?_)
  · obtain ⟨c, dx, r, n, s, rfl, _⟩ := h
    rfl
  · obtain ⟨c, dx, r, n, s, rfl, e, k1, k2⟩ := h
    refine ⟨_, pss_cons (ps_if (pt_cmpR op_isN (pe_fld (pv 0) rfl) pe_non (nomark _)) (pss_one (ps_raise rfl (takes_of rfl rfl rfl rfl) (pmk_oex ENoRight.o ENoRight.i ENoRight.t (ok_NoRight ES ENoRight) (hr.mono (by decide)) ENoRight.b .nil pass0 (by rfl) ENoRight.g (pa_cons pe_non pa_nil)))) pss_nil)
      (pss_cons (ps_set (i := 1) sc_use.nd rfl (Or.inl rfl) (pe_fld (pv 0) rfl))
      (pss_cons (ps_fld (pv 0) pe_non rfl)
      (pss_one (ps_ret (pv 1))))), ?_⟩
    refine ⟨_, rfl, c, C, dx, _, _, rfl, e, TC.cl, TC.nr, hf_right r n s, rfl, _, rfl, ite2 (fun q => ?_) (fun q => ?_)⟩
    · exact made_one (k2 (of_decide_eq_true q))
    · have h2 : r ≠ .non := fun z => q (decide_eq_true z)
      refine ⟨_, rfl, c, C, dx, _, _, rfl, e, TC.cl, TC.nr, hf_right r n s, _, rfl, c, C, dx, _, rfl, e, TC.cl, TC.nr, hf_len _ _ _, ?_⟩
      rw [hf_put_right]
      exact ⟨_, rfl, k1 h2⟩
abbrev s_give : Stmt := inClass (top 7) 4
theorem sc_give : FnScope ["self"] ["self"] (defScope s_give) := ⟨rfl, rfl, rfl, by decide +kernel, rfl, by decide +kernel, by decide +kernel⟩
def spGive (C CR : Addr) : Sp := fun vs H Q E => ∃ c dx r n s, vs = [.ref c] ∧ H c = some (.ins C dx (hf r n s)) ∧ (r ≠ .non → Q r (upd (upd H c (.ins C dx (hf .non n s))) c (.ins C dx (hf .non r s)))) ∧
  (r = .non → ∀ d, H d = none → E (.ref CR) (some d) (upd H d (.xd [("found", .non)])))
theorem ok_give {f fU : Addr} {fd fdU : FuncData} (F : Fun K "give" "Holder.give" s_give f fd) (TC : HolT K C)
    (Muse : Me K C "use" "Holder.use" s_use ["self"] fU fdU) (Guse : FnOk P w K mg base (CX P w) 4 fU fdU ["self"] (spUse C CR)) : FnOk P w K mg base (CX P w) 5 f fd ["self"] (spGive C CR) := by
  refine F.okX sc_give (fun vs H Q E h => ?_) (fun cdv A outer s H vs Q E hr h => ?_)
  · obtain ⟨c, dx, r, n, s, rfl, _⟩ := h
    rfl
  · obtain ⟨c, dx, r, n, s, rfl, e, k1, k2⟩ := h
    refine ⟨_, pss_cons (ps_fld (pv 0) (pe_meth0 (pv 0) TC.cl Muse.m Guse (hr.mono (by decide)) Muse.b .nil (passes_call (takes_of rfl rfl rfl rfl) (fun _ _ _ _ h => h))) rfl)
      (pss_one (ps_ret (pe_fld (pv 0) rfl))), ?_⟩
    refine ⟨_, rfl, c, dx, _, rfl, e, hf_no _ _ _ (by decide +kernel) (by decide +kernel) (by decide +kernel), c, dx, r, n, s, rfl, e, fun h => ?_, fun h d nd => k2 h d nd⟩
    refine ⟨_, rfl, c, C, dx, _, rfl, upd_same, TC.cl, TC.nn, hf_len _ _ _, ?_⟩
    rw [hf_put_noted]
    exact ⟨_, rfl, c, C, dx, _, _, rfl, upd_same, TC.cl, TC.nn, hf_noted _ _ _, k1 h⟩
abbrev s_note : Stmt := inClass (top 7) 5
theorem sc_note : FnScope ["self", "number", "place"] ["self", "number", "place"] (defScope s_note) := ⟨rfl, rfl, rfl, by decide +kernel, rfl, by decide +kernel, by decide +kernel⟩
def spNote (C : Addr) : Sp := fun vs H Q _ => ∃ c dx r n s i z, vs = [.ref c, .int i, z] ∧ H c = some (.ins C dx (hf r n s)) ∧ ∀ u, H u = none → Q .non (upd (upd H u (.tup [.int i, z])) c (.ins C dx (hf r (.ref u) s)))
theorem ok_note {f : Addr} {fd : FuncData} (F : Fun K "note" "Holder.note" s_note f fd) (TC : HolT K C) : FnOk P w K mg base (CX P w) 1 f fd ["self", "number", "place"] (spNote C) := by
  refine F.okX sc_note (fun vs H Q E h => ?_) (fun cdv A outer s H vs Q E hr h => ?_)
  · obtain ⟨c, dx, r, n, s, i, z, rfl, _⟩ := h
    rfl
  · obtain ⟨c, dx, r, n, s, i, z, rfl, e, k⟩ := h
    refine ⟨_, pss_one (ps_fld (pv 0) (pe_tup (pa_cons (pv 1) (pa_cons (pv 2) pa_nil))) rfl), ?_⟩
    refine ⟨_, rfl, _, rfl, (by show 2 ≤ sizeLine; decide), fun u nu => ?_⟩
    have ncu : c ≠ u := ne_of_none e nu
    refine ⟨_, rfl, c, C, dx, _, rfl, (by rw [upd_ne ncu]; exact e), TC.cl, TC.nn, hf_len _ _ _, ?_⟩
    rw [hf_put_noted]
    exact k u nu
abbrev s_twin : Stmt := inClass (top 7) 8
theorem sc_twin : FnScope ["self", "other"] ["self"] (defScope s_twin) := ⟨rfl, rfl, rfl, by decide +kernel, rfl, by decide +kernel, by decide +kernel⟩
def spTwin (C : Addr) : Sp := fun vs H Q _ => ∃ c dx r n s, vs = [.ref c] ∧ H c = some (.ins C dx (hf r n s)) ∧ ∀ x dy H', H x = none → Same H H' → H' x = some (.ins C dy (hf r n s)) → Q (.ref x) H'
theorem ok_twin {f fI : Addr} {fd fdI : FuncData} (F : Fun K "twin" "Holder.twin" s_twin f fd) (TC : HolT K C) (gHolder : mg "Holder" = some (.ref C)) (MHolder : Mk K C fI)
    (GHolder : FnOk P w K mg base CX0 1 fI fdI ["self"] (spInit C)) (bHolder : Binds K fdI ["self"] []) : FnOk P w K mg base CX0 3 f fd ["self"] (spTwin C) := by
  refine F.ok sc_twin (fun vs H Q E h => ?_) (fun cdv A outer s H vs Q E hr h => ?_)
  · obtain ⟨c, dx, r, n, s, rfl, _⟩ := h
    rfl
  · obtain ⟨c, dx, r, n, s, rfl, e, k⟩ := h
    refine ⟨_, pss_cons (ps_set (i := 1) sc_twin.nd rfl (Or.inl rfl) (pe_make0 MHolder GHolder (hr.mono (by decide)) (by rfl) gHolder bHolder .nil pass0))
      (pss_cons (ps_fld (pv 1) (pe_fld (pv 0) rfl) rfl)
      (pss_cons (ps_fld (pv 1) (pe_fld (pv 0) rfl) rfl)
      (pss_cons (ps_fld (pv 1) (pe_fld (pv 0) rfl) rfl)
      (pss_one (ps_ret (pv 1)))))), ?_⟩
    intro x dy nx ny ne
    refine ⟨x, dy, rfl, upd_same, fun H2 off2 e2 => ⟨rfl, ?_⟩⟩
    have up : Same H H2 := fun z o h => by
      have z1 := ne_of_none h nx
      rw [off2 z z1, upd_ne z1, upd_ne (ne_of_none h ny)]
      exact h
    have ncx : c ≠ x := ne_of_none e nx
    have e1 := up _ _ e
    refine ⟨_, rfl, c, C, dx, _, _, rfl, e1, TC.cl, TC.nr, hf_right r n s, _, rfl, x, C, dy, _, rfl, e2, TC.cl, TC.nr, hf_len _ _ _, ?_⟩
    rw [hf_put_right]
    refine ⟨_, rfl, c, C, dx, _, _, rfl, (by rw [upd_ne ncx]; exact e1), TC.cl, TC.nn, hf_noted r n s, _, rfl, x, C, dy, _, rfl, upd_same, TC.cl, TC.nn, hf_len _ _ _, ?_⟩
    rw [hf_put_noted]
    refine ⟨_, rfl, c, C, dx, _, _, rfl, (by rw [upd_ne ncx, upd_ne ncx]; exact e1), TC.cl, TC.ns, hf_seen r n s, _, rfl, x, C, dy, _, rfl, upd_same, TC.cl, TC.ns, hf_len _ _ _, ?_⟩
    rw [hf_put_seen]
    refine ⟨_, rfl, k x dy _ nx (fun b o h => ?_) upd_same⟩
    have n1 := ne_of_none h nx
    rw [upd_ne n1, upd_ne n1, upd_ne n1]
    exact up _ _ h
end
end K22

set_option maxRecDepth 100000
set_option maxHeartbeats 4000000
/-! the names that a law draws: three ways, all good, all apart -/
namespace My
open PySem PySem.Spec PyProof.Rows L2 GxR Gd TL
theorem tl_inj {a b : Str} (h : tl a = tl b) : a = b := by
  obtain ⟨⟨x⟩⟩ := a
  obtain ⟨⟨y⟩⟩ := b
  have e : x = y := h
  rw [e]
theorem name_of {z : Str} (h1 : 1 ≤ (tl z).length) (h2 : (tl z).length ≤ 6) (h3 : ∀ c ∈ tl z, lc c = true) : NameOk z := by
  rw [tl_len] at h1 h2
  exact ⟨h1, h2, List.all_eq_true.mpr h3⟩
theorem tl_to {z : Str} {j : Nat} (h : j ≤ (tl z).length) : tl (cutS z none (some (j : Int))) = (tl z).take j := by
  show (((tl z).drop (HT.sIx z.length 0 none)).take (HT.sIx z.length z.length (some (j : Int)) - HT.sIx z.length 0 none)) = _
  rw [HT.sIx_none, HT.sIx_nat, ← tl_len, Nat.min_eq_left h]
  simp
theorem tl_cut {z : Str} {a b : Nat} (h : b ≤ (tl z).length) (ha : a ≤ b) : tl (cutS z (some (a : Int)) (some (b : Int))) = ((tl z).drop a).take (b - a) := by
  show (((tl z).drop (HT.sIx z.length 0 (some (a : Int)))).take (HT.sIx z.length z.length (some (b : Int)) - HT.sIx z.length 0 (some (a : Int)))) = _
  rw [HT.sIx_nat, HT.sIx_nat, ← tl_len, Nat.min_eq_left h, Nat.min_eq_left (Nat.le_trans ha h)]
theorem joinL_ones : ∀ cs : List Nat, joinL [] (cs.map fun c => [c]) = cs
  | [] => rfl
  | [c] => rfl
  | c :: d :: r => by
    have ih := joinL_ones (d :: r)
    show [c] ++ ([] ++ joinL [] ((d :: r).map fun c => [c])) = _
    rw [ih]
    rfl
theorem tl_ones (cs : List Nat) : tl (Txt.join (Str.ofString "") (cs.map fun c => ⟨#[c]⟩)) = cs := by
  rw [join_eq, tl_join, List.map_map]
  have e : tl (Str.ofString "") = [] := by decide +kernel
  rw [e]
  exact joinL_ones cs
/-- all good, all apart -/
structure Nms (ns : List Str) : Prop where
  ok : ∀ z ∈ ns, NameOk z
  nd : ns.Nodup
theorem nms_of {f : Nat → Str} {n : Nat} (ok : ∀ k, k < n → NameOk (f k)) (ap : ∀ j k, j < k → k < n → f j ≠ f k) : Nms ((List.range n).map f) := by
  refine ⟨fun z hz => ?_, ?_⟩
  · obtain ⟨k, hk, rfl⟩ := List.mem_map.mp hz
    exact ok k (List.mem_range.mp hk)
  · show ((List.range n).map f).Pairwise (· ≠ ·)
    rw [List.pairwise_map]
    have p : (List.range n).Pairwise (fun a b => a < b) := List.pairwise_lt_range
    refine List.Pairwise.imp_of_mem ?_ p
    intro a b ha hb hab
    exact ap a b hab (List.mem_range.mp hb)
/-! the first way -/
def wds : List Str := ["place", "staff", "ticket", "low", "high", "long", "pilot", "train", "at", "to", "in", "get", "a"]
theorem wds_ok : ∀ z ∈ wds, NameOk z := by
  intro z hz
  have h : (wds.all fun z => decide (1 ≤ (tl z).length) && decide ((tl z).length ≤ 6) && (tl z).all lc) = true := by decide +kernel
  have q := List.all_eq_true.mp h z hz
  rw [Bool.and_eq_true, Bool.and_eq_true, decide_eq_true_eq, decide_eq_true_eq] at q
  exact name_of q.1.1 q.1.2 (List.all_eq_true.mp q.2)
theorem wds_nd : wds.Nodup := by decide +kernel
def nm0 (a : Int) (k : Nat) : Str := (wds[((a + 5 * (k : Int)) % 13).toNat]?).getD ⟨#[]⟩
theorem nm0_at (a : Int) (k : Nat) : atI wds ((a + 5 * (k : Int)) % 13) = some (nm0 a k) := by
  have h0 := Int.emod_nonneg (a + 5 * (k : Int)) (by decide : (13 : Int) ≠ 0)
  have h1 := Int.emod_lt_of_pos (a + 5 * (k : Int)) (by decide : (0 : Int) < 13)
  have hl : wds.length = 13 := by decide +kernel
  generalize e : (a + 5 * (k : Int)) % 13 = m at h0 h1
  obtain ⟨j, rfl⟩ := Int.eq_ofNat_of_zero_le h0
  have hj : j < wds.length := by omega
  unfold nm0
  rw [e, Int.toNat_natCast, List.getElem?_eq_getElem hj]
  exact atI_nat (List.getElem?_eq_getElem hj)
theorem nm0_ok (a : Int) (n : Nat) (hn : n ≤ 7) : Nms ((List.range n).map (nm0 a)) := by
  have hl : wds.length = 13 := by decide +kernel
  have key : ∀ k : Nat, ∃ j : Nat, ((j : Nat) : Int) = (a + 5 * (k : Int)) % 13 ∧ ∃ h : j < wds.length, nm0 a k = wds[j] := fun k => by
    have h0 := Int.emod_nonneg (a + 5 * (k : Int)) (by decide : (13 : Int) ≠ 0)
    have h1 := Int.emod_lt_of_pos (a + 5 * (k : Int)) (by decide : (0 : Int) < 13)
    unfold nm0
    generalize (a + 5 * (k : Int)) % 13 = m at h0 h1
    obtain ⟨j, rfl⟩ := Int.eq_ofNat_of_zero_le h0
    have hj : j < wds.length := by omega
    exact ⟨j, rfl, hj, by rw [Int.toNat_natCast, List.getElem?_eq_getElem hj]; rfl⟩
  refine nms_of (fun k hk => ?_) (fun j k hjk hk e => ?_)
  · obtain ⟨j, _, hj, e⟩ := key k
    rw [e]
    exact wds_ok _ (List.getElem_mem hj)
  · obtain ⟨j1, a1, b1, c1⟩ := key j
    obtain ⟨j2, a2, b2, c2⟩ := key k
    rw [c1, c2] at e
    have nd : wds.Pairwise (· ≠ ·) := wds_nd
    rcases Nat.lt_trichotomy j1 j2 with h | h | h
    · exact List.pairwise_iff_getElem.mp nd j1 j2 b1 b2 h e
    · omega
    · exact List.pairwise_iff_getElem.mp nd j2 j1 b2 b1 h e.symm
/-! the second way -/
structure Stem (z : Str) : Prop where
  len : (tl z).length = 6
  ok : ∀ c ∈ tl z, lc c = true
def nm1 (z : Str) (a : Int) (k : Nat) : Str := cutS z none (some (1 + (a + 5 * (k : Int)) % 6))
theorem nm1_ok {z : Str} (h : Stem z) (a : Int) (n : Nat) (hn : n < 7) : Nms ((List.range n).map (nm1 z a)) := by
  have key : ∀ k : Nat, ∃ j : Nat, ((j : Nat) : Int) = 1 + (a + 5 * (k : Int)) % 6 ∧ 1 ≤ j ∧ j ≤ 6 ∧ tl (nm1 z a k) = (tl z).take j := fun k => by
    have h0 := Int.emod_nonneg (a + 5 * (k : Int)) (by decide : (6 : Int) ≠ 0)
    have h1 := Int.emod_lt_of_pos (a + 5 * (k : Int)) (by decide : (0 : Int) < 6)
    unfold nm1
    generalize (a + 5 * (k : Int)) % 6 = m at h0 h1
    obtain ⟨j, rfl⟩ := Int.eq_ofNat_of_zero_le h0
    refine ⟨1 + j, by omega, by omega, by omega, ?_⟩
    have e : (1 + (j : Int)) = ((1 + j : Nat) : Int) := by omega
    rw [e]
    exact tl_to (by rw [h.len]; omega)
  refine nms_of (fun k hk => ?_) (fun j k hjk hk e => ?_)
  · obtain ⟨j, _, j1, j6, e⟩ := key k
    have hl := h.len
    refine name_of ?_ ?_ (fun c hc => h.ok c (by rw [e] at hc; exact List.mem_of_mem_take hc)) <;> rw [e, List.length_take] <;> omega
  · obtain ⟨j1, a1, _, b1, c1⟩ := key j
    obtain ⟨j2, a2, _, b2, c2⟩ := key k
    have l := congrArg (fun z => (tl z).length) e
    have hl := h.len
    simp only [c1, c2, List.length_take] at l
    omega
/-! the third way -/
def abc : Str := "abcdefghijklmnopqrstuvwxyz"
def lt1 (a : Int) (k : Nat) : Nat := 97 + ((a + 7 * (k : Int)) % 26).toNat
theorem abc_at {i : Int} (h0 : 0 ≤ i) (h1 : i < 26) : atI abc.cps.toList i = some (97 + i.toNat) := by
  obtain ⟨j, rfl⟩ := Int.eq_ofNat_of_zero_le h0
  have h : ∀ j : Fin 26, abc.cps.toList[j.1]? = some (97 + j.1) := by decide +kernel
  rw [Int.toNat_natCast]
  exact atI_nat (h ⟨j, by omega⟩)
theorem lt1_at (a : Int) (k : Nat) : atI abc.cps.toList ((a + 7 * (k : Int)) % 26) = some (lt1 a k) := abc_at (Int.emod_nonneg _ (by decide)) (Int.emod_lt_of_pos _ (by decide))
theorem lt1_lc (a : Int) (k : Nat) : lc (lt1 a k) = true := by
  have h0 := Int.emod_nonneg (a + 7 * (k : Int)) (by decide : (26 : Int) ≠ 0)
  have h1 := Int.emod_lt_of_pos (a + 7 * (k : Int)) (by decide : (0 : Int) < 26)
  unfold lt1 lc
  rw [Bool.and_eq_true, decide_eq_true_eq, decide_eq_true_eq]
  omega
def nm2 (z : Str) (a t : Int) (k : Nat) : Str := cutS z none (some t) ++ ⟨#[lt1 a k]⟩ ++ cutS z (some t) (some (t + (a + (k : Int)) % (6 - t)))
theorem nm2_ok {z : Str} (h : Stem z) (a t : Int) (t0 : 0 ≤ t) (t6 : t < 6) (n : Nat) (hn : n ≤ 7) : Nms ((List.range n).map (nm2 z a t)) := by
  obtain ⟨t, rfl⟩ := Int.eq_ofNat_of_zero_le t0
  have hl := h.len
  have key : ∀ k : Nat, ∃ m : Nat, t + m < 6 ∧ tl (nm2 z a t k) = (tl z).take t ++ ([lt1 a k] ++ ((tl z).drop t).take m) := fun k => by
    have h0 := Int.emod_nonneg (a + (k : Int)) (show (6 - (t : Int)) ≠ 0 by omega)
    have h1 := Int.emod_lt_of_pos (a + (k : Int)) (show (0 : Int) < 6 - (t : Int) by omega)
    unfold nm2
    generalize (a + (k : Int)) % (6 - (t : Int)) = m at h0 h1
    obtain ⟨m, rfl⟩ := Int.eq_ofNat_of_zero_le h0
    refine ⟨m, by omega, ?_⟩
    rw [tl_append, tl_append, tl_to (by omega), show ((t : Int) + (m : Int)) = ((t + m : Nat) : Int) by omega, tl_cut (by omega) (by omega), show t + m - t = m by omega, List.append_assoc]
  refine nms_of (fun k hk => ?_) (fun j k hjk hk e => ?_)
  · obtain ⟨m, hm, e⟩ := key k
    refine name_of ?_ ?_ (fun c hc => ?_)
    · rw [e, List.length_append, List.length_append]
      simp
      omega
    · rw [e, List.length_append, List.length_append, List.length_take, List.length_take, List.length_drop]
      simp
      omega
    · rw [e] at hc
      rcases List.mem_append.mp hc with q | q
      · exact h.ok c (List.mem_of_mem_take q)
      · rcases List.mem_append.mp q with q | q
        · rw [List.mem_singleton.mp q]
          exact lt1_lc a k
        · exact h.ok c (List.mem_of_mem_drop (List.mem_of_mem_take q))
  · obtain ⟨m1, hm1, c1⟩ := key j
    obtain ⟨m2, hm2, c2⟩ := key k
    have l := congrArg (fun z => (tl z)[t]?) e
    simp only [c1, c2] at l
    have lt : ((tl z).take t).length = t := by rw [List.length_take]; omega
    have g : ∀ (c : Nat) (r : List Nat), ((tl z).take t ++ ([c] ++ r))[t]? = some c := fun c r => by
      rw [List.getElem?_append_right (by omega), lt, Nat.sub_self]
      rfl
    rw [g, g] at l
    have l := Option.some.inj l
    unfold lt1 at l
    have h0 := Int.emod_nonneg (a + 7 * (j : Int)) (by decide : (26 : Int) ≠ 0)
    have h1 := Int.emod_nonneg (a + 7 * (k : Int)) (by decide : (26 : Int) ≠ 0)
    omega
end My

set_option maxRecDepth 100000
set_option maxHeartbeats 400000
namespace K22
open PySem PySem.Spec PyProof.Rows L2 GxR Gd TL My
theorem ixL {X : Cx} {K : PySem.W.Frag} (h : X.K = K) : IxR X (rIxL K) := h ▸ ix_list
theorem lt_line (i : Nat) (h : i ≤ 1000) : i < sizeLine := Nat.lt_of_le_of_lt h (by decide)
theorem same_nt {H H' : Hp} (s : Same H H') : Nt H H' := fun c o _ h => s c o h
/-- a name that the law draws -/
def Nm (z : Str) : Prop := Good z ∧ z.length ≤ 20
theorem abc_good : Good abc := good_of _
theorem abc_one {i : Int} (h0 : 0 ≤ i) (h1 : i < 26) : ∃ c, atI abc.cps.toList i = some c ∧ Good ⟨#[c]⟩ := by
  refine ⟨_, abc_at h0 h1, good_one abc_good ?_⟩
  have e := abc_at h0 h1
  unfold atI at e
  cases q : ixN abc.cps.toList.length i with
  | none => rw [q] at e; cases e
  | some j => rw [q] at e; exact List.mem_of_getElem? e
section
variable {P : Program} {w : World} {K : PySem.W.Frag} {mg : Str → Option Value} {base : Heap}
abbrev s_law_names : Stmt := top 12
theorem sc_law_names : FnScope ["_law_box_here", "_law_many", "_law_letters", "_law_first", "_law_stem", "_law_at", "_law_k"] ["_law_box_here", "_law_many"] (defScope s_law_names) := ⟨rfl, rfl, rfl, by decide +kernel, rfl, by decide +kernel, by decide +kernel⟩
def spNames : Sp := fun vs H Q _ => ∃ (b : Addr) (m : Nat) (n : Int), vs = [.ref b, .int (m : Nat)] ∧ Bx b n H ∧ n ≤ 90000 ∧ m ≤ 7 ∧
  ∀ (ns : List Str) (a : Addr) (H' : Hp), KB b H H' → Bx b (n + 20) H' → H a = none → H' a = some (.lst (ns.map V.str)) → ns.length = m → (∀ z ∈ ns, Nm z) → Q (.ref a) H'
theorem ok_names {f fT : Addr} {fd fdT : FuncData} (F : Fun K "_law_names" "_law_names" s_law_names f fd) (T : Txt mg)
    (Nlaw_take : Fn K mg "_law_take" sTake ["_law_box_here", "_law_many"] fT fdT) (Glaw_take : FnOk P w K mg base CX0 1 fT fdT ["_law_box_here", "_law_many"] spTake) :
    FnOk P w K mg base CX0 2 f fd ["_law_box_here", "_law_many"] spNames := by
  refine F.ok sc_law_names (fun vs H Q E h => ?_) (fun cdv A outer s H vs Q E hr h => ?_)
  · obtain ⟨b, m, n, rfl, _⟩ := h
    rfl
  · obtain ⟨b, m, n, rfl, hB, hn, hm, k⟩ := h
    refine ⟨_, pss_cons (ps_set (i := 2) sc_law_names.nd rfl (Or.inr rfl) pe_str)
      (pss_cons (ps_set (i := 3) sc_law_names.nd rfl (Or.inr rfl) (pe_call Glaw_take (hr.mono (by decide)) (by rfl) Nlaw_take.g Nlaw_take.kp Nlaw_take.b .nil pass0 (pa_cons (pv 0) (pa_cons pe_int pa_nil))))
      (pss_cons (ps_set (i := 4) sc_law_names.nd rfl (Or.inr rfl) (pe_join pe_str (pe_lc (own := [("_law_k", 6)]) (g := gName 6) (tt := tYes) rfl sc_law_names.nd (pi_range1 (by rfl) T.range_ (pa_cons pe_int pa_nil)) (blkOk_by (own := [("_law_k", 6)]) (N := ["_law_box_here", "_law_many", "_law_letters", "_law_first", "_law_stem", "_law_at", "_law_k"]) (sc := defScope s_law_names) (by decide +kernel)) (fun _ _ _ _ _ => (pg_name (i := 6) sc_law_names.nd rfl (Or.inl rfl))) (fun _ _ _ _ _ => pts_nil) (fun _ _ _ _ _ => (pe_ix ix_str (pv 2) (pe_call Glaw_take (hr.mono (by decide)) (by rfl) Nlaw_take.g Nlaw_take.kp Nlaw_take.b .nil pass0 (pa_cons (pv 0) (pa_cons pe_int pa_nil))) (fun _ _ => rfl))))))
      (pss_cons (ps_set (i := 5) sc_law_names.nd rfl (Or.inr rfl) (pe_call Glaw_take (hr.mono (by decide)) (by rfl) Nlaw_take.g Nlaw_take.kp Nlaw_take.b .nil pass0 (pa_cons (pv 0) (pa_cons pe_int pa_nil))))
      (pss_cons (ps_if (pt_cmpR op_eq (pe_call Glaw_take (hr.mono (by decide)) (by rfl) Nlaw_take.g Nlaw_take.kp Nlaw_take.b .nil pass0 (pa_cons (pv 0) (pa_cons pe_int pa_nil))) pe_int (nomark _)) (pss_one (ps_ret (pe_lc (own := [("_law_k", 6)]) (g := gName 6) (tt := tYes) rfl sc_law_names.nd (pi_range1 (by rfl) T.range_ (pa_cons (pv 1) pa_nil)) (blkOk_by (own := [("_law_k", 6)]) (N := ["_law_box_here", "_law_many", "_law_letters", "_law_first", "_law_stem", "_law_at", "_law_k"]) (sc := defScope s_law_names) (by decide +kernel)) (fun _ _ _ _ _ => (pg_name (i := 6) sc_law_names.nd rfl (Or.inl rfl))) (fun _ _ _ _ _ => pts_nil) (fun _ _ _ _ _ => (pe_slice sl_str (pe_op op_add_str (pv 4) (pe_ix ix_str (pv 2) (pv 3) (fun _ _ => rfl))) po_none (po_some (pe_op op_add pe_int (pe_op op_mod (pe_op op_add (pv 3) (pe_op op_mul pe_int (pv 6))) pe_int)))))))) pss_nil)
      (pss_one (ps_ret (pe_lc (own := [("_law_k", 6)]) (g := gName 6) (tt := tYes) rfl sc_law_names.nd (pi_range1 (by rfl) T.range_ (pa_cons (pv 1) pa_nil)) (blkOk_by (own := [("_law_k", 6)]) (N := ["_law_box_here", "_law_many", "_law_letters", "_law_first", "_law_stem", "_law_at", "_law_k"]) (sc := defScope s_law_names) (by decide +kernel)) (fun _ _ _ _ _ => (pg_name (i := 6) sc_law_names.nd rfl (Or.inl rfl))) (fun _ _ _ _ _ => pts_nil) (fun _ _ _ _ _ => (pe_op op_add_str (pe_op op_add_str (pe_slice sl_str (pv 4) po_none (po_some (pv 5))) (pe_ix ix_str (pv 2) (pe_op op_mod (pe_op op_add (pv 3) (pe_op op_mul pe_int (pv 6))) pe_int) (fun _ _ => rfl))) (pe_slice sl_str (pv 4) (po_some (pv 5)) po_none)))))))))), ?_⟩
    refine ⟨_, rfl, b, 26, n, rfl, hB, by omega, by decide, by decide, fun a H1 a0 a1 off1 B1 => ?_⟩
    refine ⟨⟨_, rfl⟩, 5, rfl, by decide, by decide, fun D hD => ?_⟩
    have nDb : D ≠ b := B1.fresh hD
    refine lc_range (lo := 0) (n := 5) (fun i H' => ∃ cs : List Nat, H' D = some (.lst ((cs.map fun c => (⟨#[c]⟩ : Str)).map V.str)) ∧ cs.length = i ∧ (∀ c ∈ cs, Good ⟨#[c]⟩) ∧ KB b H1 H' ∧ Bx b (n + 1 + i) H')
      ⟨[], upd_same, rfl, by simp, KB.alloc hD, (B1.alloc hD).mono (by simp)⟩ ?_ ?_
    · rintro i H3 hi ⟨cs, hz, hl, h1, k3, B3⟩
      refine ⟨rfl, lcY ?_⟩
      refine ⟨_, rfl, _, rfl, b, 26, _, rfl, B3, by omega, by decide, by decide, fun d' H4 e0 e1 off4 B4 => ?_⟩
      have hz4 : H4 D = some (.lst ((cs.map fun c => (⟨#[c]⟩ : Str)).map V.str)) := by rw [off4 D nDb]; exact hz
      obtain ⟨c, ec, gc⟩ := abc_one e0 e1
      refine ⟨_, d', c, rfl, rfl, by decide +kernel, ec, _, hz4, ?_, cs ++ [c], ?_, ?_, ?_, ?_, ?_⟩
      · rw [List.length_map, List.length_map, hl]
        exact lt_line i (by omega)
      · rw [upd_same, List.map_append, List.map_append]
        rfl
      · rw [List.length_append, hl]
        rfl
      · intro z hz
        rcases List.mem_append.mp hz with q | q
        · exact h1 z q
        · rw [List.mem_singleton.mp q]
          exact gc
      · intro c o nc e
        rw [upd_ne (ne_of_none e hD)]
        exact (k3.trans (KB.off off4)) c o nc e
      · exact (B4.put nDb).mono (by push_cast; omega)
    · rintro H3 ⟨cs, hz, hl, h1, k3, B3⟩
      have e0 : (Str.ofString "").length = 0 := by decide +kernel
      have hs := sum_ones (cs.map fun c => (⟨#[c]⟩ : Str)) (fun z hz => by obtain ⟨c, _, rfl⟩ := List.mem_map.mp hz; exact Nat.le_refl 1)
      have jl := join_len (Str.ofString "") (cs.map fun c => (⟨#[c]⟩ : Str))
      rw [List.length_map] at hs jl
      rw [e0] at jl
      have gS : Good (Txt.join (Str.ofString "") (cs.map fun c => (⟨#[c]⟩ : Str))) := good_join (good_of "") fun z hz => by
        obtain ⟨c, hc, rfl⟩ := List.mem_map.mp hz
        exact h1 c hc
      refine ⟨_, D, _, rfl, rfl, .inl (SqL.of hz), ?_, ?_⟩
      · rw [e0, List.length_map]
        omega
      have jl5 : (Txt.join (Str.ofString "") (cs.map fun c => (⟨#[c]⟩ : Str))).length ≤ 5 := by omega
      generalize Txt.join (Str.ofString "") (cs.map fun c => (⟨#[c]⟩ : Str)) = st at gS jl5 ⊢
      have kH := (KB.off off1).trans k3
      clear hz h1 k3 jl hs B1
      have new : ∀ {p : Addr} {H4 : Hp}, KB b H H4 → Bx b (n + 20) H4 → H4 p = none → H p = none := fun {p H4} kb bx np => by
        cases q : H p with
        | none => rfl
        | some o =>
          have := kb p o (bx.fresh np) q
          rw [np] at this
          cases this
      refine ⟨_, rfl, b, 6, _, rfl, B3, by omega, by decide, by decide, fun t H4 t0 t6 off4 B4 => ?_⟩
      refine ⟨_, rfl, b, 3, _, rfl, B4, by omega, by decide, by decide, fun u H5 u0 u3 off5 B5 => ?_⟩
      have k5 := (kH.trans (KB.off off4)).trans (KB.off off5)
      have B5' : Bx b (n + 20) H5 := B5.mono (by omega)
      clear kH off4 off5 B3 B4 B5
      have fin : ∀ (D2 : Addr) (zs : List Str), H5 D2 = none → zs.length = m → (∀ z ∈ zs, Nm z) → Q (.ref D2) (upd H5 D2 (.lst (zs.map V.str))) := fun D2 zs n2 l2 h2 =>
        k zs D2 _ (k5.trans (KB.alloc n2)) (B5'.alloc n2) (new k5 B5' n2) upd_same l2 h2
      refine ⟨rfl, _, rfl, ite2 (fun c => ?_) (fun c => ?_)⟩
      · refine ⟨_, rfl, m, rfl, by omega, by omega, fun D2 hD2 => ?_⟩
        refine lc_range (lo := 0) (n := m) (fun i H' => ∃ zs : List Str, H' = upd H5 D2 (.lst (zs.map V.str)) ∧ zs.length = i ∧ ∀ z ∈ zs, Nm z) ⟨[], rfl, rfl, by simp⟩ ?_ ?_
        · rintro i H' hi ⟨zs, rfl, l2, h2⟩
          refine ⟨rfl, lcY ?_⟩
          obtain ⟨cc, ec, gc⟩ := abc_one a0 a1
          refine ⟨_, rfl, _, rfl, _, rfl, _, a, cc, rfl, rfl, by decide +kernel, ec, _, _, rfl, rfl, ?_, ?_⟩
          · show st.length + 1 ≤ sizeLine
            exact Nat.le_trans (by omega : st.length + 1 ≤ 6) (by decide)
          refine ⟨_, rfl, _, rfl, _, _, rfl, rfl, .inl ⟨by decide, by decide⟩, _, _, rfl, rfl, _, _, rfl, rfl, (by show (0 : Int) < 6; decide), _, _, rfl, rfl, _, rfl, _, rfl, ?_, _, upd_same, ?_, zs ++ [_], by rw [upd_upd, List.map_append]; rfl, by rw [List.length_append, l2]; rfl, ?_⟩
          · show (st ++ ⟨#[cc]⟩ : Str).length ≤ sizeLine
            rw [← tl_len, tl_append, List.length_append, tl_len]
            exact Nat.le_trans (by show st.length + 1 ≤ 6; omega) (by decide)
          · rw [List.length_map, l2]
            exact lt_line i (by omega)
          · intro z hz
            rcases List.mem_append.mp hz with q | q
            · exact h2 z q
            · rw [List.mem_singleton.mp q]
              refine ⟨good_cut (good_app gS gc) _ _, Nat.le_trans (cutS_length _ _ _) ?_⟩
              rw [← tl_len, tl_append, List.length_append, tl_len]
              show st.length + 1 ≤ 20
              omega
        · rintro H' ⟨zs, rfl, l2, h2⟩
          exact fin D2 zs hD2 l2 h2
      · refine ⟨_, rfl, m, rfl, by omega, by omega, fun D2 hD2 => ?_⟩
        refine lc_range (lo := 0) (n := m) (fun i H' => ∃ zs : List Str, H' = upd H5 D2 (.lst (zs.map V.str)) ∧ zs.length = i ∧ ∀ z ∈ zs, Nm z) ⟨[], rfl, rfl, by simp⟩ ?_ ?_
        · rintro i H' hi ⟨zs, rfl, l2, h2⟩
          refine ⟨rfl, lcY ?_⟩
          obtain ⟨cc, ec, gc⟩ := abc_one (i := (a + 7 * (0 + (i : Int))) % 26) (Int.emod_nonneg _ (by decide)) (Int.emod_lt_of_pos _ (by decide))
          have q1 := cutS_length st none (some t)
          have q2 := cutS_length st (some t) none
          refine ⟨_, rfl, _, rfl, _, rfl, st, rfl, Nat.le_trans jl5 (by decide), _, rfl, _, rfl, _, rfl, _, _, rfl, rfl, .inl ⟨by decide, by decide⟩, _, _, rfl, rfl, _, _, rfl, rfl, (by show (0 : Int) < 26; decide), abc, _, cc, rfl, rfl, by decide +kernel, ec, _, _, rfl, rfl, ?_, ?_⟩
          · exact Nat.le_trans (by show _ + 1 ≤ 6; omega) (by decide : 6 ≤ sizeLine)
          refine ⟨_, rfl, _, rfl, _, rfl, st, rfl, Nat.le_trans jl5 (by decide), _, _, rfl, rfl, ?_, _, upd_same, ?_, zs ++ [_], by rw [upd_upd, List.map_append]; rfl, by rw [List.length_append, l2]; rfl, ?_⟩
          · rw [← tl_len, tl_append, List.length_append, tl_len]
            exact Nat.le_trans (by show _ + 1 + _ ≤ 11; omega) (by decide : 11 ≤ sizeLine)
          · rw [List.length_map, l2]
            exact lt_line i (by omega)
          · intro z hz
            rcases List.mem_append.mp hz with q | q
            · exact h2 z q
            · rw [List.mem_singleton.mp q]
              refine ⟨good_app (good_app (good_cut gS _ _) gc) (good_cut gS _ _), ?_⟩
              rw [← tl_len, tl_append, tl_append, List.length_append, List.length_append]
              simp only [tl_len]
              show _ + 1 + _ ≤ 20
              omega
        · rintro H' ⟨zs, rfl, l2, h2⟩
          exact fin D2 zs hD2 l2 h2
end
end K22

set_option maxRecDepth 100000
set_option maxHeartbeats 1000000
/-! The end of a law whose own def shows dicts: the module table is tracked, so that no new thing is it. For laws without tables. -/
namespace Gd
open PySem PySem.Spec PyProof.Rows L2 GxR
/-- the module table: it is there -/
def smU : HO := .ext fun h => ∃ o, h.get? sysModules = some o
def SmAt (H : Hp) : Prop := ∃ o, H sysModules = some (.frz o smU)
theorem SmAt.same {H H' : Hp} (h : SmAt H) (s : Same H H') : SmAt H' := let ⟨o, e⟩ := h; ⟨o, s _ _ e⟩
theorem smU_ne {u : HO} (n : ∀ φ, u ≠ .ext φ) : smU ≠ u := fun z => n _ z.symm
open Classical in
noncomputable def hs0 (K : PySem.W.Frag) (a : Addr) (vs : List Value) (ns : List Int) (o1 : Obj) : Hp := fun b =>
  if b = sysModules then some (.frz o1 smU) else if b = a ∧ K.lookup a = none then some (.frz (scriptO vs) (.lst (ns.map V.int))) else none
theorem hs0_inv {K : PySem.W.Frag} {a b : Addr} {vs : List Value} {ns : List Int} {o1 : Obj} {u : HO} (h : hs0 K a vs ns o1 b = some u) :
    (b = sysModules ∧ u = .frz o1 smU) ∨ (b = a ∧ K.lookup a = none ∧ u = .frz (scriptO vs) (.lst (ns.map V.int))) := by
  unfold hs0 at h
  split at h
  · rename_i c
    exact .inl ⟨c, (Option.some.inj h).symm⟩
  · split at h
    · rename_i c
      exact .inr ⟨c.1, c.2, (Option.some.inj h).symm⟩
    · cases h
section
variable {P : Program} {w : World} {K : PySem.W.Frag} {mg mb : Str → Option Value} {CX : CXT} {k : Nat} {fa a : Addr} {fd : FuncData} {x : Str} {sp : Sp} {s1 : Shared} {vs : List Value} {ns : List Int}
theorem law_scall (KX : K.In s1.heap) (nsG : s1.heap.Ns mainGlobals mg) (nsB : s1.heap.Ns builtinsNs mb) (isB : ∀ x : Str, x ≠ "__name__" → mb x = bootBuiltins x) (lim : s1.heap.NoLimit) (gens : s1.gens = #[])
    (hsm : ∃ o, s1.heap.get? sysModules = some o) (k1 : K.lookup sysModules = none) (na : a ≠ sysModules) (ha : s1.heap.get? a = some (scriptO vs)) (hi : IntsAre vs ns) (hl : ns.length ≤ sizeLine) (hr : Room k callerA)
    (F : ∀ base : Heap, K.In base → base.Ns mainGlobals mg → GOk P w K mg base CX k fa fd [x] sp) (hbind : ∀ (s : Shared) (u : Value), BindsTo s fd ⟨[u], []⟩ [(x, u)])
    (hsp : ∀ H : Hp, SmAt H → SqL K H a (ns.map V.int) → sp [.ref a] H (fun v _ => v = .bl true) fun _ _ _ => False) (hCX : ∀ H e s', CX [] H s1 (fun _ _ _ => False) e s' → False) :
    codeAny (model P w) callerA (.call (.ref fa) ⟨[.ref a], []⟩) (fun r s' => r = .ok (.ret (.bool true)) ∧ OldK s1.heap s'.heap ∧ s'.os = s1.os ∧ AllBare s'.gens) s1 := by
  have rv := vals_ints hi
  have hlen := hi.length
  obtain ⟨o1, ho1⟩ := hsm
  let H := hs0 K a vs ns o1
  have off : ∀ {b : Addr}, b ≠ sysModules → b ≠ a → H b = none := fun {b} n1 n2 => by
    cases q : H b with
    | none => rfl
    | some u =>
      rcases hs0_inv q with ⟨e, _⟩ | ⟨e, _⟩
      · exact absurd e n1
      · exact absurd e n2
  have dic : ∀ {b : Addr} {m : Str → Option Value}, b ≠ sysModules → s1.heap.Ns b m → (hidT s1.heap H).Ns b m := by
    rintro b m n1 ⟨o, es, ep, e, d, rest⟩
    refine ⟨o, es, ep, hidT_get e (off n1 ?_), d, rest⟩
    rintro rfl
    rw [ha] at e
    obtain rfl := Option.some.inj e
    cases d
  have KH : K.In (hidT s1.heap H) := by
    intro b o e
    refine hidT_get (KX b o e) ?_
    cases q : H b with
    | none => rfl
    | some u =>
      rcases hs0_inv q with ⟨rfl, _⟩ | ⟨rfl, z, _⟩
      · rw [k1] at e
        cases e
      · rw [z] at e
        cases e
  have limH : (hidT s1.heap H).NoLimit := let ⟨mc, h1, h2⟩ := lim; ⟨mc, dic (by decide) h1, h2⟩
  have M : L2.Mod K mg (hidT s1.heap H) := ⟨KH, dic (by decide) nsG, ⟨mb, dic (by decide) nsB, isB⟩, limH⟩
  have hS : SqL K H a (ns.map V.int) := by
    cases q : K.lookup a with
    | none => exact .inl (.inr ⟨scriptO vs, (if_neg na).trans (if_pos ⟨rfl, q⟩)⟩)
    | some o =>
      have e := KX a o q
      rw [ha] at e
      obtain rfl := Option.some.inj e
      exact .inr ⟨_, vs.toArray, _, q, rfl, rfl, rfl, by rw [List.size_toArray, hlen]; exact hl, by simpa using rv⟩
  have hok : HOk P w H s1.heap := by
    intro b u q
    rcases hs0_inv q with ⟨rfl, rfl⟩ | ⟨rfl, _, rfl⟩
    · exact ⟨ho1, ⟨_, ho1⟩, ⟨_, ho1⟩, fun h1 h2 ⟨o, z⟩ k => ⟨o, k _ z⟩⟩
    · exact ⟨ha, by rw [List.length_map]; exact hl, vs, _, rv, ha⟩
  have e0 : Env0 P w K mg (hidT s1.heap H) callerA [] s1 H :=
    ⟨rfl, M, fun b o e => of_hidT e, Nat.le_of_eq (hidT_size _ _), trivial, (fun b hb => by cases (show b ∈ ([] : List Addr) from hb)), hok, .of_eq gens⟩
  refine codeAny_mono ((F _ KH (dic (by decide) nsG)).go callerA [] s1 H ⟨[.ref a], []⟩ [.ref a] [.ref a] (fun v _ => v = .bl true) (fun _ _ _ => False) rfl hr e0 (hbind s1 (.ref a)) (.cons rfl .nil) (hsp H ⟨o1, if_pos rfl⟩ hS)) ?_
  intro r z h
  match r, h with
  | .ok .next, h => exact h.elim
  | .ok .brk, h => exact h.elim
  | .ok .cont, h => exact h.elim
  | .error e, h => exact (hCX H e z h).elim
  | .ok (.ret u), h =>
    obtain ⟨v, G, os, bare, un, hokG, rv', q⟩ := h
    obtain rfl : v = .bl true := q
    obtain rfl : u = Value.bool true := rv'
    have plain : ∀ b o, s1.heap.get? b = some o → z.heap.get? b = some o := by
      intro b o e
      cases q : H b with
      | none => exact un.keep b o e q (fun y => by cases (show b ∈ ([] : List Addr) from y)) (by simp)
      | some y =>
        rcases hs0_inv q with ⟨rfl, rfl⟩ | ⟨rfl, _, rfl⟩
        · obtain ⟨e2, _⟩ := hokG sysModules _ (un.frzs _ _ _ q)
          rw [ho1] at e
          exact Option.some.inj e ▸ e2
        · obtain ⟨e2, _⟩ := hokG b _ (un.frzs b _ _ q)
          rw [ha] at e
          exact Option.some.inj e ▸ e2
    exact ⟨rfl, ⟨fun b o e => .inl (plain b o e), fun b o e => ⟨o, plain b o e⟩⟩, os, bare⟩
end
/-- what is to be known of such a law -/
def GLawS (l : PySem.W.OpenLaw) (w : World) (K : PySem.W.Frag) (CX : CXT) (k n : Nat) (x : Str) (mg : Str → Option Value) (fa : Addr) : Prop :=
  ∃ (fd : FuncData) (sp : Sp), K.lookup sysModules = none ∧ (∀ (s : Shared) (u : Value), BindsTo s fd ⟨[u], []⟩ [(x, u)]) ∧
    (∀ (H : Hp) (a : Addr) (ns : List Int), ns.length ≤ n → SmAt H → SqL K H a (ns.map V.int) → sp [.ref a] H (fun v _ => v = .bl true) fun _ _ _ => False) ∧
    ∀ base : Heap, K.In base → base.Ns mainGlobals mg → GOk l.prog w K mg base CX k fa fd [x] sp
open PySem.W in
theorem walk_s {l : PySem.W.OpenLaw} {n k : Nat} {q : Program} {loose : List Str} {XP : (Str → Option Value) → Heap → Prop} {YP : World → Heap → Prop} {d : DefRec} {K : Params → PySem.W.Frag} {CX : World → CXT} {x : Str}
    (no : importsNone q = true) (hn : l.most = some n) (small : n ≤ sizeLine) (hdf : d.params.defaults = []) (hr : Room k callerA) (hY : ∀ (w : World) (h : Heap), YP w h → (K w.params).In h)
    (F : ∀ (w : World) (mg : Str → Option Value) (fa : Addr) (h : Heap), YP w h → (K w.params).In h → h.Ns mainGlobals mg → mg d.name = some (.ref fa) → GLawS l w (K w.params) (CX w) k n x mg fa)
    (hCX : ∀ (w : World) (H : Hp) (s : Shared) (e : Value) (s' : Shared), CX w [] H s (fun _ _ _ => False) e s' → False) :
    PySem.W.WalkO q loose XP YP l.row.toRowW d [] (fun f vs => PySem.call f vs) := by
  intro w s0 s1 mg mb G Y fa o pm cd doc dV kV ho hd hcd hD hmg hg args vals as pre lay rd well low
  obtain ⟨a, vs, ns, rfl, rfl, hobj, hints, hlen⟩ := Att.script_of hn pre well
  have na : a ≠ sysModules := by
    cases rd with
    | cons r1 r2 =>
      cases r1 with
      | list _ _ _ _ => exact beq_eq_false_iff_ne.mp (low a (by simp))
  have KX := hY w _ Y
  obtain ⟨fd, sp, k1, hb, hsp, hF⟩ := F w mg fa _ Y KX G.T.g hmg
  have run := law_scall KX G.T.g G.T.b G.T.builtins G.T.nolimit hg (let ⟨_, ⟨o, _, _, e, _⟩, _⟩ := (G.T.seer no).mods; ⟨o, e⟩) k1 na hobj hints (Nat.le_trans hlen small) hr hF hb (fun H a1 a2 => hsp H a ns hlen a1 a2) (fun H e s' => hCX w H s1 e s')
  refine enter_call (codeAny_mono run ?_)
  rintro r z ⟨rfl, old, os, bare⟩
  exact ⟨.inl ⟨.bool true, .bool true, [], rfl, fun _ => rfl, .bool true, Att.post_true l _, fun _ => ⟨List.Pairwise.nil, fun _ m => (nomatch m)⟩⟩, old, os, bare⟩
end Gd

set_option maxRecDepth 100000
set_option maxHeartbeats 1000000
/-! Data with dicts: what repr asks of them. -/
namespace My
open PySem PySem.Spec PyProof.Rows L2 GxR Gd TL
theorem same_new {H : Hp} {p : Addr} {o : HO} (n : H p = none) : Same H (upd H p o) := fun b u e => by rw [upd_ne (ne_of_none e n)]; exact e
theorem sameT {K : PySem.W.Frag} {H H' : Hp} {a : Addr} {xs : List V} (s : Same H H') (h : SqT K H a xs) : SqT K H' a xs := by
  rcases h with (h | ⟨o, h⟩) | h
  · exact .inl (.inl (s _ _ h))
  · exact .inl (.inr ⟨o, s _ _ h⟩)
  · exact .inr h
def keyD : Key → PyData
  | .inl i => .int i
  | .inr x => .str x
mutual
/-- v is the data d, dicts too -/
inductive Dq (K : PySem.W.Frag) (H : Hp) : V → PyData → Prop
  | non : Dq K H .non .none
  | bl (b : Bool) : Dq K H (.bl b) (.bool b)
  | int (i : Int) : Dq K H (.int i) (.int i)
  | str (z : Str) : Dq K H (.str z) (.str z)
  | lst {a : Addr} {xs : List V} {ds : List PyData} (e : SqL K H a xs) (h : DqAll K H xs ds) : Dq K H (.ref a) (.list ds)
  | tup {a : Addr} {xs : List V} {ds : List PyData} (e : SqT K H a xs) (h : DqAll K H xs ds) : Dq K H (.ref a) (.tuple ds)
  | dic {a : Addr} {kvs : List (Key × V)} {ds : List (PyData × PyData)} (e : H a = some (.dK kvs)) (h : DqKv K H kvs ds) : Dq K H (.ref a) (.dict ds)
inductive DqAll (K : PySem.W.Frag) (H : Hp) : List V → List PyData → Prop
  | nil : DqAll K H [] []
  | cons {v : V} {vs : List V} {d : PyData} {ds : List PyData} (h : Dq K H v d) (t : DqAll K H vs ds) : DqAll K H (v :: vs) (d :: ds)
inductive DqKv (K : PySem.W.Frag) (H : Hp) : List (Key × V) → List (PyData × PyData) → Prop
  | nil : DqKv K H [] []
  | cons {k : Key} {v : V} {r : List (Key × V)} {d : PyData} {ds : List (PyData × PyData)} (h : Dq K H v d) (t : DqKv K H r ds) : DqKv K H ((k, v) :: r) ((keyD k, d) :: ds)
end
mutual
theorem Dq.of {K : PySem.W.Frag} {H : Hp} : ∀ {v : V} {d : PyData}, Dp K H v d → Dq K H v d
  | _, _, .non => .non
  | _, _, .bl b => .bl b
  | _, _, .int i => .int i
  | _, _, .str z => .str z
  | _, _, .lst e h => .lst e (DqAll.of h)
  | _, _, .tup e h => .tup e (DqAll.of h)
theorem DqAll.of {K : PySem.W.Frag} {H : Hp} : ∀ {vs : List V} {ds : List PyData}, DpAll K H vs ds → DqAll K H vs ds
  | _, _, .nil => .nil
  | _, _, .cons h t => .cons (Dq.of h) (DqAll.of t)
end
mutual
theorem Dq.same {K : PySem.W.Frag} {H H' : Hp} (s : Same H H') : ∀ {v : V} {d : PyData}, Dq K H v d → Dq K H' v d
  | _, _, .non => .non
  | _, _, .bl b => .bl b
  | _, _, .int i => .int i
  | _, _, .str z => .str z
  | _, _, .lst e h => .lst (s.seq e) (DqAll.same s h)
  | _, _, .tup e h => .tup (sameT s e) (DqAll.same s h)
  | _, _, .dic e h => .dic (s _ _ e) (DqKv.same s h)
theorem DqAll.same {K : PySem.W.Frag} {H H' : Hp} (s : Same H H') : ∀ {vs : List V} {ds : List PyData}, DqAll K H vs ds → DqAll K H' vs ds
  | _, _, .nil => .nil
  | _, _, .cons h t => .cons (Dq.same s h) (DqAll.same s t)
theorem DqKv.same {K : PySem.W.Frag} {H H' : Hp} (s : Same H H') : ∀ {kvs : List (Key × V)} {ds : List (PyData × PyData)}, DqKv K H kvs ds → DqKv K H' kvs ds
  | _, _, .nil => .nil
  | _, _, .cons h t => .cons (Dq.same s h) (DqKv.same s t)
end
theorem keyD_reads {h : Heap} {k : Key} {v : Value} (e : keyIs k v = true) : Reads h v (keyD k) [] := by
  rcases keyIs_shape e with ⟨i, t, rfl, rfl⟩ | ⟨x, t, rfl, rfl⟩
  · exact .int i t
  · exact .str x t
section
variable {X : Cx} {pins : List (Addr × Obj)} {σ : L2.St} {H : Hp} {s : Shared}
theorem ne_sm {K : PySem.W.Frag} {H : Hp} {a : Addr} {xs : List V} (n : K.lookup sysModules = none) (sm : SmAt H) (h : SqL K H a xs) : a ≠ sysModules := by
  rintro rfl
  obtain ⟨o, e⟩ := sm
  rcases h with (h | ⟨u, h⟩) | ⟨u, _, _, h, _⟩
  · rw [e] at h
    cases h
  · rw [e] at h
    cases h
  · rw [n] at h
    cases h
mutual
theorem Dq.reads (n : X.K.lookup sysModules = none) (sm : SmAt H) (I : Inv X pins σ H s) : ∀ (d : PyData) (v : V) (u : Value), Dq X.K H v d → RelV v u → ∃ as, Reads s.heap u d as ∧ sysModules ∉ as
  | .none, _, _, h, r => by
    cases h
    cases r
    exact ⟨_, .none, by simp⟩
  | .bool b, _, _, h, r => by
    cases h
    cases r
    exact ⟨_, .bool b, by simp⟩
  | .int i, _, _, h, r => by
    cases h
    obtain ⟨t, rfl⟩ := r
    exact ⟨_, .int i t, by simp⟩
  | .str z, _, _, h, r => by
    cases h
    obtain ⟨t, rfl⟩ := r
    exact ⟨_, .str z t, by simp⟩
  | .list ds, _, _, h, r => by
    cases h with
    | lst hs ha =>
      cases r
      obtain ⟨its, rv, ⟨o, m, ho, hc, _, hd⟩, _⟩ := I.list hs
      obtain ⟨as, hr, no⟩ := Dq.readsAll n sm I ds _ its ha rv
      exact ⟨_, .list ho hc hd hr, fun m => (List.mem_cons.mp m).elim (ne_sm n sm hs).symm no⟩
  | .tuple ds, _, _, h, r => by
    cases h with
    | tup hs ha =>
      cases r
      obtain ⟨its, rv, ⟨o, ho, hc, m, hd⟩, _⟩ := I.tuple hs
      obtain ⟨as, hr, no⟩ := Dq.readsAll n sm I ds _ its ha rv
      exact ⟨_, .tuple ho hc hd hr, no⟩
  | .dict ds, _, _, h, r => by
    cases h with
    | dic e hk =>
      cases r
      obtain ⟨_, ne, vs, rel, o, es, ep, ho, hx, hd, _, hp, _⟩ := dk_of I.hok e
      obtain ⟨as, bs, h1, h2, n1, n2⟩ := Dq.readsKv n sm I ds _ vs es.toList hk rel hp
      refine ⟨_, .dict ho hx.1 hd h1 h2, fun m => ?_⟩
      rw [List.cons_append] at m
      rcases List.mem_cons.mp m with m | m
      · exact (beq_eq_false_iff_ne.mp ne) m.symm
      · exact (List.mem_append.mp m).elim n1 n2
theorem Dq.readsAll (n : X.K.lookup sysModules = none) (sm : SmAt H) (I : Inv X pins σ H s) : ∀ (ds : List PyData) (vs : List V) (us : List Value), DqAll X.K H vs ds → Vals vs us → ∃ as, ReadsAll s.heap us ds as ∧ sysModules ∉ as
  | [], _, _, h, r => by
    cases h
    cases r
    exact ⟨_, .nil, by simp⟩
  | d :: ds, _, _, h, r => by
    cases h with
    | cons h1 h2 =>
      cases r with
      | cons r1 r2 =>
        obtain ⟨as, q1, n1⟩ := Dq.reads n sm I d _ _ h1 r1
        obtain ⟨bs, q2, n2⟩ := Dq.readsAll n sm I ds _ _ h2 r2
        exact ⟨_, .cons q1 q2, fun m => (List.mem_append.mp m).elim n1 n2⟩
theorem Dq.readsKv (n : X.K.lookup sysModules = none) (sm : SmAt H) (I : Inv X pins σ H s) : ∀ (ds : List (PyData × PyData)) (kvs : List (Key × V)) (vs : List (Key × Value)) (es : List DictEntry), DqKv X.K H kvs ds → KV kvs vs → Pairs (mixKind X.prog X.w) es vs →
    ∃ as bs, ReadsAll s.heap (es.map (·.key)) (ds.map (·.1)) as ∧ ReadsAll s.heap (es.map (·.val)) (ds.map (·.2)) bs ∧ sysModules ∉ as ∧ sysModules ∉ bs
  | [], _, _, _, h, r, p => by
    cases h
    cases r
    cases p
    exact ⟨_, _, .nil, .nil, by simp, by simp⟩
  | (_, d) :: ds, _, _, _, h, r, p => by
    cases h with
    | cons h1 h2 =>
      cases r with
      | cons r1 r2 =>
        cases p with
        | cons p1 p2 p3 =>
          obtain ⟨as, q1, n1⟩ := Dq.reads n sm I d _ _ h1 r1.2
          obtain ⟨bs, cs, q2, q3, n2, n3⟩ := Dq.readsKv n sm I ds _ _ _ h2 r2 p3
          refine ⟨_, _, .cons (keyD_reads ?_) q2, .cons ?_ q3, by simpa using n2, fun m => (List.mem_append.mp m).elim n1 n3⟩
          · have e := r1.1
            dsimp only at e ⊢
            rw [e]
            exact p1
          · dsimp only
            rw [p2]
            exact q1
end
end
/-- repr(v), v data with dicts -/
def rReprQ (K : PySem.W.Frag) : List V → Hp → VK → Prop := fun xs H Q => ∃ v d, xs = [v] ∧ SmAt H ∧ Dq K H v d ∧ d.showable = true ∧ d.depth ≤ 100 ∧ d.shown.length ≤ sizeLine ∧ Q (.str d.shown) H
theorem call_reprQ {X : Cx} {k : Nat} (n : X.K.lookup sysModules = none) (gd : X.A.guards = some []) (hr : Room k X.A) : CallR X (.builtin "repr") (rReprQ X.K) := by
  rintro pins s σ H xs us Q I r ⟨v, d, rfl, sm, dq, hs, hdep, hsz, q⟩
  have whole : ∀ {a : Addr} {as : List Addr}, Reads s.heap (.ref a) d as → sysModules ∉ as → wpAny (model X.prog X.w) X.A (call (.builtin "repr") [.ref a]) (EP X pins σ Q) X.xe s := by
    intro a as rd no
    have hun := hr.un
    exact repr_of_reads' rd hs (fun _ => no) gd (by omega) (fun _ _ z => z) (fun h' u tk hk => ⟨.str _, H, I.kept hk, ⟨_, rfl⟩, q⟩) hsz
  cases dq with
  | non => exact call_repr gd hr pins s σ H _ us Q I r ⟨_, _, rfl, .non, hs, hdep, hsz, q⟩
  | bl b => exact call_repr gd hr pins s σ H _ us Q I r ⟨_, _, rfl, .bl b, hs, hdep, hsz, q⟩
  | int i => exact call_repr gd hr pins s σ H _ us Q I r ⟨_, _, rfl, .int i, hs, hdep, hsz, q⟩
  | str z => exact call_repr gd hr pins s σ H _ us Q I r ⟨_, _, rfl, .str z, hs, hdep, hsz, q⟩
  | lst e h =>
    obtain ⟨as, rd, no⟩ := Dq.reads n sm I _ _ us.head! (.lst e h) (by cases r with | cons a b => cases b; exact a)
    cases r with
    | cons a b => cases b; cases a; exact whole rd no
  | tup e h =>
    obtain ⟨as, rd, no⟩ := Dq.reads n sm I _ _ us.head! (.tup e h) (by cases r with | cons a b => cases b; exact a)
    cases r with
    | cons a b => cases b; cases a; exact whole rd no
  | dic e h =>
    obtain ⟨as, rd, no⟩ := Dq.reads n sm I _ _ us.head! (.dic e h) (by cases r with | cons a b => cases b; exact a)
    cases r with
    | cons a b => cases b; cases a; exact whole rd no
end My

set_option maxRecDepth 100000
set_option maxHeartbeats 400000
namespace K22
open PySem PySem.Spec PyProof.Rows L2 GxR Gd TL My
theorem ixT {X : Cx} {K : PySem.W.Frag} (h : X.K = K) : IxR X (rIxT K) := h ▸ ix_tup
theorem iteS {c : Bool} {A B : Prop} (hc : c = true) (h : A) : if c = true then A else B := by rw [if_pos hc]; exact h
theorem iteN {c : Bool} {A B : Prop} (hc : c = false) (h : B) : if c = true then A else B := by rw [if_neg (by rw [hc]; exact Bool.false_ne_true)]; exact h
/-! ### what a holder has, as numbers and texts -/
abbrev Rt := Option (Int × Str)
def RtAt (H : Hp) (v : V) : Rt → Prop
  | none => v = .non
  | some p => ∃ u, v = .ref u ∧ H u = some (.tup [.int p.1, .str p.2]) ∧ p.1.natAbs < 10 ^ 31 ∧ Nm p.2
def rtD : Rt → PyData
  | none => .none
  | some p => .tuple [.int p.1, .str p.2]
theorem RtAt.up {H H' : Hp} {v : V} {r : Rt} (h : RtAt H v r) (k : ∀ x ys, H x = some (.tup ys) → H' x = some (.tup ys)) : RtAt H' v r := by
  match r, h with
  | none, h => exact h
  | some p, ⟨u, e, h1, h2⟩ => exact ⟨u, e, k _ _ h1, h2⟩
theorem RtAt.dp {K : PySem.W.Frag} {H : Hp} {v : V} {r : Rt} (h : RtAt H v r) : Dp K H v (rtD r) := by
  match r, h with
  | none, h =>
    obtain rfl : v = .non := h
    exact .non
  | some p, ⟨u, e, h1, h2⟩ =>
    subst e
    exact .tup (SqT.of h1) (.cons (.int _) (.cons (.str _) .nil))
theorem RtAt.sb {H : Hp} {v : V} {r : Rt} (h : RtAt H v r) : Sb (rtD r) 1 300 := by
  match r, h with
  | none, _ => exact sb_none.mono (by decide) (by decide)
  | some p, ⟨u, _, _, h1, h2⟩ =>
    refine (sb_tuple (k := 0) (m := 110) (ds := [.int p.1, .str p.2]) fun d hd => ?_).mono (by decide) (by simp)
    simp only [List.mem_cons, List.not_mem_nil, or_false] at hd
    rcases hd with rfl | rfl
    · exact sb_int h1
    · exact (sb_str h2.1 h2.2).mono (by decide) (by decide)
structure Sn where
  r : Rt
  n : Rt
  s : Int
def HoAt (C : Addr) (H : Hp) (c : Addr) (x : Sn) : Prop := ∃ dx rv nv, H c = some (.ins C dx (hf rv nv x.s)) ∧ RtAt H rv x.r ∧ RtAt H nv x.n
def RwAt (H : Hp) (c : Addr) (x : Sn) : Prop := ∃ rv nv, H c = some (.lst [rv, nv, .int x.s]) ∧ RtAt H rv x.r ∧ RtAt H nv x.n
inductive Oc
  | num | fls | tru | nul | nor
  | rgt (p : Int × Str)
def Oc.tag : Oc → Str
  | .num => "number"
  | .nor => "no right"
  | _ => "told"
def OcV (H : Hp) (v u : V) : Oc → Prop
  | .num => u = v
  | .fls => u = .bl false
  | .tru => u = .bl true
  | .nul => u = .non
  | .nor => u = .non
  | .rgt p => RtAt H u (some p)
def OcAt (H : Hp) (v : V) (o : Oc) (r : Addr) : Prop := ∃ u, H r = some (.tup [.str o.tag, u]) ∧ OcV H v u o
theorem OcV.up {H H' : Hp} {v u : V} {o : Oc} (h : OcV H v u o) (k : ∀ x ys, H x = some (.tup ys) → H' x = some (.tup ys)) : OcV H' v u o := by
  cases o with
  | rgt p => exact RtAt.up (r := some p) h k
  | _ => exact h
theorem OcAt.up {H H' : Hp} {v : V} {o : Oc} {r : Addr} (h : OcAt H v o r) (k : ∀ x ys, H x = some (.tup ys) → H' x = some (.tup ys)) : OcAt H' v o r :=
  let ⟨u, a, b⟩ := h; ⟨u, k _ _ a, b.up k⟩
def ocD (d : PyData) : Oc → PyData
  | .num => d
  | .fls => .bool false
  | .tru => .bool true
  | .nul => .none
  | .nor => .none
  | .rgt p => rtD (some p)
theorem OcAt.dp {K : PySem.W.Frag} {H : Hp} {v : V} {o : Oc} {r : Addr} {d : PyData} (h : OcAt H v o r) (hd : Dp K H v d) (sd : Sb d 1 300) : Dp K H (.ref r) (.tuple [.str o.tag, ocD d o]) ∧ Sb (.tuple [.str o.tag, ocD d o]) 2 700 := by
  obtain ⟨u, a, b⟩ := h
  have q : Dp K H u (ocD d o) ∧ Sb (ocD d o) 1 300 := by
    cases o with
    | num => obtain rfl : u = v := b; exact ⟨hd, sd⟩
    | fls => obtain rfl : u = .bl false := b; exact ⟨.bl _, (sb_bool _).mono (by decide) (by decide)⟩
    | tru => obtain rfl : u = .bl true := b; exact ⟨.bl _, (sb_bool _).mono (by decide) (by decide)⟩
    | nul => obtain rfl : u = .non := b; exact ⟨.non, sb_none.mono (by decide) (by decide)⟩
    | nor => obtain rfl : u = .non := b; exact ⟨.non, sb_none.mono (by decide) (by decide)⟩
    | rgt p => exact ⟨RtAt.dp (r := some p) b, RtAt.sb (r := some p) b⟩
  refine ⟨.tup (SqT.of a) (.cons (.str _) (.cons q.1 .nil)), (sb_tuple (k := 1) (m := 300) (fun e he => ?_)).mono (by decide) (by simp)⟩
  simp only [List.mem_cons, List.not_mem_nil, or_false] at he
  rcases he with rfl | rfl
  · cases o <;> exact (sb_str (good_of _) (by decide +kernel : _ ≤ 10)).mono (by decide) (by decide)
  · exact q.2
inductive Wk
  | got | note | use | give
def Wk.name : Wk → Str
  | .got => "got"
  | .note => "note"
  | .use => "use"
  | .give => "give"
def stp (w : Wk) (v : V) (z : Str) (x : Sn) : Oc × Sn :=
  match w with
  | .got => match v with
    | .int i => if i < 1 then (.num, x) else if i ≤ x.s then (.fls, x) else (.tru, ⟨some (i, z), x.n, i⟩)
    | _ => (.num, x)
  | .note => match v with
    | .int i => (.nul, ⟨x.r, some (i, z), x.s⟩)
    | _ => (.nul, x)
  | .use => match x.r with
    | none => (.nor, x)
    | some p => (.rgt p, ⟨none, x.n, x.s⟩)
  | .give => match x.r with
    | none => (.nor, x)
    | some p => (.rgt p, ⟨none, some p, x.s⟩)
theorem stp_bad {v : V} {z : Str} {x : Sn} (h : whg 1 v = false) : stp .got v z x = (.num, x) := by
  cases v with
  | int i =>
    have h' : ¬ 1 ≤ i := of_decide_eq_false h
    show (if i < 1 then _ else _) = _
    rw [if_pos (by omega)]
  | _ => rfl
structure DdAt (H : Hp) (d : Addr) (w : Wk) (v : V) (z : Str) : Prop where
  at_ : H d = some (.tup [.str w.name, v, .str z])
  th : Th H v
  nt : w = .note → ∃ i, v = .int i
  bd : ∀ i, v = .int i → i.natAbs < 10 ^ 31
  nm : Nm z
section
variable {P : Program} {w : World} {K : PySem.W.Frag} {mg : Str → Option Value} {base : Heap} {C CS fS CN fN CR fR : Addr} {fdS fdN fdR : FuncData}
abbrev s_law_said : Stmt := top 13
theorem sc_law_said : FnScope ["_law_holder", "_law_deed_here", "e"] ["_law_holder", "_law_deed_here"] (defScope s_law_said) := ⟨rfl, rfl, rfl, by decide +kernel, rfl, by decide +kernel, by decide +kernel⟩
def spSaid (C : Addr) : Sp := fun vs H Q _ => ∃ c d w v z x, vs = [.ref c, .ref d] ∧ HoAt C H c x ∧ DdAt H d w v z ∧
  ∀ r H', (∀ y o, y ≠ c → H y = some o → H' y = some o) → H r = none → OcAt H' v (stp w v z x).1 r → HoAt C H' c (stp w v z x).2 → Q (.ref r) H'
theorem ok_said {f f1 f2 f3 f4 : Addr} {fd fd1 fd2 fd3 fd4 : FuncData} (F : Fun K "_law_said" "_law_said" s_law_said f fd) (T : Txt mg) (TC : HolT K C) (ES : SeT K mg CS fS fdS sSE) (ENoNumber : ExC K mg "NoNumber" "NoNumber.__init__" sNoNumber CN fN fdN) (ENoRight : ExC K mg "NoRight" "NoRight.__init__" sNoRight CR fR fdR)
    (xRN : PySem.W.exmOne K (.ref CR) (.ref CN) = some false)
    (Mgot : Me K C "got" "Holder.got" s_got ["self", "number", "place"] f1 fd1) (Ggot : FnOk P w K mg base (CX P w) 4 f1 fd1 ["self", "number", "place"] (spGot C CN))
    (Mnote : Me K C "note" "Holder.note" s_note ["self", "number", "place"] f2 fd2) (Gnote : FnOk P w K mg base (CX P w) 1 f2 fd2 ["self", "number", "place"] (spNote C))
    (Muse : Me K C "use" "Holder.use" s_use ["self"] f3 fd3) (Guse : FnOk P w K mg base (CX P w) 4 f3 fd3 ["self"] (spUse C CR))
    (Mgive : Me K C "give" "Holder.give" s_give ["self"] f4 fd4) (Ggive : FnOk P w K mg base (CX P w) 5 f4 fd4 ["self"] (spGive C CR)) :
    FnOk P w K mg base CX0 6 f fd ["_law_holder", "_law_deed_here"] (spSaid C) := by
  refine F.ok sc_law_said (fun vs H Q E h => ?_) (fun cdv A outer s H vs Q E hr h => ?_)
  · obtain ⟨c, d, w, v, z, x, rfl, _⟩ := h
    rfl
  · obtain ⟨c, d, w, v, z, x, rfl, ⟨dx, rv, nv, hc, hr1, hn1⟩, ⟨hd, th, nt, bd, nm⟩, k⟩ := h
    refine ⟨_, pss_one (ps_try_cl rfl rfl sc_law_said.nd takes_never (.named (i := 2) (ts := fun a cls d => _) ⟨by rfl, by decide, .inl ENoNumber.g⟩ rfl (by rfl) (fun a oe cls d pn hz hf => (pss_one (ps_ret (pe_tup (pa_cons pe_str (pa_cons (pe_xf ENoNumber.x ENoNumber.n hz hf (pv 2)) pa_nil)))))) (.named (i := 2) (ts := fun a cls d => _) ⟨by rfl, by decide, .inl ENoRight.g⟩ rfl (by rfl) (fun a oe cls d pn hz hf => (pss_one (ps_ret (pe_tup (pa_cons pe_str (pa_cons (pe_xf ENoRight.x ENoRight.n hz hf (pv 2)) pa_nil)))))) .nil)) (fun W pn xe tk _ => (pss_cons (ps_if (pt_cmpR op_eq (pe_ix (ixT (K := K) rfl) (pv 1) pe_int (fun _ _ => rfl)) pe_str (nomark _)) (pss_one (ps_ret (pe_tup (pa_cons pe_str (pa_cons (pe_methX (pv 0) TC.cl Mgot.m Ggot (hr.mono (by decide)) Mgot.b (fun σ => passAt tk σ) (pa_cons (pe_ix (ixT (K := K) rfl) (pv 1) pe_int (fun _ _ => rfl)) (pa_cons (pe_ix (ixT (K := K) rfl) (pv 1) pe_int (fun _ _ => rfl)) pa_nil))) pa_nil))))) pss_nil)
            (pss_cons (ps_if (pt_cmpR op_eq (pe_ix (ixT (K := K) rfl) (pv 1) pe_int (fun _ _ => rfl)) pe_str (nomark _)) (pss_one (ps_ret (pe_tup (pa_cons pe_str (pa_cons (pe_methX (pv 0) TC.cl Mnote.m Gnote (hr.mono (by decide)) Mnote.b (fun σ => passAt tk σ) (pa_cons (pe_ix (ixT (K := K) rfl) (pv 1) pe_int (fun _ _ => rfl)) (pa_cons (pe_ix (ixT (K := K) rfl) (pv 1) pe_int (fun _ _ => rfl)) pa_nil))) pa_nil))))) pss_nil)
            (pss_cons (ps_if (pt_cmpR op_eq (pe_ix (ixT (K := K) rfl) (pv 1) pe_int (fun _ _ => rfl)) pe_str (nomark _)) (pss_one (ps_ret (pe_tup (pa_cons pe_str (pa_cons (pe_methX0 (pv 0) TC.cl Muse.m Guse (hr.mono (by decide)) Muse.b (fun σ => passAt tk σ)) pa_nil))))) pss_nil)
            (pss_one (ps_ret (pe_tup (pa_cons pe_str (pa_cons (pe_methX0 (pv 0) TC.cl Mgive.m Ggive (hr.mono (by decide)) Mgive.b (fun σ => passAt tk σ)) pa_nil)))))))))), ?_⟩
    have i0 : atI [V.str w.name, v, .str z] 0 = some (.str w.name) := rfl
    have i1 : atI [V.str w.name, v, .str z] 1 = some v := rfl
    have i2 : atI [V.str w.name, v, .str z] 2 = some (.str z) := rfl
    have q1 : ("got" == ("_right" : Str)) = false := by decide +kernel
    -- a refusal that is told
    have tell : ∀ {H' : Hp} {u : Addr} {o : Oc}, Same H H' → H' u = none → H' c = some (.ins C dx (hf rv nv x.s)) → ∀ (y : V), OcV H' v y o → o = (stp w v z x).1 → x = (stp w v z x).2 → Q (.ref u) (upd H' u (.tup [.str o.tag, y])) := by
      intro H' u o s nu hc' y ho e1 e2
      have s2 : Same H' (upd H' u (.tup [.str o.tag, y])) := same_new nu
      refine k u _ (fun y o _ h => s2 _ _ (s _ _ h)) (s.free nu) (e1 ▸ ⟨y, upd_same, ho.up fun x ys h => s2 _ _ h⟩) (e2 ▸ ⟨dx, rv, nv, s2 _ _ hc', hr1.up fun x ys h => s2 _ _ (s _ _ h), hn1.up fun x ys h => s2 _ _ (s _ _ h)⟩)
    refine ⟨_, rfl, d, _, _, _, rfl, rfl, SqT.of hd, i0, rfl, _, rfl, ?_⟩
    cases w with
    | got =>
      refine iteS (by decide +kernel) ?_
      refine ⟨_, rfl, c, dx, _, rfl, hc, hf_no _ _ _ (by decide +kernel) (by decide +kernel) (by decide +kernel), _, rfl, d, _, _, _, rfl, rfl, SqT.of hd, i1, _, rfl, d, _, _, _, rfl, rfl, SqT.of hd, i2, c, dx, rv, nv, x.s, v, .str z, rfl, hc, th, ?_, ?_, ?_⟩
      · rintro i rfl h1 h2
        refine ⟨(by show 2 ≤ sizeLine; decide), fun u nu => ?_⟩
        refine tell (o := .fls) (Same.refl H) nu hc (.bl false) rfl ?_ ?_
        · show _ = (if i < 1 then _ else if i ≤ x.s then _ else _ : Oc × Sn).1
          rw [if_neg (by omega), if_pos h2]
        · show _ = (if i < 1 then _ else if i ≤ x.s then _ else _ : Oc × Sn).2
          rw [if_neg (by omega), if_pos h2]
      · rintro i rfl h1 h2 u nu
        refine ⟨(by show 2 ≤ sizeLine; decide), fun r nr => ?_⟩
        have ncu : c ≠ u := ne_of_none hc nu
        have ncr : c ≠ r := ne_of_none upd_same nr
        have nur : u ≠ r := by
          rintro rfl
          rw [upd_ne ncu.symm, upd_same] at nr
          cases nr
        have kk : ∀ y o, y ≠ c → H y = some o → upd (upd (upd (upd H c (.ins C dx (hf rv nv i))) u (.tup [.int i, .str z])) c (.ins C dx (hf (.ref u) nv i))) r (.tup [.str "told", .bl true]) y = some o := fun y o nc h => by
          have h1 : upd (upd H c (.ins C dx (hf rv nv i))) u (.tup [.int i, .str z]) y = some o := by rw [upd_ne (ne_of_none h nu), upd_ne nc]; exact h
          have h2 : upd (upd (upd H c (.ins C dx (hf rv nv i))) u (.tup [.int i, .str z])) c (.ins C dx (hf (.ref u) nv i)) y = some o := by rw [upd_ne nc]; exact h1
          rw [upd_ne (ne_of_none h2 nr)]
          exact h2
        have e : stp .got (.int i) z x = (.tru, ⟨some (i, z), x.n, i⟩) := by
          show (if i < 1 then _ else if i ≤ x.s then _ else _) = _
          rw [if_neg (by omega), if_neg (by omega)]
        refine k r _ kk ?_ (by rw [e]; exact ⟨_, upd_same, rfl⟩) (by
          rw [e]
          refine ⟨dx, .ref u, nv, by rw [upd_ne ncr, upd_same], ⟨u, rfl, ?_, bd i rfl, nm⟩, hn1.up fun x ys h => kk _ _ (ne_of h hc (by simp)) h⟩
          rw [upd_ne nur, upd_ne ncu.symm, upd_same])
        cases q : H r with
        | none => rfl
        | some o =>
          rw [upd_ne ncr.symm, upd_ne nur.symm, upd_ne ncr.symm, q] at nr
          cases nr
      · intro hw e he
        refine ⟨true, ENoNumber.e, fun _ y hy => ?_, nofun⟩
        refine ⟨_, rfl, rfl, rfl, e, _, v, rfl, upd_same, rfl, (by show 2 ≤ sizeLine; decide), fun u hu => ?_⟩
        exact tell (o := .num) (same_new he) hu (same_new he _ _ hc) v rfl (by rw [stp_bad hw]) (by rw [stp_bad hw])
    | note =>
      obtain ⟨i, rfl⟩ := nt rfl
      refine iteN (by decide +kernel) ?_
      refine ⟨_, rfl, d, _, _, _, rfl, rfl, SqT.of hd, i0, rfl, _, rfl, iteS (by decide +kernel) ?_⟩
      refine ⟨_, rfl, c, dx, _, rfl, hc, hf_no _ _ _ (by decide +kernel) (by decide +kernel) (by decide +kernel), _, rfl, d, _, _, _, rfl, rfl, SqT.of hd, i1, _, rfl, d, _, _, _, rfl, rfl, SqT.of hd, i2, c, dx, rv, nv, x.s, i, .str z, rfl, hc, fun u nu => ?_⟩
      refine ⟨(by show 2 ≤ sizeLine; decide), fun r nr => ?_⟩
      have ncu : c ≠ u := ne_of_none hc nu
      have ncr : c ≠ r := ne_of_none upd_same nr
      have nur : u ≠ r := by
        rintro rfl
        rw [upd_ne ncu.symm, upd_same] at nr
        cases nr
      have kk : ∀ y o, y ≠ c → H y = some o → upd (upd (upd H u (.tup [.int i, .str z])) c (.ins C dx (hf rv (.ref u) x.s))) r (.tup [.str "told", .non]) y = some o := fun y o nc h => by
        have h2 : upd (upd H u (.tup [.int i, .str z])) c (.ins C dx (hf rv (.ref u) x.s)) y = some o := by rw [upd_ne nc, upd_ne (ne_of_none h nu)]; exact h
        rw [upd_ne (ne_of_none h2 nr)]
        exact h2
      refine k r _ kk ?_ ⟨_, upd_same, rfl⟩ ⟨dx, rv, .ref u, by rw [upd_ne ncr, upd_same]; rfl, hr1.up fun x ys h => kk _ _ (ne_of h hc (by simp)) h, ⟨u, rfl, ?_, bd i rfl, nm⟩⟩
      · cases q : H r with
        | none => rfl
        | some o =>
          rw [upd_ne ncr.symm, upd_ne nur.symm, q] at nr
          cases nr
      · rw [upd_ne nur, upd_ne ncu.symm, upd_same]
    | use =>
      refine iteN (by decide +kernel) ?_
      refine ⟨_, rfl, d, _, _, _, rfl, rfl, SqT.of hd, i0, rfl, _, rfl, iteN (by decide +kernel) ?_⟩
      refine ⟨_, rfl, d, _, _, _, rfl, rfl, SqT.of hd, i0, rfl, _, rfl, iteS (by decide +kernel) ?_⟩
      refine ⟨_, rfl, c, dx, _, rfl, hc, hf_no _ _ _ (by decide +kernel) (by decide +kernel) (by decide +kernel), c, dx, rv, nv, x.s, rfl, hc, fun hne => ?_, fun hno e he => ?_⟩
      · obtain ⟨p, hp⟩ : ∃ p, x.r = some p := by
          cases q : x.r with
          | none => rw [q] at hr1; exact absurd hr1 hne
          | some p => exact ⟨p, rfl⟩
        have e : stp .use v z x = (.rgt p, ⟨none, x.n, x.s⟩) := by
          show (match x.r with | none => _ | some p => _) = _
          rw [hp]
        rw [hp] at hr1
        refine ⟨(by show 2 ≤ sizeLine; decide), fun r nr => ?_⟩
        have ncr : c ≠ r := ne_of_none upd_same nr
        have kk : ∀ y o, y ≠ c → H y = some o → upd (upd H c (.ins C dx (hf .non nv x.s))) r (.tup [.str "told", rv]) y = some o := fun y o nc h => by
          have h2 : upd H c (.ins C dx (hf .non nv x.s)) y = some o := by rw [upd_ne nc]; exact h
          rw [upd_ne (ne_of_none h2 nr)]
          exact h2
        refine k r _ kk (by rw [upd_ne ncr.symm] at nr; exact nr) (by rw [e]; exact ⟨rv, upd_same, RtAt.up (r := some p) hr1 fun x ys h => kk _ _ (ne_of h hc (by simp)) h⟩) (by
          rw [e]
          exact ⟨dx, .non, nv, by rw [upd_ne ncr, upd_same], rfl, hn1.up fun x ys h => kk _ _ (ne_of h hc (by simp)) h⟩)
      · have hx : x.r = none := by
          cases q : x.r with
          | none => rfl
          | some p =>
            rw [q] at hr1
            obtain ⟨u, e, _⟩ := hr1
            rw [hno] at e
            cases e
        refine ⟨false, xRN, nofun, fun _ => ⟨true, ENoRight.e, fun _ y hy => ?_, nofun⟩⟩
        refine ⟨_, rfl, rfl, rfl, e, _, .non, rfl, upd_same, rfl, (by show 2 ≤ sizeLine; decide), fun u hu => ?_⟩
        have es : stp .use v z x = (.nor, x) := by
          show (match x.r with | none => _ | some p => _) = _
          rw [hx]
        exact tell (o := .nor) (same_new he) hu (same_new he _ _ hc) .non rfl (by rw [es]) (by rw [es])
    | give =>
      refine iteN (by decide +kernel) ?_
      refine ⟨_, rfl, d, _, _, _, rfl, rfl, SqT.of hd, i0, rfl, _, rfl, iteN (by decide +kernel) ?_⟩
      refine ⟨_, rfl, d, _, _, _, rfl, rfl, SqT.of hd, i0, rfl, _, rfl, iteN (by decide +kernel) ?_⟩
      refine ⟨_, rfl, c, dx, _, rfl, hc, hf_no _ _ _ (by decide +kernel) (by decide +kernel) (by decide +kernel), c, dx, rv, nv, x.s, rfl, hc, fun hne => ?_, fun hno e he => ?_⟩
      · obtain ⟨p, hp⟩ : ∃ p, x.r = some p := by
          cases q : x.r with
          | none => rw [q] at hr1; exact absurd hr1 hne
          | some p => exact ⟨p, rfl⟩
        have e : stp .give v z x = (.rgt p, ⟨none, some p, x.s⟩) := by
          show (match x.r with | none => _ | some p => _) = _
          rw [hp]
        rw [hp] at hr1
        rw [upd_upd]
        refine ⟨(by show 2 ≤ sizeLine; decide), fun r nr => ?_⟩
        have ncr : c ≠ r := ne_of_none upd_same nr
        have kk : ∀ y o, y ≠ c → H y = some o → upd (upd H c (.ins C dx (hf .non rv x.s))) r (.tup [.str "told", rv]) y = some o := fun y o nc h => by
          have h2 : upd H c (.ins C dx (hf .non rv x.s)) y = some o := by rw [upd_ne nc]; exact h
          rw [upd_ne (ne_of_none h2 nr)]
          exact h2
        have hr2 := RtAt.up (r := some p) hr1 (H' := upd (upd H c (.ins C dx (hf .non rv x.s))) r (.tup [.str "told", rv])) fun x ys h => kk _ _ (ne_of h hc (by simp)) h
        refine k r _ kk (by rw [upd_ne ncr.symm] at nr; exact nr) (by rw [e]; exact ⟨rv, upd_same, hr2⟩) (by
          rw [e]
          exact ⟨dx, .non, rv, by rw [upd_ne ncr, upd_same], rfl, hr2⟩)
      · have hx : x.r = none := by
          cases q : x.r with
          | none => rfl
          | some p =>
            rw [q] at hr1
            obtain ⟨u, e, _⟩ := hr1
            rw [hno] at e
            cases e
        refine ⟨false, xRN, nofun, fun _ => ⟨true, ENoRight.e, fun _ y hy => ?_, nofun⟩⟩
        refine ⟨_, rfl, rfl, rfl, e, _, .non, rfl, upd_same, rfl, (by show 2 ≤ sizeLine; decide), fun u hu => ?_⟩
        have es : stp .give v z x = (.nor, x) := by
          show (match x.r with | none => _ | some p => _) = _
          rw [hx]
        exact tell (o := .nor) (same_new he) hu (same_new he _ _ hc) .non rfl (by rw [es]) (by rw [es])
end
end K22

set_option maxRecDepth 100000
set_option maxHeartbeats 400000
namespace K22
open PySem PySem.Spec PyProof.Rows L2 GxR Gd TL My
section
variable {P : Program} {w : World} {K : PySem.W.Frag} {mg : Str → Option Value} {base : Heap} {C : Addr}
abbrev s_law_done : Stmt := top 14
theorem sc_law_done : FnScope ["_law_row", "_law_deed_here", "_law_word", "_law_number", "_law_place", "_law_right"] ["_law_row", "_law_deed_here"] (defScope s_law_done) := ⟨rfl, rfl, rfl, by decide +kernel, rfl, by decide +kernel, by decide +kernel⟩
def spDone : Sp := fun vs H Q _ => ∃ ρ d w v z x, vs = [.ref ρ, .ref d] ∧ RwAt H ρ x ∧ DdAt H d w v z ∧
  ∀ r H', (∀ y o, y ≠ ρ → H y = some o → H' y = some o) → H r = none → OcAt H' v (stp w v z x).1 r → RwAt H' ρ (stp w v z x).2 → Q (.ref r) H'
theorem ok_done {f : Addr} {fd : FuncData} (F : Fun K "_law_done" "_law_done" s_law_done f fd) (T : Txt mg) : FnOk P w K mg base CX0 1 f fd ["_law_row", "_law_deed_here"] spDone := by
  refine F.ok sc_law_done (fun vs H Q E h => ?_) (fun cdv A outer s H vs Q E hr h => ?_)
  · obtain ⟨ρ, d, w, v, z, x, rfl, _⟩ := h
    rfl
  · obtain ⟨ρ, d, w, v, z, x, rfl, ⟨rv, nv, hρ, hr1, hn1⟩, ⟨hd, th, nt, bd, nm⟩, k⟩ := h
    refine ⟨_, pss_cons (ps_asg (pv 1) (pg_tup (by rfl) (pgs_cons (pg_name (i := 2) sc_law_done.nd rfl (Or.inl rfl)) (pgs_cons (pg_name (i := 3) sc_law_done.nd rfl (Or.inl rfl)) (pgs_cons (pg_name (i := 4) sc_law_done.nd rfl (Or.inl rfl)) pgs_nil)))))
      (pss_cons (ps_if (pt_cmpR op_eq (pv 2) pe_str (nomark _)) (pss_cons (ps_if (PW.pt (pw_or (pt_not (pt_val (pe_callB call_isi (by rfl) T.isinstance_ (by decide +kernel) (pa_cons (pv 3) (pa_cons (pe_bltn (v := .ty "int") (by rfl) T.int_ (by decide +kernel) rfl) pa_nil))))) (pw_or (pt_val (pe_callB call_isi (by rfl) T.isinstance_ (by decide +kernel) (pa_cons (pv 3) (pa_cons (pe_bltn (v := .ty "bool") (by rfl) T.bool_ (by decide +kernel) rfl) pa_nil)))) (pw_or1 (pt_cmpR op_lt (pv 3) pe_int (nomark _)))))) (pss_one (ps_ret (pe_tup (pa_cons pe_str (pa_cons (pv 3) pa_nil))))) pss_nil)
          (pss_cons (ps_if (pt_cmpR op_le (pv 3) (pe_ix ix_list (pv 0) pe_int (fun _ _ => rfl)) (nomark _)) (pss_one (ps_ret (pe_tup (pa_cons pe_str (pa_cons pe_bl pa_nil))))) pss_nil)
          (pss_cons (ps_asg (pe_tup (pa_cons (pv 3) (pa_cons (pv 4) pa_nil))) (pg_sub (pv 0) pe_int set_list))
          (pss_cons (ps_asg (pv 3) (pg_sub (pv 0) pe_int set_list))
          (pss_one (ps_ret (pe_tup (pa_cons pe_str (pa_cons pe_bl pa_nil))))))))) pss_nil)
      (pss_cons (ps_if (pt_cmpR op_eq (pv 2) pe_str (nomark _)) (pss_cons (ps_asg (pe_tup (pa_cons (pv 3) (pa_cons (pv 4) pa_nil))) (pg_sub (pv 0) pe_int set_list))
          (pss_one (ps_ret (pe_tup (pa_cons pe_str (pa_cons pe_non pa_nil)))))) pss_nil)
      (pss_cons (ps_set (i := 5) sc_law_done.nd rfl (Or.inl rfl) (pe_ix ix_list (pv 0) pe_int (fun _ _ => rfl)))
      (pss_cons (ps_if (pt_cmpR op_isN (pv 5) pe_non (nomark _)) (pss_one (ps_ret (pe_tup (pa_cons pe_str (pa_cons pe_non pa_nil))))) pss_nil)
      (pss_cons (ps_asg pe_non (pg_sub (pv 0) pe_int set_list))
      (pss_cons (ps_if (pt_cmpR op_eq (pv 2) pe_str (nomark _)) (pss_one (ps_asg (pv 5) (pg_sub (pv 0) pe_int set_list))) pss_nil)
      (pss_one (ps_ret (pe_tup (pa_cons pe_str (pa_cons (pv 5) pa_nil))))))))))), ?_⟩
    have j0 : atI [rv, nv, .int x.s] 0 = some rv := rfl
    have j2 : atI [rv, nv, .int x.s] 2 = some (.int x.s) := rfl
    have s0 : ixN 3 0 = some 0 := rfl
    have s1 : ixN 3 1 = some 1 := rfl
    have s2 : ixN 3 2 = some 2 := rfl
    -- what is told of rows that are these
    have tell : ∀ {u : Addr} {o : Oc}, H u = none → ∀ (y : V), OcV H v y o → o = (stp w v z x).1 → x = (stp w v z x).2 → Q (.ref u) (upd H u (.tup [.str o.tag, y])) := by
      intro u o nu y ho e1 e2
      have s2 : Same H (upd H u (.tup [.str o.tag, y])) := same_new nu
      exact k u _ (fun y o _ h => s2 _ _ h) nu (e1 ▸ ⟨y, upd_same, ho.up fun x ys h => s2 _ _ h⟩) (e2 ▸ ⟨rv, nv, s2 _ _ hρ, hr1.up fun x ys h => s2 _ _ h, hn1.up fun x ys h => s2 _ _ h⟩)
    refine ⟨_, rfl, d, _, rfl, SqT.of hd, rfl, _, _, rfl, _, _, rfl, _, _, rfl, rfl, ?_⟩
    refine ⟨_, rfl, rfl, _, rfl, ?_⟩
    cases w with
    | got =>
      refine iteS (by decide +kernel) ?_
      obtain ⟨t, ty, cs⟩ := th.ty (K := K)
      have bad : whg 1 v = false → (fun (G : Prop) => G) (tRet (tTup (tCons (tC (.str "number")) (tCons (tVar 3) tNil))) { nx := fun _ H' => Q .non H', rt := Q } [some (.ref ρ), some (.ref d), some (.str "got"), some v, some (.str z), none] H) := fun hw =>
        ⟨_, rfl, (by show 2 ≤ sizeLine; decide), fun u hu => tell (o := .num) hu v rfl (by rw [stp_bad hw]) (by rw [stp_bad hw])⟩
      rcases cs with ⟨i, rfl, rfl⟩ | ⟨b, rfl, rfl⟩ | ⟨y, rfl, _, rfl⟩ | ⟨n1, n2, n3, ht⟩
      · refine ⟨_, rfl, _, _, _, _, true, rfl, .ty "int", ty, (by rfl), _, rfl, iteF ?_⟩
        refine ⟨_, rfl, _, _, _, _, false, rfl, .ty "bool", ty, (by rfl), _, rfl, iteF ?_⟩
        refine ⟨_, rfl, _, _, rfl, rfl, _, rfl, ite2 (fun c => ?_) (fun c => ?_)⟩
        · have c' : i < 1 := of_decide_eq_true c
          exact bad (decide_eq_false (by omega))
        have c' : ¬ i < 1 := fun q => c (decide_eq_true q)
        refine ⟨_, rfl, _, rfl, ρ, _, _, _, rfl, rfl, SqL.of hρ, j2, _, _, rfl, rfl, _, rfl, ite2 (fun c2 => ?_) (fun c2 => ?_)⟩
        · have c2' : i ≤ x.s := of_decide_eq_true c2
          refine ⟨(by show 2 ≤ sizeLine; decide), fun u hu => tell (o := .fls) hu (.bl false) rfl ?_ ?_⟩
          · show _ = (if i < 1 then _ else if i ≤ x.s then _ else _ : Oc × Sn).1
            rw [if_neg c', if_pos c2']
          · show _ = (if i < 1 then _ else if i ≤ x.s then _ else _ : Oc × Sn).2
            rw [if_neg c', if_pos c2']
        have c2' : ¬ i ≤ x.s := fun q => c2 (decide_eq_true q)
        have e : stp .got (.int i) z x = (.tru, ⟨some (i, z), x.n, i⟩) := by
          show (if i < 1 then _ else if i ≤ x.s then _ else _) = _
          rw [if_neg c', if_neg c2']
        refine ⟨_, rfl, _, rfl, (by show 2 ≤ sizeLine; decide), fun u nu => ?_⟩
        have nρu : ρ ≠ u := ne_of_none hρ nu
        refine ⟨_, rfl, ρ, [rv, nv, .int x.s], _, _, rfl, rfl, (by rw [upd_ne nρu]; exact hρ), s0, ?_⟩
        refine ⟨_, rfl, _, rfl, ρ, _, _, _, rfl, rfl, upd_same, s2, ?_⟩
        rw [upd_upd]
        refine ⟨(by show 2 ≤ sizeLine; decide), fun r nr => ?_⟩
        have nρr : ρ ≠ r := ne_of_none upd_same nr
        have nur : u ≠ r := by
          rintro rfl
          rw [upd_ne nρu.symm, upd_same] at nr
          cases nr
        have kk : ∀ y o, y ≠ ρ → H y = some o → upd (upd (upd H u (.tup [.int i, .str z])) ρ (.lst (([rv, nv, V.int x.s].set 0 (.ref u)).set 2 (.int i)))) r (.tup [.str "told", .bl true]) y = some o := fun y o nc h => by
          have h2 : upd (upd H u (.tup [.int i, .str z])) ρ (.lst (([rv, nv, V.int x.s].set 0 (.ref u)).set 2 (.int i))) y = some o := by rw [upd_ne nc, upd_ne (ne_of_none h nu)]; exact h
          rw [upd_ne (ne_of_none h2 nr)]
          exact h2
        refine k r _ kk ?_ (by rw [e]; exact ⟨_, upd_same, rfl⟩) (by
          rw [e]
          exact ⟨.ref u, nv, by rw [upd_ne nρr, upd_same]; rfl, ⟨u, rfl, by rw [upd_ne nur, upd_ne nρu.symm, upd_same], bd i rfl, nm⟩, hn1.up fun x ys h => kk _ _ (ne_of h hρ (by simp)) h⟩)
        cases q : H r with
        | none => rfl
        | some o =>
          rw [upd_ne nρr.symm, upd_ne nur.symm, q] at nr
          cases nr
      · refine ⟨_, rfl, _, _, _, _, true, rfl, .ty "int", ty, (by rfl), _, rfl, iteF ?_⟩
        refine ⟨_, rfl, _, _, _, _, true, rfl, .ty "bool", ty, (by rfl), _, rfl, iteT ?_⟩
        exact bad rfl
      · refine ⟨_, rfl, _, _, _, _, false, rfl, .ty "int", ty, (by rfl), _, rfl, iteT ?_⟩
        exact bad rfl
      · have e : whg 1 v = false := by
          cases v with
          | int i => exact absurd rfl (n1 i)
          | _ => rfl
        rcases ht with rfl | rfl | rfl | rfl
        all_goals
          refine ⟨_, rfl, _, _, _, _, false, rfl, .ty "int", ty, (by rfl), _, rfl, iteT ?_⟩
          exact bad e
    | note =>
      obtain ⟨i, rfl⟩ := nt rfl
      refine iteN (by decide +kernel) ?_
      refine ⟨_, rfl, rfl, _, rfl, iteS (by decide +kernel) ?_⟩
      refine ⟨_, rfl, _, rfl, (by show 2 ≤ sizeLine; decide), fun u nu => ?_⟩
      have nρu : ρ ≠ u := ne_of_none hρ nu
      refine ⟨_, rfl, ρ, [rv, nv, .int x.s], _, _, rfl, rfl, (by rw [upd_ne nρu]; exact hρ), s1, ?_⟩
      refine ⟨(by show 2 ≤ sizeLine; decide), fun r nr => ?_⟩
      have nρr : ρ ≠ r := ne_of_none upd_same nr
      have nur : u ≠ r := by
        rintro rfl
        rw [upd_ne nρu.symm, upd_same] at nr
        cases nr
      have kk : ∀ y o, y ≠ ρ → H y = some o → upd (upd (upd H u (.tup [.int i, .str z])) ρ (.lst ([rv, nv, V.int x.s].set 1 (.ref u)))) r (.tup [.str "told", .non]) y = some o := fun y o nc h => by
        have h2 : upd (upd H u (.tup [.int i, .str z])) ρ (.lst ([rv, nv, V.int x.s].set 1 (.ref u))) y = some o := by rw [upd_ne nc, upd_ne (ne_of_none h nu)]; exact h
        rw [upd_ne (ne_of_none h2 nr)]
        exact h2
      refine k r _ kk ?_ ⟨_, upd_same, rfl⟩ ⟨rv, .ref u, by rw [upd_ne nρr, upd_same]; rfl, hr1.up fun x ys h => kk _ _ (ne_of h hρ (by simp)) h, ⟨u, rfl, by rw [upd_ne nur, upd_ne nρu.symm, upd_same], bd i rfl, nm⟩⟩
      cases q : H r with
      | none => rfl
      | some o =>
        rw [upd_ne nρr.symm, upd_ne nur.symm, q] at nr
        cases nr
    | use =>
      refine iteN (by decide +kernel) ?_
      refine ⟨_, rfl, rfl, _, rfl, iteN (by decide +kernel) ?_⟩
      refine ⟨_, rfl, ρ, _, _, _, rfl, rfl, SqL.of hρ, j0, ?_⟩
      refine ⟨_, rfl, rfl, _, rfl, ite2 (fun c => ?_) (fun c => ?_)⟩
      · have hx : x.r = none := by
          cases q : x.r with
          | none => rfl
          | some p =>
            rw [q] at hr1
            obtain ⟨u, e, _⟩ := hr1
            rw [e] at c
            cases c
        have es : stp .use v z x = (.nor, x) := by
          show (match x.r with | none => _ | some p => _) = _
          rw [hx]
        exact ⟨(by show 2 ≤ sizeLine; decide), fun u hu => tell (o := .nor) hu .non rfl (by rw [es]) (by rw [es])⟩
      · obtain ⟨p, hp⟩ : ∃ p, x.r = some p := by
          cases q : x.r with
          | none => rw [q] at hr1; exact absurd (decide_eq_true (show rv = .non from hr1)) c
          | some p => exact ⟨p, rfl⟩
        have e : stp .use v z x = (.rgt p, ⟨none, x.n, x.s⟩) := by
          show (match x.r with | none => _ | some p => _) = _
          rw [hp]
        rw [hp] at hr1
        refine ⟨_, rfl, ρ, _, _, _, rfl, rfl, hρ, s0, ?_⟩
        refine ⟨_, rfl, rfl, _, rfl, iteN (by decide +kernel) ?_⟩
        refine ⟨_, rfl, (by show 2 ≤ sizeLine; decide), fun r nr => ?_⟩
        have nρr : ρ ≠ r := ne_of_none upd_same nr
        have kk : ∀ y o, y ≠ ρ → H y = some o → upd (upd H ρ (.lst ([rv, nv, V.int x.s].set 0 .non))) r (.tup [.str "told", rv]) y = some o := fun y o nc h => by
          have h2 : upd H ρ (.lst ([rv, nv, V.int x.s].set 0 .non)) y = some o := by rw [upd_ne nc]; exact h
          rw [upd_ne (ne_of_none h2 nr)]
          exact h2
        exact k r _ kk (by rw [upd_ne nρr.symm] at nr; exact nr) (by rw [e]; exact ⟨rv, upd_same, RtAt.up (r := some p) hr1 fun x ys h => kk _ _ (ne_of h hρ (by simp)) h⟩) (by
          rw [e]
          exact ⟨.non, nv, by rw [upd_ne nρr, upd_same]; rfl, rfl, hn1.up fun x ys h => kk _ _ (ne_of h hρ (by simp)) h⟩)
    | give =>
      refine iteN (by decide +kernel) ?_
      refine ⟨_, rfl, rfl, _, rfl, iteN (by decide +kernel) ?_⟩
      refine ⟨_, rfl, ρ, _, _, _, rfl, rfl, SqL.of hρ, j0, ?_⟩
      refine ⟨_, rfl, rfl, _, rfl, ite2 (fun c => ?_) (fun c => ?_)⟩
      · have hx : x.r = none := by
          cases q : x.r with
          | none => rfl
          | some p =>
            rw [q] at hr1
            obtain ⟨u, e, _⟩ := hr1
            rw [e] at c
            cases c
        have es : stp .give v z x = (.nor, x) := by
          show (match x.r with | none => _ | some p => _) = _
          rw [hx]
        exact ⟨(by show 2 ≤ sizeLine; decide), fun u hu => tell (o := .nor) hu .non rfl (by rw [es]) (by rw [es])⟩
      · obtain ⟨p, hp⟩ : ∃ p, x.r = some p := by
          cases q : x.r with
          | none => rw [q] at hr1; exact absurd (decide_eq_true (show rv = .non from hr1)) c
          | some p => exact ⟨p, rfl⟩
        have e : stp .give v z x = (.rgt p, ⟨none, some p, x.s⟩) := by
          show (match x.r with | none => _ | some p => _) = _
          rw [hp]
        rw [hp] at hr1
        refine ⟨_, rfl, ρ, _, _, _, rfl, rfl, hρ, s0, ?_⟩
        refine ⟨_, rfl, rfl, _, rfl, iteS (by decide +kernel) ?_⟩
        refine ⟨_, rfl, _, rfl, ρ, _, _, _, rfl, rfl, upd_same, s1, ?_⟩
        rw [upd_upd]
        refine ⟨_, rfl, (by show 2 ≤ sizeLine; decide), fun r nr => ?_⟩
        have nρr : ρ ≠ r := ne_of_none upd_same nr
        have kk : ∀ y o, y ≠ ρ → H y = some o → upd (upd H ρ (.lst (([rv, nv, V.int x.s].set 0 .non).set 1 rv))) r (.tup [.str "told", rv]) y = some o := fun y o nc h => by
          have h2 : upd H ρ (.lst (([rv, nv, V.int x.s].set 0 .non).set 1 rv)) y = some o := by rw [upd_ne nc]; exact h
          rw [upd_ne (ne_of_none h2 nr)]
          exact h2
        have hr2 := RtAt.up (r := some p) hr1 (H' := upd (upd H ρ (.lst (([rv, nv, V.int x.s].set 0 .non).set 1 rv))) r (.tup [.str "told", rv])) fun x ys h => kk _ _ (ne_of h hρ (by simp)) h
        exact k r _ kk (by rw [upd_ne nρr.symm] at nr; exact nr) (by rw [e]; exact ⟨rv, upd_same, hr2⟩) (by
          rw [e]
          exact ⟨.non, rv, by rw [upd_ne nρr, upd_same]; rfl, rfl, hr2⟩)
end
end K22

set_option maxRecDepth 100000
set_option maxHeartbeats 400000
namespace K22
open PySem PySem.Spec PyProof.Rows L2 GxR Gd TL My
/-- a thing handed in as a number: what it is -/
inductive Vk (H0 H : Hp) : V → PyData → Prop
  | int (i : Int) (h : i.natAbs < 10 ^ 31) : Vk H0 H (.int i) (.int i)
  | bl (b : Bool) : Vk H0 H (.bl b) (.bool b)
  | non : Vk H0 H .non .none
  | str : Vk H0 H (.str "1") (.str "1")
  | lst (l : Addr) (n : H0 l = none) (h : H l = some (.lst [.int 1])) : Vk H0 H (.ref l) (.list [.int 1])
  | tup (u : Addr) (h : H u = some (.tup [.int 1])) : Vk H0 H (.ref u) (.tuple [.int 1])
theorem Vk.th {H0 H : Hp} {v : V} {d : PyData} (h : Vk H0 H v d) : Th H v := by
  cases h with
  | int i h => exact .int i
  | bl b => exact .bl b
  | non => exact .non
  | str => exact .str _ (by decide +kernel) (good_of _)
  | lst l n h => exact .lst _ _ h
  | tup u h => exact .tup _ _ h
theorem bx3 {b ρ : Addr} {n : Int} {H : Hp} {x : Sn} (hb : Bx b n H) (h : RwAt H ρ x) : ρ ≠ b := by
  rintro rfl
  obtain ⟨x1, y, z, e, _⟩ := hb
  obtain ⟨rv, nv, e2, h1, h2⟩ := h
  rw [e] at e2
  injection e2 with e2
  injection e2 with e2
  injection e2 with e3 e4
  cases q : x.r with
  | none => rw [q] at h1; rw [← e3] at h1; cases h1
  | some p => rw [q] at h1; obtain ⟨u, e, _⟩ := h1; rw [← e3] at e; cases e
theorem kb_rw {b ρ : Addr} {n : Int} {H H' : Hp} {x : Sn} (k : KB b H H') (hb : Bx b n H) (h : RwAt H ρ x) : RwAt H' ρ x := by
  have nb := bx3 hb h
  obtain ⟨x1, y, z, e, _⟩ := hb
  obtain ⟨rv, nv, e2, h1, h2⟩ := h
  exact ⟨rv, nv, k _ _ nb e2, h1.up fun x ys h => k _ _ (ne_of h e (by simp)) h, h2.up fun x ys h => k _ _ (ne_of h e (by simp)) h⟩
section
variable {P : Program} {w : World} {K : PySem.W.Frag} {mg : Str → Option Value} {base : Heap} {C : Addr}
abbrev s_law_deed : Stmt := top 15
theorem sc_law_deed : FnScope ["_law_box_here", "_law_names_here", "_law_row", "_law_word", "_law_place", "_law_some", "_law_many", "_law_odd"] ["_law_box_here", "_law_names_here", "_law_row"] (defScope s_law_deed) := ⟨rfl, rfl, rfl, by decide +kernel, rfl, by decide +kernel, by decide +kernel⟩
def spDeed : Sp := fun vs H Q _ => ∃ (b a ρ : Addr) (n : Int) (ns : List Str) (x : Sn), vs = [.ref b, .ref a, .ref ρ] ∧ Bx b n H ∧ n ≤ 90000 ∧ a ≠ b ∧ H a = some (.lst (ns.map V.str)) ∧ ns.length = 4 ∧ (∀ z ∈ ns, Nm z) ∧ RwAt H ρ x ∧ 0 ≤ x.s ∧ x.s < 10 ^ 30 ∧
  ∀ d H' w v z dv, KB b H H' → Bx b (n + 10) H' → H d = none → DdAt H' d w v z → Vk H H' v dv → (∀ i, v = .int i → i < 10 ^ 30) → Q (.ref d) H'
theorem ok_deed {f fT : Addr} {fd fdT : FuncData} (F : Fun K "_law_deed" "_law_deed" s_law_deed f fd) (T : Txt mg)
    (Nlaw_take : Fn K mg "_law_take" sTake ["_law_box_here", "_law_many"] fT fdT) (Glaw_take : FnOk P w K mg base CX0 1 fT fdT ["_law_box_here", "_law_many"] spTake) :
    FnOk P w K mg base CX0 2 f fd ["_law_box_here", "_law_names_here", "_law_row"] spDeed := by
  refine F.ok sc_law_deed (fun vs H Q E h => ?_) (fun cdv A outer s H vs Q E hr h => ?_)
  · obtain ⟨b, a, ρ, n, ns, x, rfl, _⟩ := h
    rfl
  · obtain ⟨b, a, ρ, n, ns, x, rfl, hb, hn, nab, ha, l4, hnm, hρ, s0, s1, k⟩ := h
    refine ⟨_, pss_cons (ps_set (i := 3) sc_law_deed.nd rfl (Or.inl rfl) (pe_ix ix_list (pe_lst (pa_cons pe_str (pa_cons pe_str (pa_cons pe_str (pa_cons pe_str (pa_cons pe_str (pa_cons pe_str pa_nil))))))) (pe_call Glaw_take (hr.mono (by decide)) (by rfl) Nlaw_take.g Nlaw_take.kp Nlaw_take.b .nil pass0 (pa_cons (pv 0) (pa_cons pe_int pa_nil))) (fun _ _ => rfl)))
      (pss_cons (ps_set (i := 4) sc_law_deed.nd rfl (Or.inl rfl) (pe_ix ix_list (pv 1) (pe_call Glaw_take (hr.mono (by decide)) (by rfl) Nlaw_take.g Nlaw_take.kp Nlaw_take.b .nil pass0 (pa_cons (pv 0) (pa_cons pe_int pa_nil))) (fun _ _ => rfl)))
      (pss_cons (ps_set (i := 5) sc_law_deed.nd rfl (Or.inl rfl) (pe_lst (pa_cons (pe_op op_add (pe_ix ix_list (pv 2) pe_int (fun _ _ => rfl)) pe_int) (pa_cons (pe_op op_add (pe_op op_add (pe_ix ix_list (pv 2) pe_int (fun _ _ => rfl)) pe_int) (pe_call Glaw_take (hr.mono (by decide)) (by rfl) Nlaw_take.g Nlaw_take.kp Nlaw_take.b .nil pass0 (pa_cons (pv 0) (pa_cons pe_int pa_nil)))) (pa_cons (pe_callB (call_max2 rfl) (by rfl) T.max_ (by decide +kernel) (pa_cons pe_int (pa_cons (pe_ix ix_list (pv 2) pe_int (fun _ _ => rfl)) pa_nil))) (pa_cons pe_int (pa_cons (pe_op op_add pe_int (pe_call Glaw_take (hr.mono (by decide)) (by rfl) Nlaw_take.g Nlaw_take.kp Nlaw_take.b .nil pass0 (pa_cons (pv 0) (pa_cons pe_int pa_nil)))) (pa_cons (pe_op op_sub (pe_op op_pow pe_int pe_int) pe_int) pa_nil))))))))
      (pss_cons (ps_set (i := 6) sc_law_deed.nd rfl (Or.inl rfl) (pe_callB (call_min2 rfl) (by rfl) T.min_ (by decide +kernel) (pa_cons (pe_ix ix_list (pv 5) (pe_call Glaw_take (hr.mono (by decide)) (by rfl) Nlaw_take.g Nlaw_take.kp Nlaw_take.b .nil pass0 (pa_cons (pv 0) (pa_cons pe_int pa_nil))) (fun _ _ => rfl)) (pa_cons (pe_op op_sub (pe_op op_pow pe_int pe_int) pe_int) pa_nil))))
      (pss_cons (ps_set (i := 7) sc_law_deed.nd rfl (Or.inl rfl) (pe_ix ix_list (pe_lst (pa_cons pe_int (pa_cons (pe_un un_neg pe_int) (pa_cons pe_bl (pa_cons pe_non (pa_cons pe_str (pa_cons (pe_lst (pa_cons pe_int pa_nil)) (pa_cons (pe_tup (pa_cons pe_int pa_nil)) (pa_cons pe_bl pa_nil))))))))) (pe_call Glaw_take (hr.mono (by decide)) (by rfl) Nlaw_take.g Nlaw_take.kp Nlaw_take.b .nil pass0 (pa_cons (pv 0) (pa_cons pe_int pa_nil))) (fun _ _ => rfl)))
      (pss_one (ps_ret (pe_tup (pa_cons (pv 3) (pa_cons (pe_ifExp (PW.pt (pw_and (pt_cmpR op_eq (pv 3) pe_str (nomark _)) (pw_and1 (pt_cmpR op_eq (pe_call Glaw_take (hr.mono (by decide)) (by rfl) Nlaw_take.g Nlaw_take.kp Nlaw_take.b .nil pass0 (pa_cons (pv 0) (pa_cons pe_int pa_nil))) pe_int (nomark _))))) (pv 7) (pv 6)) (pa_cons (pv 4) pa_nil)))))))))), ?_⟩
    have six : (6 : Nat) ≤ sizeLine := by decide
    refine ⟨six, fun L1 n1 => ?_⟩
    have k1 : KB b H (upd H L1 (.lst [.str "got", .str "got", .str "got", .str "use", .str "give", .str "note"])) := KB.alloc n1
    have b1 := hb.alloc (o := .lst [.str "got", .str "got", .str "got", .str "use", .str "give", .str "note"]) n1
    have e1 : upd H L1 (.lst [.str "got", .str "got", .str "got", .str "use", .str "give", .str "note"]) L1 = some (.lst [.str "got", .str "got", .str "got", .str "use", .str "give", .str "note"]) := upd_same
    have nb1 := hb.fresh n1
    generalize upd H L1 (.lst [.str "got", .str "got", .str "got", .str "use", .str "give", .str "note"]) = H1 at k1 b1 e1 ⊢
    refine ⟨_, rfl, b, 6, n, rfl, b1, by omega, by decide, by decide, fun d1 H2 p0 p1 off2 b2 => ?_⟩
    obtain ⟨vw, hvw, evw⟩ := atI_ex (xs := [V.str "got", .str "got", .str "got", .str "use", .str "give", .str "note"]) p0 p1
    obtain ⟨w, rfl⟩ : ∃ w : Wk, vw = .str w.name := by
      simp only [List.mem_cons, List.not_mem_nil, or_false] at hvw
      rcases hvw with rfl | rfl | rfl | rfl | rfl | rfl
      · exact ⟨.got, rfl⟩
      · exact ⟨.got, rfl⟩
      · exact ⟨.got, rfl⟩
      · exact ⟨.use, rfl⟩
      · exact ⟨.give, rfl⟩
      · exact ⟨.note, rfl⟩
    have k2 : KB b H H2 := k1.trans (KB.off off2)
    refine ⟨L1, _, _, _, rfl, rfl, SqL.of ((off2 L1 nb1).trans e1), evw, ?_⟩
    clear off2 e1 k1 b1 evw hvw
    refine ⟨_, rfl, _, rfl, b, 4, _, rfl, b2, by omega, by decide, by decide, fun d2 H3 q0 q1 off3 b3 => ?_⟩
    have k3 : KB b H H3 := k2.trans (KB.off off3)
    obtain ⟨vz, hvz, evz⟩ := atI_ex (xs := ns.map V.str) q0 (by rw [List.length_map, l4]; exact q1)
    obtain ⟨z, hz, rfl⟩ := List.mem_map.mp hvz
    have nz := hnm z hz
    refine ⟨a, _, _, _, rfl, rfl, SqL.of (k3 _ _ nab ha), evz, ?_⟩
    clear off3 k2 b2 evz hvz
    obtain ⟨rv, nv, eρ, _, _⟩ := kb_rw k3 hb hρ
    have nρb := bx3 hb hρ
    have j2 : atI [rv, nv, .int x.s] 2 = some (.int x.s) := rfl
    refine ⟨_, rfl, ρ, _, _, _, rfl, rfl, SqL.of eρ, j2, _, _, rfl, rfl, _, rfl, ρ, _, _, _, rfl, rfl, SqL.of eρ, j2, _, _, rfl, rfl, ?_⟩
    refine ⟨_, rfl, b, 9, _, rfl, b3, by omega, by decide, by decide, fun d3 H4 g0 g1 off4 b4 => ?_⟩
    have eρ4 := (off4 ρ nρb).trans eρ
    refine ⟨_, _, rfl, rfl, _, rfl, ρ, _, _, _, rfl, rfl, SqL.of eρ4, j2, _, _, rfl, ?_⟩
    refine ⟨_, rfl, b, 30, _, rfl, b4, by omega, by decide, by decide, fun d4 H5 i0 i1 off5 b5 => ?_⟩
    refine ⟨_, _, rfl, rfl, _, _, rfl, rfl, ⟨by decide, by decide, by decide⟩, _, _, rfl, rfl, six, fun L2 n2 => ?_⟩
    have k5 : KB b H H5 := (k3.trans (KB.off off4)).trans (KB.off off5)
    have k6 := k5.trans (KB.alloc (o := .lst [.int (x.s + 1), .int (x.s + 1 + d3), .int (if x.s > 1 then x.s else 1), .int 1, .int (1 + d4), .int (10 ^ (30 : Int).toNat - 1)]) n2)
    have e6 : upd H5 L2 (.lst [.int (x.s + 1), .int (x.s + 1 + d3), .int (if x.s > 1 then x.s else 1), .int 1, .int (1 + d4), .int (10 ^ (30 : Int).toNat - 1)]) L2 = some (.lst [.int (x.s + 1), .int (x.s + 1 + d3), .int (if x.s > 1 then x.s else 1), .int 1, .int (1 + d4), .int (10 ^ (30 : Int).toNat - 1)]) := upd_same
    have b6 := b5.alloc (o := .lst [.int (x.s + 1), .int (x.s + 1 + d3), .int (if x.s > 1 then x.s else 1), .int 1, .int (1 + d4), .int (10 ^ (30 : Int).toNat - 1)]) n2
    have nb2 := b5.fresh n2
    generalize upd H5 L2 (.lst [.int (x.s + 1), .int (x.s + 1 + d3), .int (if x.s > 1 then x.s else 1), .int 1, .int (1 + d4), .int (10 ^ (30 : Int).toNat - 1)]) = H6 at k6 e6 b6 ⊢
    clear off4 off5 eρ4 eρ k3 k5 b3 b4 b5
    have q30 : ((10 : Int) ^ (30 : Int).toNat) = 10 ^ 30 := rfl
    refine ⟨_, rfl, _, rfl, b, 6, _, rfl, b6, by omega, by decide, by decide, fun d5 H7 m0 m1 off7 b7 => ?_⟩
    obtain ⟨vm, hvm, evm⟩ := atI_ex (xs := [V.int (x.s + 1), .int (x.s + 1 + d3), .int (if x.s > 1 then x.s else 1), .int 1, .int (1 + d4), .int (10 ^ (30 : Int).toNat - 1)]) m0 m1
    obtain ⟨mi, rfl, mi1⟩ : ∃ i, vm = .int i ∧ 1 ≤ i := by
      rw [q30] at hvm
      simp only [List.mem_cons, List.not_mem_nil, or_false] at hvm
      rcases hvm with rfl | rfl | rfl | rfl | rfl | rfl
      · exact ⟨_, rfl, by omega⟩
      · exact ⟨_, rfl, by omega⟩
      · exact ⟨_, rfl, by split <;> omega⟩
      · exact ⟨_, rfl, by omega⟩
      · exact ⟨_, rfl, by omega⟩
      · exact ⟨_, rfl, by omega⟩
    have k7 := k6.trans (KB.off off7)
    refine ⟨L2, _, _, _, rfl, rfl, SqL.of ((off7 L2 nb2).trans e6), evm, _, _, rfl, rfl, ⟨by decide, by decide, by decide⟩, _, _, rfl, rfl, _, _, rfl, ?_⟩
    obtain ⟨many, hmany, my1, my2⟩ : ∃ y : Int, (if 10 ^ (30 : Int).toNat - 1 < mi then 10 ^ (30 : Int).toNat - 1 else mi) = y ∧ 1 ≤ y ∧ y < 10 ^ 30 := by
      rw [q30]
      exact ⟨_, rfl, by split <;> omega, by split <;> omega⟩
    rw [hmany]
    clear hmany evm hvm e6 off7 k6 b6 nb2
    refine ⟨_, rfl, (by show 1 ≤ sizeLine; decide), fun l nl => ?_⟩
    have k8 := k7.trans (KB.alloc (o := .lst [.int 1]) nl)
    have e8 : upd H7 l (.lst [.int 1]) l = some (.lst [.int 1]) := upd_same
    have b8 := b7.alloc (o := .lst [.int 1]) nl
    have nlb := b7.fresh nl
    have new : ∀ {p : Addr} {H9 : Hp} {m : Int}, KB b H H9 → Bx b m H9 → H9 p = none → H p = none := fun {p H9 m} kb bx np => by
      cases q : H p with
      | none => rfl
      | some o =>
        have := kb p o (bx.fresh np) q
        rw [np] at this
        cases this
    have zl := new k7 b7 nl
    generalize upd H7 l (.lst [.int 1]) = H8 at k8 e8 b8 ⊢
    refine ⟨(by show 1 ≤ sizeLine; decide), fun u nu => ?_⟩
    have k9 := k8.trans (KB.alloc (o := .tup [.int 1]) nu)
    have e9 : upd H8 u (.tup [.int 1]) u = some (.tup [.int 1]) := upd_same
    have l9 : upd H8 u (.tup [.int 1]) l = some (.lst [.int 1]) := by rw [upd_ne (ne_of_none e8 nu)]; exact e8
    have b9 := b8.alloc (o := .tup [.int 1]) nu
    have nub := b8.fresh nu
    generalize upd H8 u (.tup [.int 1]) = H9 at k9 e9 l9 b9 ⊢
    refine ⟨(by show 8 ≤ sizeLine; decide), fun L3 n3 => ?_⟩
    have k10 := k9.trans (KB.alloc (o := .lst [.int 0, .int (-1), .bl true, .non, .str "1", .ref l, .ref u, .bl false]) n3)
    have e10 : upd H9 L3 (.lst [.int 0, .int (-1), .bl true, .non, .str "1", .ref l, .ref u, .bl false]) L3 = some (.lst [.int 0, .int (-1), .bl true, .non, .str "1", .ref l, .ref u, .bl false]) := upd_same
    have u10 : upd H9 L3 (.lst [.int 0, .int (-1), .bl true, .non, .str "1", .ref l, .ref u, .bl false]) u = some (.tup [.int 1]) := by rw [upd_ne (ne_of_none e9 n3)]; exact e9
    have l10 : upd H9 L3 (.lst [.int 0, .int (-1), .bl true, .non, .str "1", .ref l, .ref u, .bl false]) l = some (.lst [.int 1]) := by rw [upd_ne (ne_of_none l9 n3)]; exact l9
    have b10 := b9.alloc (o := .lst [.int 0, .int (-1), .bl true, .non, .str "1", .ref l, .ref u, .bl false]) n3
    have nb3 := b9.fresh n3
    generalize upd H9 L3 (.lst [.int 0, .int (-1), .bl true, .non, .str "1", .ref l, .ref u, .bl false]) = H10 at k10 e10 u10 l10 b10 ⊢
    refine ⟨_, rfl, b, 8, _, rfl, b10, by omega, by decide, by decide, fun d6 H11 r0 r1 off11 b11 => ?_⟩
    obtain ⟨vo, hvo, evo⟩ := atI_ex (xs := [V.int 0, .int (-1), .bl true, .non, .str "1", .ref l, .ref u, .bl false]) r0 r1
    have k11 := k10.trans (KB.off off11)
    refine ⟨L3, _, _, _, rfl, rfl, SqL.of ((off11 L3 nb3).trans e10), evo, ?_⟩
    have u11 := (off11 u nub).trans u10
    have l11 := (off11 l nlb).trans l10
    have b11' : Bx b (n + 9) H11 := b11.mono (by omega)
    clear k7 k8 k9 k10 e8 e9 e10 u10 l10 l9 b7 b8 b9 b10 b11 evo off11 nl nu n3
    -- what is left: the tuple
    have fin : ∀ (H12 : Hp) (v : V) (dv : PyData), KB b H11 H12 → Bx b (n + 10) H12 → (w = .note → ∃ i, v = .int i) → Vk H H12 v dv → (∀ i, v = .int i → i < 10 ^ 30) → (∀ i, v = .int i → i.natAbs < 10 ^ 31) → ∀ t, H12 t = none → Q (.ref t) (upd H12 t (.tup [.str w.name, v, .str z])) := by
      intro H12 v dv k12 b12 hnote hv h30 h31 t nt
      have hv' : Vk H (upd H12 t (.tup [.str w.name, v, .str z])) v dv := by
        cases hv with
        | int i h => exact .int i h
        | bl b => exact .bl b
        | non => exact .non
        | str => exact .str
        | lst l n h => exact .lst l n (by rw [upd_ne (ne_of_none h nt)]; exact h)
        | tup u h => exact .tup u (by rw [upd_ne (ne_of_none h nt)]; exact h)
      have kk := (k11.trans k12).trans (KB.alloc (o := .tup [.str w.name, v, .str z]) nt)
      exact k t _ w v z dv kk (b12.alloc nt) (new (k11.trans k12) b12 nt) ⟨upd_same, hv'.th, hnote, h31, nz⟩ hv' h30
    refine ⟨_, rfl, _, rfl, rfl, _, rfl, ?_⟩
    have mm : ∀ (H12 : Hp), KB b H11 H12 → Bx b (n + 10) H12 → ∀ t, H12 t = none → Q (.ref t) (upd H12 t (.tup [.str w.name, .int many, .str z])) := fun H12 k12 b12 t nt =>
      fin H12 (.int many) (.int many) k12 b12 (fun _ => ⟨_, rfl⟩) (.int _ (by omega)) (by rintro i e; have := V.int.inj e; omega) (by rintro i e; have := V.int.inj e; omega) t nt
    refine ite2 (fun c => ?_) (fun c => iteF ?_)
    · refine ⟨_, rfl, b, 5, _, rfl, b11', by omega, by decide, by decide, fun d7 H12 _ _ off12 b12 => ?_⟩
      have b12' : Bx b (n + 10) H12 := b12.mono (by omega)
      refine ⟨rfl, _, rfl, ite2 (fun c2 => ?_) (fun c2 => ?_)⟩
      · have wg : w = .got := by
          cases w with
          | got => rfl
          | note => exact absurd c (by decide +kernel)
          | use => exact absurd c (by decide +kernel)
          | give => exact absurd c (by decide +kernel)
        obtain ⟨dv, hv, h30⟩ : ∃ dv, Vk H H12 vo dv ∧ ∀ i, vo = .int i → i ≤ 0 ∧ -1 ≤ i := by
          simp only [List.mem_cons, List.not_mem_nil, or_false] at hvo
          rcases hvo with rfl | rfl | rfl | rfl | rfl | rfl | rfl | rfl
          · exact ⟨_, .int _ (by decide), by rintro i e; have := V.int.inj e; omega⟩
          · exact ⟨_, .int _ (by decide), by rintro i e; have := V.int.inj e; omega⟩
          · exact ⟨_, .bl _, by rintro i ⟨⟩⟩
          · exact ⟨_, .non, by rintro i ⟨⟩⟩
          · exact ⟨_, .str, by rintro i ⟨⟩⟩
          · exact ⟨_, .lst l zl ((off12 l nlb).trans l11), by rintro i ⟨⟩⟩
          · exact ⟨_, .tup u ((off12 u nub).trans u11), by rintro i ⟨⟩⟩
          · exact ⟨_, .bl _, by rintro i ⟨⟩⟩
        refine ⟨_, rfl, _, rfl, (by show 3 ≤ sizeLine; decide), fun t nt => ?_⟩
        exact fin H12 vo dv (KB.off off12) b12' (fun e => by rw [wg] at e; cases e) hv (fun i e => by have := h30 i e; omega) (fun i e => by have := h30 i e; omega) t nt
      · exact ⟨_, rfl, _, rfl, (by show 3 ≤ sizeLine; decide), fun t nt => mm H12 (KB.off off12) b12' t nt⟩
    · exact ⟨_, rfl, _, rfl, (by show 3 ≤ sizeLine; decide), fun t nt => mm H11 (KB.refl b H11) (b11'.mono (by omega)) t nt⟩
end
end K22

set_option maxRecDepth 100000
set_option maxHeartbeats 400000
namespace K22
open PySem PySem.Spec PyProof.Rows L2 GxR Gd TL My
theorem paired_mono {α β : Type} {F G : α → β → Prop} (h : ∀ a b, F a b → G a b) : ∀ {xs : List α} {ys : List β}, Paired F xs ys → Paired G xs ys
  | _, _, .nil => .nil
  | _, _, .cons a r => .cons (h _ _ a) (paired_mono h r)
structure Pr where
  c : Addr
  ρ : Addr
  x : Sn
def rowD (x : Sn) : PyData := .list [rtD x.r, rtD x.n, .int x.s]
theorem RwAt.dp {K : PySem.W.Frag} {H : Hp} {t : Addr} {x : Sn} (h : RwAt H t x) : Dp K H (.ref t) (rowD x) := by
  obtain ⟨rv, nv, e, h1, h2⟩ := h
  exact .lst (SqL.of e) (.cons h1.dp (.cons h2.dp (.cons (.int _) .nil)))
theorem RwAt.sb {H : Hp} {t : Addr} {x : Sn} (h : RwAt H t x) (h0 : 0 ≤ x.s) (h1 : x.s < 10 ^ 30) : Sb (rowD x) 2 1000 := by
  obtain ⟨rv, nv, e, a, b⟩ := h
  refine (sb_list (k := 1) (m := 300) (ds := [rtD x.r, rtD x.n, .int x.s]) fun d hd => ?_).mono (by decide) (by simp)
  simp only [List.mem_cons, List.not_mem_nil, or_false] at hd
  rcases hd with rfl | rfl | rfl
  · exact a.sb
  · exact b.sb
  · exact (sb_int (by omega)).mono (by decide) (by decide)
theorem RwAt.up {H H' : Hp} {t : Addr} {x : Sn} (h : RwAt H t x) (ht : ∀ o, H t = some o → H' t = some o) (k : ∀ x ys, H x = some (.tup ys) → H' x = some (.tup ys)) : RwAt H' t x := by
  obtain ⟨rv, nv, e, a, b⟩ := h
  exact ⟨rv, nv, ht _ e, a.up k, b.up k⟩
theorem rows_dp {K : PySem.W.Frag} {H : Hp} : ∀ {ts : List Addr} {ps : List Pr}, Paired (fun t (p : Pr) => RwAt H t p.x) ts ps → DpAll K H (ts.map V.ref) (ps.map fun p => rowD p.x)
  | _, _, .nil => .nil
  | _, _, .cons a r => .cons a.dp (rows_dp r)
theorem rows_of {H : Hp} : ∀ {ps : List Pr}, (∀ p ∈ ps, RwAt H p.ρ p.x) → Paired (fun t (p : Pr) => RwAt H t p.x) (ps.map (·.ρ)) ps
  | [], _ => .nil
  | p :: r, h => .cons (h p List.mem_cons_self) (rows_of fun q hq => h q (List.mem_cons_of_mem _ hq))
def rowsD (ps : List Pr) : PyData := .list (ps.map fun p => rowD p.x)
structure Ok (C : Addr) (H : Hp) (p : Pr) : Prop where
  c_ : HoAt C H p.c p.x
  r_ : RwAt H p.ρ p.x
  s0 : 0 ≤ p.x.s
  s1 : p.x.s < 10 ^ 30
section
variable {P : Program} {w : World} {K : PySem.W.Frag} {mg : Str → Option Value} {base : Heap} {C : Addr}
abbrev s_law_same : Stmt := top 16
theorem sc_law_same : FnScope ["_law_holders", "_law_rows", "_law_holder"] ["_law_holders", "_law_rows"] (defScope s_law_same) := ⟨rfl, rfl, rfl, by decide +kernel, rfl, by decide +kernel, by decide +kernel⟩
def spSame (C : Addr) : Sp := fun vs H Q _ => ∃ (kl rl : Addr) (ps : List Pr), vs = [.ref kl, .ref rl] ∧ H kl = some (.lst (ps.map fun p => .ref p.c)) ∧ H rl = some (.lst (ps.map fun p => .ref p.ρ)) ∧ (∀ p ∈ ps, Ok C H p) ∧ ps.length ≤ 6 ∧ ∀ H', Same H H' → Q (.bl true) H'
theorem ok_same {f f1 f2 f3 : Addr} {fd fd1 fd2 fd3 : FuncData} (F : Fun K "_law_same" "_law_same" s_law_same f fd) (T : Txt mg) (TC : HolT K C)
    (Mright : Me K C "right" "Holder.right" s_right ["self"] f1 fd1) (Gright : FnOk P w K mg base CX0 1 f1 fd1 ["self"] (spRight C))
    (Mnoted : Me K C "noted" "Holder.noted" s_noted ["self"] f2 fd2) (Gnoted : FnOk P w K mg base CX0 1 f2 fd2 ["self"] (spNoted C))
    (Mseen : Me K C "seen" "Holder.seen" s_seen ["self"] f3 fd3) (Gseen : FnOk P w K mg base CX0 1 f3 fd3 ["self"] (spSeen C)) :
    GOk P w K mg base CX0 2 f fd ["_law_holders", "_law_rows"] (spSame C) := by
  refine gok F sc_law_same (fun vs H Q E h => ?_) (fun cdv A outer s H vs Q E gd hr h => ?_)
  · obtain ⟨kl, rl, ps, rfl, _⟩ := h
    rfl
  · obtain ⟨kl, rl, ps, rfl, hk, hR, ok, l6, k⟩ := h
    refine ⟨_, pss_one (ps_ret (pe_cmpR op_eq (pe_callB (call_repr gd hr) (by rfl) T.repr_ (by decide +kernel) (pa_cons (pe_lc (own := [("_law_holder", 2)]) (g := gName 2) (tt := tYes) rfl sc_law_same.nd (pi_list (pv 0)) (blkOk_by (own := [("_law_holder", 2)]) (N := ["_law_holders", "_law_rows", "_law_holder"]) (sc := defScope s_law_same) (by decide +kernel)) (fun _ _ _ _ _ => (pg_name (i := 2) sc_law_same.nd rfl (Or.inl rfl))) (fun _ _ _ _ _ => pts_nil) (fun _ _ _ _ _ => (pe_lst (pa_cons (pe_meth0 (pv 2) TC.cl Mright.m Gright (hr.mono (by decide)) Mright.b .nil pass0) (pa_cons (pe_meth0 (pv 2) TC.cl Mnoted.m Gnoted (hr.mono (by decide)) Mnoted.b .nil pass0) (pa_cons (pe_meth0 (pv 2) TC.cl Mseen.m Gseen (hr.mono (by decide)) Mseen.b .nil pass0) pa_nil)))))) pa_nil)) (pe_callB (call_repr gd hr) (by rfl) T.repr_ (by decide +kernel) (pa_cons (pv 1) pa_nil)) (nomark _))), ?_⟩
    refine ⟨_, rfl, kl, rfl, ⟨_, SqL.of hk⟩, fun D hD => lc_it (walk_list (K := K) (xs := ps.map fun p => V.ref p.c)) (fun i H' => ∃ ts : List Addr, H' D = some (.lst (ts.map V.ref)) ∧ ts.length = i ∧ Paired (fun t (p : Pr) => t ≠ D ∧ RwAt H' t p.x) ts (ps.take i) ∧ ∀ x o, x ≠ D → H x = some o → H' x = some o)
      ⟨[], upd_same, rfl, .nil, fun x o nx e => by rw [upd_ne nx]; exact e⟩ ?_ ?_ ?_⟩
    · rintro i H' _ ⟨_, _, _, _, q⟩
      exact SqL.of (q _ _ (ne_of_none hk hD) hk)
    · rintro i y H2 H3 hi ⟨ts, b1, b2, b3, b4⟩ ⟨rfl, hy⟩
      obtain ⟨p, hp, rfl⟩ : ∃ p, ps[i]? = some p ∧ y = .ref p.c := by
        rw [List.getElem?_map] at hy
        cases q : ps[i]? with
        | none => rw [q] at hy; cases hy
        | some e => rw [q] at hy; exact ⟨e, rfl, (Option.some.inj hy).symm⟩
      have mp := List.mem_of_getElem? hp
      obtain ⟨⟨dx, rv, nv, ec, h1, h2⟩, _, _, _⟩ := ok p mp
      have ec3 := b4 _ _ (ne_of_none ec hD) ec
      have hi' : i < 6 := by
        have := (List.getElem?_eq_some_iff.mp hp).1
        omega
      refine ⟨rfl, lcY ?_⟩
      refine ⟨_, rfl, p.c, dx, _, rfl, ec3, hf_no _ _ _ (by decide +kernel) (by decide +kernel) (by decide +kernel), p.c, dx, rv, nv, p.x.s, rfl, ec3, _, rfl, p.c, dx, _, rfl, ec3, hf_no _ _ _ (by decide +kernel) (by decide +kernel) (by decide +kernel), p.c, dx, rv, nv, p.x.s, rfl, ec3,
        _, rfl, p.c, dx, _, rfl, ec3, hf_no _ _ _ (by decide +kernel) (by decide +kernel) (by decide +kernel), p.c, dx, rv, nv, p.x.s, rfl, ec3, (by show 3 ≤ sizeLine; decide), fun t ht => ?_⟩
      have nDt : D ≠ t := ne_of_none b1 ht
      have tp : ∀ x ys, H3 x = some (.tup ys) → upd (upd H3 t (.lst [rv, nv, .int p.x.s])) D (.lst (ts.map V.ref ++ [.ref t])) x = some (.tup ys) := fun x ys h => by
        rw [upd_ne (ne_of h b1 (by simp)), upd_ne (ne_of_none h ht)]
        exact h
      refine ⟨_, by rw [upd_ne nDt]; exact b1, ?_, ts ++ [t], ?_, ?_, ?_, ?_⟩
      · rw [List.length_map, b2]
        exact lt_line i (by omega)
      · rw [upd_same, List.map_append]
        rfl
      · rw [List.length_append, b2]
        rfl
      · have et : ps.take (i + 1) = ps.take i ++ [p] := by
          rw [List.take_succ, hp]
          rfl
        rw [et]
        refine Paired.snoc (paired_mono (fun u f hu => ⟨hu.1, hu.2.up (fun o ho => by rw [upd_ne hu.1, upd_ne (ne_of_none ho ht)]; exact ho) tp⟩) b3) ⟨nDt.symm, rv, nv, by rw [upd_ne nDt.symm, upd_same], ?_, ?_⟩
        · exact (h1.up fun x ys h => b4 _ _ (ne_of_none h hD) h).up tp
        · exact (h2.up fun x ys h => b4 _ _ (ne_of_none h hD) h).up tp
      · intro x o nx h
        have h3 := b4 x o nx h
        rw [upd_ne nx, upd_ne (ne_of_none h3 ht)]
        exact h3
    · rintro H2 ⟨ts, b1, b2, b3, b4⟩
      rw [List.length_map, List.take_of_length_le (Nat.le_refl _)] at b3
      have s2 : Same H H2 := fun x o e => b4 x o (ne_of_none e hD) e
      have sb : Sb (rowsD ps) 3 10000 := (sb_list (k := 2) (m := 1000) (ds := ps.map fun (p : Pr) => rowD p.x) (fun d hd => by
        obtain ⟨p, hp, rfl⟩ := List.mem_map.mp hd
        have o := ok p hp
        exact o.r_.sb o.s0 o.s1)).mono (k' := 3) (m' := 10000) (Nat.le_refl _) (by rw [List.length_map]; omega)
      obtain ⟨m1, m2, m3⟩ := sb.rep (by decide) (by decide)
      have p2 := rows_dp (K := K) (rows_of (H := H2) (ps := ps) fun p hp => (ok p hp).r_.up (fun o h => s2 _ _ h) (fun x ys h => s2 _ _ h))
      rw [List.map_map] at p2
      have d2 : Dp K H2 (.ref rl) (rowsD ps) := .lst (SqL.of (s2 _ _ hR)) p2
      have p3 : Paired (fun t (p : Pr) => RwAt H2 t p.x) ts ps := paired_mono (fun u f h => h.2) b3
      have d1 : Dp K H2 (.ref D) (rowsD ps) := .lst (SqL.of b1) (rows_dp p3)
      clear p2 p3 b3
      generalize rowsD ps = dd at m1 m2 m3 d1 d2
      refine ⟨_, dd, rfl, d1, m1, m2, m3, ?_⟩
      refine ⟨_, rfl, _, dd, rfl, d2, m1, m2, m3, rfl, ?_⟩
      show Q (.bl (decide (_ = _))) _
      rw [decide_eq_true rfl]
      exact k _ s2
end
end K22

set_option maxRecDepth 100000
set_option maxHeartbeats 400000
namespace K22
open PySem PySem.Spec PyProof.Rows L2 GxR Gd TL My
structure Wo (C : Addr) (H0 H : Hp) (kl rl na : Addr) (ns : List Str) (ps : List Pr) : Prop where
  k_ : H kl = some (.lst (ps.map fun p => .ref p.c))
  r_ : H rl = some (.lst (ps.map fun p => .ref p.ρ))
  n_ : H na = some (.lst (ns.map V.str))
  n4 : ns.length = 4
  nm : ∀ z ∈ ns, Nm z
  ok : ∀ (j : Nat) (p : Pr), ps[j]? = some p → Ok C H p
  nd : ∀ (j k : Nat) (p q : Pr), ps[j]? = some p → ps[k]? = some q → j ≠ k → p.c ≠ q.c ∧ p.ρ ≠ q.ρ
  l2 : 2 ≤ ps.length
  l6 : ps.length ≤ 6
  ne : kl ≠ rl
  same : Same H0 H
  z : H0 kl = none ∧ H0 rl = none ∧ H0 na = none ∧ ∀ (j : Nat) (p : Pr), ps[j]? = some p → H0 p.c = none ∧ H0 p.ρ = none
/-- what a row isn't -/
theorem rw_ne {H : Hp} {ρ y : Addr} {x : Sn} {xs : List V} (h : RwAt H ρ x) (hy : H y = some (.lst xs)) (hx : ∀ s, xs[2]? ≠ some (.int s)) : y ≠ ρ := by
  rintro rfl
  obtain ⟨rv, nv, e, _⟩ := h
  rw [hy] at e
  injection e with e
  injection e with e
  rw [e] at hx
  exact hx _ rfl
section
variable {C : Addr} {H0 H H' : Hp} {kl rl na b : Addr} {ns : List Str} {ps : List Pr} {n : Int}
theorem refs2 {f : Pr → Addr} (s : Int) : (ps.map fun p => V.ref (f p))[2]? ≠ some (.int s) := by
  rw [List.getElem?_map]
  cases ps[2]? <;> simp
theorem strs2 (s : Int) : (ns.map V.str)[2]? ≠ some (.int s) := by
  rw [List.getElem?_map]
  cases ns[2]? <;> simp
theorem Wo.go (h : Wo C H0 H kl rl na ns ps) (s : Same H H') : Wo C H0 H' kl rl na ns ps :=
  ⟨s _ _ h.k_, s _ _ h.r_, s _ _ h.n_, h.n4, h.nm, fun j p hp => let ⟨⟨dx, rv, nv, a, a1, a2⟩, b, c, d⟩ := h.ok j p hp; ⟨⟨dx, rv, nv, s _ _ a, a1.up fun x ys h => s _ _ h, a2.up fun x ys h => s _ _ h⟩, b.up (fun o h => s _ _ h) (fun x ys h => s _ _ h), c, d⟩, h.nd, h.l2, h.l6, h.ne, h.same.trans s, h.z⟩
theorem Wo.bne (h : Wo C H0 H kl rl na ns ps) (hb : Bx b n H) : kl ≠ b ∧ rl ≠ b ∧ na ≠ b ∧ ∀ (j : Nat) (p : Pr), ps[j]? = some p → p.c ≠ b ∧ p.ρ ≠ b := by
  obtain ⟨x, y, z, e, r⟩ := id hb
  have two : ∀ {a : Addr} {xs : List V}, H a = some (.lst xs) → (∀ s, xs[0]? ≠ some (.int s)) → a ≠ b := fun ha hx z => by
    rw [z, e] at ha
    injection ha with ha
    injection ha with ha
    rw [← ha] at hx
    exact hx _ rfl
  refine ⟨two h.k_ fun s => ?_, two h.r_ fun s => ?_, two h.n_ fun s => ?_, fun j p hp => ⟨?_, bx3 hb (h.ok j p hp).r_⟩⟩
  · rw [List.getElem?_map]
    cases ps[0]? <;> simp
  · rw [List.getElem?_map]
    cases ps[0]? <;> simp
  · rw [List.getElem?_map]
    cases ns[0]? <;> simp
  · obtain ⟨dx, rv, nv, a, _⟩ := (h.ok j p hp).c_
    exact ne_of a e (by simp)
theorem Wo.off (h : Wo C H0 H kl rl na ns ps) (hb : Bx b n H) (zb : H0 b = none) (k : KB b H H') : Wo C H0 H' kl rl na ns ps := by
  obtain ⟨b1, b2, b3, b4⟩ := h.bne hb
  obtain ⟨x1, y, z', q, r⟩ := hb
  have kt : ∀ x ys, H x = some (.tup ys) → H' x = some (.tup ys) := fun x ys e => k _ _ (ne_of e q (by simp)) e
  exact ⟨k _ _ b1 h.k_, k _ _ b2 h.r_, k _ _ b3 h.n_, h.n4, h.nm, fun j p hp => let ⟨⟨dx, rv, nv, a, a1, a2⟩, b, c, d⟩ := h.ok j p hp; ⟨⟨dx, rv, nv, k _ _ (b4 j p hp).1 a, a1.up kt, a2.up kt⟩, b.up (fun o h => k _ _ (b4 j p hp).2 h) kt, c, d⟩, h.nd, h.l2, h.l6, h.ne, fun y o e => k y o (ne_of_none e zb) (h.same y o e), h.z⟩
theorem map_set {β : Type} {f : Pr → β} {i : Nat} {p p' : Pr} (hp : ps[i]? = some p) (e : f p' = f p) : (ps.set i p').map f = ps.map f := by
  rw [List.map_set, e]
  refine List.ext_getElem? fun j => ?_
  by_cases hj : i = j
  · subst hj
    have hi := (List.getElem?_eq_some_iff.mp hp).1
    rw [List.getElem?_set_self (by rw [List.length_map]; exact hi), List.getElem?_map, hp]
    rfl
  · rw [List.getElem?_set_ne hj]
theorem get_set {i j : Nat} {p p' q : Pr} (hp : ps[i]? = some p) (h : (ps.set i p')[j]? = some q) : (j = i ∧ q = p') ∨ (j ≠ i ∧ ps[j]? = some q) := by
  have hi := (List.getElem?_eq_some_iff.mp hp).1
  by_cases e : i = j
  · subst e
    rw [List.getElem?_set_self hi] at h
    exact .inl ⟨rfl, (Option.some.inj h).symm⟩
  · rw [List.getElem?_set_ne e] at h
    exact .inr ⟨fun z => e z.symm, h⟩
/-- a deed of one of them -/
theorem Wo.step {i : Nat} {p : Pr} {x' : Sn} (h : Wo C H0 H kl rl na ns ps) (hb : Bx b n H) (zb : H0 b = none) (hp : ps[i]? = some p) (k : ∀ y o, y ≠ b → y ≠ p.c → y ≠ p.ρ → H y = some o → H' y = some o) (o : Ok C H' ⟨p.c, p.ρ, x'⟩) :
    Wo C H0 H' kl rl na ns (ps.set i ⟨p.c, p.ρ, x'⟩) := by
  obtain ⟨b1, b2, b3, b4⟩ := h.bne hb
  obtain ⟨x1, y, z', q, r⟩ := hb
  obtain ⟨⟨dx, rv, nv, ec, _⟩, hρ, _⟩ := h.ok i p hp
  have kt : ∀ x ys, H x = some (.tup ys) → H' x = some (.tup ys) := fun x ys e => k _ _ (ne_of e q (by simp)) (ne_of e ec (by simp)) (by obtain ⟨_, _, er, _⟩ := hρ; exact ne_of e er (by simp)) e
  have kl' : ∀ {a : Addr} {xs : List V}, a ≠ b → H a = some (.lst xs) → (∀ s, xs[2]? ≠ some (.int s)) → H' a = some (.lst xs) := fun nb ha hx => k _ _ nb (ne_of ha ec (by simp)) (rw_ne hρ ha hx) ha
  have zp := h.z.2.2.2 i p hp
  refine ⟨?_, ?_, kl' b3 h.n_ strs2, h.n4, h.nm, ?_, ?_, by rw [List.length_set]; exact h.l2, by rw [List.length_set]; exact h.l6, h.ne, fun y o e => k y o (ne_of_none e zb) (ne_of_none e zp.1) (ne_of_none e zp.2) (h.same y o e), h.z.1, h.z.2.1, h.z.2.2.1, ?_⟩
  · rw [map_set (f := fun p => V.ref p.c) (p' := ⟨p.c, p.ρ, x'⟩) hp rfl]
    exact kl' b1 h.k_ refs2
  · rw [map_set (f := fun p => V.ref p.ρ) (p' := ⟨p.c, p.ρ, x'⟩) hp rfl]
    exact kl' b2 h.r_ refs2
  · intro j w hj
    rcases get_set hp hj with ⟨_, rfl⟩ | ⟨nj, hj⟩
    · exact o
    · have nn := h.nd j i w p hj hp nj
      obtain ⟨⟨dx2, rv2, nv2, a, a1, a2⟩, bb, c, d⟩ := h.ok j w hj
      have e1 : w.c ≠ p.ρ := by obtain ⟨_, _, er, _⟩ := hρ; exact ne_of a er (by simp)
      have e2 : w.ρ ≠ p.c := by obtain ⟨_, _, er, _⟩ := bb; exact ne_of er ec (by simp)
      exact ⟨⟨dx2, rv2, nv2, k _ _ (b4 j w hj).1 nn.1 e1 a, a1.up kt, a2.up kt⟩, bb.up (fun o h => k _ _ (b4 j w hj).2 e2 nn.2 h) kt, c, d⟩
  · intro j k' w v hj hk njk
    rcases get_set hp hj with ⟨ej, rfl⟩ | ⟨nj, hj⟩ <;> rcases get_set hp hk with ⟨ek, rfl⟩ | ⟨nk, hk⟩
    · exact absurd (ej.trans ek.symm) njk
    · exact h.nd i k' p v hp hk (fun z => nk z.symm)
    · exact h.nd j i w p hj hp nj
    · exact h.nd j k' w v hj hk njk
  · intro j w hj
    rcases get_set hp hj with ⟨_, rfl⟩ | ⟨_, hj⟩
    · exact zp
    · exact h.z.2.2.2 j w hj
/-- one more of them -/
theorem Wo.push {q : Pr} (h : Wo C H0 H kl rl na ns ps) (l5 : ps.length < 6) (k : ∀ y o, y ≠ kl → y ≠ rl → H y = some o → H' y = some o) (e1 : H' kl = some (.lst ((ps ++ [q]).map fun p => .ref p.c))) (e2 : H' rl = some (.lst ((ps ++ [q]).map fun p => .ref p.ρ)))
    (o : Ok C H' q) (n1 : H q.c = none) (n2 : H q.ρ = none) : Wo C H0 H' kl rl na ns (ps ++ [q]) := by
  have kt : ∀ x ys, H x = some (.tup ys) → H' x = some (.tup ys) := fun x ys e => k _ _ (ne_of e h.k_ (by simp)) (ne_of e h.r_ (by simp)) e
  have gt : ∀ {j : Nat} {w : Pr}, (ps ++ [q])[j]? = some w → (j = ps.length ∧ w = q) ∨ (j < ps.length ∧ ps[j]? = some w) := fun {j w} hj => by
    rcases Nat.lt_trichotomy j ps.length with c | c | c
    · rw [List.getElem?_append_left c] at hj
      exact .inr ⟨c, hj⟩
    · subst c
      rw [List.getElem?_append_right (Nat.le_refl _), Nat.sub_self] at hj
      exact .inl ⟨rfl, (Option.some.inj hj).symm⟩
    · rw [List.getElem?_append_right (by omega)] at hj
      rw [List.getElem?_eq_none (by simp; omega)] at hj
      cases hj
  have old : ∀ {j : Nat} {w : Pr}, ps[j]? = some w → H w.c ≠ none ∧ H w.ρ ≠ none := fun {j w} hj => by
    obtain ⟨⟨dx2, rv2, nv2, a, _⟩, ⟨_, _, er, _⟩, _⟩ := h.ok j w hj
    exact ⟨by rw [a]; simp, by rw [er]; simp⟩
  refine ⟨e1, e2, k _ _ ?_ ?_ h.n_, h.n4, h.nm, ?_, ?_, by rw [List.length_append]; have := h.l2; simp; omega, by rw [List.length_append]; simp; omega, h.ne, fun y o e => k y o (ne_of_none e h.z.1) (ne_of_none e h.z.2.1) (h.same y o e), h.z.1, h.z.2.1, h.z.2.2.1, ?_⟩
  · intro z
    have a := h.n_
    rw [z, h.k_] at a
    injection a with a
    injection a with a
    have := h.l2
    cases hps : ps with
    | nil => rw [hps] at this; simp at this
    | cons p r =>
      cases hns : ns with
      | nil => rw [hps, hns] at a; simp at a
      | cons y t => rw [hps, hns] at a; simp at a
  · intro z
    have a := h.n_
    rw [z, h.r_] at a
    injection a with a
    injection a with a
    have := h.l2
    cases hps : ps with
    | nil => rw [hps] at this; simp at this
    | cons p r =>
      cases hns : ns with
      | nil => rw [hps, hns] at a; simp at a
      | cons y t => rw [hps, hns] at a; simp at a
  · intro j w hj
    rcases gt hj with ⟨_, rfl⟩ | ⟨_, hj⟩
    · exact o
    · obtain ⟨⟨dx2, rv2, nv2, a, a1, a2⟩, bb, c, d⟩ := h.ok j w hj
      exact ⟨⟨dx2, rv2, nv2, k _ _ (ne_of a h.k_ (by simp)) (ne_of a h.r_ (by simp)) a, a1.up kt, a2.up kt⟩, bb.up (fun o ho => k _ _ (rw_ne bb h.k_ refs2).symm (rw_ne bb h.r_ refs2).symm ho) kt, c, d⟩
  · intro j k' w v hj hk njk
    have nn : ∀ {u : Addr}, H u ≠ none → u ≠ q.c ∧ u ≠ q.ρ := fun hu => ⟨fun z => hu (z ▸ n1), fun z => hu (z ▸ n2)⟩
    rcases gt hj with ⟨ej, wq⟩ | ⟨lj, hj'⟩ <;> rcases gt hk with ⟨ek, vq⟩ | ⟨lk, hk'⟩
    · exact absurd (ej.trans ek.symm) njk
    · rw [wq]
      exact ⟨(nn (old hk').1).1.symm, (nn (old hk').2).2.symm⟩
    · rw [vq]
      exact ⟨(nn (old hj').1).1, (nn (old hj').2).2⟩
    · exact h.nd j k' w v hj' hk' njk
  · intro j w hj
    rcases gt hj with ⟨_, rfl⟩ | ⟨_, hj⟩
    · exact ⟨h.same.free n1, h.same.free n2⟩
    · exact h.z.2.2.2 j w hj
theorem Wo.mem (h : Wo C H0 H kl rl na ns ps) : ∀ p ∈ ps, Ok C H p := fun p hp => by
  obtain ⟨j, hj, rfl⟩ := List.getElem_of_mem hp
  exact h.ok j _ (List.getElem?_eq_getElem hj)
end
end K22

set_option maxRecDepth 100000
set_option maxHeartbeats 800000
namespace K22
open PySem PySem.Spec PyProof.Rows L2 GxR Gd TL My
theorem stp_s {w : Wk} {v : V} {z : Str} {x : Sn} (h0 : 0 ≤ x.s) (h1 : x.s < 10 ^ 30) (h : ∀ i, v = .int i → i < 10 ^ 30) : 0 ≤ (stp w v z x).2.s ∧ (stp w v z x).2.s < 10 ^ 30 := by
  cases w with
  | got =>
    cases v with
    | int i =>
      have := h i rfl
      show 0 ≤ (if i < 1 then (Oc.num, x) else if i ≤ x.s then (.fls, x) else (.tru, ⟨some (i, z), x.n, i⟩)).2.s ∧ (if i < 1 then (Oc.num, x) else if i ≤ x.s then (.fls, x) else (.tru, ⟨some (i, z), x.n, i⟩)).2.s < 10 ^ 30
      split
      · exact ⟨h0, h1⟩
      · split
        · exact ⟨h0, h1⟩
        · exact ⟨by show 0 ≤ i; omega, this⟩
    | _ => exact ⟨h0, h1⟩
  | note => cases v <;> exact ⟨h0, h1⟩
  | use =>
    show 0 ≤ (match x.r with | none => (Oc.nor, x) | some p => (.rgt p, ⟨none, x.n, x.s⟩)).2.s ∧ (match x.r with | none => (Oc.nor, x) | some p => (.rgt p, ⟨none, x.n, x.s⟩)).2.s < 10 ^ 30
    cases x.r <;> exact ⟨h0, h1⟩
  | give =>
    show 0 ≤ (match x.r with | none => (Oc.nor, x) | some p => (.rgt p, ⟨none, some p, x.s⟩)).2.s ∧ (match x.r with | none => (Oc.nor, x) | some p => (.rgt p, ⟨none, some p, x.s⟩)).2.s < 10 ^ 30
    cases x.r <;> exact ⟨h0, h1⟩
theorem HoAt.up {C c : Addr} {H H' : Hp} {x : Sn} (h : HoAt C H c x) (hc : ∀ o, H c = some o → H' c = some o) (k : ∀ x ys, H x = some (.tup ys) → H' x = some (.tup ys)) : HoAt C H' c x := by
  obtain ⟨dx, rv, nv, e, a, b⟩ := h
  exact ⟨dx, rv, nv, hc _ e, a.up k, b.up k⟩
section
variable {P : Program} {w : World} {K : PySem.W.Frag} {mg : Str → Option Value} {base : Heap} {C : Addr}
/-- the list handed in, grown by the caller -/
theorem lst_step {v : V} {d : Addr} {dv : PyData} {H4 H7 : Hp} {X : TS} {R : Ends} {σ : L2.St} {a z : V} (th : Th H7 v) (vk : Vk H4 H7 v dv) (hσ : σ[8]? = some (some (.ref d))) (hd : H7 d = some (.tup [a, v, z]))
    (k : ∀ (H8 : Hp) (dv' : PyData), (∀ y o, o ≠ .lst [.int 1] → H7 y = some o → H8 y = some o) → (∀ y, H4 y ≠ none → ∀ o, H7 y = some o → H8 y = some o) → Dp K H8 v dv' → Sb dv' 1 300 → X R σ H8) :
    tSeq (tIfS (tB (tCB (rIsi K) (tCons (tOp (rIxT K) (tVar 8) (tC (.int 1))) (tCons (tC (.ty "list")) tNil)))) (tDrop (tBM K "list" rAppend (tOp (rIxT K) (tVar 8) (tC (.int 1))) (tCons (tC (.str "more")) tNil))) tNext) X R σ H7 := by
  have i1 : atI [a, v, z] 1 = some v := rfl
  have idl : ∀ {dv : PyData}, Dp K H7 v dv → Sb dv 1 300 → X R σ H7 := fun a b => k H7 _ (fun _ _ _ h => h) (fun _ _ _ h => h) a b
  cases vk with
  | int i h => exact ⟨_, hσ, d, _, _, _, rfl, rfl, SqT.of hd, i1, _, _, _, _, false, rfl, .ty "list", .base (.int _), (by rfl), _, rfl, iteF (idl (.int _) ((sb_int h).mono (by decide) (by decide)))⟩
  | bl b => exact ⟨_, hσ, d, _, _, _, rfl, rfl, SqT.of hd, i1, _, _, _, _, false, rfl, .ty "list", .base (.bl _), (by rfl), _, rfl, iteF (idl (.bl _) ((sb_bool b).mono (by decide) (by decide)))⟩
  | non => exact ⟨_, hσ, d, _, _, _, rfl, rfl, SqT.of hd, i1, _, _, _, _, false, rfl, .ty "list", .base .non, (by rfl), _, rfl, iteF (idl .non (sb_none.mono (by decide) (by decide)))⟩
  | str => exact ⟨_, hσ, d, _, _, _, rfl, rfl, SqT.of hd, i1, _, _, _, _, false, rfl, .ty "list", .base (.str _), (by rfl), _, rfl, iteF (idl (.str _) ((sb_str (m := 1) (good_of _) (by decide +kernel)).mono (by decide) (by decide)))⟩
  | tup u h => exact ⟨_, hσ, d, _, _, _, rfl, rfl, SqT.of hd, i1, _, _, _, _, false, rfl, .ty "list", .base (.tup h), (by rfl), _, rfl, iteF (idl (.tup (SqT.of h) (.cons (.int _) .nil)) ((sb_tuple (k := 0) (m := 110) (ds := [.int 1]) fun e he => by obtain rfl := List.mem_singleton.mp he; exact sb_int (by decide)).mono (by decide) (by decide)))⟩
  | lst l n h =>
    refine ⟨_, hσ, d, _, _, _, rfl, rfl, SqT.of hd, i1, _, _, _, _, true, rfl, .ty "list", .base (.lst h), (by rfl), _, rfl, iteT ?_⟩
    refine ⟨_, hσ, d, _, _, _, rfl, rfl, SqT.of hd, i1, .inl ⟨rfl, _, SqL.of h⟩, l, _, _, rfl, rfl, h, (by show 2 ≤ sizeLine; decide), ?_⟩
    refine k _ (.list [.int 1, .str "more"]) (fun y o no h' => ?_) (fun y ny o h' => ?_) (.lst (SqL.of upd_same) (.cons (.int _) (.cons (.str _) .nil))) ((sb_list (k := 0) (m := 110) (ds := [.int 1, .str "more"]) fun e he => ?_).mono (by decide) (by decide))
    · rw [upd_ne (ne_of h' h no)]
      exact h'
    · have nyl : y ≠ l := fun q => ny (by rw [q]; exact n)
      rw [upd_ne nyl]
      exact h'
    · simp only [List.mem_cons, List.not_mem_nil, or_false] at he
      rcases he with rfl | rfl
      · exact sb_int (by decide)
      · exact (sb_str (m := 4) (good_of _) (by decide +kernel)).mono (by decide) (by decide)
abbrev s_law : Stmt := top 17
theorem sc_law : FnScope ["_law_script", "_law_box_here", "_law_names_here", "_law_holders", "_law_rows", "_law_k", "_law_at", "_law_turn", "_law_deed_here", "_law_found", "_law_due"] ["_law_script"] (defScope s_law) := ⟨rfl, rfl, rfl, by decide +kernel, rfl, by decide +kernel, by decide +kernel⟩
def spLaw (K : PySem.W.Frag) : Sp := fun vs H Q _ => ∃ (a : Addr) (ns : List Int), vs = [.ref a] ∧ SqL K H a (ns.map V.int) ∧ SmAt H ∧ ns.length ≤ 63 ∧ ∀ H', Q (.bl true) H'
theorem ok_law {f fI f1 f2 f3 f4 f5 f6 f7 f8 f9 : Addr} {fd fdI fd1 fd2 fd3 fd4 fd5 fd6 fd7 fd8 fd9 : FuncData} (F : Fun K "law" "law" s_law f fd) (T : Txt mg) (TC : HolT K C) (gHolder : mg "Holder" = some (.ref C)) (MHolder : Mk K C fI)
    (GHolder : FnOk P w K mg base CX0 1 fI fdI ["self"] (spInit C)) (bHolder : Binds K fdI ["self"] [])
    (Glaw_cell : FnOk P w K mg base CX0 1 f1 fd1 ["_law_script", "_law_k"] (spCell K)) (Nlaw_cell : Fn K mg "_law_cell" sCell ["_law_script", "_law_k"] f1 fd1)
    (Glaw_box : FnOk P w K mg base CX0 1 f2 fd2 ["_law_cell_here"] spBox) (Nlaw_box : Fn K mg "_law_box" sBox ["_law_cell_here"] f2 fd2)
    (Glaw_take : FnOk P w K mg base CX0 1 f3 fd3 ["_law_box_here", "_law_many"] spTake) (Nlaw_take : Fn K mg "_law_take" sTake ["_law_box_here", "_law_many"] f3 fd3)
    (Glaw_names : FnOk P w K mg base CX0 2 f4 fd4 ["_law_box_here", "_law_many"] spNames) (Nlaw_names : Fn K mg "_law_names" s_law_names ["_law_box_here", "_law_many"] f4 fd4)
    (Glaw_deed : FnOk P w K mg base CX0 2 f5 fd5 ["_law_box_here", "_law_names_here", "_law_row"] spDeed) (Nlaw_deed : Fn K mg "_law_deed" s_law_deed ["_law_box_here", "_law_names_here", "_law_row"] f5 fd5)
    (Glaw_said : FnOk P w K mg base CX0 6 f6 fd6 ["_law_holder", "_law_deed_here"] (spSaid C)) (Nlaw_said : Fn K mg "_law_said" s_law_said ["_law_holder", "_law_deed_here"] f6 fd6)
    (Glaw_done : FnOk P w K mg base CX0 1 f7 fd7 ["_law_row", "_law_deed_here"] spDone) (Nlaw_done : Fn K mg "_law_done" s_law_done ["_law_row", "_law_deed_here"] f7 fd7)
    (Glaw_same : GOk P w K mg base CX0 2 f8 fd8 ["_law_holders", "_law_rows"] (spSame C)) (Nlaw_same : Fn K mg "_law_same" s_law_same ["_law_holders", "_law_rows"] f8 fd8)
    (Mtwin : Me K C "twin" "Holder.twin" s_twin ["self"] f9 fd9) (Gtwin : FnOk P w K mg base CX0 3 f9 fd9 ["self"] (spTwin C)) :
    GOk P w K mg base CX0 7 f fd ["_law_script"] (spLaw K) := by
  refine gok F sc_law (fun vs H Q E h => ?_) (fun cdv A outer s H vs Q E gd hr h => ?_)
  · obtain ⟨a, ns, rfl, _⟩ := h
    rfl
  · obtain ⟨a, ns, rfl, hS, sm, hl, k⟩ := h
    refine ⟨_, pss_cons (ps_set (i := 1) sc_law.nd rfl (Or.inl rfl) (pe_call Glaw_box (hr.mono (by decide)) (by rfl) Nlaw_box.g Nlaw_box.kp Nlaw_box.b .nil pass0 (pa_cons (pe_call Glaw_cell (hr.mono (by decide)) (by rfl) Nlaw_cell.g Nlaw_cell.kp Nlaw_cell.b .nil pass0 (pa_cons (pv 0) (pa_cons pe_int pa_nil))) pa_nil)))
      (pss_cons (ps_set (i := 2) sc_law.nd rfl (Or.inl rfl) (pe_call Glaw_names (hr.mono (by decide)) (by rfl) Nlaw_names.g Nlaw_names.kp Nlaw_names.b .nil pass0 (pa_cons (pv 1) (pa_cons pe_int pa_nil))))
      (pss_cons (ps_set (i := 3) sc_law.nd rfl (Or.inl rfl) (pe_lst (pa_cons (pe_make0 MHolder GHolder (hr.mono (by decide)) (by rfl) gHolder bHolder .nil pass0) (pa_cons (pe_make0 MHolder GHolder (hr.mono (by decide)) (by rfl) gHolder bHolder .nil pass0) pa_nil))))
      (pss_cons (ps_set (i := 4) sc_law.nd rfl (Or.inl rfl) (pe_lst (pa_cons (pe_lst (pa_cons pe_non (pa_cons pe_non (pa_cons pe_int pa_nil)))) (pa_cons (pe_lst (pa_cons pe_non (pa_cons pe_non (pa_cons pe_int pa_nil)))) pa_nil))))
      (pss_cons (ps_for PassesOwn.never rfl (pi_range2 (by rfl) T.range_ (pa_cons pe_int (pa_cons (pe_callB (call_max2 rfl) (by rfl) T.max_ (by decide +kernel) (pa_cons pe_int (pa_cons (pe_callB (call_min2 rfl) (by rfl) T.min_ (by decide +kernel) (pa_cons (pe_callB call_len_seq (by rfl) T.len_ PySem.boot_len (pa_cons (pv 0) pa_nil)) (pa_cons pe_int pa_nil))) pa_nil))) pa_nil))) (pg_name (i := 5) sc_law.nd rfl (Or.inl rfl)) (pss_cons (ps_set (i := 1) sc_law.nd rfl (Or.inl rfl) (pe_call Glaw_box (hr.mono (by decide)) (by rfl) Nlaw_box.g Nlaw_box.kp Nlaw_box.b .nil pass0 (pa_cons (pe_call Glaw_cell (hr.mono (by decide)) (by rfl) Nlaw_cell.g Nlaw_cell.kp Nlaw_cell.b .nil pass0 (pa_cons (pv 0) (pa_cons (pv 5) pa_nil))) pa_nil)))
          (pss_cons (ps_set (i := 6) sc_law.nd rfl (Or.inl rfl) (pe_call Glaw_take (hr.mono (by decide)) (by rfl) Nlaw_take.g Nlaw_take.kp Nlaw_take.b .nil pass0 (pa_cons (pv 1) (pa_cons (pe_callB call_len_seq (by rfl) T.len_ PySem.boot_len (pa_cons (pv 3) pa_nil)) pa_nil))))
          (pss_cons (ps_for PassesOwn.never rfl (pi_range1 (by rfl) T.range_ (pa_cons (pe_op op_add pe_int (pe_call Glaw_take (hr.mono (by decide)) (by rfl) Nlaw_take.g Nlaw_take.kp Nlaw_take.b .nil pass0 (pa_cons (pv 1) (pa_cons pe_int pa_nil)))) pa_nil)) (pg_name (i := 7) sc_law.nd rfl (Or.inl rfl)) (pss_cons (ps_set (i := 8) sc_law.nd rfl (Or.inl rfl) (pe_call Glaw_deed (hr.mono (by decide)) (by rfl) Nlaw_deed.g Nlaw_deed.kp Nlaw_deed.b .nil pass0 (pa_cons (pv 1) (pa_cons (pv 2) (pa_cons (pe_ix ix_list (pv 4) (pv 6) (fun _ _ => rfl)) pa_nil)))))
              (pss_cons (ps_set (i := 9) sc_law.nd rfl (Or.inl rfl) (pe_call Glaw_said (hr.mono (by decide)) (by rfl) Nlaw_said.g Nlaw_said.kp Nlaw_said.b .nil pass0 (pa_cons (pe_ix ix_list (pv 3) (pv 6) (fun _ _ => rfl)) (pa_cons (pv 8) pa_nil))))
              (pss_cons (ps_set (i := 10) sc_law.nd rfl (Or.inl rfl) (pe_call Glaw_done (hr.mono (by decide)) (by rfl) Nlaw_done.g Nlaw_done.kp Nlaw_done.b .nil pass0 (pa_cons (pe_ix ix_list (pv 4) (pv 6) (fun _ _ => rfl)) (pa_cons (pv 8) pa_nil))))
              (pss_cons (ps_if (pt_val (pe_callB call_isi (by rfl) T.isinstance_ (by decide +kernel) (pa_cons (pe_ix ix_tup (pv 8) pe_int (fun _ _ => rfl)) (pa_cons (pe_bltn (v := .ty "list") (by rfl) T.list_ (by decide +kernel) rfl) pa_nil)))) (pss_one (ps_expr (pe_bm PySem.F.plainAttrs_list PySem.F.slot_list_append PySem.F.type_list_append mt_append (pe_ix ix_tup (pv 8) pe_int (fun _ _ => rfl)) (pa_cons pe_str pa_nil)))) pss_nil)
              (pss_one (ps_if (PW.pt (pw_or (pt_cmpR op_ne (pe_callB (call_repr gd hr) (by rfl) T.repr_ (by decide +kernel) (pa_cons (pv 9) pa_nil)) (pe_callB (call_repr gd hr) (by rfl) T.repr_ (by decide +kernel) (pa_cons (pv 10) pa_nil)) (nomark _)) (pw_or1 (pt_not (pt_val (pe_gcall gd Glaw_same (hr.mono (by decide)) (by rfl) Nlaw_same.g Nlaw_same.kp Nlaw_same.b .nil pass0 (pa_cons (pv 3) (pa_cons (pv 4) pa_nil)))))))) (pss_one (ps_ret pe_bl)) pss_nil)))))))
          (pss_cons (ps_if (PW.pt (pw_and (pt_cmpR op_eq (pe_call Glaw_take (hr.mono (by decide)) (by rfl) Nlaw_take.g Nlaw_take.kp Nlaw_take.b .nil pass0 (pa_cons (pv 1) (pa_cons pe_int pa_nil))) pe_int (nomark _)) (pw_and1 (pt_cmpR op_lt (pe_callB call_len_seq (by rfl) T.len_ PySem.boot_len (pa_cons (pv 3) pa_nil)) pe_int (nomark _))))) (pss_cons (ps_expr (pe_bm PySem.F.plainAttrs_list PySem.F.slot_list_append PySem.F.type_list_append mt_append (pv 3) (pa_cons (pe_meth0 (pe_ix ix_list (pv 3) (pv 6) (fun _ _ => rfl)) TC.cl Mtwin.m Gtwin (hr.mono (by decide)) Mtwin.b .nil pass0) pa_nil)))
              (pss_one (ps_expr (pe_bm PySem.F.plainAttrs_list PySem.F.slot_list_append PySem.F.type_list_append mt_append (pv 4) (pa_cons (pe_callTy call_list_of (by rfl) T.list_ (by decide +kernel) (pa_cons (pe_ix ix_list (pv 4) (pv 6) (fun _ _ => rfl)) pa_nil)) pa_nil))))) pss_nil)
          (pss_one (ps_if (pt_not (pt_val (pe_gcall gd Glaw_same (hr.mono (by decide)) (by rfl) Nlaw_same.g Nlaw_same.kp Nlaw_same.b .nil pass0 (pa_cons (pv 3) (pa_cons (pv 4) pa_nil))))) (pss_one (ps_ret pe_bl)) pss_nil)))))))
      (pss_one (ps_ret pe_bl)))))), ?_⟩
    refine ⟨_, rfl, a, ns, 0, rfl, hS, fun cell => ?_⟩
    refine ⟨cell, rfl, fun b1 H1 nb1 off1 hb1 => ?_⟩
    have s1 : Same H H1 := fun y o e => (off1 y (ne_of_none e nb1)).trans e
    refine ⟨_, rfl, b1, 4, 0, rfl, hb1, by omega, by omega, fun nms na H2 k2 hb2 zna ena l4 hnm => ?_⟩
    have s2 : Same H H2 := fun y o e => k2 y o (ne_of_none e nb1) (s1 y o e)
    have zna' : H na = none := s1.free zna
    intro c0 dy0 nc0 nd0 _
    refine ⟨c0, dy0, rfl, upd_same, fun H3 off3 e3 => ⟨rfl, ?_⟩⟩
    have s3 : Same H2 H3 := fun y o e => by
      have n1 := ne_of_none e nc0
      rw [off3 y n1, upd_ne n1, upd_ne (ne_of_none e nd0)]
      exact e
    intro c1 dy1 nc1 nd1 _
    refine ⟨c1, dy1, rfl, upd_same, fun H4 off4 e4 => ⟨rfl, (by show 2 ≤ sizeLine; decide), fun kl nkl => ?_⟩⟩
    have s4 : Same H3 H4 := fun y o e => by
      have n1 := ne_of_none e nc1
      rw [off4 y n1, upd_ne n1, upd_ne (ne_of_none e nd1)]
      exact e
    have s5 : Same H4 (upd H4 kl (.lst [.ref c0, .ref c1])) := same_new nkl
    have e5 : upd H4 kl (.lst [.ref c0, .ref c1]) kl = some (.lst [.ref c0, .ref c1]) := upd_same
    generalize upd H4 kl (.lst [.ref c0, .ref c1]) = H5 at s5 e5 ⊢
    refine ⟨(by show 3 ≤ sizeLine; decide), fun r0 nr0 => ?_⟩
    have s6 : Same H5 (upd H5 r0 (.lst [.non, .non, .int 0])) := same_new nr0
    have e6 : upd H5 r0 (.lst [.non, .non, .int 0]) r0 = some (.lst [.non, .non, .int 0]) := upd_same
    generalize upd H5 r0 (.lst [.non, .non, .int 0]) = H6 at s6 e6 ⊢
    refine ⟨(by show 3 ≤ sizeLine; decide), fun r1 nr1 => ?_⟩
    have s7 : Same H6 (upd H6 r1 (.lst [.non, .non, .int 0])) := same_new nr1
    have e7 : upd H6 r1 (.lst [.non, .non, .int 0]) r1 = some (.lst [.non, .non, .int 0]) := upd_same
    generalize upd H6 r1 (.lst [.non, .non, .int 0]) = H7 at s7 e7 ⊢
    refine ⟨(by show 2 ≤ sizeLine; decide), fun rl nrl => ?_⟩
    have s8 : Same H7 (upd H7 rl (.lst [.ref r0, .ref r1])) := same_new nrl
    have e8 : upd H7 rl (.lst [.ref r0, .ref r1]) rl = some (.lst [.ref r0, .ref r1]) := upd_same
    generalize upd H7 rl (.lst [.ref r0, .ref r1]) = H8 at s8 e8 ⊢
    have s78 := s7.trans s8
    have s68 := s6.trans s78
    have s58 := s5.trans s68
    have s48 := s4.trans s58
    have s23 := s2.trans s3
    have s24 := s23.trans s4
    have s25 := s24.trans s5
    have s26 := s25.trans s6
    have s27 := s26.trans s7
    have wo : Wo C H H8 kl rl na nms [⟨c0, r0, ⟨none, none, 0⟩⟩, ⟨c1, r1, ⟨none, none, 0⟩⟩] := by
      refine ⟨s68 _ _ e5, e8, s48 _ _ (s3 _ _ ena), l4, hnm, ?_, ?_, by simp, by simp, ne_of_none (s7 _ _ (s6 _ _ e5)) nrl, s23.trans s48, s24.free nkl, s27.free nrl, zna', ?_⟩
      · intro j p hp
        match j, hp with
        | 0, hp =>
          obtain rfl := (Option.some.inj hp).symm
          exact ⟨⟨dy0, .non, .non, s48 _ _ e3, rfl, rfl⟩, ⟨.non, .non, s78 _ _ e6, rfl, rfl⟩, by show (0 : Int) ≤ 0; decide, by show (0 : Int) < 10 ^ 30; decide⟩
        | 1, hp =>
          obtain rfl := (Option.some.inj hp).symm
          exact ⟨⟨dy1, .non, .non, s58 _ _ e4, rfl, rfl⟩, ⟨.non, .non, s8 _ _ e7, rfl, rfl⟩, by show (0 : Int) ≤ 0; decide, by show (0 : Int) < 10 ^ 30; decide⟩
        | j + 2, hp => simp at hp
      · have d1 : c0 ≠ c1 := ne_of_none e3 nc1
        have d2 : r0 ≠ r1 := ne_of_none e6 nr1
        intro j k' p q hp hq njk
        match j, k', hp, hq, njk with
        | 0, 0, _, _, n => exact absurd rfl n
        | 1, 1, _, _, n => exact absurd rfl n
        | 0, 1, hp, hq, _ =>
          obtain rfl := (Option.some.inj hp).symm
          obtain rfl := (Option.some.inj hq).symm
          exact ⟨d1, d2⟩
        | 1, 0, hp, hq, _ =>
          obtain rfl := (Option.some.inj hp).symm
          obtain rfl := (Option.some.inj hq).symm
          exact ⟨d1.symm, d2.symm⟩
        | j + 2, _, hp, _, _ => simp at hp
        | 0, k + 2, _, hq, _ => simp at hq
        | 1, k + 2, _, hq, _ => simp at hq
      · intro j p hp
        match j, hp with
        | 0, hp =>
          obtain rfl := (Option.some.inj hp).symm
          exact ⟨s2.free nc0, s25.free nr0⟩
        | 1, hp =>
          obtain rfl := (Option.some.inj hp).symm
          exact ⟨s23.free nc1, s26.free nr1⟩
        | j + 2, hp => simp at hp
    clear s1 s2 s3 s4 s5 s6 s7 s8 s78 s68 s58 s48 s23 s24 s25 s26 s27 e3 e4 e5 e6 e7 e8 off3 off4 nc0 nc1 nd0 nd1 nkl nrl nr0 nr1 ena k2 zna zna' hb2 off1 hb1
    have hlen : (ns.map V.int).length = ns.length := List.length_map ..
    refine ⟨_, rfl, a, _, rfl, .inl (wo.same.seq hS), _, _, rfl, _, _, rfl, ?_⟩
    obtain ⟨N, hN, N3, N41⟩ : ∃ N : Nat, (if (if (41 : Int) < (((ns.map V.int).length : Nat) : Int) then (41 : Int) else (((ns.map V.int).length : Nat) : Int)) > 3 then (if (41 : Int) < (((ns.map V.int).length : Nat) : Int) then (41 : Int) else (((ns.map V.int).length : Nat) : Int)) else 3) = (N : Int) ∧ 3 ≤ N ∧ N ≤ 41 := by
      rw [hlen]
      refine ⟨max 3 (min 41 ns.length), ?_, by omega, by omega⟩
      split <;> split <;> omega
    rw [hN]
    refine ⟨_, _, rfl, ⟨by decide, by decide, by omega, by omega⟩, ?_⟩
    have eN : ((N : Int) - 1).toNat = N - 1 := by omega
    rw [eN]
    refine for_range (lo := 1) (n := N - 1) (fun i σ H' => ∃ (v1 v5 v6 v7 v8 v9 v10 : Option V) (ps : List Pr), σ = [some (.ref a), v1, some (.ref na), some (.ref kl), some (.ref rl), v5, v6, v7, v8, v9, v10] ∧ Wo C H H' kl rl na nms ps) ⟨_, _, _, _, _, _, _, _, rfl, wo⟩ ?_ ?_
    · clear wo
      rintro i σ H1 hi ⟨v1, v5, v6, v7, v8, v9, v10, ps, rfl, wo⟩
      refine ⟨_, rfl, _, rfl, a, ns, 1 + i, ?_, wo.same.seq hS, fun cell => ?_⟩
      · show [V.ref a, V.int (1 + (i : Int))] = [V.ref a, V.int ((1 + i : Nat) : Int)]
        rw [show (1 + (i : Int)) = ((1 + i : Nat) : Int) by push_cast; rfl]
      refine ⟨cell, rfl, fun b H2 nb off hb => ?_⟩
      have zb : H b = none := wo.same.free nb
      have wo2 := wo.go (H' := H2) fun x o e => (off x (ne_of_none e nb)).trans e
      clear wo off nb
      have lp2 := wo2.l2
      have lp6 := wo2.l6
      refine ⟨_, rfl, _, rfl, kl, _, rfl, .inl (SqL.of wo2.k_), b, _, 0, rfl, hb, by omega, by rw [List.length_map]; omega, dec9000 (by rw [List.length_map]; omega) (by rw [List.length_map]; omega), fun at_ H3 a0 a1 off3 hb3 => ?_⟩
      have wo3 := wo2.off hb zb (KB.off off3)
      rw [List.length_map] at a1
      obtain ⟨m, rfl⟩ := Int.eq_ofNat_of_zero_le a0
      have hm : m < ps.length := by omega
      generalize hL : ps.length = L at hm lp2 lp6
      clear wo2 hb off3 a0 a1
      refine ⟨_, rfl, b, 4, _, rfl, hb3, by omega, by decide, by decide, fun D0 H4 d0 d1 off4 hb4 => ?_⟩
      have wo4 := wo3.off hb3 zb (KB.off off4)
      obtain ⟨D, rfl⟩ := Int.eq_ofNat_of_zero_le d0
      have eD : ((1 : Int) + (D : Int)).toNat = 1 + D := by omega
      clear wo3 hb3 off4
      refine ⟨_, _, rfl, rfl, _, rfl, by omega, by omega, ?_⟩
      rw [eD]
      refine for_range (lo := 0) (n := 1 + D) (fun j σ H' => ∃ (v7 v8 v9 v10 : Option V) (ps : List Pr), σ = [some (.ref a), some (.ref b), some (.ref na), some (.ref kl), some (.ref rl), some (.int (1 + (i : Int))), some (.int (m : Nat)), v7, v8, v9, v10] ∧
        Wo C H H' kl rl na nms ps ∧ ps.length = L ∧ Bx b (2 + 10 * j) H') ⟨_, _, _, _, ps, rfl, wo4, hL, hb4.mono (by omega)⟩ ?_ ?_
      · clear wo4 hb4 hL ps
        rintro j σ H4 hj ⟨v7, v8, v9, v10, ps, rfl, wo, hL, hb⟩
        obtain ⟨p, hp⟩ : ∃ p, ps[m]? = some p := ⟨_, List.getElem?_eq_getElem (by omega : m < ps.length)⟩
        have ek : atI (ps.map fun p => V.ref p.c) ((m : Nat) : Int) = some (.ref p.c) := atI_nat (by rw [List.getElem?_map, hp]; rfl)
        have er : atI (ps.map fun p => V.ref p.ρ) ((m : Nat) : Int) = some (.ref p.ρ) := atI_nat (by rw [List.getElem?_map, hp]; rfl)
        obtain ⟨o1, o2, o3, o4⟩ := wo.ok m p hp
        obtain ⟨nbk, nbr, nbn, nbp⟩ := wo.bne hb
        obtain ⟨npc, npr⟩ := nbp m p hp
        refine ⟨_, rfl, _, rfl, _, rfl, _, rfl, rl, _, _, _, rfl, rfl, SqL.of wo.r_, er, b, na, p.ρ, _, nms, p.x, rfl, hb, by omega, nbn, wo.n_, wo.n4, wo.nm, o2, o3, o4, fun d H5 w v z dv k5 hb5 zd dd vk h30 => ?_⟩
        have wo5 := wo.off hb zb k5
        obtain ⟨p1, p2, _, _⟩ := wo5.ok m p hp
        have npcρ : p.c ≠ p.ρ := by
          obtain ⟨_, _, _, e1, _⟩ := p1
          obtain ⟨_, _, e2, _⟩ := p2
          exact ne_of e1 e2 (by simp)
        refine ⟨_, rfl, _, rfl, kl, _, _, _, rfl, rfl, SqL.of wo5.k_, ek, _, rfl, p.c, d, w, v, z, p.x, rfl, p1, dd, fun r H6 k6 zr oc ho => ?_⟩
        have ec5 : ∀ {y : Addr} {ys : List V}, H5 y = some (.tup ys) → y ≠ p.c := fun h => by
          obtain ⟨_, _, _, e1, _⟩ := p1
          exact ne_of h e1 (by simp)
        have er5 : ∀ {y : Addr} {ys : List V}, H5 y = some (.tup ys) → y ≠ p.ρ := fun h => by
          obtain ⟨_, _, e1, _⟩ := p2
          exact ne_of h e1 (by simp)
        have p26 : RwAt H6 p.ρ p.x := p2.up (fun o h => k6 _ _ npcρ.symm h) fun x ys h => k6 _ _ (ec5 h) h
        have r6 : H6 rl = some (.lst (ps.map fun p => V.ref p.ρ)) := k6 _ _ (by obtain ⟨_, _, _, e1, _⟩ := p1; exact ne_of wo5.r_ e1 (by simp)) wo5.r_
        have th6 : Th H6 v := by
          cases vk with
          | int i h => exact .int i
          | bl b => exact .bl b
          | non => exact .non
          | str => exact .str _ (by decide +kernel) (good_of _)
          | lst l n h => exact .lst _ _ (k6 _ _ (by obtain ⟨_, _, _, e1, _⟩ := p1; exact ne_of h e1 (by simp)) h)
          | tup u h => exact .tup _ _ (k6 _ _ (ec5 h) h)
        have dd6 : DdAt H6 d w v z := ⟨k6 _ _ (ec5 dd.at_) dd.at_, th6, dd.nt, dd.bd, dd.nm⟩
        refine ⟨_, rfl, _, rfl, rl, _, _, _, rfl, rfl, SqL.of r6, er, _, rfl, p.ρ, d, w, v, z, p.x, rfl, p26, dd6, fun r2 H7 k7 zr2 oc2 rw2 => ?_⟩
        have hd7 : H7 d = some (.tup [.str w.name, v, .str z]) := k7 _ _ (by obtain ⟨_, _, e1, _⟩ := p26; exact ne_of dd6.at_ e1 (by simp)) dd6.at_
        have er6 : ∀ {y : Addr} {ys : List V}, H6 y = some (.tup ys) → y ≠ p.ρ := fun h => by
          obtain ⟨_, _, e1, _⟩ := p26
          exact ne_of h e1 (by simp)
        have i1 : atI [V.str w.name, v, .str z] 1 = some v := rfl
        have ks : ∀ y o, y ≠ b → y ≠ p.c → y ≠ p.ρ → H4 y = some o → H7 y = some o := fun y o n1 n2 n3 h => k7 y o n3 (k6 y o n2 (k5 y o n1 h))
        obtain ⟨xb, yb, zb', eb4, _⟩ := id hb
        have eb7 : Bx b (2 + 10 * j + 10) H7 := by
          obtain ⟨x1, y1, z1, q, r⟩ := hb5
          obtain ⟨_, _, _, e1, _⟩ := p1
          have nb5 := bx3 ⟨x1, y1, z1, q, r⟩ p2
          exact ⟨x1, y1, z1, k7 _ _ nb5.symm (k6 _ _ (ne_of q e1 (by simp)) q), r⟩
        have th7 : Th H7 v := by
          cases vk with
          | int i h => exact .int i
          | bl b => exact .bl b
          | non => exact .non
          | str => exact .str _ (by decide +kernel) (good_of _)
          | lst l n h => exact .lst _ _ (k7 _ _ (by obtain ⟨_, _, e1, _⟩ := p26; exact ne_of (k6 _ _ (by obtain ⟨_, _, _, e1, _⟩ := p1; exact ne_of h e1 (by simp)) h) e1 (by simp)) (k6 _ _ (by obtain ⟨_, _, _, e1, _⟩ := p1; exact ne_of h e1 (by simp)) h))
          | tup u h => exact .tup _ _ (k7 _ _ (er6 (k6 _ _ (ec5 h) h)) (k6 _ _ (ec5 h) h))
        have vk7 : Vk H4 H7 v dv := by
          cases vk with
          | int i h => exact .int i h
          | bl b => exact .bl b
          | non => exact .non
          | str => exact .str
          | lst l n h => exact .lst _ n (k7 _ _ (by obtain ⟨_, _, e1, _⟩ := p26; exact ne_of (k6 _ _ (by obtain ⟨_, _, _, e1, _⟩ := p1; exact ne_of h e1 (by simp)) h) e1 (by simp)) (k6 _ _ (by obtain ⟨_, _, _, e1, _⟩ := p1; exact ne_of h e1 (by simp)) h))
          | tup u h => exact .tup _ (k7 _ _ (er6 (k6 _ _ (ec5 h) h)) (k6 _ _ (ec5 h) h))
        refine lst_step th7 vk7 rfl hd7 fun H8 dv' kx kz dp sb => ?_
        have kt8 : ∀ x ys, H7 x = some (.tup ys) → H8 x = some (.tup ys) := fun x ys h => kx _ _ (by simp) h
        have ho8 : HoAt C H8 p.c (stp w v z p.x).2 := by
          have ho7 := ho.up (H' := H7) (fun o h => k7 _ _ npcρ h) fun x ys h => k7 _ _ (er6 h) h
          obtain ⟨_, _, _, e1, _⟩ := id ho7
          exact ho7.up (fun o h => kz _ (by obtain ⟨_, _, _, e4, _⟩ := o1; rw [e4]; simp) _ h) kt8
        have rw8 : RwAt H8 p.ρ (stp w v z p.x).2 := rw2.up (fun o h => kz _ (by obtain ⟨_, _, e4, _⟩ := o2; rw [e4]; simp) _ h) kt8
        have bb := stp_s (w := w) (v := v) (z := z) o3 o4 h30
        have ks8 : ∀ y o, y ≠ b → y ≠ p.c → y ≠ p.ρ → H4 y = some o → H8 y = some o := fun y o n1 n2 n3 h => kz y (by rw [h]; simp) _ (ks y o n1 n2 n3 h)
        have wo8 := wo.step (x' := (stp w v z p.x).2) hb zb hp ks8 ⟨ho8, rw8, bb.1, bb.2⟩
        have eb8 : Bx b (2 + 10 * (j + 1 : Nat)) H8 := by
          obtain ⟨x1, y1, z1, q, r⟩ := eb7
          exact Bx.mono ⟨x1, y1, z1, kz _ (by rw [eb4]; simp) _ q, r⟩ (by push_cast; omega)
        have oc8 := (oc.up (H' := H7) fun x ys h => k7 _ _ (er6 h) h).up kt8
        have oc28 := oc2.up kt8
        obtain ⟨f1, f2⟩ := oc8.dp (K := K) dp sb
        obtain ⟨g1, g2⟩ := oc28.dp (K := K) dp sb
        obtain ⟨m1, m2, m3⟩ := f2.rep (by decide) (by decide)
        refine ⟨_, rfl, _, _, rfl, f1, m1, m2, m3, _, rfl, _, _, rfl, g1, m1, m2, m3, rfl, _, rfl, iteNS rfl ?_⟩
        refine ⟨_, rfl, _, rfl, kl, rl, _, rfl, wo8.k_, wo8.r_, wo8.mem, wo8.l6, fun H9 s9 => ⟨_, rfl, iteF ?_⟩⟩
        refine ⟨_, _, _, _, _, rfl, wo8.go s9, by rw [List.length_set]; exact hL, ?_⟩
        obtain ⟨x1, y1, z1, q, r⟩ := eb8
        exact ⟨x1, y1, z1, s9 _ _ q, r⟩
      · rintro σ H4 ⟨v7, v8, v9, v10, ps, rfl, wo, hL, hb⟩
        refine ⟨_, rfl, b, 4, _, rfl, hb, by omega, by decide, by decide, fun T0 H5 t0 t1 off5 hb5 => ?_⟩
        have wo5 := wo.off hb zb (KB.off off5)
        refine ⟨rfl, _, rfl, ite2 (fun c1 => ?_) (fun c1 => iteF ?_)⟩
        · refine ⟨_, rfl, kl, _, rfl, .inl (SqL.of wo5.k_), _, _, rfl, rfl, _, rfl, ite2 (fun c2 => ?_) (fun c2 => ?_)⟩
          · have l5 : ps.length < 6 := by
              have := of_decide_eq_true c2
              rw [List.length_map] at this
              omega
            obtain ⟨p, hp⟩ : ∃ p, ps[m]? = some p := ⟨_, List.getElem?_eq_getElem (by omega : m < ps.length)⟩
            have ek : atI (ps.map fun p => V.ref p.c) ((m : Nat) : Int) = some (.ref p.c) := atI_nat (by rw [List.getElem?_map, hp]; rfl)
            have er : atI (ps.map fun p => V.ref p.ρ) ((m : Nat) : Int) = some (.ref p.ρ) := atI_nat (by rw [List.getElem?_map, hp]; rfl)
            obtain ⟨⟨dx, rv, nv, hc, a1, a2⟩, o2, o3, o4⟩ := wo5.ok m p hp
            refine ⟨_, rfl, .inl ⟨rfl, _, SqL.of wo5.k_⟩, _, rfl, _, rfl, kl, _, _, _, rfl, rfl, SqL.of wo5.k_, ek, p.c, dx, _, rfl, hc, hf_no _ _ _ (by decide +kernel) (by decide +kernel) (by decide +kernel), p.c, dx, _, _, _, rfl, hc, fun x dy H6 nx s6 ex => ?_⟩
            have wo6 := wo5.go s6
            refine ⟨kl, _, _, rfl, rfl, wo6.k_, (by rw [List.length_map]; exact Nat.lt_of_lt_of_le l5 (by decide)), ?_⟩
            have nek := wo.ne
            have r7 : upd H6 kl (.lst ((ps.map fun p => V.ref p.c) ++ [.ref x])) rl = some (.lst (ps.map fun p => V.ref p.ρ)) := by rw [upd_ne nek.symm]; exact wo6.r_
            obtain ⟨_, ⟨rv2, nv2, hρ, b1, b2⟩, _, _⟩ := wo6.ok m p hp
            have nρk : p.ρ ≠ kl := (rw_ne ⟨rv2, nv2, hρ, b1, b2⟩ wo6.k_ refs2).symm
            have nρr : p.ρ ≠ rl := (rw_ne ⟨rv2, nv2, hρ, b1, b2⟩ wo6.r_ refs2).symm
            have ρ7 : upd H6 kl (.lst ((ps.map fun p => V.ref p.c) ++ [.ref x])) p.ρ = some (.lst [rv2, nv2, .int p.x.s]) := by rw [upd_ne nρk]; exact hρ
            refine ⟨_, rfl, .inl ⟨rfl, _, SqL.of r7⟩, _, rfl, _, rfl, rl, _, _, _, rfl, rfl, SqL.of r7, er, p.ρ, _, rfl, .inl (SqL.of ρ7), fun l nl => ?_⟩
            have rl8 : upd (upd H6 kl (.lst ((ps.map fun p => V.ref p.c) ++ [.ref x]))) l (.lst [rv2, nv2, .int p.x.s]) rl = some (.lst (ps.map fun p => V.ref p.ρ)) := by rw [upd_ne (ne_of_none r7 nl)]; exact r7
            refine ⟨rl, _, _, rfl, rfl, rl8, (by rw [List.length_map]; exact Nat.lt_of_lt_of_le l5 (by decide)), ?_⟩
            have z6 : H6 l = none := by
              by_cases q : l = kl
              · rw [q, upd_same] at nl
                cases nl
              · rw [upd_ne q] at nl
                exact nl
            have nxk : x ≠ kl := (ne_of ex wo6.k_ (by simp))
            have nxr : x ≠ rl := (ne_of ex wo6.r_ (by simp))
            have nxl : x ≠ l := ne_of_none ex z6
            have nlr : l ≠ rl := (ne_of_none wo6.r_ z6).symm
            have nlk : kl ≠ l := ne_of_none wo6.k_ z6
            have kk : ∀ y o, y ≠ kl → y ≠ rl → H5 y = some o → upd (upd (upd H6 kl (.lst ((ps.map fun p => V.ref p.c) ++ [.ref x]))) l (.lst [rv2, nv2, .int p.x.s])) rl (.lst ((ps.map fun p => V.ref p.ρ) ++ [.ref l])) y = some o := fun y o n1 n2 h => by
              rw [upd_ne n2, upd_ne (ne_of_none (s6 _ _ h) z6), upd_ne n1]
              exact s6 _ _ h
            have kt6 : ∀ y ys, H6 y = some (.tup ys) → upd (upd (upd H6 kl (.lst ((ps.map fun p => V.ref p.c) ++ [.ref x]))) l (.lst [rv2, nv2, .int p.x.s])) rl (.lst ((ps.map fun p => V.ref p.ρ) ++ [.ref l])) y = some (.tup ys) := fun y ys h => by
              rw [upd_ne (ne_of h wo6.r_ (by simp)), upd_ne (ne_of_none h z6), upd_ne (ne_of h wo6.k_ (by simp))]
              exact h
            have wo8 := wo5.push (q := ⟨x, l, p.x⟩) (H' := upd (upd (upd H6 kl (.lst ((ps.map fun p => V.ref p.c) ++ [.ref x]))) l (.lst [rv2, nv2, .int p.x.s])) rl (.lst ((ps.map fun p => V.ref p.ρ) ++ [.ref l]))) l5 kk
              (by rw [upd_ne nek, upd_ne nlk, upd_same, List.map_append]; rfl) (by rw [upd_same, List.map_append]; rfl)
              ⟨⟨dy, rv, nv, by show upd _ rl _ x = _; rw [upd_ne nxr, upd_ne nxl, upd_ne nxk]; exact ex, a1.up fun y ys h => kt6 _ _ (s6 _ _ h), a2.up fun y ys h => kt6 _ _ (s6 _ _ h)⟩,
                ⟨rv2, nv2, by show upd _ rl _ l = _; rw [upd_ne nlr, upd_same], b1.up kt6, b2.up kt6⟩, o3, o4⟩ nx (s6.free z6)
            exact ⟨_, rfl, _, rfl, kl, rl, _, rfl, wo8.k_, wo8.r_, wo8.mem, wo8.l6, fun H9 s9 => ⟨_, rfl, iteF ⟨_, _, _, _, _, _, _, _, rfl, wo8.go s9⟩⟩⟩
          · exact ⟨_, rfl, _, rfl, kl, rl, _, rfl, wo5.k_, wo5.r_, wo5.mem, wo5.l6, fun H9 s9 => ⟨_, rfl, iteF ⟨_, _, _, _, _, _, _, _, rfl, wo5.go s9⟩⟩⟩
        · exact ⟨_, rfl, _, rfl, kl, rl, _, rfl, wo5.k_, wo5.r_, wo5.mem, wo5.l6, fun H9 s9 => ⟨_, rfl, iteF ⟨_, _, _, _, _, _, _, _, rfl, wo5.go s9⟩⟩⟩
    · rintro σ H1 ⟨v1, v5, v6, v7, v8, v9, v10, ps, rfl, wo⟩
      exact k H1
end
end K22

set_option maxRecDepth 100000
set_option maxHeartbeats 4000000
namespace K22
open PySem PySem.Spec PyProof.Rows L2 GxR Gd TL My
theorem all_mk {l : PySem.W.OpenLaw}  {w : World} {K : PySem.W.Frag} {h : Heap} {mg : Str → Option Value} {fa C CN CR CS f1 f2 f3 f4 f5 f6 f7 f8 f9 f10 f11 f12 f13 f14 f15 f16 f17 f18 f19 f20 f21 f22  : Addr} 
    (X : K.In h) (G : h.Ns mainGlobals mg) (hfa : mg "law" = some (.ref fa)) 
     {nmCN qCN : Str} {NCN : Addr} {bsCN : List Value} {snCN : List Str} {subCN : List Value} {abCN : Bool} {colCN : Option Bool} {ddCN : Option Addr} {m0CN m1CN m2CN m3CN m5CN : Option Value} {nmCR qCR : Str} {NCR : Addr} {bsCR : List Value} {snCR : List Str} {subCR : List Value} {abCR : Bool} {colCR : Option Bool} {ddCR : Option Addr} {m0CR m1CR m2CR m3CR m5CR : Option Value} {od1 an1 : Option Addr} {sl1 : Array (Option Value)} {oc1 kV1 dc1 pm1 cd1 ct1 : Value} {od2 an2 : Option Addr} {sl2 : Array (Option Value)} {oc2 kV2 dc2 pm2 cd2 ct2 : Value} {od3 an3 : Option Addr} {sl3 : Array (Option Value)} {oc3 kV3 dc3 pm3 cd3 ct3 : Value} {od4 an4 : Option Addr} {sl4 : Array (Option Value)} {oc4 kV4 dc4 pm4 cd4 ct4 : Value} {od5 an5 : Option Addr} {sl5 : Array (Option Value)} {oc5 kV5 dc5 pm5 cd5 ct5 : Value} {od6 an6 : Option Addr} {sl6 : Array (Option Value)} {oc6 kV6 dc6 pm6 cd6 ct6 : Value} {od7 an7 : Option Addr} {sl7 : Array (Option Value)} {oc7 kV7 dc7 pm7 cd7 ct7 : Value} {od8 an8 : Option Addr} {sl8 : Array (Option Value)} {oc8 kV8 dc8 pm8 cd8 ct8 : Value} {od9 an9 : Option Addr} {sl9 : Array (Option Value)} {oc9 kV9 dc9 pm9 cd9 ct9 : Value} {od10 an10 : Option Addr} {sl10 : Array (Option Value)} {oc10 kV10 dc10 pm10 cd10 ct10 : Value} {od11 an11 : Option Addr} {sl11 : Array (Option Value)} {oc11 kV11 dc11 pm11 cd11 ct11 : Value} {od12 an12 : Option Addr} {sl12 : Array (Option Value)} {oc12 kV12 dc12 pm12 cd12 ct12 : Value} {od13 an13 : Option Addr} {sl13 : Array (Option Value)} {oc13 kV13 dc13 pm13 cd13 ct13 : Value} {od14 an14 : Option Addr} {sl14 : Array (Option Value)} {oc14 kV14 dc14 pm14 cd14 ct14 : Value} {od15 an15 : Option Addr} {sl15 : Array (Option Value)} {oc15 kV15 dc15 pm15 cd15 ct15 : Value} {od16 an16 : Option Addr} {sl16 : Array (Option Value)} {oc16 kV16 dc16 pm16 cd16 ct16 : Value} {od17 an17 : Option Addr} {sl17 : Array (Option Value)} {oc17 kV17 dc17 pm17 cd17 ct17 : Value} {od18 an18 : Option Addr} {sl18 : Array (Option Value)} {oc18 kV18 dc18 pm18 cd18 ct18 : Value} {od19 an19 : Option Addr} {sl19 : Array (Option Value)} {oc19 kV19 dc19 pm19 cd19 ct19 : Value} {od20 an20 : Option Addr} {sl20 : Array (Option Value)} {oc20 kV20 dc20 pm20 cd20 ct20 : Value} {od21 an21 : Option Addr} {sl21 : Array (Option Value)} {oc21 kV21 dc21 pm21 cd21 ct21 : Value} {od22 an22 : Option Addr} {sl22 : Array (Option Value)} {oc22 kV22 dc22 pm22 cd22 ct22 : Value}
    (aC : PySem.W.nsIn K mainGlobals "Holder" = some (some (.ref C))) (pgC : PySem.W.plainGet K C Str.empty = true) (hdC : PySem.W.hasDictIn K C = true) (poC : PySem.W.plainOver K C = true) (saC : PySem.W.findIn K (.ref C) "__setattr__" = some (some (.builtin "object.__setattr__"))) (mkC : PySem.W.makesIn K C = true) (kcC : PySem.W.keepIn K (.ref C) = true) (n0C : PySem.W.findIn K (.ref C) "_right" = some none) (n1C : PySem.W.findIn K (.ref C) "_noted" = some none) (n2C : PySem.W.findIn K (.ref C) "_seen" = some none) (aCN : PySem.W.nsIn K mainGlobals "NoNumber" = some (some (.ref CN))) (xlCN : K.lookup CN = some (excClassObj nmCN qCN CN NCN bsCN [.ref CS, .type "ValueError", .type "Exception", .type "BaseException", .type "object"] true snCN subCN abCN colCN ddCN m0CN m1CN m2CN m3CN m5CN "ValueError.__new__")) (saCN : PySem.W.findIn K (.ref CN) "__setattr__" = some (some (.builtin "object.__setattr__"))) (gaCN : PySem.W.findIn K (.ref CN) "__getattribute__" = some (some (.builtin "BaseException.__getattribute__"))) (ggCN : PySem.W.findIn K (.ref CN) "__getattr__" = some none) (kcCN : PySem.W.keepIn K (.ref CN) = true) (exCN : PySem.W.subIn K (.ref CN) (.type "BaseException") = some true) (tyCN : PySem.W.typeIn K (.ref CN) = some (.type "type")) (hdCN : PySem.W.hasDictIn K CN = true) (icCN : PySem.W.isClsIn K CN = true) (coCN : PySem.W.findIn K (.ref CN) "__class__" = some (some (.builtin "object.__class__"))) (moCN : PySem.W.mroIn K CN (.type "object") = some true) (n0CN : PySem.W.findIn K (.ref CN) "found" = some none) (aCR : PySem.W.nsIn K mainGlobals "NoRight" = some (some (.ref CR))) (xlCR : K.lookup CR = some (excClassObj nmCR qCR CR NCR bsCR [.ref CS, .type "ValueError", .type "Exception", .type "BaseException", .type "object"] true snCR subCR abCR colCR ddCR m0CR m1CR m2CR m3CR m5CR "ValueError.__new__")) (saCR : PySem.W.findIn K (.ref CR) "__setattr__" = some (some (.builtin "object.__setattr__"))) (gaCR : PySem.W.findIn K (.ref CR) "__getattribute__" = some (some (.builtin "BaseException.__getattribute__"))) (ggCR : PySem.W.findIn K (.ref CR) "__getattr__" = some none) (kcCR : PySem.W.keepIn K (.ref CR) = true) (exCR : PySem.W.subIn K (.ref CR) (.type "BaseException") = some true) (tyCR : PySem.W.typeIn K (.ref CR) = some (.type "type")) (hdCR : PySem.W.hasDictIn K CR = true) (icCR : PySem.W.isClsIn K CR = true) (coCR : PySem.W.findIn K (.ref CR) "__class__" = some (some (.builtin "object.__class__"))) (moCR : PySem.W.mroIn K CR (.type "object") = some true) (n0CR : PySem.W.findIn K (.ref CR) "found" = some none) (a1 : PySem.W.findIn K (.ref CS) "__init__" = some (some (.ref f1))) (i1 : PySem.W.isFn K (.ref f1) = true) (l1 : K.lookup f1 = some ⟨oc1, od1, .func (PySem.W.fnOf "__init__" "StaffError.__init__" (defArgs sSE) (defBody sSE) (defScope sSE) .none kV1 dc1 pm1 an1 cd1 ct1), sl1⟩) (c1 : PySem.W.codeIn K cd1 "StaffError.__init__" = true) (k1 : PySem.W.keepIn K (.ref f1) = true) (a2 : PySem.W.findIn K (.ref CN) "__init__" = some (some (.ref f2))) (i2 : PySem.W.isFn K (.ref f2) = true) (l2 : K.lookup f2 = some ⟨oc2, od2, .func (PySem.W.fnOf "__init__" "NoNumber.__init__" (defArgs sNoNumber) (defBody sNoNumber) (defScope sNoNumber) .none kV2 dc2 pm2 an2 cd2 ct2), sl2⟩) (c2 : PySem.W.codeIn K cd2 "NoNumber.__init__" = true) (k2 : PySem.W.keepIn K (.ref f2) = true) (a3 : PySem.W.findIn K (.ref CR) "__init__" = some (some (.ref f3))) (i3 : PySem.W.isFn K (.ref f3) = true) (l3 : K.lookup f3 = some ⟨oc3, od3, .func (PySem.W.fnOf "__init__" "NoRight.__init__" (defArgs sNoRight) (defBody sNoRight) (defScope sNoRight) .none kV3 dc3 pm3 an3 cd3 ct3), sl3⟩) (c3 : PySem.W.codeIn K cd3 "NoRight.__init__" = true) (k3 : PySem.W.keepIn K (.ref f3) = true) (a4 : PySem.W.nsIn K mainGlobals "is_whole" = some (some (.ref f4))) (l4 : K.lookup f4 = some ⟨oc4, od4, .func (PySem.W.fnOf "is_whole" "is_whole" (defArgs sWhole) (defBody sWhole) (defScope sWhole) .none kV4 dc4 pm4 an4 cd4 ct4), sl4⟩) (c4 : PySem.W.codeIn K cd4 "is_whole" = true) (k4 : PySem.W.keepIn K (.ref f4) = true) (a5 : PySem.W.findIn K (.ref C) "__init__" = some (some (.ref f5))) (i5 : PySem.W.isFn K (.ref f5) = true) (l5 : K.lookup f5 = some ⟨oc5, od5, .func (PySem.W.fnOf "__init__" "Holder.__init__" (defArgs s_init) (defBody s_init) (defScope s_init) .none kV5 dc5 pm5 an5 cd5 ct5), sl5⟩) (c5 : PySem.W.codeIn K cd5 "Holder.__init__" = true) (k5 : PySem.W.keepIn K (.ref f5) = true) (a6 : PySem.W.findIn K (.ref C) "got" = some (some (.ref f6))) (i6 : PySem.W.isFn K (.ref f6) = true) (l6 : K.lookup f6 = some ⟨oc6, od6, .func (PySem.W.fnOf "got" "Holder.got" (defArgs s_got) (defBody s_got) (defScope s_got) .none kV6 dc6 pm6 an6 cd6 ct6), sl6⟩) (c6 : PySem.W.codeIn K cd6 "Holder.got" = true) (k6 : PySem.W.keepIn K (.ref f6) = true) (a7 : PySem.W.findIn K (.ref C) "right" = some (some (.ref f7))) (i7 : PySem.W.isFn K (.ref f7) = true) (l7 : K.lookup f7 = some ⟨oc7, od7, .func (PySem.W.fnOf "right" "Holder.right" (defArgs s_right) (defBody s_right) (defScope s_right) .none kV7 dc7 pm7 an7 cd7 ct7), sl7⟩) (c7 : PySem.W.codeIn K cd7 "Holder.right" = true) (k7 : PySem.W.keepIn K (.ref f7) = true) (a8 : PySem.W.findIn K (.ref C) "use" = some (some (.ref f8))) (i8 : PySem.W.isFn K (.ref f8) = true) (l8 : K.lookup f8 = some ⟨oc8, od8, .func (PySem.W.fnOf "use" "Holder.use" (defArgs s_use) (defBody s_use) (defScope s_use) .none kV8 dc8 pm8 an8 cd8 ct8), sl8⟩) (c8 : PySem.W.codeIn K cd8 "Holder.use" = true) (k8 : PySem.W.keepIn K (.ref f8) = true) (a9 : PySem.W.findIn K (.ref C) "give" = some (some (.ref f9))) (i9 : PySem.W.isFn K (.ref f9) = true) (l9 : K.lookup f9 = some ⟨oc9, od9, .func (PySem.W.fnOf "give" "Holder.give" (defArgs s_give) (defBody s_give) (defScope s_give) .none kV9 dc9 pm9 an9 cd9 ct9), sl9⟩) (c9 : PySem.W.codeIn K cd9 "Holder.give" = true) (k9 : PySem.W.keepIn K (.ref f9) = true) (a10 : PySem.W.findIn K (.ref C) "note" = some (some (.ref f10))) (i10 : PySem.W.isFn K (.ref f10) = true) (l10 : K.lookup f10 = some ⟨oc10, od10, .func (PySem.W.fnOf "note" "Holder.note" (defArgs s_note) (defBody s_note) (defScope s_note) .none kV10 dc10 pm10 an10 cd10 ct10), sl10⟩) (c10 : PySem.W.codeIn K cd10 "Holder.note" = true) (k10 : PySem.W.keepIn K (.ref f10) = true) (a11 : PySem.W.findIn K (.ref C) "noted" = some (some (.ref f11))) (i11 : PySem.W.isFn K (.ref f11) = true) (l11 : K.lookup f11 = some ⟨oc11, od11, .func (PySem.W.fnOf "noted" "Holder.noted" (defArgs s_noted) (defBody s_noted) (defScope s_noted) .none kV11 dc11 pm11 an11 cd11 ct11), sl11⟩) (c11 : PySem.W.codeIn K cd11 "Holder.noted" = true) (k11 : PySem.W.keepIn K (.ref f11) = true) (a12 : PySem.W.findIn K (.ref C) "seen" = some (some (.ref f12))) (i12 : PySem.W.isFn K (.ref f12) = true) (l12 : K.lookup f12 = some ⟨oc12, od12, .func (PySem.W.fnOf "seen" "Holder.seen" (defArgs s_seen) (defBody s_seen) (defScope s_seen) .none kV12 dc12 pm12 an12 cd12 ct12), sl12⟩) (c12 : PySem.W.codeIn K cd12 "Holder.seen" = true) (k12 : PySem.W.keepIn K (.ref f12) = true) (a13 : PySem.W.findIn K (.ref C) "twin" = some (some (.ref f13))) (i13 : PySem.W.isFn K (.ref f13) = true) (l13 : K.lookup f13 = some ⟨oc13, od13, .func (PySem.W.fnOf "twin" "Holder.twin" (defArgs s_twin) (defBody s_twin) (defScope s_twin) .none kV13 dc13 pm13 an13 cd13 ct13), sl13⟩) (c13 : PySem.W.codeIn K cd13 "Holder.twin" = true) (k13 : PySem.W.keepIn K (.ref f13) = true) (a14 : PySem.W.nsIn K mainGlobals "_law_cell" = some (some (.ref f14))) (l14 : K.lookup f14 = some ⟨oc14, od14, .func (PySem.W.fnOf "_law_cell" "_law_cell" (defArgs sCell) (defBody sCell) (defScope sCell) .none kV14 dc14 pm14 an14 cd14 ct14), sl14⟩) (c14 : PySem.W.codeIn K cd14 "_law_cell" = true) (k14 : PySem.W.keepIn K (.ref f14) = true) (a15 : PySem.W.nsIn K mainGlobals "_law_box" = some (some (.ref f15))) (l15 : K.lookup f15 = some ⟨oc15, od15, .func (PySem.W.fnOf "_law_box" "_law_box" (defArgs sBox) (defBody sBox) (defScope sBox) .none kV15 dc15 pm15 an15 cd15 ct15), sl15⟩) (c15 : PySem.W.codeIn K cd15 "_law_box" = true) (k15 : PySem.W.keepIn K (.ref f15) = true) (a16 : PySem.W.nsIn K mainGlobals "_law_take" = some (some (.ref f16))) (l16 : K.lookup f16 = some ⟨oc16, od16, .func (PySem.W.fnOf "_law_take" "_law_take" (defArgs sTake) (defBody sTake) (defScope sTake) .none kV16 dc16 pm16 an16 cd16 ct16), sl16⟩) (c16 : PySem.W.codeIn K cd16 "_law_take" = true) (k16 : PySem.W.keepIn K (.ref f16) = true) (a17 : PySem.W.nsIn K mainGlobals "_law_names" = some (some (.ref f17))) (l17 : K.lookup f17 = some ⟨oc17, od17, .func (PySem.W.fnOf "_law_names" "_law_names" (defArgs s_law_names) (defBody s_law_names) (defScope s_law_names) .none kV17 dc17 pm17 an17 cd17 ct17), sl17⟩) (c17 : PySem.W.codeIn K cd17 "_law_names" = true) (k17 : PySem.W.keepIn K (.ref f17) = true) (a18 : PySem.W.nsIn K mainGlobals "_law_deed" = some (some (.ref f18))) (l18 : K.lookup f18 = some ⟨oc18, od18, .func (PySem.W.fnOf "_law_deed" "_law_deed" (defArgs s_law_deed) (defBody s_law_deed) (defScope s_law_deed) .none kV18 dc18 pm18 an18 cd18 ct18), sl18⟩) (c18 : PySem.W.codeIn K cd18 "_law_deed" = true) (k18 : PySem.W.keepIn K (.ref f18) = true) (a19 : PySem.W.nsIn K mainGlobals "_law_said" = some (some (.ref f19))) (l19 : K.lookup f19 = some ⟨oc19, od19, .func (PySem.W.fnOf "_law_said" "_law_said" (defArgs s_law_said) (defBody s_law_said) (defScope s_law_said) .none kV19 dc19 pm19 an19 cd19 ct19), sl19⟩) (c19 : PySem.W.codeIn K cd19 "_law_said" = true) (k19 : PySem.W.keepIn K (.ref f19) = true) (a20 : PySem.W.nsIn K mainGlobals "_law_done" = some (some (.ref f20))) (l20 : K.lookup f20 = some ⟨oc20, od20, .func (PySem.W.fnOf "_law_done" "_law_done" (defArgs s_law_done) (defBody s_law_done) (defScope s_law_done) .none kV20 dc20 pm20 an20 cd20 ct20), sl20⟩) (c20 : PySem.W.codeIn K cd20 "_law_done" = true) (k20 : PySem.W.keepIn K (.ref f20) = true) (a21 : PySem.W.nsIn K mainGlobals "_law_same" = some (some (.ref f21))) (l21 : K.lookup f21 = some ⟨oc21, od21, .func (PySem.W.fnOf "_law_same" "_law_same" (defArgs s_law_same) (defBody s_law_same) (defScope s_law_same) .none kV21 dc21 pm21 an21 cd21 ct21), sl21⟩) (c21 : PySem.W.codeIn K cd21 "_law_same" = true) (k21 : PySem.W.keepIn K (.ref f21) = true) (a22 : PySem.W.nsIn K mainGlobals "law" = some (some (.ref f22))) (l22 : K.lookup f22 = some ⟨oc22, od22, .func (PySem.W.fnOf "law" "law" (defArgs s_law) (defBody s_law) (defScope s_law) .none kV22 dc22 pm22 an22 cd22 ct22), sl22⟩) (c22 : PySem.W.codeIn K cd22 "law" = true) (k22 : PySem.W.keepIn K (.ref f22) = true) (z0 : PySem.W.nsIn K mainGlobals "isinstance" = some none) (z1 : PySem.W.nsIn K mainGlobals "int" = some none) (z2 : PySem.W.nsIn K mainGlobals "bool" = some none) (z3 : PySem.W.nsIn K mainGlobals "str" = some none) (z4 : PySem.W.nsIn K mainGlobals "len" = some none) (z5 : PySem.W.nsIn K mainGlobals "all" = some none) (z6 : PySem.W.nsIn K mainGlobals "max" = some none) (z7 : PySem.W.nsIn K mainGlobals "min" = some none) (z8 : PySem.W.nsIn K mainGlobals "range" = some none) (z9 : PySem.W.nsIn K mainGlobals "repr" = some none) (z10 : PySem.W.nsIn K mainGlobals "list" = some none) (z11 : PySem.W.nsIn K mainGlobals "tuple" = some none) (z12 : PySem.W.nsIn K mainGlobals "enumerate" = some none) (z13 : PySem.W.nsIn K mainGlobals "sorted" = some none) (z14 : PySem.W.nsIn K mainGlobals "dict" = some none) (z15 : PySem.W.nsIn K mainGlobals "ValueError" = some none) (aCS : PySem.W.nsIn K mainGlobals "StaffError" = some (some (.ref CS))) (gaCS : PySem.W.specialIn K (.ref CS) "__getattribute__" = some (some (.builtin "type.__getattribute__"))) (rdCS : PySem.W.readsIn K CS (.type "type") = true) (atCS : PySem.W.findCls K (.ref CS) (.type "type") "__init__" = some (.val (.ref f1))) (vi : PySem.W.findCls K (.type "ValueError") (.type "type") "__init__" = some (.val (.builtin "ValueError.__init__"))) (xRN : PySem.W.exmOne K (.ref CR) (.ref CN) = some false) (cg : PySem.W.specialIn K (.builtin "object.__class__") "__get__" = some (some (.builtin "getset_descriptor.__get__"))) (ct : PySem.W.takesIn K (.builtin "object.__class__") = some true) (smN : K.lookup sysModules = none) :
    GLawS l w K CX0 7 63 "_law_script" mg fa := by
  have e := hfa.symm.trans (PySem.W.mg_of X G a22)
  cases e
  have T : Txt mg := ⟨PySem.W.mg_none_of X G z0, PySem.W.mg_none_of X G z1, PySem.W.mg_none_of X G z2, PySem.W.mg_none_of X G z3, PySem.W.mg_none_of X G z4, PySem.W.mg_none_of X G z5, PySem.W.mg_none_of X G z6, PySem.W.mg_none_of X G z7, PySem.W.mg_none_of X G z8, PySem.W.mg_none_of X G z9, PySem.W.mg_none_of X G z10, PySem.W.mg_none_of X G z11, PySem.W.mg_none_of X G z12, PySem.W.mg_none_of X G z13, PySem.W.mg_none_of X G z14⟩
  have seCN : PySem.W.subIn K (.ref CN) (.ref CN) = some true := My.sub_self (by unfold PySem.W.clsIn; rw [xlCN] <;> rfl) rfl
  have seCR : PySem.W.subIn K (.ref CR) (.ref CR) = some true := My.sub_self (by unfold PySem.W.clsIn; rw [xlCR] <;> rfl) rfl
  have F1 := fun_mk (st := sSE) l1 c1 k1
  have b1 := F1.binds (ps := ["self", "text"]) fun _ _ _ _ _ _ us hl => match us, hl with | [_, _], _ => rfl
  have F2 := fun_mk (st := sNoNumber) l2 c2 k2
  have b2 := F2.binds (ps := ["self", "found"]) fun _ _ _ _ _ _ us hl => match us, hl with | [_, _], _ => rfl
  have F3 := fun_mk (st := sNoRight) l3 c3 k3
  have b3 := F3.binds (ps := ["self", "found"]) fun _ _ _ _ _ _ us hl => match us, hl with | [_, _], _ => rfl
  have F4 := fun_mk (st := sWhole) l4 c4 k4
  have b4 := F4.binds (ps := ["thing", "low", "high"]) fun _ _ _ _ _ _ us hl => match us, hl with | [_, _, _], _ => rfl
  have F5 := fun_mk (st := s_init) l5 c5 k5
  have b5 := F5.binds (ps := ["self"]) fun _ _ _ _ _ _ us hl => match us, hl with | [_], _ => rfl
  have F6 := fun_mk (st := s_got) l6 c6 k6
  have b6 := F6.binds (ps := ["self", "number", "place"]) fun _ _ _ _ _ _ us hl => match us, hl with | [_, _, _], _ => rfl
  have F7 := fun_mk (st := s_right) l7 c7 k7
  have b7 := F7.binds (ps := ["self"]) fun _ _ _ _ _ _ us hl => match us, hl with | [_], _ => rfl
  have F8 := fun_mk (st := s_use) l8 c8 k8
  have b8 := F8.binds (ps := ["self"]) fun _ _ _ _ _ _ us hl => match us, hl with | [_], _ => rfl
  have F9 := fun_mk (st := s_give) l9 c9 k9
  have b9 := F9.binds (ps := ["self"]) fun _ _ _ _ _ _ us hl => match us, hl with | [_], _ => rfl
  have F10 := fun_mk (st := s_note) l10 c10 k10
  have b10 := F10.binds (ps := ["self", "number", "place"]) fun _ _ _ _ _ _ us hl => match us, hl with | [_, _, _], _ => rfl
  have F11 := fun_mk (st := s_noted) l11 c11 k11
  have b11 := F11.binds (ps := ["self"]) fun _ _ _ _ _ _ us hl => match us, hl with | [_], _ => rfl
  have F12 := fun_mk (st := s_seen) l12 c12 k12
  have b12 := F12.binds (ps := ["self"]) fun _ _ _ _ _ _ us hl => match us, hl with | [_], _ => rfl
  have F13 := fun_mk (st := s_twin) l13 c13 k13
  have b13 := F13.binds (ps := ["self"]) fun _ _ _ _ _ _ us hl => match us, hl with | [_], _ => rfl
  have F14 := fun_mk (st := sCell) l14 c14 k14
  have b14 := F14.binds (ps := ["_law_script", "_law_k"]) fun _ _ _ _ _ _ us hl => match us, hl with | [_, _], _ => rfl
  have F15 := fun_mk (st := sBox) l15 c15 k15
  have b15 := F15.binds (ps := ["_law_cell_here"]) fun _ _ _ _ _ _ us hl => match us, hl with | [_], _ => rfl
  have F16 := fun_mk (st := sTake) l16 c16 k16
  have b16 := F16.binds (ps := ["_law_box_here", "_law_many"]) fun _ _ _ _ _ _ us hl => match us, hl with | [_, _], _ => rfl
  have F17 := fun_mk (st := s_law_names) l17 c17 k17
  have b17 := F17.binds (ps := ["_law_box_here", "_law_many"]) fun _ _ _ _ _ _ us hl => match us, hl with | [_, _], _ => rfl
  have F18 := fun_mk (st := s_law_deed) l18 c18 k18
  have b18 := F18.binds (ps := ["_law_box_here", "_law_names_here", "_law_row"]) fun _ _ _ _ _ _ us hl => match us, hl with | [_, _, _], _ => rfl
  have F19 := fun_mk (st := s_law_said) l19 c19 k19
  have b19 := F19.binds (ps := ["_law_holder", "_law_deed_here"]) fun _ _ _ _ _ _ us hl => match us, hl with | [_, _], _ => rfl
  have F20 := fun_mk (st := s_law_done) l20 c20 k20
  have b20 := F20.binds (ps := ["_law_row", "_law_deed_here"]) fun _ _ _ _ _ _ us hl => match us, hl with | [_, _], _ => rfl
  have F21 := fun_mk (st := s_law_same) l21 c21 k21
  have b21 := F21.binds (ps := ["_law_holders", "_law_rows"]) fun _ _ _ _ _ _ us hl => match us, hl with | [_, _], _ => rfl
  have F22 := fun_mk (st := s_law) l22 c22 k22
  have TC : HolT K C := ⟨⟨pgC, hdC, poC, saC⟩, n0C, n1C, n2C⟩
  have ES : SeT K mg CS f1 _ sSE := ⟨PySem.W.mg_none_of X G z15, vi, PySem.W.mg_of X G aCS, ⟨gaCS, rdCS, atCS⟩, k1, F1, b1⟩
  have EN : ExC K mg "NoNumber" "NoNumber.__init__" sNoNumber CN f2 _ := ⟨PySem.W.mg_of X G aCN, F2, b2, ⟨⟨nmCN, qCN, NCN, bsCN, _, snCN, subCN, abCN, colCN, ddCN, m0CN, m1CN, m2CN, m3CN, m5CN, xlCN, rfl⟩, saCN, exCN, tyCN, kcCN⟩, a2, (beq_iff_eq.mp i2), n0CN, PySem.W.exm_ref exCN hdCN tyCN seCN, ⟨gaCN, ggCN, exCN, hdCN⟩, ⟨icCN, gaCN, ggCN, exCN, coCN, cg, ct, moCN⟩⟩
  have ER : ExC K mg "NoRight" "NoRight.__init__" sNoRight CR f3 _ := ⟨PySem.W.mg_of X G aCR, F3, b3, ⟨⟨nmCR, qCR, NCR, bsCR, _, snCR, subCR, abCR, colCR, ddCR, m0CR, m1CR, m2CR, m3CR, m5CR, xlCR, rfl⟩, saCR, exCR, tyCR, kcCR⟩, a3, (beq_iff_eq.mp i3), n0CR, PySem.W.exm_ref exCR hdCR tyCR seCR, ⟨gaCR, ggCR, exCR, hdCR⟩, ⟨icCR, gaCR, ggCR, exCR, coCR, cg, ct, moCR⟩⟩
  refine ⟨PySem.W.fnOf "law" "law" (defArgs s_law) (defBody s_law) (defScope s_law) .none kV22 dc22 pm22 an22 cd22 ct22, spLaw K, smN, fun s v => .of_eq rfl, ?_, ?_⟩
  · intro H a ns hn sm hS
    exact ⟨a, ns, rfl, hS, sm, hn, fun _ => rfl⟩
  · intro base kb nb
    have gis_whole : FnOk l.prog w K mg base CX0 _ f4 _ _ _ := ok_wholeG F4 T
    have gHolder : FnOk l.prog w K mg base CX0 _ f5 _ _ _ := ok_init F5 TC
    have ggot : FnOk l.prog w K mg base (CX l.prog w) _ f6 _ _ _ := ok_got F6 T TC ES EN ⟨F4, PySem.W.mg_of X G a4, b4⟩ gis_whole
    have gright : FnOk l.prog w K mg base CX0 _ f7 _ _ _ := ok_right F7 TC
    have guse : FnOk l.prog w K mg base (CX l.prog w) _ f8 _ _ _ := ok_use F8 TC ES ER
    have ggive : FnOk l.prog w K mg base (CX l.prog w) _ f9 _ _ _ := ok_give F9 TC ⟨F8, ⟨a8, i8, k8⟩, b8⟩ guse
    have gnote : FnOk l.prog w K mg base (CX l.prog w) _ f10 _ _ _ := ok_note F10 TC
    have gnoted : FnOk l.prog w K mg base CX0 _ f11 _ _ _ := ok_noted F11 TC
    have gseen : FnOk l.prog w K mg base CX0 _ f12 _ _ _ := ok_seen F12 TC
    have gtwin : FnOk l.prog w K mg base CX0 _ f13 _ _ _ := ok_twin F13 TC (PySem.W.mg_of X G aC) ⟨mkC, a5, i5, kcC⟩ gHolder b5
    have glaw_cell : FnOk l.prog w K mg base CX0 _ f14 _ _ _ := ok_cell F14 T
    have glaw_box : FnOk l.prog w K mg base CX0 _ f15 _ _ _ := ok_box F15 T
    have glaw_take : FnOk l.prog w K mg base CX0 _ f16 _ _ _ := ok_take F16
    have glaw_names : FnOk l.prog w K mg base CX0 _ f17 _ _ _ := ok_names F17 T ⟨F16, PySem.W.mg_of X G a16, b16⟩ glaw_take
    have glaw_deed : FnOk l.prog w K mg base CX0 _ f18 _ _ _ := ok_deed F18 T ⟨F16, PySem.W.mg_of X G a16, b16⟩ glaw_take
    have glaw_said : FnOk l.prog w K mg base CX0 _ f19 _ _ _ := ok_said F19 T TC ES EN ER xRN ⟨F6, ⟨a6, i6, k6⟩, b6⟩ ggot ⟨F10, ⟨a10, i10, k10⟩, b10⟩ gnote ⟨F8, ⟨a8, i8, k8⟩, b8⟩ guse ⟨F9, ⟨a9, i9, k9⟩, b9⟩ ggive
    have glaw_done : FnOk l.prog w K mg base CX0 _ f20 _ _ _ := ok_done F20 T
    have glaw_same : GOk l.prog w K mg base CX0 _ f21 _ _ _ := ok_same F21 T TC ⟨F7, ⟨a7, i7, k7⟩, b7⟩ gright ⟨F11, ⟨a11, i11, k11⟩, b11⟩ gnoted ⟨F12, ⟨a12, i12, k12⟩, b12⟩ gseen
    exact ok_law F22 T TC (PySem.W.mg_of X G aC) ⟨mkC, a5, i5, kcC⟩ gHolder b5 glaw_cell ⟨F14, PySem.W.mg_of X G a14, b14⟩ glaw_box ⟨F15, PySem.W.mg_of X G a15, b15⟩ glaw_take ⟨F16, PySem.W.mg_of X G a16, b16⟩ glaw_names ⟨F17, PySem.W.mg_of X G a17, b17⟩ glaw_deed ⟨F18, PySem.W.mg_of X G a18, b18⟩ glaw_said ⟨F19, PySem.W.mg_of X G a19, b19⟩ glaw_done ⟨F20, PySem.W.mg_of X G a20, b20⟩ glaw_same ⟨F21, PySem.W.mg_of X G a21, b21⟩ ⟨F13, ⟨a13, i13, k13⟩, b13⟩ gtwin
end K22

open PySem PySem.W PyProof.Rows in
set_option maxRecDepth 100000 in
set_option maxHeartbeats 0 in
theorem PySem.Challenge.cw_onestaff_k22_rights_of_places_holds : PySem.Challenge.rw_onestaff_k22_rights_of_places.Holds := by
  w_on; o_law; k_head; (case hw => w_witness2)
  k_fill
  refine Gd.walk_s (no := by first | rfl | decide +kernel) (l := PySem.Challenge.rw_onestaff_k22_rights_of_places) (n := 63) (k := 7) (x := "_law_script") (CX := fun _ => L2.CX0) rfl (by decide) rfl ⟨rfl, by decide, by decide⟩ (fun w h Y => PySem.W.kIn_of Y) ?F (fun _ _ _ _ _ z => z)
  case F =>
    intro w mg fa h Y KX G hmg 
    refine' K22.all_mk KX G hmg  ?QaC ?QpgC ?QhdC ?QpoC ?QsaC ?QmkC ?QkcC ?Qn0C ?Qn1C ?Qn2C ?QaCN ?QxlCN ?QsaCN ?QgaCN ?QggCN ?QkcCN ?QexCN ?QtyCN ?QhdCN ?QicCN ?QcoCN ?QmoCN ?Qn0CN ?QaCR ?QxlCR ?QsaCR ?QgaCR ?QggCR ?QkcCR ?QexCR ?QtyCR ?QhdCR ?QicCR ?QcoCR ?QmoCR ?Qn0CR ?Qa1 ?Qi1 ?Ql1 ?Qc1 ?Qk1 ?Qa2 ?Qi2 ?Ql2 ?Qc2 ?Qk2 ?Qa3 ?Qi3 ?Ql3 ?Qc3 ?Qk3 ?Qa4 ?Ql4 ?Qc4 ?Qk4 ?Qa5 ?Qi5 ?Ql5 ?Qc5 ?Qk5 ?Qa6 ?Qi6 ?Ql6 ?Qc6 ?Qk6 ?Qa7 ?Qi7 ?Ql7 ?Qc7 ?Qk7 ?Qa8 ?Qi8 ?Ql8 ?Qc8 ?Qk8 ?Qa9 ?Qi9 ?Ql9 ?Qc9 ?Qk9 ?Qa10 ?Qi10 ?Ql10 ?Qc10 ?Qk10 ?Qa11 ?Qi11 ?Ql11 ?Qc11 ?Qk11 ?Qa12 ?Qi12 ?Ql12 ?Qc12 ?Qk12 ?Qa13 ?Qi13 ?Ql13 ?Qc13 ?Qk13 ?Qa14 ?Ql14 ?Qc14 ?Qk14 ?Qa15 ?Ql15 ?Qc15 ?Qk15 ?Qa16 ?Ql16 ?Qc16 ?Qk16 ?Qa17 ?Ql17 ?Qc17 ?Qk17 ?Qa18 ?Ql18 ?Qc18 ?Qk18 ?Qa19 ?Ql19 ?Qc19 ?Qk19 ?Qa20 ?Ql20 ?Qc20 ?Qk20 ?Qa21 ?Ql21 ?Qc21 ?Qk21 ?Qa22 ?Ql22 ?Qc22 ?Qk22 ?Qz0 ?Qz1 ?Qz2 ?Qz3 ?Qz4 ?Qz5 ?Qz6 ?Qz7 ?Qz8 ?Qz9 ?Qz10 ?Qz11 ?Qz12 ?Qz13 ?Qz14 ?Qz15 ?QaCS ?QgaCS ?QrdCS ?QatCS ?Qvi ?QxRN ?Qcg ?Qct ?QsmN
    (case QaC => k_is)
    (case QpgC => k_is)
    (case QhdC => k_is)
    (case QpoC => k_is)
    (case QsaC => k_is)
    (case QmkC => k_is)
    (case QkcC => k_is)
    (case Qn0C => k_is)
    (case Qn1C => k_is)
    (case Qn2C => k_is)
    (case QaCN => k_is)
    (case QxlCN => k_is)
    (case QsaCN => k_is)
    (case QgaCN => k_is)
    (case QggCN => k_is)
    (case QkcCN => k_is)
    (case QexCN => k_is)
    (case QtyCN => k_is)
    (case QhdCN => k_is)
    (case QicCN => k_is)
    (case QcoCN => k_is)
    (case QmoCN => k_is)
    (case Qn0CN => k_is)
    (case QaCR => k_is)
    (case QxlCR => k_is)
    (case QsaCR => k_is)
    (case QgaCR => k_is)
    (case QggCR => k_is)
    (case QkcCR => k_is)
    (case QexCR => k_is)
    (case QtyCR => k_is)
    (case QhdCR => k_is)
    (case QicCR => k_is)
    (case QcoCR => k_is)
    (case QmoCR => k_is)
    (case Qn0CR => k_is)
    (case Qa1 => k_is)
    (case Qi1 => k_is)
    (case Ql1 => k_is)
    (case Qc1 => k_is)
    (case Qk1 => k_is)
    (case Qa2 => k_is)
    (case Qi2 => k_is)
    (case Ql2 => k_is)
    (case Qc2 => k_is)
    (case Qk2 => k_is)
    (case Qa3 => k_is)
    (case Qi3 => k_is)
    (case Ql3 => k_is)
    (case Qc3 => k_is)
    (case Qk3 => k_is)
    (case Qa4 => k_is)
    (case Ql4 => k_is)
    (case Qc4 => k_is)
    (case Qk4 => k_is)
    (case Qa5 => k_is)
    (case Qi5 => k_is)
    (case Ql5 => k_is)
    (case Qc5 => k_is)
    (case Qk5 => k_is)
    (case Qa6 => k_is)
    (case Qi6 => k_is)
    (case Ql6 => k_is)
    (case Qc6 => k_is)
    (case Qk6 => k_is)
    (case Qa7 => k_is)
    (case Qi7 => k_is)
    (case Ql7 => k_is)
    (case Qc7 => k_is)
    (case Qk7 => k_is)
    (case Qa8 => k_is)
    (case Qi8 => k_is)
    (case Ql8 => k_is)
    (case Qc8 => k_is)
    (case Qk8 => k_is)
    (case Qa9 => k_is)
    (case Qi9 => k_is)
    (case Ql9 => k_is)
    (case Qc9 => k_is)
    (case Qk9 => k_is)
    (case Qa10 => k_is)
    (case Qi10 => k_is)
    (case Ql10 => k_is)
    (case Qc10 => k_is)
    (case Qk10 => k_is)
    (case Qa11 => k_is)
    (case Qi11 => k_is)
    (case Ql11 => k_is)
    (case Qc11 => k_is)
    (case Qk11 => k_is)
    (case Qa12 => k_is)
    (case Qi12 => k_is)
    (case Ql12 => k_is)
    (case Qc12 => k_is)
    (case Qk12 => k_is)
    (case Qa13 => k_is)
    (case Qi13 => k_is)
    (case Ql13 => k_is)
    (case Qc13 => k_is)
    (case Qk13 => k_is)
    (case Qa14 => k_is)
    (case Ql14 => k_is)
    (case Qc14 => k_is)
    (case Qk14 => k_is)
    (case Qa15 => k_is)
    (case Ql15 => k_is)
    (case Qc15 => k_is)
    (case Qk15 => k_is)
    (case Qa16 => k_is)
    (case Ql16 => k_is)
    (case Qc16 => k_is)
    (case Qk16 => k_is)
    (case Qa17 => k_is)
    (case Ql17 => k_is)
    (case Qc17 => k_is)
    (case Qk17 => k_is)
    (case Qa18 => k_is)
    (case Ql18 => k_is)
    (case Qc18 => k_is)
    (case Qk18 => k_is)
    (case Qa19 => k_is)
    (case Ql19 => k_is)
    (case Qc19 => k_is)
    (case Qk19 => k_is)
    (case Qa20 => k_is)
    (case Ql20 => k_is)
    (case Qc20 => k_is)
    (case Qk20 => k_is)
    (case Qa21 => k_is)
    (case Ql21 => k_is)
    (case Qc21 => k_is)
    (case Qk21 => k_is)
    (case Qa22 => k_is)
    (case Ql22 => k_is)
    (case Qc22 => k_is)
    (case Qk22 => k_is)
    (case Qz0 => k_is)
    (case Qz1 => k_is)
    (case Qz2 => k_is)
    (case Qz3 => k_is)
    (case Qz4 => k_is)
    (case Qz5 => k_is)
    (case Qz6 => k_is)
    (case Qz7 => k_is)
    (case Qz8 => k_is)
    (case Qz9 => k_is)
    (case Qz10 => k_is)
    (case Qz11 => k_is)
    (case Qz12 => k_is)
    (case Qz13 => k_is)
    (case Qz14 => k_is)
    (case Qz15 => k_is)
    (case QaCS => k_is)
    (case QgaCS => k_is)
    (case QrdCS => k_is)
    (case QatCS => k_is)
    (case Qvi => k_is)
    (case QxRN => first | kit_is | kernel_rfl | k_is)
    (case Qcg => k_is)
    (case Qct => k_is)
    (case QsmN => first | rfl | kernel_rfl)

