import PyProof.Rows.All
import Wide.All
import OpenK.AllK
import Wide.FinOn
import PyProof.EqAt
import PyProof.EqKinds
import PyProof.TupleCall
import HandS.Base
import HandS.Call
import HandS.List
import HandS.Comp
import HandS.Ends
import HandS.Text
import HandS.Exc
import HandS.Words
import HandS.WordsList
import HandS.Iter
import HandS.Dict
import HandS.Wide
import HandS.IsInst
import HandS.AnyAll
import HandS.EndBits
import HandS.EndTab
import HandS.TryMany
import HandS.ExcOwn
import HandS.WordsExc
import HandS.ExcInit
import HandS.ExcField
import HandS.ExcIs
import KE.KExcIs
import KE.KIsAll
import PyProof.Rows.RegFStrParts
import PyProof.Rows.ReprShort
import PySem.Challenge.RW_onestaff_k13_trains_counted
set_option Elab.async false
set_option linter.all false
set_option maxRecDepth 100000
set_option maxHeartbeats 4000000
/-! Defs that show lists and tuples: they run where no display is under way. -/
namespace Gd
open PySem PySem.Spec PyProof.Rows L2

/-- a def's promise, kept wherever no display is under way -/
structure GOk (P : Program) (w : World) (K : PySem.W.Frag) (mg : Str → Option Value) (base : Heap) (CX : CXT) (k : Nat) (f : Addr) (fd : FuncData) (ps : List Str) (sp : Sp) : Prop where
  size : ∀ vs H Q E, sp vs H Q E → vs.length = ps.length
  go : ∀ (A : Around) (out : List Env) (s : Shared) (H : Hp) (ar : Args) (us : List Value) (vs : List V) (Q : VK) (E : XK), A.guards = some [] →
    Room k A → Env0 P w K mg base A out s H → BindsTo s fd ar (ps.zip us) → Vals vs us → sp vs H Q E →
    codeAny (model P w) A (.call (.ref f) ar) (CR CX out P w H s Q E) s

section
variable {P : Program} {w : World} {K : PySem.W.Frag} {mg : Str → Option Value} {base : Heap}

/-- by its body -/
theorem gok_body {CX : CXT} {k : Nat} {x qual : Str} {st : Stmt} {f : Addr} {fd : FuncData} {N ps : List Str} {sp : Sp} (F : Fun K x qual st f fd) (S : FnScope N ps (defScope st))
    (size : ∀ vs H Q E, sp vs H Q E → vs.length = ps.length)
    (body : ∀ (cd : Value) (A : Around) (out : List Env) (s : Shared) (H : Hp) (vs : List V) (Q : VK) (E : XK), A.guards = some [] →
      Room k (A.deeper (envOfC qual (defScope st) s.heap.objs.size f cd)) → sp vs H Q E →
      ∃ t, PSs (cxOf CX P w K mg base N qual (defScope st) f cd A out s H E) (defBody st) t ∧ t { nx := fun _ H' => Q .non H', rt := Q } (start N vs) H) :
    GOk P w K mg base CX (k + 1) f fd ps sp := by
  obtain ⟨oc, od, kV, doc, pm, an, cd, ct, osl, rfl, lk, hcd⟩ := F.ex
  refine ⟨size, fun A out s H ar us vs Q E gd hr e0 hb r hsp => ?_⟩
  have hl := size _ _ _ _ hsp
  have KX : K.In s.heap := e0.mod.kin.keeps fun b o z => (e0.bs b o z).1
  have kinds : ∀ y ∈ ps.zip us, (defScope st).names.lookup y.1 = some .local ∨
      ((defScope st).names.lookup y.1 = some .cell ∧ ((cellsFrom (s.heap.objs.size + 1) (defScope st).names []).lookup y.1).isSome = true) := by
    rintro ⟨n, v⟩ hy
    have hm := (List.of_mem_zip hy).1
    cases S.par n hm with
    | inl q => exact .inl q
    | inr q => exact .inr ⟨q, PySem.W.cellsFrom_some _ _ _ (.inl q)⟩
  have Z := PySem.W.codeRec_of KX hcd
  refine codeAny_call_function hr.depth (KX _ _ lk) rfl S.co S.gen rfl Z (hb _ _ _ _ ?_)
  refine wpAny_newFunctionEnv_cells S.kind kinds fun env he s1 ic => ?_
  subst he
  have lim : s.heap.NoLimit := e0.mod.nolimit.keeps fun b o z => (e0.bs b o z).1
  refine ⟨lim.keeps ic.toInCall.keep, codeAny_func ?_⟩
  obtain ⟨t, ht, hq⟩ := body cd A out s H vs Q E gd (hr.deeper _) hsp
  have I := inv_start (CX := CX) (E := E) S hr.hd e0 hl r ic
  refine wpAny_mono (ht.run [] s1 (start N vs) H _ I hq) ?_ (fun _ _ z => z)
  intro fl s' hs
  cases fl with
  | brk => obtain ⟨_, _, _, q⟩ := hs; exact q.elim
  | cont => obtain ⟨_, _, _, q⟩ := hs; exact q.elim
  | next =>
    obtain ⟨σ', H', J, q⟩ := hs
    exact ⟨V.non, H', J.os, J.bare, J.base, J.hok, rfl, q⟩
  | ret u =>
    obtain ⟨v, σ', H', J, rv, q⟩ := hs
    exact ⟨v, H', J.os, J.bare, J.base, J.hok, rv, q⟩
/-- the same where nothing is raised -/
theorem gok {k : Nat} {x qual : Str} {st : Stmt} {f : Addr} {fd : FuncData} {N ps : List Str} {sp : Sp} (F : Fun K x qual st f fd) (S : FnScope N ps (defScope st))
    (size : ∀ vs H Q E, sp vs H Q E → vs.length = ps.length)
    (body : ∀ (cd : Value) (A : Around) (out : List Env) (s : Shared) (H : Hp) (vs : List V) (Q : VK) (E : XK), A.guards = some [] →
      Room k (A.deeper (envOfC qual (defScope st) s.heap.objs.size f cd)) → sp vs H Q E →
      ∃ t, PSs (cxOf CX0 P w K mg base N qual (defScope st) f cd A out s H E).nox (defBody st) t ∧ t { nx := fun _ H' => Q .non H', rt := Q } (start N vs) H) :
    GOk P w K mg base CX0 (k + 1) f fd ps sp := by
  refine gok_body F S size fun cd A out s H vs Q E gd hr q => ?_
  obtain ⟨t, h, z⟩ := body cd A out s H vs Q E gd hr q
  exact ⟨t, h.nox, z⟩
theorem GOk.mono {CX : CXT} {j k : Nat} {f : Addr} {fd : FuncData} {ps : List Str} {sp : Sp} (F : GOk P w K mg base CX j f fd ps sp) (h : j ≤ k) : GOk P w K mg base CX k f fd ps sp :=
  ⟨F.size, fun A out s H ar us vs Q E gd hr => F.go A out s H ar us vs Q E gd (hr.mono h)⟩
theorem gok_of {CX : CXT} {k : Nat} {f : Addr} {fd : FuncData} {ps : List Str} {sp : Sp} (F : FnOk P w K mg base CX k f fd ps sp) : GOk P w K mg base CX k f fd ps sp :=
  ⟨F.len, fun A out s H ar us vs Q E _ hr => F.run A out s H ar us vs Q E hr⟩
end

section
variable {X : Cx} {CX : CXT} {k : Nat} {f : Addr} {fd : FuncData} {ps : List Str} {sp : Sp} {dvs : List V} {ds : List Value} {E : XK} {x : Str} {p pos : Pos} {e : Expr} {es : List Expr} {t : TA}
/-- f(e, ..), f such a def, from a body of such a def -/
theorem pe_gcall (gd : X.A.guards = some []) (F : GOk X.prog X.w X.K X.mg X.base CX k f fd ps sp) (hr : Room k X.A) (hg : Gl X x) (hm : X.mg x = some (.ref f)) (hk : PySem.W.keepIn X.K (.ref f) = true)
    (hb : Binds X.K fd ps ds) (hd : Vals dvs ds) (hx : Passes CX X E) (ha : PA X (e :: es) t) (hdb : (x == ("__debug__" : Str)) = false := by decide)
    (he : starEach (e :: es) X.env = (false, eval e X.env) :: starEach es X.env := by rfl) (hpl : (backTo pos (starEach es X.env)).any (·.1) = false := by rfl) :
    PE X (.Call (.Name x p) (e :: es) [] pos) (tCall sp dvs E t) := by
  refine ⟨fun pins s σ H Q I h => wpAny_Call_Name_kw (ld_glob I hg hm ?_ hdb)⟩
  have A1 := ha.run pos pins s σ H _ I h
  refine PySem.W.callWith_K (h₀ := X.base) I.ok.mod.kin hk (thn A1 ?_) he hpl
  rintro us s1 ⟨vs, H1, I1, r, q⟩
  refine ⟨I1.kIn, ?_⟩
  have both := r.append hd
  have hl : (us ++ ds).length = ps.length := (both.length).symm.trans (F.size _ _ _ _ q)
  have run1 := F.go X.A X.stack s1 H1 ⟨us, []⟩ (us ++ ds) (vs ++ dvs) Q E gd hr I1.env0 (hb s1 us I1.kIn hl) both q
  refine wpAny_call (codeAny_mono run1 ?_)
  intro res s' hq
  match res, hq with
  | .error e, hq => exact hx pins σ H1 s1 e s' I1 hq
  | .ok (.ret u), hq => exact I1.after hq
  | .ok .next, hq => exact hq.elim
  | .ok .brk, hq => exact hq.elim
  | .ok .cont, hq => exact hq.elim

/-! ### repr of data -/
mutual
theorem dp_noDict {K : PySem.W.Frag} {H : Hp} : ∀ {v : V} {d : PyData}, Dp K H v d → d.hasDict = false
  | _, _, .non => by simp only [PyData.hasDict]
  | _, _, .bl _ => by simp only [PyData.hasDict]
  | _, _, .int _ => by simp only [PyData.hasDict]
  | _, _, .str _ => by simp only [PyData.hasDict]
  | _, _, .lst _ h => by simp only [PyData.hasDict]; exact dpAll_noDict h
  | _, _, .tup _ h => by simp only [PyData.hasDict]; exact dpAll_noDict h
theorem dpAll_noDict {K : PySem.W.Frag} {H : Hp} : ∀ {vs : List V} {ds : List PyData}, DpAll K H vs ds → PyData.hasDictAll ds = false
  | _, _, .nil => by simp only [PyData.hasDictAll]
  | _, _, .cons h t => by simp only [PyData.hasDictAll, dp_noDict h, dpAll_noDict t, Bool.or_self]
end
/-- repr(v), v some data d -/
def rRepr (K : PySem.W.Frag) : List V → Hp → VK → Prop := fun xs H Q => ∃ v d, xs = [v] ∧ Dp K H v d ∧ d.showable = true ∧ d.depth ≤ 100 ∧ d.shown.length ≤ sizeLine ∧ Q (.str d.shown) H
theorem call_repr (gd : X.A.guards = some []) (hr : Room k X.A) : CallR X (.builtin "repr") (rRepr X.K) := by
  intro pins s σ H xs us Q I r h
  obtain ⟨v, d, rfl, dp, hs, hdep, hsz, q⟩ := h
  cases r with
  | cons rv rn =>
    cases rn
    have hun := hr.un
    cases dp with
    | non =>
      cases rv
      refine PySem.P.repr_of_none ⟨.str _, H, I.tok _, ⟨_, rfl⟩, ?_⟩
      simpa only [PyData.shown] using q
    | bl b =>
      cases rv
      refine PySem.P.repr_of_bool ⟨.str _, H, I.tok _, ⟨_, rfl⟩, ?_⟩
      simpa only [PyData.shown] using q
    | int i =>
      obtain ⟨t, rfl⟩ := rv
      refine PySem.P.repr_of_int (by simpa [PyData.showable] using hs) ⟨.str _, H, I.tok _, ⟨_, rfl⟩, ?_⟩
      simpa only [PyData.shown] using q
    | str z =>
      obtain ⟨t, rfl⟩ := rv
      refine PySem.P.repr_of_str ⟨.str _, H, I.tok _, ⟨_, rfl⟩, ?_⟩ (by simpa only [PyData.shown] using hsz)
      simpa only [PyData.shown] using q
    | lst hl ha =>
      cases rv
      obtain ⟨as, rd⟩ := Dp.reads I _ _ _ (.lst hl ha) rfl
      refine repr_of_reads' rd hs (PyData.noDict_hsm (dp_noDict (.lst hl ha))) gd (by omega) (fun _ _ z => z) (fun h' u tk hk => ?_) hsz
      exact ⟨.str _, H, I.kept hk, ⟨_, rfl⟩, q⟩
    | tup hl ha =>
      cases rv
      obtain ⟨as, rd⟩ := Dp.reads I _ _ _ (.tup hl ha) rfl
      refine repr_of_reads' rd hs (PyData.noDict_hsm (dp_noDict (.tup hl ha))) gd (by omega) (fun _ _ z => z) (fun h' u tk hk => ?_) hsz
      exact ⟨.str _, H, I.kept hk, ⟨_, rfl⟩, q⟩
end
end Gd

set_option maxRecDepth 100000
set_option maxHeartbeats 4000000
/-! The end of a law whose own def shows data: no display is under way at its call. -/
namespace Gd
open PySem PySem.Spec PyProof.Rows L2 GxR

/-- the script's own object -/
def scriptO (vs : List Value) : Obj := { cls := .type "list", data := .seq vs.toArray }
def tabO : Obj := { cls := .none, data := .fields #[] }
open Classical in
/-- what is tracked at the law's call: the script (where the written part hasn't it), the tables -/
noncomputable def h0 (K : PySem.W.Frag) (a : Addr) (vs : List Value) (ns : List Int) (T : List Addr) : Hp := fun b =>
  if b = a ∧ K.lookup a = none then some (.frz (scriptO vs) (.lst (ns.map V.int))) else if b ∈ T then some (.tbl #[]) else none

theorem h0_inv {K : PySem.W.Frag} {a b : Addr} {vs : List Value} {ns : List Int} {T : List Addr} {u : HO} (h : h0 K a vs ns T b = some u) :
    (b = a ∧ K.lookup a = none ∧ u = .frz (scriptO vs) (.lst (ns.map V.int))) ∨ (b ∈ T ∧ u = .tbl #[]) := by
  unfold h0 at h
  by_cases c1 : b = a ∧ K.lookup a = none
  · rw [if_pos c1] at h
    exact .inl ⟨c1.1, c1.2, (Option.some.inj h).symm⟩
  · rw [if_neg c1] at h
    by_cases c2 : b ∈ T
    · rw [if_pos c2] at h
      exact .inr ⟨c2, (Option.some.inj h).symm⟩
    · rw [if_neg c2] at h
      cases h

section
variable {P : Program} {w : World} {K : PySem.W.Frag} {mg mb : Str → Option Value} {CX : CXT} {k : Nat} {fa a : Addr} {cs : List (Addr × Addr)} {fd : FuncData} {x : Str} {sp : Sp} {s1 : Shared} {vs : List Value} {ns : List Int}
theorem law_gcall (KX : K.In s1.heap) (nsG : s1.heap.Ns mainGlobals mg) (nsB : s1.heap.Ns builtinsNs mb) (isB : ∀ x : Str, x ≠ "__name__" → mb x = bootBuiltins x) (lim : s1.heap.NoLimit) (gens : s1.gens = #[])
    (tabs : ∀ p ∈ cs, s1.heap.get? p.2 = some tabO) (tabK : ∀ p ∈ cs, K.lookup p.2 = none) (codes : ∀ p ∈ cs, PySem.W.CodeHd s1.heap p.1 p.2)
    (bmain : ∃ (bm : Addr) (ob : Obj), mg "__builtins__" = some (.ref bm) ∧ bm ≠ builtinsNs ∧ s1.heap.get? bm = some ob ∧ ob.cls = .type "module" ∧ ob.dict = some builtinsNs ∧ ob.data = .plain)
    (ha : s1.heap.get? a = some (scriptO vs)) (hi : IntsAre vs ns) (hl : ns.length ≤ sizeLine) (hr : Room k callerA)
    (F : ∀ base : Heap, K.In base → base.Ns mainGlobals mg → (∀ p ∈ cs, TabB base mg p.1 p.2) → GOk P w K mg base CX k fa fd [x] sp)
    (hbind : ∀ (s : Shared) (u : Value), BindsTo s fd ⟨[u], []⟩ [(x, u)])
    (hsp : ∀ H : Hp, (∀ p ∈ cs, H p.2 = some (.tbl #[])) → SqL K H a (ns.map V.int) → sp [.ref a] H (fun v _ => v = .bl true) fun _ _ _ => False)
    (hCX : ∀ H e s', CX [] H s1 (fun _ _ _ => False) e s' → False) :
    codeAny (model P w) callerA (.call (.ref fa) ⟨[.ref a], []⟩) (fun r s' => r = .ok (.ret (.bool true)) ∧ OldK s1.heap s'.heap ∧ s'.os = s1.os ∧ AllBare s'.gens) s1 := by
  have rv := vals_ints hi
  have hlen := hi.length
  let T := cs.map Prod.snd
  have inT : ∀ p ∈ cs, p.2 ∈ T := fun p hp => List.mem_map.mpr ⟨p, hp, rfl⟩
  have ofT : ∀ b ∈ T, s1.heap.get? b = some tabO ∧ K.lookup b = none := by
    intro b hb
    obtain ⟨p, hp, rfl⟩ := List.mem_map.mp hb
    exact ⟨tabs p hp, tabK p hp⟩
  have neT : a ∉ T := fun z => by
    have q := (ofT a z).1
    rw [ha] at q
    cases q
  let H := h0 K a vs ns T
  -- a tracked object is the script or a table
  have seen : ∀ {b : Addr} {o : Obj}, s1.heap.get? b = some o → (∀ us n, o.data ≠ .seq us n) → o.data ≠ .fields #[] → H b = none := by
    intro b o e n1 n2
    cases q : H b with
    | none => rfl
    | some u =>
      exfalso
      rcases h0_inv q with ⟨rfl, _, _⟩ | ⟨hb, _⟩
      · rw [ha] at e
        cases e
        exact n1 _ _ rfl
      · rw [(ofT b hb).1] at e
        cases e
        exact n2 rfl
  have keepHid : ∀ {b : Addr} {o : Obj}, s1.heap.get? b = some o → H b = none → (hidT s1.heap H).get? b = some o := fun e n => hidT_get e n
  have dictHid : ∀ {b : Addr} {o : Obj} {es : Array DictEntry} {ep : Nat}, s1.heap.get? b = some o → o.data = .dict es ep → (hidT s1.heap H).get? b = some o := by
    intro b o es ep e d
    refine keepHid e (seen e (fun us n z => ?_) fun z => ?_) <;> (rw [d] at z; cases z)
  have nsHid : ∀ {b : Addr} {m : Str → Option Value}, s1.heap.Ns b m → (hidT s1.heap H).Ns b m := by
    rintro b m ⟨o, es, ep, e, d, rest⟩
    exact ⟨o, es, ep, dictHid e d, d, rest⟩
  have KH : K.In (hidT s1.heap H) := by
    intro b o e
    refine keepHid (KX b o e) ?_
    cases q : H b with
    | none => rfl
    | some u =>
      exfalso
      rcases h0_inv q with ⟨rfl, z, _⟩ | ⟨hb, _⟩
      · rw [z] at e
        cases e
      · rw [(ofT b hb).2] at e
        cases e
  have limH : (hidT s1.heap H).NoLimit := by
    obtain ⟨mc, h1, h2⟩ := lim
    exact ⟨mc, nsHid h1, h2⟩
  have M : L2.Mod K mg (hidT s1.heap H) := ⟨KH, nsHid nsG, ⟨mb, nsHid nsB, isB⟩, limH⟩
  have TB : ∀ p ∈ cs, TabB (hidT s1.heap H) mg p.1 p.2 := by
    intro p hp
    have tp := tabs p hp
    refine ⟨?_, ?_, ?_⟩
    · obtain ⟨o, us, file, tf, flags, tg, inF, text, tt, e1, r1, r2, r3, rest⟩ := codes p hp
      refine ⟨o, us, file, tf, flags, tg, inF, text, tt, keepHid e1 (seen e1 (fun vs n z => ?_) fun z => ?_), r1, r2, r3, rest⟩
      · rw [r2] at z
        cases z
      · rw [r2] at z
        cases z
        simp at r3
    · obtain ⟨bm, ob, b1, b2, b3, b4, b5, b6⟩ := bmain
      have g1 : bm ≠ mainGlobals := by
        rintro rfl
        obtain ⟨o, es, ep, e, d, _⟩ := nsG
        rw [b3] at e
        cases e
        rw [b6] at d
        cases d
      have g2 : bm ≠ p.2 := by
        rintro rfl
        rw [tp] at b3
        cases b3
        cases b6
      refine ⟨bm, ob, b1, b2, g1, g2, keepHid b3 (seen b3 (fun vs n z => ?_) fun z => ?_), b4, b5, b6⟩ <;> (rw [b6] at z; cases z)
    · intro z
      obtain ⟨o, es, ep, e, d, _⟩ := nsG
      rw [z, tp] at e
      cases e
      cases d
  have hH : ∀ p ∈ cs, H p.2 = some (.tbl #[]) := by
    intro p hp
    have n1 : ¬ (p.2 = a ∧ K.lookup a = none) := fun z => neT (z.1 ▸ inT p hp)
    exact (if_neg n1).trans (if_pos (inT p hp))
  have hS : SqL K H a (ns.map V.int) := by
    cases q : K.lookup a with
    | none => exact .inl (.inr ⟨scriptO vs, if_pos ⟨rfl, q⟩⟩)
    | some o =>
      have e := KX a o q
      rw [ha] at e
      cases e
      exact .inr ⟨_, vs.toArray, _, q, rfl, rfl, rfl, by rw [List.size_toArray, hlen]; exact hl, by simpa using rv⟩
  have hok : HOk P w H s1.heap := by
    intro b u q
    rcases h0_inv q with ⟨rfl, _, rfl⟩ | ⟨hb, rfl⟩
    · exact ⟨ha, by rw [List.length_map]; exact hl, vs, _, rv, ha⟩
    · exact (ofT b hb).1
  have e0 : Env0 P w K mg (hidT s1.heap H) callerA [] s1 H :=
    ⟨rfl, M, fun b o e => of_hidT e, Nat.le_of_eq (hidT_size _ _), trivial, (fun b hb => by cases (show b ∈ ([] : List Addr) from hb)), hok, .of_eq gens⟩
  have run := (F _ KH (nsHid nsG) TB).go callerA [] s1 H ⟨[.ref a], []⟩ [.ref a] [.ref a] (fun v _ => v = .bl true) (fun _ _ _ => False) rfl hr e0 (hbind s1 (.ref a)) (.cons rfl .nil) (hsp H hH hS)
  refine codeAny_mono run ?_
  intro r s' h
  match r, h with
  | .error e, h => exact (hCX H e s' h).elim
  | .ok .next, h => exact h.elim
  | .ok .brk, h => exact h.elim
  | .ok .cont, h => exact h.elim
  | .ok (.ret u), h =>
    obtain ⟨v, H', os, bare, un, hok', r', q⟩ := h
    obtain rfl : v = .bl true := q
    obtain rfl : u = Value.bool true := r'
    have plain : ∀ b o, b ∉ T → s1.heap.get? b = some o → s'.heap.get? b = some o := by
      intro b o nb e
      cases q : H b with
      | none => exact un.keep b o e q (fun z => by cases (show b ∈ ([] : List Addr) from z)) (by simp)
      | some y =>
        rcases h0_inv q with ⟨rfl, _, rfl⟩ | ⟨hb, _⟩
        · obtain ⟨e2, _⟩ := hok' b _ (un.frzs b _ _ q)
          rw [ha] at e
          cases e
          exact e2
        · exact absurd hb nb
    have grown : ∀ p ∈ cs, ∃ more : Array Value, s'.heap.get? p.2 = some { cls := .none, data := .fields more } := by
      intro p hp
      obtain ⟨more, z⟩ := un.tbls p.2 #[] (hH p hp)
      exact ⟨_, hok' p.2 _ z⟩
    refine ⟨rfl, ⟨fun b o e => ?_, fun b o e => ?_⟩, os, bare⟩ <;> by_cases hb : b ∈ T
    · obtain ⟨p, hp, rfl⟩ := List.mem_map.mp hb
      obtain ⟨more, hm⟩ := grown p hp
      rw [tabs p hp] at e
      cases e
      exact .inr (.inl ⟨((codes p hp).tab (tabs p hp)).isCodeTable, rfl, #[], more, rfl, by rw [Array.empty_append]; exact hm⟩)
    · exact .inl (plain b o hb e)
    · obtain ⟨p, hp, rfl⟩ := List.mem_map.mp hb
      obtain ⟨more, hm⟩ := grown p hp
      exact ⟨_, hm⟩
    · exact ⟨o, plain b o hb e⟩
end

/-- the tables of the text's own defs are empty behind the top -/
def Empt (q : Program) (K : PySem.W.Frag) (h : Heap) : Prop := ∀ (x : Str) (f c t : Addr) (o : Obj) (fd : FuncData) (e : Value) (dd : Option Addr) (us : Array Value) (sl : Array (Option Value)),
  ((PyProof.Rows.recsOf q).any fun r => r.name == x) = true → PySem.W.nsIn K mainGlobals x = some (some (.ref f)) → K.lookup f = some o → o.data = .func fd → fd.code = .ref c →
  K.lookup c = some ⟨e, dd, .fields us, sl⟩ → us[11]? = some (.ref t) → PySem.W.CodeHd h c t ∧ h.get? t = some tabO
/-- what is to be known of the law at the head's heap -/
def GLaw (l : PySem.W.OpenLaw) (w : World) (K : PySem.W.Frag) (CX : CXT) (k n : Nat) (x : Str) (mg : Str → Option Value) (fa : Addr) (h : Heap) : Prop :=
  ∃ (fd : FuncData) (cs : List (Addr × Addr)) (sp : Sp), (∀ p ∈ cs, h.get? p.2 = some tabO) ∧ (∀ p ∈ cs, K.lookup p.2 = none) ∧ (∀ p ∈ cs, PySem.W.CodeHd h p.1 p.2) ∧
    (∀ (s : Shared) (u : Value), BindsTo s fd ⟨[u], []⟩ [(x, u)]) ∧
    (∀ (H : Hp) (a : Addr) (ns : List Int), ns.length ≤ n → (∀ z ∈ ns, Builtin.Int.intBits z ≤ 1048576) → (∀ p ∈ cs, H p.2 = some (.tbl #[])) → SqL K H a (ns.map V.int) →
      sp [.ref a] H (fun v _ => v = .bl true) fun _ _ _ => False) ∧
    ∀ base : Heap, K.In base → base.Ns mainGlobals mg → (∀ p ∈ cs, TabB base mg p.1 p.2) → GOk l.prog w K mg base CX k fa fd [x] sp
theorem walk_g {l : PySem.W.OpenLaw} {n k : Nat} {q : Program} {loose : List Str} {XP : (Str → Option Value) → Heap → Prop} {YP : World → Heap → Prop} {d : DefRec} {K : Params → PySem.W.Frag} {CX : World → CXT} {x : Str}
    (hn : l.most = some n) (small : n ≤ sizeLine) (hdf : d.params.defaults = []) (hr : Room k callerA) (hY : ∀ (w : World) (h : Heap), YP w h → (K w.params).In h)
    (F : ∀ (w : World) (mg : Str → Option Value) (fa : Addr) (h : Heap), YP w h → (K w.params).In h → h.Ns mainGlobals mg → mg d.name = some (.ref fa) → Empt q (K w.params) h → GLaw l w (K w.params) (CX w) k n x mg fa h)
    (hCX : ∀ (w : World) (H : Hp) (s : Shared) (e : Value) (s' : Shared), CX w [] H s (fun _ _ _ => False) e s' → False) :
    PySem.W.WalkO q loose XP YP l.row.toRowW d [] (fun f vs => PySem.call f vs) := by
  refine Att.attach_callB hn hdf ?_
  intro w sA s1 mg mb fa o pm cd doc a vs ns G Y ho hd hcd hmg hobj hints hlen hbits hg
  have KX := hY w _ Y
  have em : Empt q (K w.params) s1.heap := by
    intro x f c t o1 fd1 e dd us sl hx k1 k2 k3 k4 k5 k6
    obtain ⟨r, hr1, hr2⟩ := List.any_eq_true.mp hx
    have hn1 : r.name = x := beq_iff_eq.mp hr2
    obtain ⟨a1, o2, fd2, c2, t2, y1, y2, y3, y4, y5, y6⟩ := G.T.tab r hr1
    have z1 := PySem.W.mg_of KX G.T.g k1
    rw [hn1, z1] at y1
    cases y1
    have z2 := KX _ _ k2
    rw [z2] at y2
    cases y2
    rw [k3] at y3
    cases y3
    rw [k4] at y4
    cases y4
    have y6b := y6
    obtain ⟨⟨oc, vc, e1, e2, e3, e4⟩, hP⟩ := y6b
    have z5 := KX _ _ k5
    rw [z5] at e1
    cases e1
    cases e3
    rw [k6] at e4
    cases e4
    exact ⟨PySem.W.CodeHd.of y5 y6, hP⟩
  obtain ⟨fd, cs, sp, t1, t2, t3, hb, hsp, hF⟩ := F w mg fa _ Y KX G.T.g hmg em
  exact law_gcall KX G.T.g G.T.b G.T.builtins G.T.nolimit hg t1 t2 t3 G.T.bmain hobj hints (Nat.le_trans hlen small) hr hF hb (fun H a1 a2 => hsp H a ns hlen hbits a1 a2) (fun H e s' => hCX w H s1 e s')
end Gd

set_option maxRecDepth 100000
set_option maxHeartbeats 1000000
/-! The end of a law whose own def shows dicts: the module table is tracked, so that no new thing is it. For laws without tables. -/
namespace Gd
open PySem PySem.Spec PyProof.Rows L2 GxR
/-- the module table: it is there -/
def smU : HO := .ext fun h => ∃ o, h.get? sysModules = some o
def SmAt (H : Hp) : Prop := ∃ o, H sysModules = some (.frz o smU)
theorem SmAt.same {H H' : Hp} (h : SmAt H) (s : Same H H') : SmAt H' := let ⟨o, e⟩ := h; ⟨o, s _ _ e⟩
theorem smU_ne {u : HO} (n : ∀ φ, u ≠ .ext φ) : smU ≠ u := fun z => n _ z.symm
open Classical in
noncomputable def hs0 (K : PySem.W.Frag) (a : Addr) (vs : List Value) (ns : List Int) (o1 : Obj) : Hp := fun b =>
  if b = sysModules then some (.frz o1 smU) else if b = a ∧ K.lookup a = none then some (.frz (scriptO vs) (.lst (ns.map V.int))) else none
theorem hs0_inv {K : PySem.W.Frag} {a b : Addr} {vs : List Value} {ns : List Int} {o1 : Obj} {u : HO} (h : hs0 K a vs ns o1 b = some u) :
    (b = sysModules ∧ u = .frz o1 smU) ∨ (b = a ∧ K.lookup a = none ∧ u = .frz (scriptO vs) (.lst (ns.map V.int))) := by
  unfold hs0 at h
  split at h
  · rename_i c
    exact .inl ⟨c, (Option.some.inj h).symm⟩
  · split at h
    · rename_i c
      exact .inr ⟨c.1, c.2, (Option.some.inj h).symm⟩
    · cases h
section
variable {P : Program} {w : World} {K : PySem.W.Frag} {mg mb : Str → Option Value} {CX : CXT} {k : Nat} {fa a : Addr} {fd : FuncData} {x : Str} {sp : Sp} {s1 : Shared} {vs : List Value} {ns : List Int}
theorem law_scall (KX : K.In s1.heap) (nsG : s1.heap.Ns mainGlobals mg) (nsB : s1.heap.Ns builtinsNs mb) (isB : ∀ x : Str, x ≠ "__name__" → mb x = bootBuiltins x) (lim : s1.heap.NoLimit) (gens : s1.gens = #[])
    (hsm : ∃ o, s1.heap.get? sysModules = some o) (k1 : K.lookup sysModules = none) (na : a ≠ sysModules) (ha : s1.heap.get? a = some (scriptO vs)) (hi : IntsAre vs ns) (hl : ns.length ≤ sizeLine) (hr : Room k callerA)
    (F : ∀ base : Heap, K.In base → base.Ns mainGlobals mg → GOk P w K mg base CX k fa fd [x] sp) (hbind : ∀ (s : Shared) (u : Value), BindsTo s fd ⟨[u], []⟩ [(x, u)])
    (hsp : ∀ H : Hp, SmAt H → SqL K H a (ns.map V.int) → sp [.ref a] H (fun v _ => v = .bl true) fun _ _ _ => False) (hCX : ∀ H e s', CX [] H s1 (fun _ _ _ => False) e s' → False) :
    codeAny (model P w) callerA (.call (.ref fa) ⟨[.ref a], []⟩) (fun r s' => r = .ok (.ret (.bool true)) ∧ OldK s1.heap s'.heap ∧ s'.os = s1.os ∧ AllBare s'.gens) s1 := by
  have rv := vals_ints hi
  have hlen := hi.length
  obtain ⟨o1, ho1⟩ := hsm
  let H := hs0 K a vs ns o1
  have off : ∀ {b : Addr}, b ≠ sysModules → b ≠ a → H b = none := fun {b} n1 n2 => by
    cases q : H b with
    | none => rfl
    | some u =>
      rcases hs0_inv q with ⟨e, _⟩ | ⟨e, _⟩
      · exact absurd e n1
      · exact absurd e n2
  have dic : ∀ {b : Addr} {m : Str → Option Value}, b ≠ sysModules → s1.heap.Ns b m → (hidT s1.heap H).Ns b m := by
    rintro b m n1 ⟨o, es, ep, e, d, rest⟩
    refine ⟨o, es, ep, hidT_get e (off n1 ?_), d, rest⟩
    rintro rfl
    rw [ha] at e
    obtain rfl := Option.some.inj e
    cases d
  have KH : K.In (hidT s1.heap H) := by
    intro b o e
    refine hidT_get (KX b o e) ?_
    cases q : H b with
    | none => rfl
    | some u =>
      rcases hs0_inv q with ⟨rfl, _⟩ | ⟨rfl, z, _⟩
      · rw [k1] at e
        cases e
      · rw [z] at e
        cases e
  have limH : (hidT s1.heap H).NoLimit := let ⟨mc, h1, h2⟩ := lim; ⟨mc, dic (by decide) h1, h2⟩
  have M : L2.Mod K mg (hidT s1.heap H) := ⟨KH, dic (by decide) nsG, ⟨mb, dic (by decide) nsB, isB⟩, limH⟩
  have hS : SqL K H a (ns.map V.int) := by
    cases q : K.lookup a with
    | none => exact .inl (.inr ⟨scriptO vs, (if_neg na).trans (if_pos ⟨rfl, q⟩)⟩)
    | some o =>
      have e := KX a o q
      rw [ha] at e
      obtain rfl := Option.some.inj e
      exact .inr ⟨_, vs.toArray, _, q, rfl, rfl, rfl, by rw [List.size_toArray, hlen]; exact hl, by simpa using rv⟩
  have hok : HOk P w H s1.heap := by
    intro b u q
    rcases hs0_inv q with ⟨rfl, rfl⟩ | ⟨rfl, _, rfl⟩
    · exact ⟨ho1, ⟨_, ho1⟩, ⟨_, ho1⟩, fun h1 h2 ⟨o, z⟩ k => ⟨o, k _ z⟩⟩
    · exact ⟨ha, by rw [List.length_map]; exact hl, vs, _, rv, ha⟩
  have e0 : Env0 P w K mg (hidT s1.heap H) callerA [] s1 H :=
    ⟨rfl, M, fun b o e => of_hidT e, Nat.le_of_eq (hidT_size _ _), trivial, (fun b hb => by cases (show b ∈ ([] : List Addr) from hb)), hok, .of_eq gens⟩
  refine codeAny_mono ((F _ KH (dic (by decide) nsG)).go callerA [] s1 H ⟨[.ref a], []⟩ [.ref a] [.ref a] (fun v _ => v = .bl true) (fun _ _ _ => False) rfl hr e0 (hbind s1 (.ref a)) (.cons rfl .nil) (hsp H ⟨o1, if_pos rfl⟩ hS)) ?_
  intro r z h
  match r, h with
  | .ok .next, h => exact h.elim
  | .ok .brk, h => exact h.elim
  | .ok .cont, h => exact h.elim
  | .error e, h => exact (hCX H e z h).elim
  | .ok (.ret u), h =>
    obtain ⟨v, G, os, bare, un, hokG, rv', q⟩ := h
    obtain rfl : v = .bl true := q
    obtain rfl : u = Value.bool true := rv'
    have plain : ∀ b o, s1.heap.get? b = some o → z.heap.get? b = some o := by
      intro b o e
      cases q : H b with
      | none => exact un.keep b o e q (fun y => by cases (show b ∈ ([] : List Addr) from y)) (by simp)
      | some y =>
        rcases hs0_inv q with ⟨rfl, rfl⟩ | ⟨rfl, _, rfl⟩
        · obtain ⟨e2, _⟩ := hokG sysModules _ (un.frzs _ _ _ q)
          rw [ho1] at e
          exact Option.some.inj e ▸ e2
        · obtain ⟨e2, _⟩ := hokG b _ (un.frzs b _ _ q)
          rw [ha] at e
          exact Option.some.inj e ▸ e2
    exact ⟨rfl, ⟨fun b o e => .inl (plain b o e), fun b o e => ⟨o, plain b o e⟩⟩, os, bare⟩
end
/-- what is to be known of such a law -/
def GLawS (l : PySem.W.OpenLaw) (w : World) (K : PySem.W.Frag) (CX : CXT) (k n : Nat) (x : Str) (mg : Str → Option Value) (fa : Addr) : Prop :=
  ∃ (fd : FuncData) (sp : Sp), K.lookup sysModules = none ∧ (∀ (s : Shared) (u : Value), BindsTo s fd ⟨[u], []⟩ [(x, u)]) ∧
    (∀ (H : Hp) (a : Addr) (ns : List Int), ns.length ≤ n → SmAt H → SqL K H a (ns.map V.int) → sp [.ref a] H (fun v _ => v = .bl true) fun _ _ _ => False) ∧
    ∀ base : Heap, K.In base → base.Ns mainGlobals mg → GOk l.prog w K mg base CX k fa fd [x] sp
open PySem.W in
theorem walk_s {l : PySem.W.OpenLaw} {n k : Nat} {q : Program} {loose : List Str} {XP : (Str → Option Value) → Heap → Prop} {YP : World → Heap → Prop} {d : DefRec} {K : Params → PySem.W.Frag} {CX : World → CXT} {x : Str}
    (no : importsNone q = true) (hn : l.most = some n) (small : n ≤ sizeLine) (hdf : d.params.defaults = []) (hr : Room k callerA) (hY : ∀ (w : World) (h : Heap), YP w h → (K w.params).In h)
    (F : ∀ (w : World) (mg : Str → Option Value) (fa : Addr) (h : Heap), YP w h → (K w.params).In h → h.Ns mainGlobals mg → mg d.name = some (.ref fa) → GLawS l w (K w.params) (CX w) k n x mg fa)
    (hCX : ∀ (w : World) (H : Hp) (s : Shared) (e : Value) (s' : Shared), CX w [] H s (fun _ _ _ => False) e s' → False) :
    PySem.W.WalkO q loose XP YP l.row.toRowW d [] (fun f vs => PySem.call f vs) := by
  intro w s0 s1 mg mb G Y fa o pm cd doc dV kV ho hd hcd hD hmg hg args vals as pre lay rd well low
  obtain ⟨a, vs, ns, rfl, rfl, hobj, hints, hlen⟩ := Att.script_of hn pre well
  have na : a ≠ sysModules := by
    cases rd with
    | cons r1 r2 =>
      cases r1 with
      | list _ _ _ _ => exact beq_eq_false_iff_ne.mp (low a (by simp))
  have KX := hY w _ Y
  obtain ⟨fd, sp, k1, hb, hsp, hF⟩ := F w mg fa _ Y KX G.T.g hmg
  have run := law_scall KX G.T.g G.T.b G.T.builtins G.T.nolimit hg (let ⟨_, ⟨o, _, _, e, _⟩, _⟩ := (G.T.seer no).mods; ⟨o, e⟩) k1 na hobj hints (Nat.le_trans hlen small) hr hF hb (fun H a1 a2 => hsp H a ns hlen a1 a2) (fun H e s' => hCX w H s1 e s')
  refine enter_call (codeAny_mono run ?_)
  rintro r z ⟨rfl, old, os, bare⟩
  exact ⟨.inl ⟨.bool true, .bool true, [], rfl, fun _ => rfl, .bool true, Att.post_true l _, fun _ => ⟨List.Pairwise.nil, fun _ m => (nomatch m)⟩⟩, old, os, bare⟩
end Gd

set_option maxRecDepth 100000
set_option maxHeartbeats 4000000
/-! Things, boxes, texts: what the laws share, over no program. -/
namespace My
open PySem PySem.Spec PyProof.Rows L2 GxR Gd TL
/-! ### things -/
def Good (z : Str) : Prop := ∀ c ∈ z.cps.toList, c < 1114112
inductive Th (H : Hp) : V → Prop
  | non : Th H .non
  | bl (b : Bool) : Th H (.bl b)
  | int (i : Int) : Th H (.int i)
  | str (z : Str) (h : z.length ≤ 1000000) (g : Good z) : Th H (.str z)
  | lst (a : Addr) (xs : List V) (h : H a = some (.lst xs)) : Th H (.ref a)
  | tup (a : Addr) (xs : List V) (h : H a = some (.tup xs)) : Th H (.ref a)
  | dic (a : Addr) {kvs : List (Key × V)} (h : H a = some (.dK kvs)) : Th H (.ref a)
def lc (c : Nat) : Bool := decide (97 ≤ c) && decide (c ≤ 122)
def nm : V → Bool
  | .str z => decide (1 ≤ z.length) && decide (z.length ≤ 6) && z.cps.toList.all lc
  | _ => false
def wh (lo hi : Int) : V → Bool
  | .int i => decide (lo ≤ i) && decide (i ≤ hi)
  | _ => false
/-- its kind -/
theorem Th.ty {K : PySem.W.Frag} {H : Hp} {v : V} (h : Th H v) : ∃ t, TyX K H v (.type t) ∧
    ((∃ i, v = .int i ∧ t = "int") ∨ (∃ b, v = .bl b ∧ t = "bool") ∨ (∃ z, v = .str z ∧ (z.length ≤ 1000000 ∧ Good z) ∧ t = "str") ∨
     ((∀ i, v ≠ .int i) ∧ (∀ b, v ≠ .bl b) ∧ (∀ z, v ≠ .str z) ∧ (t = "NoneType" ∨ t = "list" ∨ t = "tuple" ∨ t = "dict"))) := by
  cases h with
  | non => exact ⟨_, .base .non, .inr (.inr (.inr ⟨by simp, by simp, by simp, .inl rfl⟩))⟩
  | bl b => exact ⟨_, .base (.bl b), .inr (.inl ⟨b, rfl, rfl⟩)⟩
  | int i => exact ⟨_, .base (.int i), .inl ⟨i, rfl, rfl⟩⟩
  | str z h g => exact ⟨_, .base (.str z), .inr (.inr (.inl ⟨z, rfl, ⟨h, g⟩, rfl⟩))⟩
  | lst a xs h => exact ⟨_, .base (.lst h), .inr (.inr (.inr ⟨by simp, by simp, by simp, .inr (.inl rfl)⟩))⟩
  | tup a xs h => exact ⟨_, .base (.tup h), .inr (.inr (.inr ⟨by simp, by simp, by simp, .inr (.inr (.inl rfl))⟩))⟩
  | dic a h => exact ⟨_, .base (.dK h), .inr (.inr (.inr ⟨by simp, by simp, by simp, .inr (.inr (.inr rfl))⟩))⟩
/-- all but the table stays -/
structure KT (P : Addr) (H H' : Hp) : Prop where
  keep : ∀ c o, c ≠ P → H c = some o → H' c = some o
  tab : TabG H' P
theorem TabG.at {H : Hp} {P : Addr} (t : TabG H P) : ∃ ps, H P = some (.tbl ps) := let ⟨ps, h, _⟩ := t; ⟨ps, h⟩
theorem ne_tab {H : Hp} {P a : Addr} {o : HO} (t : TabG H P) (h : H a = some o) (n : ∀ ps, o ≠ .tbl ps) : a ≠ P := by
  rintro rfl
  obtain ⟨ps, e⟩ := TabG.at t
  rw [h] at e
  exact n ps (Option.some.inj e)
theorem KT.refl {P : Addr} {H : Hp} (t : TabG H P) : KT P H H := ⟨fun _ _ _ h => h, t⟩
theorem KT.trans {P : Addr} {H H1 H2 : Hp} (a : KT P H H1) (b : KT P H1 H2) : KT P H H2 := ⟨fun c o n h => b.keep c o n (a.keep c o n h), b.tab⟩
theorem KT.of {P : Addr} {H H' : Hp} (t : Tabbed P H H') : KT P H H' := ⟨fun c o n h => by rw [t.2 c n]; exact h, t.1⟩
theorem KT.alloc {P p : Addr} {H : Hp} {o : HO} (t : TabG H P) (n : H p = none) : KT P H (upd H p o) := by
  obtain ⟨ps, e, ht⟩ := t
  refine ⟨fun c q _ h => by rw [upd_ne (ne_of_none h n)]; exact h, ps, by rw [upd_ne (ne_of_none e n)]; exact e, ht⟩
theorem Th.kt {P : Addr} {H H' : Hp} (t : TabG H P) (k : KT P H H') {v : V} (h : Th H v) : Th H' v := by
  cases h with
  | non => exact .non
  | bl b => exact .bl b
  | int i => exact .int i
  | str z h g => exact .str z h g
  | lst a xs h => exact .lst a xs (k.keep _ _ (ne_tab t h (by simp)) h)
  | tup a xs h => exact .tup a xs (k.keep _ _ (ne_tab t h (by simp)) h)
  | dic a h => exact .dic a (k.keep _ _ (ne_tab t h (by simp)) h)

theorem elt_between {prog : Program} {w : World} {scope : Scope} {x a b : Str} {j1 j2 : Nat} {p1 p2 p3 p4 : Pos} (hk : scope.kind = .function) (hl : scope.names.lookup x = some .local)
    (hd : (x == ("__debug__" : Str)) = false := by decide) :
    EltP prog w scope x (.Compare (.Constant (.str a) j1 p1) [.LtE, .LtE] [.Name x p2, .Constant (.str b) j2 p3] p4) (fun c => !decide ([c] < a.cps.toList) && !decide (b.cps.toList < [c])) := by
  intro cenv A' E' c t s2 m2 hs hn hm
  refine Compare_chain ?_ (by with_unfolding_all rfl)
  refine Calls.Constant_str (chain_link ?_)
  refine wpAny_Name (wpAny_loadName_local (by rw [hs]; exact hk) (show cenv.scope.names.lookup x = some .local by rw [hs]; exact hl) hn hm ?_) hd
  refine PySem.P.le_str ?_
  refine wpAny_truthy_bool ?_
  cases q : decide ([c] < a.cps.toList) with
  | true =>
    refine ite_ff ⟨?_, keeps_tok _ _⟩
    have q' : decide ((⟨#[c]⟩ : Str).cps.toList < a.cps.toList) = true := q
    simp [q']
  | false =>
    refine ite_tt (chain_last ?_)
    refine Calls.Constant_str ?_
    refine PySem.P.le_str ⟨?_, keeps_tok _ _⟩
    have q2 : ¬ [c] < a.cps.toList := of_decide_eq_false q
    simp [List.not_lt.mp q2]
def genSc : Scope := { kind := ScopeKind.function, names := [(Str.ofString ".0", NameKind.local), (Str.ofString "sign", NameKind.local)], isGenerator := true, isCoroutine := false }
theorem no_free : ∀ y ∈ genSc.names, y.2 ≠ NameKind.free := by decide +kernel
theorem one_lt (c d : Nat) : [c] < [d] ↔ c < d := by
  rw [List.cons_lt_cons_iff]
  constructor
  · rintro (h | ⟨_, h⟩)
    · exact h
    · exact absurd h (List.not_lt_nil _)
  · exact .inl
theorem lc_eq (c : Nat) : (!decide ([c] < [97]) && !decide ([122] < [c])) = lc c := by
  unfold lc
  rw [Bool.eq_iff_iff]
  simp only [Bool.and_eq_true, Bool.not_eq_true', decide_eq_false_iff_not, decide_eq_true_eq, one_lt]
  omega
/-! ### the box -/
def Bx (b : Addr) (n : Int) (H : Hp) : Prop := ∃ x y z : Int, H b = some (.lst [.int x, .int y, .int z]) ∧ 0 ≤ x ∧ 0 ≤ y ∧ y < 2147483629 ∧ 0 ≤ z ∧ z ≤ n
theorem Bx.same {b : Addr} {n : Int} {H H' : Hp} (h : Bx b n H) (e : H' b = H b) : Bx b n H' := by
  obtain ⟨x, y, z, h1, r⟩ := h
  exact ⟨x, y, z, e.trans h1, r⟩
theorem Bx.mono {b : Addr} {n m : Int} {H : Hp} (h : Bx b n H) (e : n ≤ m) : Bx b m H := by
  obtain ⟨x, y, z, h1, h2, h3, h4, h5, h6⟩ := h
  exact ⟨x, y, z, h1, h2, h3, h4, h5, by omega⟩
theorem i0 (a b c : V) : atI [a, b, c] 0 = some a := rfl
theorem i1 (a b c : V) : atI [a, b, c] 1 = some b := rfl
theorem i2 (a b c : V) : atI [a, b, c] 2 = some c := rfl
theorem j0 : ixN 3 0 = some 0 := rfl
theorem j2 : ixN 3 2 = some 2 := rfl
/-! ### lists and texts -/
theorem atI_ex {α : Type} {xs : List α} {d : Int} (h0 : 0 ≤ d) (h1 : d < xs.length) : ∃ v, v ∈ xs ∧ atI xs d = some v := by
  obtain ⟨j, rfl⟩ := Int.eq_ofNat_of_zero_le h0
  have hj : j < xs.length := by omega
  exact ⟨xs[j], List.getElem_mem hj, atI_nat (List.getElem?_eq_getElem hj)⟩
theorem joinL_len (S : List Nat) : ∀ ps : List (List Nat), (joinL S ps).length ≤ (ps.map List.length).sum + ps.length * S.length
  | [] => by simp [joinL]
  | [p] => by simp [joinL]
  | p :: q :: r => by
    have ih := joinL_len S (q :: r)
    have e : joinL S (p :: q :: r) = p ++ (S ++ joinL S (q :: r)) := rfl
    rw [e, List.length_append, List.length_append, List.map_cons, List.sum_cons, List.length_cons, Nat.succ_mul]
    omega
theorem tl_len (z : Str) : (tl z).length = z.length := by
  show z.cps.toList.length = z.cps.size
  simp
theorem join_len (y : Str) (ps : List Str) : (Txt.join y ps).length ≤ (ps.map (·.length)).sum + ps.length * y.length := by
  have h := joinL_len (tl y) (ps.map tl)
  rw [← tl_len, join_eq, tl_join]
  have e : (ps.map tl).map List.length = ps.map (·.length) := by
    rw [List.map_map]
    exact List.map_congr_left fun z _ => tl_len z
  rw [e, List.length_map, tl_len] at h
  exact h
theorem sum_ones (ps : List Str) (h : ∀ z ∈ ps, z.length ≤ 1) : (ps.map (·.length)).sum ≤ ps.length := by
  induction ps with
  | nil => simp
  | cons a r ih =>
    have h1 := h a List.mem_cons_self
    have h2 := ih fun z hz => h z (List.mem_cons_of_mem _ hz)
    simp only [List.map_cons, List.sum_cons, List.length_cons]
    omega
theorem lcY {A : TE} {σ : L2.St} {H : Hp} {G : VK} {B : Hp → Prop} (h : A σ H G) : tYes σ H (fun b H3 => if b = true then A σ H3 G else B H3) := by
  show if true = true then A σ H G else B H
  exact iteT h
theorem good_app {a b : Str} (h : Good a) (k : Good b) : Good (a ++ b) := fun c hc => by
  have e : (a ++ b).cps.toList = a.cps.toList ++ b.cps.toList := tl_append a b
  rw [e] at hc
  exact (List.mem_append.mp hc).elim (h c) (k c)
theorem good_cut {a : Str} (h : Good a) (lo hi : Option Int) : Good (cutS a lo hi) := fun c hc => by
  unfold cutS at hc
  exact h c (List.mem_of_mem_drop (List.mem_of_mem_take (by simpa using hc)))
theorem good_joinL {S : List Nat} (hS : ∀ c ∈ S, c < 1114112) : ∀ ps : List (List Nat), (∀ p ∈ ps, ∀ c ∈ p, c < 1114112) → ∀ c ∈ joinL S ps, c < 1114112
  | [], _, c, h => by simp [joinL] at h
  | [p], hp, c, h => hp p List.mem_cons_self c (by simpa [joinL] using h)
  | p :: q :: r, hp, c, h => by
    have e : joinL S (p :: q :: r) = p ++ (S ++ joinL S (q :: r)) := rfl
    rw [e, List.mem_append, List.mem_append] at h
    rcases h with h | h | h
    · exact hp p List.mem_cons_self c h
    · exact hS c h
    · exact good_joinL hS (q :: r) (fun z hz => hp z (List.mem_cons_of_mem _ hz)) c h
theorem good_join {y : Str} {ps : List Str} (hy : Good y) (h : ∀ z ∈ ps, Good z) : Good (Txt.join y ps) := fun c hc => by
  have e : (Txt.join y ps).cps.toList = joinL (tl y) (ps.map tl) := by rw [join_eq]; exact tl_join y ps
  rw [e] at hc
  refine good_joinL hy _ (fun p hp => ?_) c hc
  obtain ⟨z, hz, rfl⟩ := List.mem_map.mp hp
  exact h z hz
theorem good_of (x : String) : Good (Str.ofString x) := fun c hc => by
  have e : (Str.ofString x).cps.toList = x.toList.map Char.toNat := by
    rw [Str.ofString_eq_toList]
  rw [e] at hc
  obtain ⟨d, _, rfl⟩ := List.mem_map.mp hc
  have := d.valid
  unfold UInt32.isValidChar Nat.isValidChar at this
  show d.val.toNat < 1114112
  omega
theorem good_one {z : Str} {c : Nat} (h : Good z) (hc : c ∈ z.cps.toList) : Good ⟨#[c]⟩ := fun d hd => by
  have e : d = c := by simpa using hd
  rw [e]
  exact h c hc
/-- all but the box stays -/
def KB (b : Addr) (H H' : Hp) : Prop := ∀ c o, c ≠ b → H c = some o → H' c = some o
theorem KB.refl (b : Addr) (H : Hp) : KB b H H := fun _ _ _ h => h
theorem KB.trans {b : Addr} {H H1 H2 : Hp} (a : KB b H H1) (c : KB b H1 H2) : KB b H H2 := fun x o n h => c x o n (a x o n h)
theorem KB.off {b : Addr} {H H' : Hp} (h : ∀ a, a ≠ b → H' a = H a) : KB b H H' := fun c o n e => (h c n).trans e
theorem KB.alloc {b p : Addr} {H : Hp} {o : HO} (n : H p = none) : KB b H (upd H p o) := fun c u _ h => by rw [upd_ne (ne_of_none h n)]; exact h
theorem Bx.alloc {b p : Addr} {n : Int} {H : Hp} {o : HO} (h : Bx b n H) (f : H p = none) : Bx b n (upd H p o) := by
  obtain ⟨x, y, z, h1, r⟩ := h
  exact ⟨x, y, z, by rw [upd_ne (ne_of_none h1 f)]; exact h1, r⟩
theorem Bx.put {b p : Addr} {n : Int} {H : Hp} {o : HO} (h : Bx b n H) (f : p ≠ b) : Bx b n (upd H p o) := by
  obtain ⟨x, y, z, h1, r⟩ := h
  exact ⟨x, y, z, by rw [upd_ne f.symm]; exact h1, r⟩
/-- a comprehension over a text's signs -/
theorem lc_text {z : Str} {g : TG} {tt : TT} {te : TE} {vs : List Nat} {σ : L2.St} {H1 : Hp} {D : Addr} {Qd : Hp → Prop} (Pv : Nat → Hp → Prop) (h0 : Pv 0 (upd H1 D (.lst [])))
    (hs : ∀ i c H, z.cps.toList[i]? = some c → Pv i H → g (.str ⟨#[c]⟩) (wipe σ vs) H fun σ2 H2 => wipe σ2 vs = wipe σ vs ∧ tt σ2 H2 fun b H3 =>
      if b = true then te σ2 H3 fun y H4 => ∃ acc, H4 D = some (.lst acc) ∧ acc.length < sizeLine ∧ Pv (i + 1) (upd H4 D (.lst (acc ++ [y]))) else Pv (i + 1) H3) (hd : ∀ H, Pv z.length H → Qd H) :
    ∃ W : Nat → Nat → Hp → Prop, (∃ m, W 0 m (upd H1 D (.lst []))) ∧ ∀ i m H, W i m H →
      ((Its z).stop i H ∧ Qd H) ∨ ((Its z).go i H ∧ ∃ Nx : Hp → Prop, (∀ H', Nx H' → ∃ m', m' < m ∧ W (i + 1) m' H') ∧ ∀ x H', (Its z).yld i H x H' → g x (wipe σ vs) H' fun σ2 H2 => wipe σ2 vs = wipe σ vs ∧ tt σ2 H2 fun b H3 =>
        if b = true then te σ2 H3 fun y H4 => ∃ acc, H4 D = some (.lst acc) ∧ acc.length < sizeLine ∧ Nx (upd H4 D (.lst (acc ++ [y]))) else Nx H3) := by
  refine ⟨fun i m H => i + m = z.cps.size ∧ Pv i H, ⟨z.cps.size, by simp, h0⟩, fun i m H hW => ?_⟩
  obtain ⟨e, p⟩ := hW
  cases m with
  | zero =>
    have ei : i = z.cps.size := e
    subst ei
    exact .inl ⟨Nat.le_refl _, hd H p⟩
  | succ m =>
    refine .inr ⟨show i < z.cps.size by omega, Pv (i + 1), fun H' q => ⟨m, Nat.lt_succ_self m, by omega, q⟩, ?_⟩
    rintro x H' ⟨rfl, c, hc, rfl⟩
    exact hs i c _ (by rw [← hc]; simp) p
def badOf (l : List Nat) : List V := (l.filter fun c => !lc c).map fun c => V.str ⟨#[c]⟩
theorem bad_data {K : PySem.W.Frag} {H : Hp} : ∀ l : List Nat, DpAll K H (l.map fun c => V.str ⟨#[c]⟩) (l.map fun c => PyData.str ⟨#[c]⟩)
  | [] => .nil
  | c :: r => .cons (.str _) (bad_data r)
theorem one_ok {c : Nat} (h : c < 1114112) : PyData.strOk ⟨#[c]⟩ = true := by
  simp [PyData.strOk, h]
theorem bad_shaped : ∀ l : List Nat, (∀ c ∈ l, c < 1114112) → PyData.canLayAll0 (l.map fun c => PyData.str ⟨#[c]⟩) = true
  | [], _ => by simp [PyData.canLayAll0]
  | c :: r, h => by
    simp only [List.map_cons, PyData.canLayAll0, PyData.canLay0, Bool.and_eq_true]
    exact ⟨one_ok (h c List.mem_cons_self), bad_shaped r fun d hd => h d (List.mem_cons_of_mem _ hd)⟩
theorem bad_depth : ∀ l : List Nat, PyData.depthAll (l.map fun c => PyData.str ⟨#[c]⟩) = 0
  | [] => by simp [PyData.depthAll]
  | c :: r => by
    simp only [List.map_cons, PyData.depthAll, PyData.depth, bad_depth r]
    rfl
theorem letters_mem (c : Nat) : decide (c ∈ (Str.ofString "abcdefghijklmnopqrstuvwxyz").cps.toList) = lc c := by
  have e : (Str.ofString "abcdefghijklmnopqrstuvwxyz").cps.toList = (List.range 26).map (· + 97) := by decide +kernel
  rw [e]
  unfold lc
  rw [Bool.eq_iff_iff]
  simp only [decide_eq_true_eq, List.mem_map, List.mem_range, Bool.and_eq_true]
  constructor
  · rintro ⟨a, h, rfl⟩
    omega
  · intro h
    exact ⟨c - 97, by omega, by omega⟩
/-- a fresh place is no box -/
theorem Bx.fresh {b p : Addr} {n : Int} {H : Hp} (h : Bx b n H) (f : H p = none) : p ≠ b := by
  rintro rfl
  obtain ⟨x, y, z, e, _⟩ := h
  rw [f] at e
  cases e
theorem dec9000 {m : Int} (h0 : 0 < m) (h : m ≤ 10 ^ 30) : m.natAbs.log2 < 9000 := by
  have h1 : m.natAbs ≤ 10 ^ 30 := by omega
  have h2 : m.natAbs < 2 ^ 100 := Nat.lt_of_le_of_lt h1 (by decide)
  have h3 := (Nat.log2_lt (by omega)).mpr h2
  omega
theorem log1900 {m : Int} (h : m.natAbs ≤ 10 ^ 31) : m.natAbs.log2 < 1900 := by
  by_cases h0 : m.natAbs = 0
  · rw [h0]
    decide
  · have h2 : m.natAbs < 2 ^ 110 := Nat.lt_of_le_of_lt h (by decide)
    have h3 := (Nat.log2_lt h0).mpr h2
    omega
/-- a place in a list of the script stays -/
theorem seq_kt {K : PySem.W.Frag} {P a : Addr} {H H' : Hp} {xs : List V} (t : TabG H P) (k : KT P H H') (h : SqL K H a xs) : SqL K H' a xs := by
  rcases h with (h | ⟨o, h⟩) | h
  · exact .inl (.inl (k.keep _ _ (ne_tab t h (by simp)) h))
  · exact .inl (.inr ⟨o, k.keep _ _ (ne_tab t h (by simp)) h⟩)
  · exact .inr h
/-- what a row of steps with the box does to all else -/
theorem KT.box {P b : Addr} {H H' H1 : Hp} (t : TabG H P) (f : H b = none) (e : ∀ a, a ≠ b → H1 a = H a) (k : KB b H1 H') : KT P H H' := by
  obtain ⟨ps, ht, tr⟩ := t
  have nb : P ≠ b := ne_of_none ht f
  exact ⟨fun c o _ h => k c o (ne_of_none h f) ((e c (ne_of_none h f)).trans h), ps, k P _ nb ((e P nb).trans ht), tr⟩
theorem two_bools (a b : Bool) : (PyData.list [.bool a, .bool b]).shown.length ≤ sizeLine := by
  cases a <;> cases b <;> decide +kernel
end My

set_option maxRecDepth 100000
set_option maxHeartbeats 1000000
/-! Data with dicts: what repr asks of them. -/
namespace My
open PySem PySem.Spec PyProof.Rows L2 GxR Gd TL
theorem same_new {H : Hp} {p : Addr} {o : HO} (n : H p = none) : Same H (upd H p o) := fun b u e => by rw [upd_ne (ne_of_none e n)]; exact e
theorem sameT {K : PySem.W.Frag} {H H' : Hp} {a : Addr} {xs : List V} (s : Same H H') (h : SqT K H a xs) : SqT K H' a xs := by
  rcases h with (h | ⟨o, h⟩) | h
  · exact .inl (.inl (s _ _ h))
  · exact .inl (.inr ⟨o, s _ _ h⟩)
  · exact .inr h
def keyD : Key → PyData
  | .inl i => .int i
  | .inr x => .str x
mutual
/-- v is the data d, dicts too -/
inductive Dq (K : PySem.W.Frag) (H : Hp) : V → PyData → Prop
  | non : Dq K H .non .none
  | bl (b : Bool) : Dq K H (.bl b) (.bool b)
  | int (i : Int) : Dq K H (.int i) (.int i)
  | str (z : Str) : Dq K H (.str z) (.str z)
  | lst {a : Addr} {xs : List V} {ds : List PyData} (e : SqL K H a xs) (h : DqAll K H xs ds) : Dq K H (.ref a) (.list ds)
  | tup {a : Addr} {xs : List V} {ds : List PyData} (e : SqT K H a xs) (h : DqAll K H xs ds) : Dq K H (.ref a) (.tuple ds)
  | dic {a : Addr} {kvs : List (Key × V)} {ds : List (PyData × PyData)} (e : H a = some (.dK kvs)) (h : DqKv K H kvs ds) : Dq K H (.ref a) (.dict ds)
inductive DqAll (K : PySem.W.Frag) (H : Hp) : List V → List PyData → Prop
  | nil : DqAll K H [] []
  | cons {v : V} {vs : List V} {d : PyData} {ds : List PyData} (h : Dq K H v d) (t : DqAll K H vs ds) : DqAll K H (v :: vs) (d :: ds)
inductive DqKv (K : PySem.W.Frag) (H : Hp) : List (Key × V) → List (PyData × PyData) → Prop
  | nil : DqKv K H [] []
  | cons {k : Key} {v : V} {r : List (Key × V)} {d : PyData} {ds : List (PyData × PyData)} (h : Dq K H v d) (t : DqKv K H r ds) : DqKv K H ((k, v) :: r) ((keyD k, d) :: ds)
end
mutual
theorem Dq.of {K : PySem.W.Frag} {H : Hp} : ∀ {v : V} {d : PyData}, Dp K H v d → Dq K H v d
  | _, _, .non => .non
  | _, _, .bl b => .bl b
  | _, _, .int i => .int i
  | _, _, .str z => .str z
  | _, _, .lst e h => .lst e (DqAll.of h)
  | _, _, .tup e h => .tup e (DqAll.of h)
theorem DqAll.of {K : PySem.W.Frag} {H : Hp} : ∀ {vs : List V} {ds : List PyData}, DpAll K H vs ds → DqAll K H vs ds
  | _, _, .nil => .nil
  | _, _, .cons h t => .cons (Dq.of h) (DqAll.of t)
end
mutual
theorem Dq.same {K : PySem.W.Frag} {H H' : Hp} (s : Same H H') : ∀ {v : V} {d : PyData}, Dq K H v d → Dq K H' v d
  | _, _, .non => .non
  | _, _, .bl b => .bl b
  | _, _, .int i => .int i
  | _, _, .str z => .str z
  | _, _, .lst e h => .lst (s.seq e) (DqAll.same s h)
  | _, _, .tup e h => .tup (sameT s e) (DqAll.same s h)
  | _, _, .dic e h => .dic (s _ _ e) (DqKv.same s h)
theorem DqAll.same {K : PySem.W.Frag} {H H' : Hp} (s : Same H H') : ∀ {vs : List V} {ds : List PyData}, DqAll K H vs ds → DqAll K H' vs ds
  | _, _, .nil => .nil
  | _, _, .cons h t => .cons (Dq.same s h) (DqAll.same s t)
theorem DqKv.same {K : PySem.W.Frag} {H H' : Hp} (s : Same H H') : ∀ {kvs : List (Key × V)} {ds : List (PyData × PyData)}, DqKv K H kvs ds → DqKv K H' kvs ds
  | _, _, .nil => .nil
  | _, _, .cons h t => .cons (Dq.same s h) (DqKv.same s t)
end
theorem keyD_reads {h : Heap} {k : Key} {v : Value} (e : keyIs k v = true) : Reads h v (keyD k) [] := by
  rcases keyIs_shape e with ⟨i, t, rfl, rfl⟩ | ⟨x, t, rfl, rfl⟩
  · exact .int i t
  · exact .str x t
section
variable {X : Cx} {pins : List (Addr × Obj)} {σ : L2.St} {H : Hp} {s : Shared}
theorem ne_sm {K : PySem.W.Frag} {H : Hp} {a : Addr} {xs : List V} (n : K.lookup sysModules = none) (sm : SmAt H) (h : SqL K H a xs) : a ≠ sysModules := by
  rintro rfl
  obtain ⟨o, e⟩ := sm
  rcases h with (h | ⟨u, h⟩) | ⟨u, _, _, h, _⟩
  · rw [e] at h
    cases h
  · rw [e] at h
    cases h
  · rw [n] at h
    cases h
mutual
theorem Dq.reads (n : X.K.lookup sysModules = none) (sm : SmAt H) (I : Inv X pins σ H s) : ∀ (d : PyData) (v : V) (u : Value), Dq X.K H v d → RelV v u → ∃ as, Reads s.heap u d as ∧ sysModules ∉ as
  | .none, _, _, h, r => by
    cases h
    cases r
    exact ⟨_, .none, by simp⟩
  | .bool b, _, _, h, r => by
    cases h
    cases r
    exact ⟨_, .bool b, by simp⟩
  | .int i, _, _, h, r => by
    cases h
    obtain ⟨t, rfl⟩ := r
    exact ⟨_, .int i t, by simp⟩
  | .str z, _, _, h, r => by
    cases h
    obtain ⟨t, rfl⟩ := r
    exact ⟨_, .str z t, by simp⟩
  | .list ds, _, _, h, r => by
    cases h with
    | lst hs ha =>
      cases r
      obtain ⟨its, rv, ⟨o, m, ho, hc, _, hd⟩, _⟩ := I.list hs
      obtain ⟨as, hr, no⟩ := Dq.readsAll n sm I ds _ its ha rv
      exact ⟨_, .list ho hc hd hr, fun m => (List.mem_cons.mp m).elim (ne_sm n sm hs).symm no⟩
  | .tuple ds, _, _, h, r => by
    cases h with
    | tup hs ha =>
      cases r
      obtain ⟨its, rv, ⟨o, ho, hc, m, hd⟩, _⟩ := I.tuple hs
      obtain ⟨as, hr, no⟩ := Dq.readsAll n sm I ds _ its ha rv
      exact ⟨_, .tuple ho hc hd hr, no⟩
  | .dict ds, _, _, h, r => by
    cases h with
    | dic e hk =>
      cases r
      obtain ⟨_, ne, vs, rel, o, es, ep, ho, hx, hd, _, hp, _⟩ := dk_of I.hok e
      obtain ⟨as, bs, h1, h2, n1, n2⟩ := Dq.readsKv n sm I ds _ vs es.toList hk rel hp
      refine ⟨_, .dict ho hx.1 hd h1 h2, fun m => ?_⟩
      rw [List.cons_append] at m
      rcases List.mem_cons.mp m with m | m
      · exact (beq_eq_false_iff_ne.mp ne) m.symm
      · exact (List.mem_append.mp m).elim n1 n2
theorem Dq.readsAll (n : X.K.lookup sysModules = none) (sm : SmAt H) (I : Inv X pins σ H s) : ∀ (ds : List PyData) (vs : List V) (us : List Value), DqAll X.K H vs ds → Vals vs us → ∃ as, ReadsAll s.heap us ds as ∧ sysModules ∉ as
  | [], _, _, h, r => by
    cases h
    cases r
    exact ⟨_, .nil, by simp⟩
  | d :: ds, _, _, h, r => by
    cases h with
    | cons h1 h2 =>
      cases r with
      | cons r1 r2 =>
        obtain ⟨as, q1, n1⟩ := Dq.reads n sm I d _ _ h1 r1
        obtain ⟨bs, q2, n2⟩ := Dq.readsAll n sm I ds _ _ h2 r2
        exact ⟨_, .cons q1 q2, fun m => (List.mem_append.mp m).elim n1 n2⟩
theorem Dq.readsKv (n : X.K.lookup sysModules = none) (sm : SmAt H) (I : Inv X pins σ H s) : ∀ (ds : List (PyData × PyData)) (kvs : List (Key × V)) (vs : List (Key × Value)) (es : List DictEntry), DqKv X.K H kvs ds → KV kvs vs → Pairs (mixKind X.prog X.w) es vs →
    ∃ as bs, ReadsAll s.heap (es.map (·.key)) (ds.map (·.1)) as ∧ ReadsAll s.heap (es.map (·.val)) (ds.map (·.2)) bs ∧ sysModules ∉ as ∧ sysModules ∉ bs
  | [], _, _, _, h, r, p => by
    cases h
    cases r
    cases p
    exact ⟨_, _, .nil, .nil, by simp, by simp⟩
  | (_, d) :: ds, _, _, _, h, r, p => by
    cases h with
    | cons h1 h2 =>
      cases r with
      | cons r1 r2 =>
        cases p with
        | cons p1 p2 p3 =>
          obtain ⟨as, q1, n1⟩ := Dq.reads n sm I d _ _ h1 r1.2
          obtain ⟨bs, cs, q2, q3, n2, n3⟩ := Dq.readsKv n sm I ds _ _ _ h2 r2 p3
          refine ⟨_, _, .cons (keyD_reads ?_) q2, .cons ?_ q3, by simpa using n2, fun m => (List.mem_append.mp m).elim n1 n3⟩
          · have e := r1.1
            dsimp only at e ⊢
            rw [e]
            exact p1
          · dsimp only
            rw [p2]
            exact q1
end
end
/-- repr(v), v data with dicts -/
def rReprQ (K : PySem.W.Frag) : List V → Hp → VK → Prop := fun xs H Q => ∃ v d, xs = [v] ∧ SmAt H ∧ Dq K H v d ∧ d.showable = true ∧ d.depth ≤ 100 ∧ d.shown.length ≤ sizeLine ∧ Q (.str d.shown) H
theorem call_reprQ {X : Cx} {k : Nat} (n : X.K.lookup sysModules = none) (gd : X.A.guards = some []) (hr : Room k X.A) : CallR X (.builtin "repr") (rReprQ X.K) := by
  rintro pins s σ H xs us Q I r ⟨v, d, rfl, sm, dq, hs, hdep, hsz, q⟩
  have whole : ∀ {a : Addr} {as : List Addr}, Reads s.heap (.ref a) d as → sysModules ∉ as → wpAny (model X.prog X.w) X.A (call (.builtin "repr") [.ref a]) (EP X pins σ Q) X.xe s := by
    intro a as rd no
    have hun := hr.un
    exact repr_of_reads' rd hs (fun _ => no) gd (by omega) (fun _ _ z => z) (fun h' u tk hk => ⟨.str _, H, I.kept hk, ⟨_, rfl⟩, q⟩) hsz
  cases dq with
  | non => exact call_repr gd hr pins s σ H _ us Q I r ⟨_, _, rfl, .non, hs, hdep, hsz, q⟩
  | bl b => exact call_repr gd hr pins s σ H _ us Q I r ⟨_, _, rfl, .bl b, hs, hdep, hsz, q⟩
  | int i => exact call_repr gd hr pins s σ H _ us Q I r ⟨_, _, rfl, .int i, hs, hdep, hsz, q⟩
  | str z => exact call_repr gd hr pins s σ H _ us Q I r ⟨_, _, rfl, .str z, hs, hdep, hsz, q⟩
  | lst e h =>
    obtain ⟨as, rd, no⟩ := Dq.reads n sm I _ _ us.head! (.lst e h) (by cases r with | cons a b => cases b; exact a)
    cases r with
    | cons a b => cases b; cases a; exact whole rd no
  | tup e h =>
    obtain ⟨as, rd, no⟩ := Dq.reads n sm I _ _ us.head! (.tup e h) (by cases r with | cons a b => cases b; exact a)
    cases r with
    | cons a b => cases b; cases a; exact whole rd no
  | dic e h =>
    obtain ⟨as, rd, no⟩ := Dq.reads n sm I _ _ us.head! (.dic e h) (by cases r with | cons a b => cases b; exact a)
    cases r with
    | cons a b => cases b; cases a; exact whole rd no
end My

set_option maxRecDepth 100000
set_option maxHeartbeats 1000000
/-! Refusals: a try with clauses, named or not, in any order; a class's def called by the class; isinstance of what was caught. -/
namespace My
open PySem PySem.Spec PyProof.Rows L2 GxR
/-! ### a try with clauses, named or not -/
abbrev Cl := Value × Option Nat × (Addr → Value → Option Addr → TS)
/-- what follows is the same by two ways: I holds there -/
theorem cutR {A : Prop} {G : Hp → Prop} (I : Hp → Prop) (main : (∀ H, I H → G H) → A) (last : ∀ H, I H → G H) : A := main last
def endsOff (i : Nat) (D : Ends) : Ends :=
  { nx := fun τ G => D.nx (τ.set i none) G, rt := D.rt, bk := fun τ G => D.bk (τ.set i none) G, ct := fun τ G => D.ct (τ.set i none) G }
def suiteOf (i : Option Nat) (t : TS) (a : Addr) (D : Ends) (σ : L2.St) (H : Hp) : Prop :=
  match i with
  | none => t D σ H
  | some i => t (endsOff i D) (σ.set i (some (.ref a))) H
/-- what the clauses wish, one behind the other -/
def wCl (K : PySem.W.Frag) (Wout : WX) (D : Ends) : List Cl → WX
  | [] => Wout
  | p :: l => fun cls d σ H => ∃ b, PySem.W.exmOne K cls p.1 = some b ∧
      (b = true → ∀ a, H a = none → suiteOf p.2.1 (p.2.2 a cls d) a D σ H) ∧ (b = false → wCl K Wout D l cls d σ H)
def SuiteOk (X : Cx) (ss : List Stmt) (ts : Addr → Value → Option Addr → TS) : Prop :=
  ∀ (a : Addr) (oe : Obj) (cls : Value) (d : Option Addr) (pn : List (Addr × Obj)), Zc cls d oe → (∃ fv, oe.data = .fields fv) → PSs (X.suite a ((a, oe) :: pn)) ss (ts a cls d)
inductive Clauses (X : Cx) : List ExceptHandler → List Cl → Prop
  | nil : Clauses X [] []
  | plain {x : Str} {c : Value} {ts : Addr → Value → Option Addr → TS} {st : Stmt} {ss : List Stmt} {p q : Pos} {hds : List ExceptHandler} {l : List Cl}
      (hc : Names X x c) (hsu : SuiteOk X (st :: ss) ts) (r : Clauses X hds l) : Clauses X (.ExceptHandler (some (.Name x p)) none (st :: ss) q :: hds) ((c, none, ts) :: l)
  | named {x n : Str} {i : Nat} {c : Value} {ts : Addr → Value → Option Addr → TS} {st : Stmt} {ss : List Stmt} {p q : Pos} {hds : List ExceptHandler} {l : List Cl}
      (hc : Names X x c) (hi : X.N[i]? = some n) (hn : X.env.kindOf n = some .local) (hsu : SuiteOk X (st :: ss) ts) (r : Clauses X hds l) :
      Clauses X (.ExceptHandler (some (.Name x p)) (some n) (st :: ss) q :: hds) ((c, some i, ts) :: l)
/-- an exception in hand -/
structure InHand (X : Cx) (pins : List (Addr × Obj)) (σ : L2.St) (H : Hp) (cls : Value) (d : Option Addr) (a : Addr) (B : Heap) (sI s : Shared) : Prop where
  inv : Inv X pins σ H sI
  grd : ∀ b o, sI.heap.get? b = some o → b ∉ frs X.stack → B.get? b = some o
  up : sI.heap.UpToSlots s.heap
  fly : HandSPX.FlyingZ B (X.env :: X.outer) a (Zc cls d) s.heap
  new : H a = none
  os : s.os = sI.os
  ag : AllBare s.gens
section
variable {X : Cx} {pins : List (Addr × Obj)} {σ : L2.St} {H : Hp} {cls : Value} {d : Option Addr} {a : Addr} {B : Heap} {sI s : Shared}
theorem InHand.now (h : InHand X pins σ H cls d a B sI s) : Inv X pins σ H s := h.inv.landed h.grd h.fly.1 h.up h.os h.ag
theorem InHand.move (h : InHand X pins σ H cls d a B sI s) {g : Heap} (f : HandSPX.FlyingZ B (X.env :: X.outer) a (Zc cls d) g) (u : s.heap.UpToSlots g) :
    InHand X pins σ H cls d a B sI { s with heap := g } := ⟨h.inv, h.grd, h.up.trans u, f, h.new, h.os, h.ag⟩
theorem InHand.seen (h : InHand X pins σ H cls d a B sI s) (hf : X.env.frame = some X.env.locals) :
    ∃ oe fv, s.heap.get? a = some oe ∧ Zc cls d oe ∧ oe.data = .fields fv ∧ a ≠ X.env.locals ∧ a ∉ X.fs := by
  obtain ⟨oe, fv, e1, e2, e3⟩ := h.fly.there
  have off : a ∉ frs (X.env :: X.outer) := by
    intro m
    obtain ⟨_, o2, e4, no⟩ := h.fly.2.2.1.mem m
    rw [e1] at e4
    obtain rfl := Option.some.inj e4
    exact no _ e3
  refine ⟨oe, fv, e1, e2, e3, fun z => off ?_, fun z => off ?_⟩
  · rw [z]
    exact List.mem_filterMap.mpr ⟨X.env, by simp, hf⟩
  · obtain ⟨v, hv, q⟩ := List.mem_filterMap.mp z
    exact List.mem_filterMap.mpr ⟨v, by simp [hv], q⟩
/-- the suite of a clause behind the try's own end -/
theorem InHand.leave (ok : X.Ok) {oe : Obj} {D : Ends} {f : Flow} {s2 : Shared} (h : SP (X.suite a ((a, oe) :: (X.pn ++ pins))) [] D f s2) : SP X pins D f s2 := by
  cases f with
  | ret u => obtain ⟨v, τ, G, J, r, q⟩ := h; exact ⟨v, τ, G, J.unsuite ok, r, q⟩
  | next => obtain ⟨τ, G, J, q⟩ := h; exact ⟨τ, G, J.unsuite ok, q⟩
  | brk => obtain ⟨τ, G, J, q⟩ := h; exact ⟨τ, G, J.unsuite ok, q⟩
  | cont => obtain ⟨τ, G, J, q⟩ := h; exact ⟨τ, G, J.unsuite ok, q⟩
/-- no clause took it -/
theorem InHand.out (hs : X.stack = X.env :: X.outer) (hf : X.env.frame = some X.env.locals) {Wout : WX} (tk : Takes X Wout) (h : InHand X pins σ H cls d a B sI s) (w : Wout cls d σ H) {Q : Flow → Shared → Prop} :
    wpAny (model X.prog X.w) X.A (handleBy (.ref a) X.env []) Q X.xe s := by
  have fly := h.fly
  refine wpAny_handleBy_nil ?_
  obtain ⟨_, _, _, oe, fv, T, _, _, e1, _, e2, e3, _⟩ := id h.fly
  unfold PySem.passOn
  refine wpAny_bind (wpAny_field e1 e2 e3 ?_)
  rw [if_neg (by simp)]
  have last : wpAny (model X.prog X.w) X.A (setFlight (.ref a) X.env.frame) (fun _ z => wpAny (model X.prog X.w) X.A (throw (.ref a) : Sem Flow) Q X.xe z) X.xe s := by
    rw [hf]
    refine HandSPX.setFlight_upZ fly fun g held up => wpAny_throw (tk _ _ ⟨a, B, sI, pins, σ, H, cls, d, rfl, h.inv, h.grd, h.up.trans up, .inr (.inr ?_), h.new, h.os, h.ag, w⟩)
    rw [hs]
    exact held
  first
    | exact wpAny_bind last
    | exact wpAny_bind (wpAny_pure (wpAny_bind last))
/-- the class that a clause names, told -/
theorem InHand.named (h : InHand X pins σ H cls d a B sI s) (hf : X.env.frame = some X.env.locals) {x : Str} {c : Value} {p : Pos} (hc : Names X x c) {Q : Value → Shared → Prop} {E : Value → Shared → Prop} (q : Q c s) :
    wpAny (model X.prog X.w) (X.A.mark (some (.ref a))) (eval (.Name x p) X.env) Q E s := by
  obtain ⟨oe, fv, e1, _, e3, n1, n2⟩ := h.seen hf
  have S := h.now.suite e1 e3 h.new n1 n2
  obtain ⟨hg, hd, hm | ⟨hm, hv, hn⟩⟩ := hc
  · exact ld_glob (X := X.suite a ((a, oe) :: (X.pn ++ pins))) S hg hm q hd
  · exact ld_blt (X := X.suite a ((a, oe) :: (X.pn ++ pins))) S hg hm hv q hn hd
theorem InHand.through (hs : X.stack = X.env :: X.outer) (hf : X.env.frame = some X.env.locals) (hN : X.N.Nodup) {Wout : WX} (tk : Takes X Wout) {D : Ends} {hds : List ExceptHandler} {l : List Cl}
    (ck : Clauses X hds l) : ∀ {s : Shared}, InHand X pins σ H cls d a B sI s → wCl X.K Wout D l cls d σ H → wpAny (model X.prog X.w) X.A (handleBy (.ref a) X.env hds) (SP X pins D) X.xe s := by
  induction ck with
  | nil => exact fun h w => h.out hs hf tk w
  | @plain x c ts st ss p q hds l hc hsu r ih =>
    rintro s h ⟨b, hb, yes, no⟩
    have fly := h.fly
    obtain ⟨oe, fv, e1, e2, _⟩ := h.seen hf
    have own : PySem.W.Looks (model X.prog X.w) s.heap (typeOf (.ref a)) cls := fun _ _ _ z k q => wpAny_typeOf_ref (k _ _ e1) (by rw [e2.1]; exact q)
    refine wpAny_handleBy_cons (codeAny_handlers_test (h.named hf hc ((PySem.W.exm_one h.now.kIn own hb).here ?_))) (fun z => by cases z)
    cases b with
    | false => exact ih h (no rfl)
    | true =>
      refine codeAny_handlers_suite (HandSPX.lands_againZ fly fun g f2 u2 => ?_)
      have h2 := h.move f2 u2
      obtain ⟨oe2, fv2, i1, i2, i3, i4, i5⟩ := h2.seen hf
      exact wpAny_mono ((hsu a oe2 cls d (X.pn ++ pins) i2 ⟨_, i3⟩).run [] _ _ _ _ (h2.now.suite i1 i3 h.new i4 i5) (yes rfl a h.new)) (fun f z y => InHand.leave h.inv.ok y) fun _ _ z => z.elim
  | @named x n i c ts st ss p q hds l hc hi hn hsu r ih =>
    rintro s h ⟨b, hb, yes, no⟩
    have fly := h.fly
    obtain ⟨oe, fv, e1, e2, _⟩ := h.seen hf
    have own : PySem.W.Looks (model X.prog X.w) s.heap (typeOf (.ref a)) cls := fun _ _ _ z k q => wpAny_typeOf_ref (k _ _ e1) (by rw [e2.1]; exact q)
    refine wpAny_handleBy_cons (codeAny_handlers_test (h.named hf hc ((PySem.W.exm_one h.now.kIn own hb).here ?_))) (fun z => by cases z)
    cases b with
    | false => exact ih h (no rfl)
    | true =>
      refine codeAny_handlers_suite_as (HandSPX.lands_againZ fly fun g f2 u2 => ?_)
      have h2 := h.move f2 u2
      obtain ⟨oe2, fv2, i1, i2, i3, i4, i5⟩ := h2.seen hf
      refine store_ok (X := X.suite a ((a, oe2) :: (X.pn ++ pins))) (v := .ref a) (h2.now.suite i1 i3 h.new i4 i5) hN hi (.inl hn) rfl (fun z J => ?_) (.inr hn)
      refine wpAny_mono ((hsu a oe2 cls d (X.pn ++ pins) i2 ⟨_, i3⟩).run [] z _ _ _ J (yes rfl a h.new)) (fun f y k => ?_) fun _ _ z => z.elim
      have k' := InHand.leave h.inv.ok k
      cases f with
      | next => obtain ⟨τ, G, J2, q2⟩ := k'; exact gone_ok J2 hN hi hn fun _ J3 => ⟨_, _, J3, q2⟩
      | brk => obtain ⟨τ, G, J2, q2⟩ := k'; exact gone_ok J2 hN hi hn fun _ J3 => ⟨_, _, J3, q2⟩
      | cont => obtain ⟨τ, G, J2, q2⟩ := k'; exact gone_ok J2 hN hi hn fun _ J3 => ⟨_, _, J3, q2⟩
      | ret u => obtain ⟨v, τ, G, J2, r2, q2⟩ := k'; exact gone_ok J2 hN hi hn fun _ J3 => ⟨_, _, _, J3, r2, q2⟩
end
/-- try: body, any clauses -/
theorem ps_try_cl {X : Cx} {body : List Stmt} {hd : ExceptHandler} {hds : List ExceptHandler} {l : List Cl} {pos : Pos} {tb : WX → TS} {Wout : WX} (hs : X.stack = X.env :: X.outer) (hf : X.env.frame = some X.env.locals) (hN : X.N.Nodup)
    (tk : Takes X Wout) (ck : Clauses X (hd :: hds) l)
    (hb : ∀ (W : WX) (pn : List (Addr × Obj)) (xe : Value → Shared → Prop), Takes (X.tr pn xe) W → PassesOwn (model X.prog X.w) X.A X.env xe → PSs (X.tr pn xe) body (tb W)) :
    PS X (.Try body (hd :: hds) [] [] pos) (fun D σ H => tb (wCl X.K Wout D l) D σ H) := by
  refine ⟨fun pins s σ H D I h => wpAny_Try_except ?_⟩
  have ok := I.ok
  have fr : X.A.frames = some (X.env :: X.outer) := by rw [ok.frames, hs]
  let xe : Value → Shared → Prop := fun e z => wpAny (model X.prog X.w) X.A (noteFrame e X.env) (fun _ z2 => wpAny (model X.prog X.w) X.A (setFlight e none)
    (fun _ z3 => wpAny (model X.prog X.w) X.A (handleBy e X.env (hd :: hds)) (SP X pins D) X.xe z3) X.xe z2) X.xe z
  have take : Takes (X.tr (X.pn ++ pins) xe) (wCl X.K Wout D l) := by
    rintro _ z ⟨a, B, sI, pn, τ, G, cls, d, rfl, J, grd, up, sky, new, os, ag, w⟩
    rw [show (X.tr (X.pn ++ pins) xe).stack = X.env :: X.outer from hs] at sky
    refine Sky.land Zc.steady fr hf sky fun g fly u => ?_
    exact InHand.through hs hf hN tk ck (s := { z with heap := g }) ⟨J.ofTry ok, grd, up.trans u, fly, new, os, ag⟩ w
  refine wpAny_mono ((hb _ _ xe take PassesOwn.looking).run [] s σ H D (I.toTry _) h) (fun f z k => ?_) fun _ _ z => z
  cases f with
  | next => obtain ⟨τ, G, J, q⟩ := k; exact wpAny_execs_nil ⟨τ, G, J.ofTry ok, q⟩
  | brk => obtain ⟨τ, G, J, q⟩ := k; exact ⟨τ, G, J.ofTry ok, q⟩
  | cont => obtain ⟨τ, G, J, q⟩ := k; exact ⟨τ, G, J.ofTry ok, q⟩
  | ret u => obtain ⟨v, τ, G, J, r, q⟩ := k; exact ⟨v, τ, G, J.ofTry ok, r, q⟩
/-! ### C.m(e, ..), C a class of the program -/
/-- what the written part says of a def f that a class at C tells by its name -/
structure ClsDef (K : PySem.W.Frag) (C f : Addr) (n : Str) : Prop where
  ga : PySem.W.specialIn K (.ref C) "__getattribute__" = some (some (.builtin "type.__getattribute__"))
  rd : PySem.W.readsIn K C (.type "type") = true
  at_ : PySem.W.findCls K (.ref C) (.type "type") n = some (.val (.ref f))
section
variable {X : Cx} {CX : CXT} {k : Nat} {C f : Addr} {fd : FuncData} {ps : List Str} {sp : Sp} {dvs : List V} {ds : List Value} {E : XK} {x n : Str} {p1 p2 pos : Pos} {e : Expr} {es : List Expr} {t : TA}
theorem pe_ccall {pl : Sem Bool} (T : ClsDef X.K C f n) (F : FnOk X.prog X.w X.K X.mg X.base CX k f fd ps sp) (hr : Room k X.A) (hg : Gl X x) (hm : X.mg x = some (.ref C)) (hk : PySem.W.keepIn X.K (.ref f) = true)
    (hb : Binds X.K fd ps ds) (hd : Vals dvs ds) (hx : Passes CX X E) (ha : PA X (e :: es) t) (hdb : (x == ("__debug__" : Str)) = false := by decide)
    (hc : eval (.Call (.Attribute (.Name x p1) n p2) (e :: es) [] pos) X.env = (do
      let ov ← eval (.Name x p1) X.env
      standAt p2.atName
      let (f, first) ← holding [ov] (getMethod ov n pl)
      callWith pos f first (backTo pos (starEach (e :: es) X.env)) (backToKw pos (keywordEach [] X.env))) := by rfl)
    (he : starEach (e :: es) X.env = (false, eval e X.env) :: starEach es X.env := by rfl) (hpl : (backTo pos (starEach es X.env)).any (·.1) = false := by rfl) :
    PE X (.Call (.Attribute (.Name x p1) n p2) (e :: es) [] pos) (tCall sp dvs E t) := by
  refine ⟨fun pins s σ H Q I h => PySem.W.methodCall_KW (ld_glob I hg hm ?_ hdb) hc⟩
  refine PySem.W.method_cls I.kIn T.ga (PySem.W.cls_value I.kIn T.rd T.at_ rfl ?_)
  refine PySem.W.callWith_K (h₀ := X.base) I.ok.mod.kin hk (thn (ha.run pos pins _ σ H _ (I.tok _) h) ?_) he hpl
  rintro us s1 ⟨vs, H1, I1, r, q⟩
  refine ⟨I1.kIn, ?_⟩
  have both := r.append hd
  have len : (us ++ ds).length = ps.length := (both.length).symm.trans (F.len _ _ _ _ q)
  refine wpAny_call (codeAny_mono (F.run X.A X.stack s1 H1 ⟨us, []⟩ (us ++ ds) (vs ++ dvs) Q E hr I1.env0 (hb s1 us I1.kIn len) both q) ?_)
  intro res z hz
  match res, hz with
  | .ok (.ret u), hz => exact I1.after hz
  | .error e, hz => exact hx pins σ H1 s1 e z I1 hz
  | .ok .next, hz => exact hz.elim
  | .ok .brk, hz => exact hz.elim
  | .ok .cont, hz => exact hz.elim
end
/-! ### o.m(e, ..) in a try's body -/
section
variable {X : Cx} {CX : CXT} {k : Nat} {C f : Addr} {fd : FuncData} {ps : List Str} {sp : Sp} {E : L2.St → XK} {m : Str} {pos apos : Pos} {e o : Expr} {es : List Expr} {ta : TE} {t : TA}
def tMethX (C : Addr) (m : Str) (sp : Sp) (E : L2.St → XK) (ta : TE) (t : TA) : TE := fun σ H Q => ta σ H fun x G => ∃ a dx fs, x = .ref a ∧ G a = some (.ins C dx fs) ∧ fs.lookup m = none ∧
  t σ G fun vs G2 => sp (x :: vs) G2 Q (E σ)
theorem pe_methX {pl : Sem Bool} (he : PE X o ta) (c : Cls X.K C) (hm : Meth X.K C m f) (F : FnOk X.prog X.w X.K X.mg X.base CX k f fd ps sp) (hr : Room k X.A) (hb : Binds X.K fd ps []) (hx : ∀ σ, PassesAt CX X σ (E σ)) (ha : PA X (e :: es) t)
    (hst : starEach (e :: es) X.env = (false, eval e X.env) :: starEach es X.env := by rfl) (hpl : (backTo pos (starEach es X.env)).any (·.1) = false := by rfl)
    (ht : eval (.Call (.Attribute o m apos) (e :: es) [] pos) X.env = (do
      let ov ← eval o X.env
      standAt apos.atName
      let (f, first) ← holding [ov] (getMethod ov m pl)
      callWith pos f first (backTo pos (starEach (e :: es) X.env)) (backToKw pos (keywordEach [] X.env))) := by rfl) :
    PE X (.Call (.Attribute o m apos) (e :: es) [] pos) (tMethX C m sp E ta t) := by
  refine ⟨fun pins s σ H Q I h => PySem.W.methodCall_KW (pl := pl) (thn (he.run pins s σ H _ I h) ?_) ht⟩
  rintro u z ⟨x, G, J, rx, a, dx, fs, rfl, ea, l, q⟩
  obtain rfl : u = Value.ref a := rx
  refine getmeth_ok J ea c hm l (PySem.W.callWith_K (first := [.ref a]) (h₀ := X.base) I.ok.mod.kin hm.kp (thn (ha.run pos pins z σ G _ J q) ?_) hst hpl)
  rintro us y ⟨vs, G2, J2, r, q2⟩
  exact ⟨J2.kIn, run_fnS (us := .ref a :: us) (vs := .ref a :: vs) F hr hb (hx σ) J2 (.cons rfl r) q2⟩
end
/-! ### the family: an __init__ over another class's, one field -/
/-- StaffError.__init__(self, text) and the like -/
def spUp (K : PySem.W.Frag) : Sp := fun vs H Q _ => ∃ (a C : Addr) (z : Str), vs = [.ref a, .str z] ∧ OexC K C ∧ H a = some (exo a C none) ∧ Q .non H
/-- C.__init__(self, x), its one field f -/
def spOne (K : PySem.W.Frag) (C : Addr) (f : Str) : Sp := fun vs H Q _ => ∃ (a : Addr) (v : V), vs = [.ref a, v] ∧ H a = some (exo a C none) ∧
  ∀ dx, H dx = none → dx ≠ a → Q .non (upd (upd H dx (exd dx [(f, v)])) a (exo a C (some dx)))
/-- what is left of a made exception: its dict alone -/
theorem made_eq {H : Hp} {a d C : Addr} {fs : List (Str × V)} (n : H a = none) (ne : d ≠ a) :
    upd (del (upd (upd (upd H a (exo a C none)) d (exd d fs)) a (exo a C (some d))) a) d (.xd fs) = upd H d (.xd fs) := by
  funext b
  by_cases hd : b = d
  · rw [hd, upd_same, upd_same]
  · rw [upd_ne hd, upd_ne hd]
    by_cases ha : b = a
    · rw [ha, del_same, n]
    · rw [del_ne ha, upd_ne ha, upd_ne hd, upd_ne ha]
/-- raise C(x): what is to be shown -/
theorem made_one {K : PySem.W.Frag} {C : Addr} {f : Str} {v : V} {H : Hp} {W : Value → Option Addr → Hp → Prop} (k : ∀ d, H d = none → W (.ref C) (some d) (upd H d (.xd [(f, v)]))) :
    ([v] : List V).length ≤ 1000 ∧ ∀ a, H a = none → spOne K C f (.ref a :: ([v] ++ [])) (upd H a (exo a C none))
      (fun u H2 => u = .non ∧ ∃ (d : Addr) (fs : List (Str × V)), H2 a = some (exo a C (some d)) ∧ H2 d = some (exd d fs) ∧ H d = none ∧ W (.ref C) (some d) (upd (del H2 a) d (.xd fs))) (fun _ _ _ => False) := by
  refine ⟨by simp, fun a n => ⟨a, v, rfl, upd_same, fun dx hdx ne => ⟨rfl, dx, [(f, v)], upd_same, ?_, ?_, ?_⟩⟩⟩
  · rw [upd_ne ne, upd_same]
  · rw [upd_ne ne] at hdx
    exact hdx
  · rw [made_eq n ne]
    rw [upd_ne ne] at hdx
    exact k dx hdx
/-- a class is its own -/
theorem sub_self {K : PySem.W.Frag} {C : Addr} {cd : ClassData} {r : List Value} (h : PySem.W.clsIn K C = some cd) (e : cd.mro = .ref C :: r) : PySem.W.subIn K (.ref C) (.ref C) = some true := by
  show PySem.W.mroIn K C (.ref C) = some true
  unfold PySem.W.mroIn
  rw [h]
  simp [e]
/-! ### isinstance of what was caught -/
structure CauC (K : PySem.W.Frag) (D : Addr) : Prop where
  cl : (PySem.W.clsIn K D).isSome = true
  ga : PySem.W.findIn K (.ref D) "__getattribute__" = some (some (.builtin "BaseException.__getattribute__"))
  gg : PySem.W.findIn K (.ref D) "__getattr__" = some none
  sub : PySem.W.subIn K (.ref D) (.type "BaseException") = some true
  co : PySem.W.findIn K (.ref D) "__class__" = some (some (.builtin "object.__class__"))
  cg : PySem.W.specialIn K (.builtin "object.__class__") "__get__" = some (some (.builtin "getset_descriptor.__get__"))
  ct : PySem.W.takesIn K (.builtin "object.__class__") = some true
  mo : PySem.W.mroIn K D (.type "object") = some true
/-- isinstance(e, c), e what the suite holds (cls its class, d its dict) -/
def rIsD (K : PySem.W.Frag) (D a : Addr) (cls : Value) (d : Option Addr) : List V → Hp → VK → Prop := fun xs H Q => ∃ (c : V) (cv : Value) (b : Bool) (dd : Addr) (fs : List (Str × V)),
  xs = [.ref a, c] ∧ (∀ u, RelV c u → u = cv) ∧ PySem.W.kitOne K (.ref D) cv = some b ∧ cls = .ref D ∧ d = some dd ∧ H dd = some (.xd fs) ∧ Q (.bl b) H
theorem call_isD {X : Cx} {a D : Addr} {cls : Value} {d : Option Addr} {oe : Obj} {pn : List (Addr × Obj)} (T : CauC X.K D) (hz : Zc cls d oe) (hf : ∃ fv, oe.data = .fields fv) :
    CallR (X.suite a ((a, oe) :: pn)) (.builtin "isinstance") (rIsD X.K D a cls d) := by
  rintro pins s σ H xs us Q I r ⟨c, cv, b, dd, fs, rfl, hcv, e, rfl, rfl, ed, q⟩
  cases r with
  | cons rx rr =>
    cases rr with
    | cons rt rr =>
      cases rr
      cases rx
      obtain rfl := hcv _ rt
      obtain ⟨hget, _⟩ := I.pin (a, oe) (by simp)
      obtain ⟨fv, hv⟩ := hf
      have hx : ObjOk X.prog X.w H s.heap dd (.xd fs) := I.hok dd _ ed
      obtain ⟨mA, hns, _⟩ := hx
      obtain ⟨od, ho, _⟩ := lookIn_ns hns
      have J : PySem.W.InstAt s.heap a oe D (some od) := ⟨hget, hz.1, by unfold PySem.W.notCls; rw [hv] <;> rfl, by rw [hz.2]; exact ho⟩
      exact PySem.W.kia_one (PySem.W.kitx_exc T.cl T.ga T.gg T.sub T.co T.cg T.ct T.mo) I.kIn J e (fun z => nomatch z) fun tk => ⟨.bl b, H, I.tok _, rfl, q⟩
/-- a call of a def that may raise, where it does not -/
theorem pass_no {X : Cx} : Passes (L2.CX X.prog X.w) X E0 := fun _ _ _ _ _ _ _ ⟨_, _, _, _, _, _, _, _, _, _, _, _, z⟩ => z.elim
theorem takes_never {X : Cx} : Takes X (fun _ _ _ _ => False) := fun _ _ ⟨_, _, _, _, _, _, _, _, _, _, _, _, _, _, _, _, z⟩ => z.elim
end My

set_option maxRecDepth 100000
set_option maxHeartbeats 4000000
/-! Data in the heap, kept by steps that change a box, a table. -/
namespace My
open PySem PySem.Spec PyProof.Rows L2 GxR Gd TL
/-- all but tables stays -/
def Nt (H H' : Hp) : Prop := ∀ c o, (∀ ps, o ≠ .tbl ps) → H c = some o → H' c = some o
theorem Nt.refl (H : Hp) : Nt H H := fun _ _ _ h => h
theorem Nt.trans {H H1 H2 : Hp} (a : Nt H H1) (b : Nt H1 H2) : Nt H H2 := fun c o n h => b c o n (a c o n h)
theorem KT.nt {P : Addr} {H H' : Hp} (t : TabG H P) (k : KT P H H') : Nt H H' := fun c o n h => k.keep c o (ne_tab t h n) h
theorem Nt.alloc {H : Hp} {p : Addr} {o : HO} (n : H p = none) : Nt H (upd H p o) := fun c u _ h => by rw [upd_ne (ne_of_none h n)]; exact h
/-- the heap but the box -/
def hide (b : Addr) (H : Hp) : Hp := fun c => if c = b then none else H c
theorem hide_ne {b c : Addr} {H : Hp} (h : c ≠ b) : hide b H c = H c := if_neg h
theorem hide_some {b c : Addr} {H : Hp} {o : HO} (h : hide b H c = some o) : c ≠ b ∧ H c = some o := by
  unfold hide at h
  by_cases q : c = b
  · rw [if_pos q] at h
    cases h
  · rw [if_neg q] at h
    exact ⟨q, h⟩
theorem KB.nt {b : Addr} {H H' : Hp} (k : KB b H H') : Nt (hide b H) (hide b H') := fun c o _ h => by
  obtain ⟨n, h⟩ := hide_some h
  rw [hide_ne n]
  exact k c o n h
theorem hide_nt (b : Addr) (H : Hp) : Nt (hide b H) H := fun c o _ h => (hide_some h).2
theorem Nt.seq {K : PySem.W.Frag} {H H' : Hp} {a : Addr} {xs : List V} (e : Nt H H') (h : SqL K H a xs) : SqL K H' a xs := by
  rcases h with (h | ⟨o, h⟩) | h
  · exact .inl (.inl (e _ _ (by simp) h))
  · exact .inl (.inr ⟨o, e _ _ (by simp) h⟩)
  · exact .inr h
theorem Nt.seqT {K : PySem.W.Frag} {H H' : Hp} {a : Addr} {xs : List V} (e : Nt H H') (h : SqT K H a xs) : SqT K H' a xs := by
  rcases h with (h | ⟨o, h⟩) | h
  · exact .inl (.inl (e _ _ (by simp) h))
  · exact .inl (.inr ⟨o, e _ _ (by simp) h⟩)
  · exact .inr h
section
variable {K : PySem.W.Frag} {H H' : Hp}
mutual
theorem dp_nt (e : Nt H H') : ∀ {v : V} {d : PyData}, Dp K H v d → Dp K H' v d
  | _, _, .non => .non
  | _, _, .bl b => .bl b
  | _, _, .int i => .int i
  | _, _, .str z => .str z
  | _, _, .lst h a => .lst (e.seq h) (dpAll_nt e a)
  | _, _, .tup h a => .tup (e.seqT h) (dpAll_nt e a)
theorem dpAll_nt (e : Nt H H') : ∀ {vs : List V} {ds : List PyData}, DpAll K H vs ds → DpAll K H' vs ds
  | _, _, .nil => .nil
  | _, _, .cons h t => .cons (dp_nt e h) (dpAll_nt e t)
end
theorem dp_list {v : V} {ds : List PyData} (h : Dp K H v (.list ds)) : ∃ a xs, v = .ref a ∧ SqL K H a xs ∧ DpAll K H xs ds := by
  cases h with
  | lst h a => exact ⟨_, _, rfl, h, a⟩
theorem dp_tuple {v : V} {ds : List PyData} (h : Dp K H v (.tuple ds)) : ∃ a xs, v = .ref a ∧ SqT K H a xs ∧ DpAll K H xs ds := by
  cases h with
  | tup h a => exact ⟨_, _, rfl, h, a⟩
theorem dp_str {v : V} {z : Str} (h : Dp K H v (.str z)) : v = .str z := by
  cases h
  rfl
theorem dp_int {v : V} {i : Int} (h : Dp K H v (.int i)) : v = .int i := by
  cases h
  rfl
theorem dp_none {v : V} (h : Dp K H v .none) : v = .non := by
  cases h
  rfl
theorem dpAll_len : ∀ {xs : List V} {ds : List PyData}, DpAll K H xs ds → xs.length = ds.length
  | _, _, .nil => rfl
  | _, _, .cons _ t => congrArg (· + 1) (dpAll_len t)
theorem dpAll_get : ∀ {xs : List V} {ds : List PyData}, DpAll K H xs ds → ∀ {i : Nat} {x : V}, xs[i]? = some x → ∃ d, ds[i]? = some d ∧ Dp K H x d
  | _, _, .nil, _, _, h => by simp at h
  | _, _, .cons a _, 0, _, h => by simp at h; subst h; exact ⟨_, rfl, a⟩
  | _, _, .cons _ t, i + 1, x, h => by
    obtain ⟨d, h1, h2⟩ := dpAll_get t (i := i) (x := x) (by simpa using h)
    exact ⟨d, by simpa using h1, h2⟩
theorem dpAll_at : ∀ {xs : List V} {ds : List PyData}, DpAll K H xs ds → ∀ {i : Nat} {d : PyData}, ds[i]? = some d → ∃ x, xs[i]? = some x ∧ Dp K H x d
  | _, _, .nil, _, _, h => by simp at h
  | _, _, .cons a _, 0, _, h => by simp at h; subst h; exact ⟨_, rfl, a⟩
  | _, _, .cons _ t, i + 1, d, h => by
    obtain ⟨x, h1, h2⟩ := dpAll_at t (i := i) (d := d) (by simpa using h)
    exact ⟨x, by simpa using h1, h2⟩
theorem dpAll_app : ∀ {xs ys : List V} {ds es : List PyData}, DpAll K H xs ds → DpAll K H ys es → DpAll K H (xs ++ ys) (ds ++ es)
  | _, _, _, _, .nil, h => h
  | _, _, _, _, .cons a t, h => .cons a (dpAll_app t h)
theorem dp_two {v : V} {c d : PyData} (h : Dp K H v (.tuple [c, d])) : ∃ a x y, v = .ref a ∧ SqT K H a [x, y] ∧ Dp K H x c ∧ Dp K H y d := by
  obtain ⟨a, xs, rfl, h1, h2⟩ := dp_tuple h
  cases h2 with
  | cons p t =>
    cases t with
    | cons q t =>
      cases t
      exact ⟨a, _, _, rfl, h1, p, q⟩
theorem dp_three {v : V} {c d e : PyData} (h : Dp K H v (.tuple [c, d, e])) : ∃ a x y z, v = .ref a ∧ SqT K H a [x, y, z] ∧ Dp K H x c ∧ Dp K H y d ∧ Dp K H z e := by
  obtain ⟨a, xs, rfl, h1, h2⟩ := dp_tuple h
  cases h2 with
  | cons p t =>
    cases t with
    | cons q t =>
      cases t with
      | cons r t =>
        cases t
        exact ⟨a, _, _, _, rfl, h1, p, q, r⟩
theorem dp_four {v : V} {c d e f : PyData} (h : Dp K H v (.list [c, d, e, f])) : ∃ a x y z u, v = .ref a ∧ SqL K H a [x, y, z, u] ∧ Dp K H x c ∧ Dp K H y d ∧ Dp K H z e ∧ Dp K H u f := by
  obtain ⟨a, xs, rfl, h1, h2⟩ := dp_list h
  cases h2 with
  | cons p t =>
    cases t with
    | cons q t =>
      cases t with
      | cons r t =>
        cases t with
        | cons s t =>
          cases t
          exact ⟨a, _, _, _, _, rfl, h1, p, q, r, s⟩
end
/-! ### names that are good, worlds of lines -/
def NameOk (z : Str) : Prop := 1 ≤ z.length ∧ z.length ≤ 6 ∧ z.cps.toList.all lc = true
theorem NameOk.good {z : Str} (h : NameOk z) : Good z := fun c hc => by
  have := List.all_eq_true.mp h.2.2 c hc
  unfold lc at this
  simp at this
  omega
theorem NameOk.nm {z : Str} (h : NameOk z) : nm (.str z) = true := by
  obtain ⟨h1, h2, h3⟩ := h
  simp [My.nm, h1, h2, h3]
theorem NameOk.th {z : Str} {H : Hp} (h : NameOk z) : Th H (.str z) := .str z (by have := h.2.1; omega) h.good
structure Wd where
  ps : List (Str × Int)
  st : List (Str × Int)
  lo : List (Int × Int × Int)
  sp : Str
def longsOk (top : Int) : Int → List (Int × Int × Int) → Prop
  | _, [] => True
  | low, (f, l, h) :: r => low ≤ f ∧ f + 2 ≤ l ∧ l ≤ top ∧ 0 ≤ h ∧ h ≤ 1 ∧ longsOk top l r
structure Wd.Ok (w : Wd) : Prop where
  p2 : 2 ≤ w.ps.length
  p6 : w.ps.length ≤ 6
  nm : ∀ p ∈ w.ps, NameOk p.1 ∧ 1 ≤ p.2 ∧ p.2 ≤ 3
  nd : (w.ps.map (·.1)).Nodup
  sl : w.st.length + 1 = w.ps.length
  st : ∀ p ∈ w.st, (p.1 = "staff" ∨ p.1 = "ticket") ∧ 0 ≤ p.2 ∧ p.2 ≤ 1
  ll : w.lo.length ≤ 2
  lo : longsOk (w.ps.length - 1 : Nat) 0 w.lo
  sn : NameOk w.sp
  s0 : w.sp ∉ w.ps.map (·.1)
def dP (p : Str × Int) : PyData := .tuple [.str p.1, .int p.2]
def dL (p : Int × Int × Int) : PyData := .tuple [.int p.1, .int p.2.1, .int p.2.2]
def Wd.data (w : Wd) : PyData := .list [.list (w.ps.map dP), .list (w.st.map dP), .list (w.lo.map dL), .str w.sp]
end My

set_option maxRecDepth 100000
set_option maxHeartbeats 400000
/-! small data: what repr asks of them -/
namespace My
open PySem PySem.Spec PyProof.Rows L2 GxR Gd TL
structure Sm (d : PyData) (k m : Nat) : Prop where
  lay : d.canLay0 = true
  dep : d.depth ≤ k
  wt : d.weight ≤ m
  ish : d.intsShort 13 = true
  sh : d.showable = true
theorem Sm.rep {d : PyData} {k m : Nat} (h : Sm d k m) (hk : k ≤ 64) (hm : m ≤ 2 ^ 20) : d.showable = true ∧ d.depth ≤ 100 ∧ d.shown.length ≤ sizeLine := by
  refine ⟨h.sh, Nat.le_trans h.dep (by omega), Nat.le_trans (shown_le13 ?_ h.ish) (by rw [sizeLine_eq]; decide)⟩
  unfold PyData.layable0
  rw [Bool.and_eq_true, Bool.and_eq_true, decide_eq_true_eq, decide_eq_true_eq]
  exact ⟨⟨h.lay, Nat.le_trans h.dep hk⟩, Nat.le_trans h.wt hm⟩
theorem Sm.mono {d : PyData} {k m k' m' : Nat} (h : Sm d k m) (hk : k ≤ k') (hm : m ≤ m') : Sm d k' m' := ⟨h.lay, Nat.le_trans h.dep hk, Nat.le_trans h.wt hm, h.ish, h.sh⟩
theorem sm_none : Sm .none 0 0 := ⟨rfl, Nat.le_refl 0, Nat.le_refl 0, rfl, rfl⟩
theorem sm_bool (b : Bool) : Sm (.bool b) 0 0 := ⟨rfl, Nat.le_refl 0, Nat.le_refl 0, rfl, rfl⟩
theorem sm_int {i : Int} (h : i.natAbs ≤ 1000) : Sm (.int i) 0 20 := by
  have hl : i.natAbs.log2 ≤ 10 := by
    by_cases z : i.natAbs = 0
    · rw [z]; decide
    · have : i.natAbs.log2 < 11 := (Nat.log2_lt z).mpr (by omega)
      omega
  refine ⟨rfl, Nat.le_refl 0, ?_, ?_, ?_⟩
  · unfold PyData.weight
    split
    · omega
    · omega
  · exact intsShort_of_noneOrIn (lo := -2000) (hi := 2000) (by decide) (by decide) (.int i) (by simp [noneOrIn]; omega)
  · unfold PyData.showable
    rw [decide_eq_true_eq]
    omega
theorem sm_str {z : Str} (g : Good z) (h : z.length ≤ 6) : Sm (.str z) 0 6 := by
  refine ⟨?_, Nat.le_refl 0, h, rfl, rfl⟩
  unfold PyData.canLay0
  unfold PyData.strOk
  rw [Array.all_eq_true_iff_forall_mem]
  intro c hc
  exact decide_eq_true (g c (Array.mem_toList_iff.mpr hc))
theorem sm_all {k m : Nat} : ∀ {ds : List PyData}, (∀ d ∈ ds, Sm d k m) → PyData.canLayAll0 ds = true ∧ PyData.depthAll ds ≤ k ∧ PyData.weightAll ds ≤ ds.length * (m + 1) ∧ PyData.intsShortAll 13 ds = true ∧ PyData.showableAll ds = true
  | [], _ => ⟨rfl, Nat.zero_le _, Nat.zero_le _, rfl, rfl⟩
  | d :: r, h => by
    obtain ⟨a1, a2, a3, a4, a5⟩ := sm_all (ds := r) fun x hx => h x (List.mem_cons_of_mem _ hx)
    have b := h d List.mem_cons_self
    refine ⟨?_, ?_, ?_, ?_, ?_⟩
    · unfold PyData.canLayAll0; rw [b.lay, a1]; rfl
    · unfold PyData.depthAll; exact Nat.max_le.mpr ⟨b.dep, a2⟩
    · unfold PyData.weightAll
      have := b.wt
      rw [List.length_cons, Nat.succ_mul]
      omega
    · unfold PyData.intsShortAll; rw [b.ish, a4]; rfl
    · unfold PyData.showableAll; rw [b.sh, a5]; rfl
theorem sm_list {k m : Nat} {ds : List PyData} (h : ∀ d ∈ ds, Sm d k m) : Sm (.list ds) (k + 1) (ds.length * (m + 1)) := by
  obtain ⟨a1, a2, a3, a4, a5⟩ := sm_all h
  exact ⟨by unfold PyData.canLay0; exact a1, by unfold PyData.depth; omega, by unfold PyData.weight; exact a3, by unfold PyData.intsShort; exact a4, by unfold PyData.showable; exact a5⟩
theorem sm_tuple {k m : Nat} {ds : List PyData} (h : ∀ d ∈ ds, Sm d k m) : Sm (.tuple ds) (k + 1) (ds.length * (m + 1)) := by
  obtain ⟨a1, a2, a3, a4, a5⟩ := sm_all h
  exact ⟨by unfold PyData.canLay0; exact a1, by unfold PyData.depth; omega, by unfold PyData.weight; exact a3, by unfold PyData.intsShort; exact a4, by unfold PyData.showable; exact a5⟩
theorem sm_dP {p : Str × Int} (g : Good p.1) (h : p.1.length ≤ 6) (hr : p.2.natAbs ≤ 1000) : Sm (dP p) 1 42 :=
  sm_tuple (k := 0) (m := 20) (ds := [.str p.1, .int p.2]) fun d hd => by
    simp only [List.mem_cons, List.not_mem_nil, or_false] at hd
    rcases hd with rfl | rfl
    · exact (sm_str g h).mono (Nat.le_refl 0) (by decide)
    · exact sm_int hr
theorem sm_names {a b : Str} (ha : NameOk a) (hb : NameOk b) : Sm (.tuple [.str a, .str b]) 1 14 :=
  sm_tuple (k := 0) (m := 6) (ds := [.str a, .str b]) fun d hd => by
    simp only [List.mem_cons, List.not_mem_nil, or_false] at hd
    rcases hd with rfl | rfl
    · exact sm_str ha.good ha.2.1
    · exact sm_str hb.good hb.2.1
end My

set_option maxRecDepth 100000
set_option maxHeartbeats 4000000
namespace K13
open PySem PySem.Spec PyProof.Rows L2 GxR Gd TL My
/-! ### the text -/
def top (i : Nat) : Stmt := PySem.Challenge.pw_onestaff_k13_trains_counted.main.body.getD i (.Pass ⟨0, 0, 0, 0⟩)
abbrev sWhole : Stmt := top 5
abbrev sCell : Stmt := top 9
abbrev sBox : Stmt := top 10
abbrev sTake : Stmt := top 11
structure Txt (mg : Str → Option Value) : Prop where
  isinstance_ : mg "isinstance" = none
  int_ : mg "int" = none
  bool_ : mg "bool" = none
  str_ : mg "str" = none
  len_ : mg "len" = none
  all_ : mg "all" = none
  max_ : mg "max" = none
  min_ : mg "min" = none
  range_ : mg "range" = none
  repr_ : mg "repr" = none
  list_ : mg "list" = none
  tuple_ : mg "tuple" = none
  enumerate_ : mg "enumerate" = none
  sorted_ : mg "sorted" = none
structure Fn (K : PySem.W.Frag) (mg : Str → Option Value) (x : Str) (st : Stmt) (ps : List Str) (f : Addr) (fd : FuncData) : Prop where
  fn : Fun K x x st f fd
  g : mg x = some (.ref f)
  b : Binds K fd ps []
theorem Fn.kp {K : PySem.W.Frag} {mg : Str → Option Value} {x : Str} {st : Stmt} {ps : List Str} {f : Addr} {fd : FuncData} (h : Fn K mg x st ps f fd) : PySem.W.keepIn K (.ref f) = true := h.fn.kp
section
variable {P : Program} {w : World} {K : PySem.W.Frag} {mg : Str → Option Value} {base : Heap}
def spWhole : Sp := fun vs H Q _ => ∃ (v : V) (lo hi : Int), vs = [v, .int lo, .int hi] ∧ Th H v ∧ Q (.bl (wh lo hi v)) H
theorem scWhole : FnScope ["thing", "low", "high"] ["thing", "low", "high"] (defScope sWhole) := ⟨rfl, rfl, rfl, by decide +kernel, rfl, by decide +kernel, by decide +kernel⟩
theorem ok_whole {f : Addr} {fd : FuncData} (F : Fun K "is_whole" "is_whole" sWhole f fd) (T : Txt mg) : FnOk P w K mg base CX0 1 f fd ["thing", "low", "high"] spWhole := by
  refine F.ok scWhole (fun vs H Q E h => ?_) (fun cdv A outer s H vs Q E hr h => ?_)
  · obtain ⟨v, lo, hi, rfl, _⟩ := h
    rfl
  · obtain ⟨v, lo, hi, rfl, th, k⟩ := h
    obtain ⟨t, ty, cs⟩ := th.ty (K := K)
    refine ⟨_, pss_cons (ps_if (PW.pt (pw_or (pt_not (pt_val (pe_callB call_isi (by rfl) T.isinstance_ (by decide +kernel) (pa_cons (pv 0) (pa_cons (pe_bltn (v := .ty "int") (by rfl) T.int_ (by decide +kernel) rfl) pa_nil)))))
        (pw_or1 (pt_val (pe_callB call_isi (by rfl) T.isinstance_ (by decide +kernel) (pa_cons (pv 0) (pa_cons (pe_bltn (v := .ty "bool") (by rfl) T.bool_ (by decide +kernel) rfl) pa_nil)))))))
        (pss_one (ps_ret pe_bl)) pss_nil)
      (pss_one (ps_ret (pe_chain op_le op_le (pv 1) (pv 0) (pv 2)))), ?_⟩
    rcases cs with ⟨i, rfl, rfl⟩ | ⟨b, rfl, rfl⟩ | ⟨z, rfl, _, rfl⟩ | ⟨n1, n2, n3, ht⟩
    · refine ⟨_, rfl, _, _, _, _, true, rfl, .ty "int", ty, (by rfl), _, rfl, iteF ?_⟩
      refine ⟨_, rfl, _, _, _, _, false, rfl, .ty "bool", ty, (by rfl), _, rfl, iteF ?_⟩
      refine ⟨_, rfl, _, rfl, _, _, rfl, rfl, _, rfl, ?_⟩
      refine ite2 (fun c => ?_) (fun c => ?_)
      · refine ⟨_, rfl, _, _, rfl, rfl, ?_⟩
        have e : (decide (i ≤ hi)) = wh lo hi (.int i) := by simp [wh, of_decide_eq_true c]
        show Q (.bl (decide (i ≤ hi))) H
        rw [e]; exact k
      · have e : false = wh lo hi (.int i) := by simp at c; simp [wh]; omega
        rw [e]; exact k
    · refine ⟨_, rfl, _, _, _, _, true, rfl, .ty "int", ty, (by rfl), _, rfl, iteF ?_⟩
      refine ⟨_, rfl, _, _, _, _, true, rfl, .ty "bool", ty, (by rfl), _, rfl, iteT ?_⟩
      exact k
    · refine ⟨_, rfl, _, _, _, _, false, rfl, .ty "int", ty, (by rfl), _, rfl, iteT (iteT ?_)⟩
      exact k
    · have e : wh lo hi v = false := by
        cases v with
        | int i => exact absurd rfl (n1 i)
        | _ => rfl
      rw [e] at k
      rcases ht with rfl | rfl | rfl | rfl
      · exact ⟨_, rfl, _, _, _, _, false, rfl, .ty "int", ty, (by rfl), _, rfl, iteT (iteT k)⟩
      · exact ⟨_, rfl, _, _, _, _, false, rfl, .ty "int", ty, (by rfl), _, rfl, iteT (iteT k)⟩
      · exact ⟨_, rfl, _, _, _, _, false, rfl, .ty "int", ty, (by rfl), _, rfl, iteT (iteT k)⟩
      · exact ⟨_, rfl, _, _, _, _, false, rfl, .ty "int", ty, (by rfl), _, rfl, iteT (iteT k)⟩

def spCell (K : PySem.W.Frag) : Sp := fun vs H Q _ => ∃ (l : Addr) (ns : List Int) (j : Nat), vs = [.ref l, .int (j : Int)] ∧ SqL K H l (ns.map V.int) ∧ ∀ i : Int, Q (.int i) H
theorem scCell : FnScope ["_law_script", "_law_k"] ["_law_script", "_law_k"] (defScope sCell) := ⟨rfl, rfl, rfl, by decide +kernel, rfl, by decide +kernel, by decide +kernel⟩
theorem ok_cell {f : Addr} {fd : FuncData} (F : Fun K "_law_cell" "_law_cell" sCell f fd) (T : Txt mg) : FnOk P w K mg base CX0 1 f fd ["_law_script", "_law_k"] (spCell K) := by
  refine F.ok scCell (fun vs H Q E h => ?_) (fun cdv A outer s H vs Q E hr h => ?_)
  · obtain ⟨l, ns, j, rfl, _⟩ := h
    rfl
  · obtain ⟨l, ns, j, rfl, hS, k⟩ := h
    refine ⟨_, pss_cons (ps_if (pt_cmpR op_lt (pv 1) (pe_callB call_len_seq (by rfl) T.len_ PySem.boot_len (pa_cons (pv 0) pa_nil)) (nomark _)) (pss_one (ps_ret (pe_ix ix_list (pv 0) (pv 1) (fun _ _ => rfl)))) pss_nil)
      (pss_one (ps_ret (pe_op op_add (pe_op op_mul pe_int (pv 1)) pe_int))), ?_⟩
    refine ⟨_, rfl, _, rfl, l, _, rfl, .inl hS, _, _, rfl, rfl, _, rfl, ite2 (fun c => ?_) (fun c => ?_)⟩
    · have c1 : (j : Int) < ((ns.map V.int).length : Nat) := of_decide_eq_true c
      have c2 : j < ns.length := by rw [List.length_map] at c1; omega
      refine ⟨_, rfl, _, rfl, l, _, _, _, rfl, rfl, hS, atI_nat (v := .int ns[j]) ?_, k _⟩
      rw [List.getElem?_map, List.getElem?_eq_getElem c2]
      rfl
    · exact ⟨_, rfl, _, _, rfl, rfl, .inl ⟨by decide, by decide⟩, _, _, rfl, rfl, k _⟩
def spBox : Sp := fun vs H Q _ => ∃ c : Int, vs = [.int c] ∧ ∀ b H', H b = none → (∀ a, a ≠ b → H' a = H a) → Bx b 0 H' → Q (.ref b) H'
theorem scBox : FnScope ["_law_cell_here"] ["_law_cell_here"] (defScope sBox) := ⟨rfl, rfl, rfl, by decide +kernel, rfl, by decide +kernel, by decide +kernel⟩
theorem ok_box {f : Addr} {fd : FuncData} (F : Fun K "_law_box" "_law_box" sBox f fd) (T : Txt mg) : FnOk P w K mg base CX0 1 f fd ["_law_cell_here"] spBox := by
  refine F.ok scBox (fun vs H Q E h => ?_) (fun cdv A outer s H vs Q E hr h => ?_)
  · obtain ⟨c, rfl, _⟩ := h
    rfl
  · obtain ⟨c, rfl, k⟩ := h
    refine ⟨_, pss_one (ps_ret (pe_lst (pa_cons (pe_callB (call_max2 rfl) (by rfl) T.max_ (by decide +kernel) (pa_cons pe_int (pa_cons (pe_op op_sub (pv 0) (pe_op op_pow pe_int pe_int)) pa_nil))) (pa_cons (pe_op op_mod (pv 0) pe_int) (pa_cons pe_int pa_nil))))), ?_⟩
    refine ⟨_, rfl, _, _, rfl, rfl, ⟨by decide, by decide, by decide⟩, _, _, rfl, rfl, _, _, rfl, ?_⟩
    refine ⟨_, rfl, _, _, rfl, rfl, (by show (0 : Int) < 2147483629; decide), ?_⟩
    refine ⟨(by show 3 ≤ sizeLine; decide), fun b hb => ?_⟩
    refine k b _ hb (fun a na => upd_ne na) ⟨_, _, 0, upd_same, ?_, ?_, ?_, Int.le_refl _, Int.le_refl _⟩
    · split <;> omega
    · exact Int.emod_nonneg _ (by decide)
    · exact Int.emod_lt_of_pos _ (by decide)
def spTake : Sp := fun vs H Q _ => ∃ (b : Addr) (many n : Int), vs = [.ref b, .int many] ∧ Bx b n H ∧ n ≤ 100000 ∧ 0 < many ∧ many.natAbs.log2 < 9000 ∧
  ∀ d H', 0 ≤ d → d < many → (∀ a, a ≠ b → H' a = H a) → Bx b (n + 1) H' → Q (.int d) H'
theorem scTake : FnScope ["_law_box_here", "_law_many", "_law_digit", "_law_number"] ["_law_box_here", "_law_many"] (defScope sTake) := ⟨rfl, rfl, rfl, by decide +kernel, rfl, by decide +kernel, by decide +kernel⟩
theorem ok_take {f : Addr} {fd : FuncData} (F : Fun K "_law_take" "_law_take" sTake f fd) : FnOk P w K mg base CX0 1 f fd ["_law_box_here", "_law_many"] spTake := by
  refine F.ok scTake (fun vs H Q E h => ?_) (fun cdv A outer s H vs Q E hr h => ?_)
  · obtain ⟨b, many, n, rfl, _⟩ := h
    rfl
  · obtain ⟨b, many, n, rfl, ⟨x, y, z, hb, x0, y0, y1, z0, zn⟩, hn, m0, ml, k⟩ := h
    refine ⟨_, pss_cons (ps_if (pt_cmpR op_gt (pe_ix ix_list (pv 0) pe_int (fun _ _ => rfl)) pe_int (nomark _))
        (pss_cons (ps_set (i := 2) scTake.nd rfl (Or.inl rfl) (pe_op op_mod (pe_ix ix_list (pv 0) pe_int (fun _ _ => rfl)) (pv 1)))
        (pss_cons (ps_asg (pe_op op_fdivW (pe_ix ix_list (pv 0) pe_int (fun _ _ => rfl)) (pv 1)) (pg_sub (pv 0) pe_int set_list))
        (pss_one (ps_ret (pv 2))))) pss_nil)
      (pss_cons (ps_asg (pe_op op_add (pe_ix ix_list (pv 0) pe_int (fun _ _ => rfl)) pe_int) (pg_sub (pv 0) pe_int set_list))
      (pss_cons (ps_set (i := 3) scTake.nd rfl (Or.inl rfl) (pe_op op_mod (pe_op op_pow (pe_op op_add (pe_op op_add (pe_ix ix_list (pv 0) pe_int (fun _ _ => rfl)) (pe_op op_mul pe_int (pe_ix ix_list (pv 0) pe_int (fun _ _ => rfl)))) pe_int) pe_int) pe_int))
      (pss_cons (ps_set (i := 3) scTake.nd rfl (Or.inl rfl) (pe_op op_mod (pe_op op_pow (pe_op op_add (pv 3) (pe_op op_mul pe_int (pe_ix ix_list (pv 0) pe_int (fun _ _ => rfl)))) pe_int) pe_int))
      (pss_one (ps_ret (pe_op op_mod (pe_op op_fdiv (pv 3) pe_int) (pv 1))))))), ?_⟩
    have hL : SqL K H b [.int x, .int y, .int z] := SqL.of hb
    refine ⟨_, rfl, b, _, _, _, rfl, rfl, hL, i0 _ _ _, _, _, rfl, rfl, _, rfl, ite2 (fun c => ?_) (fun c => ?_)⟩
    · refine ⟨_, rfl, b, _, _, _, rfl, rfl, hL, i0 _ _ _, _, rfl, _, _, rfl, rfl, m0, ?_⟩
      refine ⟨_, rfl, b, _, _, _, rfl, rfl, hL, i0 _ _ _, _, rfl, _, _, rfl, rfl, ⟨m0, ml⟩, ?_⟩
      refine ⟨_, rfl, b, _, _, _, rfl, rfl, hb, j0, ?_⟩
      refine ⟨_, rfl, ?_⟩
      exact k _ _ (Int.emod_nonneg _ (by omega)) (Int.emod_lt_of_pos _ m0) (fun a na => upd_ne na) ⟨_, _, _, upd_same, Int.ediv_nonneg x0 (by omega), y0, y1, z0, by omega⟩
    · refine ⟨_, rfl, b, _, _, _, rfl, rfl, hL, i2 _ _ _, _, _, rfl, rfl, ?_⟩
      refine ⟨_, rfl, b, _, _, _, rfl, rfl, hb, j2, ?_⟩
      have h1 : upd H b (.lst ([V.int x, .int y, .int z].set 2 (.int (z + 1)))) b = some (.lst [.int x, .int y, .int (z + 1)]) := upd_same
      have hL1 : SqL K (upd H b (.lst ([V.int x, .int y, .int z].set 2 (.int (z + 1))))) b [.int x, .int y, .int (z + 1)] := SqL.of h1
      refine ⟨_, rfl, b, _, _, _, rfl, rfl, hL1, i1 _ _ _, _, rfl, b, _, _, _, rfl, rfl, hL1, i2 _ _ _, _, _, rfl, rfl, .inl ⟨by decide, by decide⟩, _, _, rfl, rfl, _, _, rfl, rfl,
        _, _, rfl, rfl, ⟨by decide, by decide, ?_⟩, _, _, rfl, rfl, (by show (0 : Int) < 2147483647; decide), ?_⟩
      · omega
      refine ⟨_, rfl, _, rfl, b, _, _, _, rfl, rfl, hL1, i2 _ _ _, _, _, rfl, rfl, .inl ⟨by decide, by decide⟩, _, _, rfl, rfl,
        _, _, rfl, rfl, ⟨by decide, by decide, ?_⟩, _, _, rfl, rfl, (by show (0 : Int) < 2147483587; decide), ?_⟩
      · have g0 := Int.emod_nonneg ((y + 7919 * (z + 1) + 53) ^ (5 : Int).toNat) (show (2147483647 : Int) ≠ 0 by decide)
        have g1 := Int.emod_lt_of_pos ((y + 7919 * (z + 1) + 53) ^ (5 : Int).toNat) (show (0 : Int) < 2147483647 by decide)
        generalize (y + 7919 * (z + 1) + 53) ^ (5 : Int).toNat % 2147483647 = q at g0 g1 ⊢
        omega
      refine ⟨_, rfl, _, _, rfl, rfl, ⟨by decide, by decide⟩, _, rfl, _, _, rfl, rfl, m0, ?_⟩
      exact k _ _ (Int.emod_nonneg _ (by omega)) (Int.emod_lt_of_pos _ m0) (fun a na => upd_ne na) ⟨_, _, _, h1, x0, y0, y1, by omega, by omega⟩
end
end K13


set_option maxRecDepth 100000
set_option maxHeartbeats 400000
namespace K13
open PySem PySem.Spec PyProof.Rows L2 GxR Gd TL My
/-! ### the refusals -/
abbrev sSE : Stmt := inClass (top 1) 0
theorem scSE : FnScope ["self", "text"] ["self", "text"] (defScope sSE) := ⟨rfl, rfl, rfl, by decide +kernel, rfl, by decide +kernel, by decide +kernel⟩
abbrev sNN : Stmt := inClass (top 2) 0
theorem scNN : FnScope ["self", "found"] ["self", "found"] (defScope sNN) := ⟨rfl, rfl, rfl, by decide +kernel, rfl, by decide +kernel, by decide +kernel⟩
/-- what the written part says of the refusals -/
structure Exs (K : PySem.W.Frag) (mg : Str → Option Value) (CS CN fS fN : Addr) (fdS fdN : FuncData) : Prop where
  ve : mg "ValueError" = none
  vi : PySem.W.findCls K (.type "ValueError") (.type "type") "__init__" = some (.val (.builtin "ValueError.__init__"))
  gS : mg "StaffError" = some (.ref CS)
  gN : mg "NoNumber" = some (.ref CN)
  cS : ClsDef K CS fS "__init__"
  kS : PySem.W.keepIn K (.ref fS) = true
  FS : Fun K "__init__" "StaffError.__init__" sSE fS fdS
  bS : Binds K fdS ["self", "text"] []
  FN : Fun K "__init__" "NoNumber.__init__" sNN fN fdN
  bN : Binds K fdN ["self", "found"] []
  oN : OexC K CN
  iN : PySem.W.findIn K (.ref CN) "__init__" = some (some (.ref fN))
  tN : PySem.W.typeIn K (.ref fN) = some (.type "function")
  nN : PySem.W.findIn K (.ref CN) "found" = some none
  eN : PySem.W.exmOne K (.ref CN) (.ref CN) = some true
  xN : XfC K CN
  uN : CauC K CN
section
variable {P : Program} {w : World} {K : PySem.W.Frag} {mg : Str → Option Value} {base : Heap} {CS CN fS fN : Addr} {fdS fdN : FuncData}
theorem ok_SE (T : Exs K mg CS CN fS fN fdS fdN) {CX : CXT} : FnOk P w K mg base CX0 1 fS fdS ["self", "text"] (spUp K) := by
  refine T.FS.ok scSE (fun vs H Q E h => ?_) (fun cdv A outer s H vs Q E hr h => ?_)
  · obtain ⟨a, C, z, rfl, _⟩ := h
    rfl
  · obtain ⟨a, C, z, rfl, o, e, k⟩ := h
    refine ⟨_, pss_one (ps_expr (pe_veinit (by rfl) T.ve T.vi (pa_cons (pv 0) (pa_cons (pv 1) pa_nil)))), ?_⟩
    exact ⟨_, rfl, _, rfl, a, C, _, rfl, by simp, o, e, k⟩
theorem ok_NN (T : Exs K mg CS CN fS fN fdS fdN) : FnOk P w K mg base CX0 2 fN fdN ["self", "found"] (spOne K CN "found") := by
  refine T.FN.ok scNN (fun vs H Q E h => ?_) (fun cdv A outer s H vs Q E hr h => ?_)
  · obtain ⟨a, v, rfl, _⟩ := h
    rfl
  · obtain ⟨a, v, rfl, e, k⟩ := h
    refine ⟨_, pss_cons (ps_expr (pe_ccall T.cS (ok_SE (CX := CX0) T) hr (by rfl) T.gS T.kS T.bS .nil pass0 (pa_cons (pv 0) (pa_cons pe_str pa_nil))))
      (pss_one (ps_ost (pv 0) (pv 1))), ?_⟩
    refine ⟨_, rfl, a, CN, _, rfl, T.oN, e, ?_⟩
    exact ⟨_, rfl, _, rfl, a, CN, rfl, T.oN, T.nN, .inl ⟨e, fun dx h1 h2 => k dx h1 h2⟩⟩
end
/-! ### a count -/
theorem lt_ : ¬ (("_last" : Str) = "_told") := by decide +kernel
theorem tl_ : ¬ (("_told" : Str) = "_last") := by decide +kernel
def cf (l t : Int) : List (Str × V) := putF "_told" (.int t) (putF "_last" (.int l) [])
theorem cf_eq (l t : Int) : cf l t = ([("_last", V.int l), ("_told", V.int t)] : List (Str × V)) := by
  show (if ("_last" : Str) = "_told" then [(("_last" : Str), V.int t)] else (("_last" : Str), V.int l) :: putF "_told" (V.int t) []) = _
  rw [if_neg lt_]
  rfl
theorem cf_last (l t : Int) : (cf l t).lookup ("_last" : Str) = some (.int l) := by
  unfold cf
  rw [lookup_putF, if_neg lt_, lookup_putF, if_pos rfl]
theorem cf_told (l t : Int) : (cf l t).lookup ("_told" : Str) = some (.int t) := by
  unfold cf
  rw [lookup_putF, if_pos rfl]
theorem cf_no (l t : Int) {m : Str} (h1 : ¬ m = "_told") (h2 : ¬ m = "_last") : (cf l t).lookup m = none := by
  unfold cf
  rw [lookup_putF, if_neg h1, lookup_putF, if_neg h2]
  rfl
theorem cf_put_told (l t u : Int) : putF "_told" (.int u) (cf l t) = cf l u := by
  rw [cf_eq, cf_eq]
  show (if ("_last" : Str) = "_told" then _ else (("_last" : Str), V.int l) :: (if ("_told" : Str) = "_told" then [(("_told" : Str), V.int u)] else _)) = _
  rw [if_neg lt_, if_pos rfl]
theorem cf_put_last (l t u : Int) : putF "_last" (.int u) (cf l t) = cf u t := by
  rw [cf_eq, cf_eq]
  show (if ("_last" : Str) = "_last" then (("_last" : Str), V.int u) :: [(("_told" : Str), V.int t)] else _) = _
  rw [if_pos rfl]
theorem cf_len (l t : Int) : (cf l t).length < 1000 := by rw [cf_eq]; simp
theorem dec_int (t l : Int) : decide (V.int t = V.int l) = decide (t = l) := by simp
/-- what the written part says of the class -/
structure CntT (K : PySem.W.Frag) (C : Addr) : Prop where
  cl : Cls K C
  nl : NoAttr K C "_last"
  nt : NoAttr K C "_told"
section
variable {P : Program} {w : World} {K : PySem.W.Frag} {mg : Str → Option Value} {base : Heap} {C : Addr}
abbrev s_init : Stmt := inClass (top 7) 0
theorem sc_init : FnScope ["self"] ["self"] (defScope s_init) := ⟨rfl, rfl, rfl, by decide +kernel, rfl, by decide +kernel, by decide +kernel⟩
def spInit (C : Addr) : Sp := fun vs H Q _ => ∃ c dx, vs = [.ref c] ∧ H c = some (.ins C dx []) ∧ Q .non (upd (upd H c (.ins C dx (putF "_last" (.int 0) []))) c (.ins C dx (cf 0 0)))
theorem ok_init {f : Addr} {fd : FuncData} (F : Fun K "__init__" "Count.__init__" s_init f fd) (T : CntT K C) : FnOk P w K mg base CX0 1 f fd ["self"] (spInit C) := by
  refine F.ok sc_init (fun vs H Q E h => ?_) (fun cdv A outer s H vs Q E hr h => ?_)
  · obtain ⟨c, dx, rfl, _⟩ := h
    rfl
  · obtain ⟨c, dx, rfl, e, k⟩ := h
    refine ⟨_, pss_cons (ps_fld (pv 0) pe_int rfl) (pss_one (ps_fld (pv 0) pe_int rfl)), ?_⟩
    exact ⟨_, rfl, c, C, dx, _, rfl, e, T.cl, T.nl, (by decide), _, rfl, c, C, dx, _, rfl, upd_same, T.cl, T.nt, (by show 1 < 1000; decide), k⟩
abbrev s_out : Stmt := inClass (top 7) 1
theorem sc_out : FnScope ["self"] ["self"] (defScope s_out) := ⟨rfl, rfl, rfl, by decide +kernel, rfl, by decide +kernel, by decide +kernel⟩
def spOut (C : Addr) : Sp := fun vs H Q _ => ∃ c dx l t, vs = [.ref c] ∧ H c = some (.ins C dx (cf l t)) ∧ Q (.int (l + 1)) (upd H c (.ins C dx (cf (l + 1) t)))
theorem ok_out {f : Addr} {fd : FuncData} (F : Fun K "out" "Count.out" s_out f fd) (T : CntT K C) : FnOk P w K mg base CX0 1 f fd ["self"] (spOut C) := by
  refine F.ok sc_out (fun vs H Q E h => ?_) (fun cdv A outer s H vs Q E hr h => ?_)
  · obtain ⟨c, dx, l, t, rfl, _⟩ := h
    rfl
  · obtain ⟨c, dx, l, t, rfl, e, k⟩ := h
    refine ⟨_, pss_cons (ps_fldaug (pv 0) pe_int in_add) (pss_one (ps_ret (pe_fld (pv 0) rfl))), ?_⟩
    refine ⟨_, rfl, c, C, _, _, _, rfl, e, T.cl, T.nl, cf_last l t, _, _, rfl, rfl, _, _, e, cf_len _ _, ?_⟩
    rw [cf_put_last]
    exact ⟨_, rfl, c, C, dx, _, _, rfl, upd_same, T.cl, T.nl, cf_last _ _, k⟩
abbrev s_all : Stmt := inClass (top 7) 3
theorem sc_all : FnScope ["self"] ["self"] (defScope s_all) := ⟨rfl, rfl, rfl, by decide +kernel, rfl, by decide +kernel, by decide +kernel⟩
def spAll (C : Addr) : Sp := fun vs H Q _ => ∃ c dx l t, vs = [.ref c] ∧ H c = some (.ins C dx (cf l t)) ∧ Q .non (upd H c (.ins C dx (cf l l)))
theorem ok_all {f : Addr} {fd : FuncData} (F : Fun K "all_through" "Count.all_through" s_all f fd) (T : CntT K C) : FnOk P w K mg base CX0 1 f fd ["self"] (spAll C) := by
  refine F.ok sc_all (fun vs H Q E h => ?_) (fun cdv A outer s H vs Q E hr h => ?_)
  · obtain ⟨c, dx, l, t, rfl, _⟩ := h
    rfl
  · obtain ⟨c, dx, l, t, rfl, e, k⟩ := h
    refine ⟨_, pss_one (ps_fld (pv 0) (pe_fld (pv 0) rfl) rfl), ?_⟩
    refine ⟨_, rfl, c, C, dx, _, _, rfl, e, T.cl, T.nl, cf_last l t, _, rfl, c, C, dx, _, rfl, e, T.cl, T.nt, cf_len _ _, ?_⟩
    rw [cf_put_told]
    exact k
abbrev s_last : Stmt := inClass (top 7) 4
theorem sc_last : FnScope ["self"] ["self"] (defScope s_last) := ⟨rfl, rfl, rfl, by decide +kernel, rfl, by decide +kernel, by decide +kernel⟩
def spLast (C : Addr) : Sp := fun vs H Q _ => ∃ c dx l t, vs = [.ref c] ∧ H c = some (.ins C dx (cf l t)) ∧ Q (.int l) H
theorem ok_last {f : Addr} {fd : FuncData} (F : Fun K "last" "Count.last" s_last f fd) (T : CntT K C) : FnOk P w K mg base CX0 1 f fd ["self"] (spLast C) := by
  refine F.ok sc_last (fun vs H Q E h => ?_) (fun cdv A outer s H vs Q E hr h => ?_)
  · obtain ⟨c, dx, l, t, rfl, _⟩ := h
    rfl
  · obtain ⟨c, dx, l, t, rfl, e, k⟩ := h
    refine ⟨_, pss_one (ps_ret (pe_fld (pv 0) rfl)), ?_⟩
    exact ⟨_, rfl, c, C, dx, _, _, rfl, e, T.cl, T.nl, cf_last l t, k⟩
abbrev s_told : Stmt := inClass (top 7) 5
theorem sc_told : FnScope ["self"] ["self"] (defScope s_told) := ⟨rfl, rfl, rfl, by decide +kernel, rfl, by decide +kernel, by decide +kernel⟩
def spTold (C : Addr) : Sp := fun vs H Q _ => ∃ c dx l t, vs = [.ref c] ∧ H c = some (.ins C dx (cf l t)) ∧ Q (.int t) H
theorem ok_told {f : Addr} {fd : FuncData} (F : Fun K "told" "Count.told" s_told f fd) (T : CntT K C) : FnOk P w K mg base CX0 1 f fd ["self"] (spTold C) := by
  refine F.ok sc_told (fun vs H Q E h => ?_) (fun cdv A outer s H vs Q E hr h => ?_)
  · obtain ⟨c, dx, l, t, rfl, _⟩ := h
    rfl
  · obtain ⟨c, dx, l, t, rfl, e, k⟩ := h
    refine ⟨_, pss_one (ps_ret (pe_fld (pv 0) rfl)), ?_⟩
    exact ⟨_, rfl, c, C, dx, _, _, rfl, e, T.cl, T.nt, cf_told l t, k⟩
abbrev s_clear : Stmt := inClass (top 7) 6
theorem sc_clear : FnScope ["self"] ["self"] (defScope s_clear) := ⟨rfl, rfl, rfl, by decide +kernel, rfl, by decide +kernel, by decide +kernel⟩
def spClear (C : Addr) : Sp := fun vs H Q _ => ∃ c dx l t, vs = [.ref c] ∧ H c = some (.ins C dx (cf l t)) ∧ Q (.bl (decide (t = l))) H
theorem ok_clear {f : Addr} {fd : FuncData} (F : Fun K "clear" "Count.clear" s_clear f fd) (T : CntT K C) : FnOk P w K mg base CX0 1 f fd ["self"] (spClear C) := by
  refine F.ok sc_clear (fun vs H Q E h => ?_) (fun cdv A outer s H vs Q E hr h => ?_)
  · obtain ⟨c, dx, l, t, rfl, _⟩ := h
    rfl
  · obtain ⟨c, dx, l, t, rfl, e, k⟩ := h
    refine ⟨_, pss_one (ps_ret (pe_cmpR op_eq (pe_fld (pv 0) rfl) (pe_fld (pv 0) rfl) (nomark _))), ?_⟩
    refine ⟨_, rfl, c, C, dx, _, _, rfl, e, T.cl, T.nt, cf_told l t, _, rfl, c, C, dx, _, _, rfl, e, T.cl, T.nl, cf_last l t, rfl, ?_⟩
    show Q (.bl (decide (V.int t = V.int l))) H
    rw [dec_int]
    exact k
end
end K13

set_option maxRecDepth 100000
set_option maxHeartbeats 400000
namespace K13
open PySem PySem.Spec PyProof.Rows L2 GxR Gd TL My
section
variable {P : Program} {w : World} {K : PySem.W.Frag} {mg : Str → Option Value} {base : Heap} {C CS CN fS fN : Addr} {fdS fdN : FuncData}
abbrev s_through : Stmt := inClass (top 7) 2
theorem sc_through : FnScope ["self", "number"] ["self", "number"] (defScope s_through) := ⟨rfl, rfl, rfl, by decide +kernel, rfl, by decide +kernel, by decide +kernel⟩
def spThrough (C CN : Addr) : Sp := fun vs H Q E => ∃ c dx l t v, vs = [.ref c, v] ∧ H c = some (.ins C dx (cf l t)) ∧ Th H v ∧
  (∀ i, v = .int i → 1 ≤ i → i ≤ l → Q .non (upd H c (.ins C dx (cf l (max t i))))) ∧
  (wh 1 l v = false → ∀ d, H d = none → E (.ref CN) (some d) (upd H d (.xd [("found", v)])))
theorem ok_through {f fW : Addr} {fd fdW : FuncData} (F : Fun K "through" "Count.through" s_through f fd) (T : Txt mg) (TC : CntT K C) (X : Exs K mg CS CN fS fN fdS fdN)
    (GW : FnOk P w K mg base CX0 1 fW fdW ["thing", "low", "high"] spWhole) (NW : Fn K mg "is_whole" sWhole ["thing", "low", "high"] fW fdW) :
    FnOk P w K mg base (CX P w) 4 f fd ["self", "number"] (spThrough C CN) := by
  refine F.okX sc_through (fun vs H Q E h => ?_) (fun cdv A outer s H vs Q E hr h => ?_)
  · obtain ⟨c, dx, l, t, v, rfl, _⟩ := h
    rfl
  · obtain ⟨c, dx, l, t, v, rfl, e, th, k1, k2⟩ := h
    refine ⟨_, pss_cons (ps_if (pt_not (pt_val (pe_call GW (hr.mono (by decide)) (by rfl) NW.g NW.kp NW.b .nil pass0 (pa_cons (pv 1) (pa_cons pe_int (pa_cons (pe_fld (pv 0) rfl) pa_nil))))))
        (pss_one (ps_raise rfl (takes_of rfl rfl rfl rfl) (pmk_oex X.oN X.iN X.tN (ok_NN X) (hr.mono (by decide)) X.bN .nil pass0 (by rfl) X.gN (pa_cons (pv 1) pa_nil)))) pss_nil)
      (pss_one (ps_fld (pv 0) (pe_callB (call_max2 rfl) (by rfl) T.max_ (by decide +kernel) (pa_cons (pe_fld (pv 0) rfl) (pa_cons (pv 1) pa_nil))) rfl)), ?_⟩
    refine ⟨_, rfl, _, rfl, c, C, dx, _, _, rfl, e, TC.cl, TC.nl, cf_last l t, v, 1, l, rfl, th, ?_⟩
    cases hw : wh 1 l v with
    | false => exact ⟨_, rfl, iteT ⟨_, rfl, made_one (k2 hw)⟩⟩
    | true =>
      obtain ⟨i, rfl⟩ : ∃ i, v = .int i := by
        cases v with
        | int i => exact ⟨i, rfl⟩
        | _ => cases hw
      have hb : 1 ≤ i ∧ i ≤ l := by simpa [wh] using hw
      refine ⟨_, rfl, iteF ?_⟩
      refine ⟨_, rfl, c, C, dx, _, _, rfl, e, TC.cl, TC.nt, cf_told l t, _, rfl, _, _, rfl, ?_⟩
      refine ⟨_, rfl, c, C, dx, _, rfl, e, TC.cl, TC.nt, cf_len _ _, ?_⟩
      rw [cf_put_told, show (if i > t then i else t) = max t i by omega]
      exact k1 i rfl hb.1 hb.2
abbrev s_twin : Stmt := inClass (top 7) 7
theorem sc_twin : FnScope ["self", "other"] ["self"] (defScope s_twin) := ⟨rfl, rfl, rfl, by decide +kernel, rfl, by decide +kernel, by decide +kernel⟩
def spTwin (C : Addr) : Sp := fun vs H Q _ => ∃ c dx l t, vs = [.ref c] ∧ H c = some (.ins C dx (cf l t)) ∧
  ∀ x dy H', H x = none → Same H H' → H' x = some (.ins C dy (cf l t)) → Q (.ref x) H'
theorem ok_twin {f fI : Addr} {fd fdI : FuncData} (F : Fun K "twin" "Count.twin" s_twin f fd) (TC : CntT K C) (gC : mg "Count" = some (.ref C)) (M : Mk K C fI)
    (GI : FnOk P w K mg base CX0 1 fI fdI ["self"] (spInit C)) (bI : Binds K fdI ["self"] []) : FnOk P w K mg base CX0 3 f fd ["self"] (spTwin C) := by
  refine F.ok sc_twin (fun vs H Q E h => ?_) (fun cdv A outer s H vs Q E hr h => ?_)
  · obtain ⟨c, dx, l, t, rfl, _⟩ := h
    rfl
  · obtain ⟨c, dx, l, t, rfl, e, k⟩ := h
    refine ⟨_, pss_cons (ps_set (i := 1) sc_twin.nd rfl (Or.inl rfl) (pe_make0 M GI hr rfl gC bI .nil pass0))
      (pss_cons (ps_fld (pv 1) (pe_fld (pv 0) rfl) rfl)
      (pss_cons (ps_fld (pv 1) (pe_fld (pv 0) rfl) rfl)
      (pss_one (ps_ret (pv 1))))), ?_⟩
    intro x dy nx ny ne
    refine ⟨x, dy, rfl, upd_same, rfl, ?_⟩
    have ncx : c ≠ x := ne_of_none e nx
    have ncy : c ≠ dy := ne_of_none e ny
    refine ⟨_, rfl, c, C, dx, _, _, rfl, (by rw [upd_ne ncx, upd_ne ncx, upd_ne ncx, upd_ne ncy]; exact e), TC.cl, TC.nl, cf_last l t, _, rfl, x, C, dy, _, rfl, upd_same, TC.cl, TC.nl, cf_len _ _, ?_⟩
    rw [cf_put_last]
    refine ⟨_, rfl, c, C, dx, _, _, rfl, (by rw [upd_ne ncx, upd_ne ncx, upd_ne ncx, upd_ne ncx, upd_ne ncy]; exact e), TC.cl, TC.nt, cf_told l t, _, rfl, x, C, dy, _, rfl, upd_same, TC.cl, TC.nt, cf_len _ _, ?_⟩
    rw [cf_put_told]
    refine ⟨_, rfl, k x dy _ nx (fun b o h => ?_) upd_same⟩
    have n1 := ne_of_none h nx
    rw [upd_ne n1, upd_ne n1, upd_ne n1, upd_ne n1, upd_ne n1, upd_ne (ne_of_none h ny)]
    exact h
end
end K13

set_option maxRecDepth 100000
set_option maxHeartbeats 400000
namespace K13
open PySem PySem.Spec PyProof.Rows L2 GxR Gd TL My
section
variable {P : Program} {w : World} {K : PySem.W.Frag} {mg : Str → Option Value} {base : Heap} {C CS CN fS fN : Addr} {fdS fdN : FuncData}
/-- a method of the class -/
structure Me (K : PySem.W.Frag) (C : Addr) (m qual : Str) (st : Stmt) (ps : List Str) (f : Addr) (fd : FuncData) : Prop where
  fn : Fun K m qual st f fd
  m : Meth K C m f
  b : Binds K fd ps []
/-- a count at c and the law's list of it at m -/
structure Co (C : Addr) (H : Hp) (c m : Addr) (l t : Int) : Prop where
  at_ : ∃ dx, H c = some (.ins C dx (cf l t))
  md : H m = some (.lst [.int l, .int t])
  b1 : 0 ≤ t
  b2 : t ≤ l
  b3 : l ≤ 900
theorem Co.same {H H' : Hp} {c m : Addr} {l t : Int} (h : Co C H c m l t) (s : Same H H') : Co C H' c m l t := ⟨let ⟨dx, e⟩ := h.at_; ⟨dx, s _ _ e⟩, s _ _ h.md, h.b1, h.b2, h.b3⟩
abbrev s_law_right : Stmt := top 12
theorem sc_law_right : FnScope ["_law_count", "_law_model", "_law_due"] ["_law_count", "_law_model"] (defScope s_law_right) := ⟨rfl, rfl, rfl, by decide +kernel, rfl, by decide +kernel, by decide +kernel⟩
def spRight (C : Addr) : Sp := fun vs H Q _ => ∃ (c m : Addr) (l t : Int), vs = [.ref c, .ref m] ∧ Co C H c m l t ∧ ∀ H', Same H H' → Q (.bl true) H'
theorem ok_right {f f1 f2 f3 : Addr} {fd fd1 fd2 fd3 : FuncData} (F : Fun K "_law_right" "_law_right" s_law_right f fd) (T : Txt mg) (TC : CntT K C)
    (Mclear : Me K C "clear" "Count.clear" s_clear ["self"] f1 fd1) (Mlast : Me K C "last" "Count.last" s_last ["self"] f2 fd2) (Mtold : Me K C "told" "Count.told" s_told ["self"] f3 fd3) :
    GOk P w K mg base CX0 2 f fd ["_law_count", "_law_model"] (spRight C) := by
  have Gclear : FnOk P w K mg base CX0 1 f1 fd1 ["self"] (spClear C) := ok_clear Mclear.fn TC
  have Glast : FnOk P w K mg base CX0 1 f2 fd2 ["self"] (spLast C) := ok_last Mlast.fn TC
  have Gtold : FnOk P w K mg base CX0 1 f3 fd3 ["self"] (spTold C) := ok_told Mtold.fn TC
  refine gok F sc_law_right (fun vs H Q E h => ?_) (fun cdv A outer s H vs Q E gd hr h => ?_)
  · obtain ⟨c, m, l, t, rfl, _⟩ := h
    rfl
  · obtain ⟨c, m, l, t, rfl, co, k⟩ := h
    obtain ⟨⟨dx, hc⟩, hm, b1, b2, b3⟩ := co
    refine ⟨_, pss_cons (ps_set (i := 2) sc_law_right.nd rfl (Or.inl rfl) (pe_op op_cat (pe_lst (pa_cons (pe_cmpR op_eq (pe_ix ix_list (pv 1) pe_int (fun _ _ => rfl)) (pe_ix ix_list (pv 1) pe_int (fun _ _ => rfl)) (nomark _)) pa_nil)) (pv 1)))
      (pss_cons (ps_if (pt_cmpR op_eq (pe_op op_mod (pe_ix ix_list (pv 1) pe_int (fun _ _ => rfl)) pe_int) pe_int (nomark _)) (pss_one (ps_ret (pe_cmpR op_eq (pe_callB (call_repr gd hr) (by rfl) T.repr_ (by decide +kernel) (pa_cons (pe_lst (pa_cons (pe_meth0 (pv 0) TC.cl Mclear.m Gclear (hr.mono (by decide)) Mclear.b .nil pass0) (pa_cons (pe_meth0 (pv 0) TC.cl Mlast.m Glast (hr.mono (by decide)) Mlast.b .nil pass0) (pa_cons (pe_meth0 (pv 0) TC.cl Mtold.m Gtold (hr.mono (by decide)) Mtold.b .nil pass0) pa_nil)))) pa_nil)) (pe_callB (call_repr gd hr) (by rfl) T.repr_ (by decide +kernel) (pa_cons (pv 2) pa_nil)) (nomark _)))) pss_nil)
      (pss_one (ps_ret (pe_cmpR op_eq (pe_callB (call_repr gd hr) (by rfl) T.repr_ (by decide +kernel) (pa_cons (pe_lst (pa_cons (pe_meth0 (pv 0) TC.cl Mlast.m Glast (hr.mono (by decide)) Mlast.b .nil pass0) (pa_cons (pe_meth0 (pv 0) TC.cl Mtold.m Gtold (hr.mono (by decide)) Mtold.b .nil pass0) (pa_cons (pe_meth0 (pv 0) TC.cl Mclear.m Gclear (hr.mono (by decide)) Mclear.b .nil pass0) pa_nil)))) pa_nil)) (pe_callB (call_repr gd hr) (by rfl) T.repr_ (by decide +kernel) (pa_cons (pe_op op_cat (pe_slice sl_list (pv 2) (po_some pe_int) po_none) (pe_slice sl_list (pv 2) po_none (po_some pe_int))) pa_nil)) (nomark _))))), ?_⟩
    have x0 : atI [V.int l, .int t] 0 = some (.int l) := rfl
    have x1 : atI [V.int l, .int t] 1 = some (.int t) := rfl
    refine ⟨_, rfl, m, _, _, _, rfl, rfl, SqL.of hm, x0, _, rfl, m, _, _, _, rfl, rfl, SqL.of hm, x1, rfl, ?_⟩
    have nq : ∀ {q : Addr}, H q = none → c ≠ q ∧ m ≠ q := fun z => ⟨ne_of_none hc z, ne_of_none hm z⟩
    refine ⟨(by show 1 ≤ sizeLine; decide), fun q q0 => ⟨_, rfl, q, m, _, _, rfl, rfl, upd_same, (by rw [upd_ne (nq q0).2]; exact hm), (by show 1 + 2 ≤ sizeLine; decide), fun p p0 => ?_⟩⟩
    have s1 : Same H (upd H q (.lst [.bl (decide (V.int l = V.int t))])) := same_new q0
    have s2 := s1.trans (same_new (o := .lst ([.bl (decide (V.int l = V.int t))] ++ [.int l, .int t])) p0)
    have hp : upd (upd H q (.lst [.bl (decide (V.int l = V.int t))])) p (.lst ([.bl (decide (V.int l = V.int t))] ++ [.int l, .int t])) p = some (.lst [.bl (decide (t = l)), .int l, .int t]) := by
      rw [upd_same, dec_int, show decide (l = t) = decide (t = l) from by simp [eq_comm]]
      rfl
    generalize upd (upd H q (.lst [.bl (decide (V.int l = V.int t))])) p (.lst ([.bl (decide (V.int l = V.int t))] ++ [.int l, .int t])) = H1 at s2 hp ⊢
    obtain ⟨m1, m2, m3⟩ := (sm_list (k := 0) (m := 20) (ds := [.bool (decide (t = l)), .int l, .int t]) (by
      intro d hd
      simp only [List.mem_cons, List.not_mem_nil, or_false] at hd
      rcases hd with rfl | rfl | rfl
      · exact (sm_bool _).mono (Nat.le_refl _) (by decide)
      · exact sm_int (by omega)
      · exact sm_int (by omega))).rep (by decide) (by simp)
    have n1 := cf_no l t (m := "clear") (by decide +kernel) (by decide +kernel)
    have n2 := cf_no l t (m := "last") (by decide +kernel) (by decide +kernel)
    have n3 := cf_no l t (m := "told") (by decide +kernel) (by decide +kernel)
    have hc1 := s2 _ _ hc
    refine ⟨_, rfl, m, _, _, _, rfl, rfl, SqL.of (s2 _ _ hm), x0, _, _, rfl, rfl, by simp, rfl, _, rfl, ite2 (fun e => ?_) (fun e => ?_)⟩
    · refine ⟨_, rfl, c, dx, _, rfl, hc1, n1, c, dx, l, t, rfl, hc1, _, rfl, c, dx, _, rfl, hc1, n2, c, dx, l, t, rfl, hc1, _, rfl, c, dx, _, rfl, hc1, n3, c, dx, l, t, rfl, hc1, (by show 3 ≤ sizeLine; decide), fun u u0 => ?_⟩
      refine ⟨_, .list [.bool (decide (t = l)), .int l, .int t], rfl, .lst (SqL.of upd_same) (.cons (.bl _) (.cons (.int _) (.cons (.int _) .nil))), m1, m2, m3, ?_⟩
      have hp2 : upd H1 u (.lst [.bl (decide (t = l)), .int l, .int t]) p = some (.lst [.bl (decide (t = l)), .int l, .int t]) := by rw [upd_ne (ne_of_none hp u0)]; exact hp
      refine ⟨_, rfl, _, .list [.bool (decide (t = l)), .int l, .int t], rfl, .lst (SqL.of hp2) (.cons (.bl _) (.cons (.int _) (.cons (.int _) .nil))), m1, m2, m3, ?_⟩
      refine ⟨rfl, ?_⟩
      show Q (.bl (decide (_ = _))) _
      rw [decide_eq_true rfl]
      exact k _ (s2.trans (same_new u0))
    · refine ⟨_, rfl, c, dx, _, rfl, hc1, n2, c, dx, l, t, rfl, hc1, _, rfl, c, dx, _, rfl, hc1, n3, c, dx, l, t, rfl, hc1, _, rfl, c, dx, _, rfl, hc1, n1, c, dx, l, t, rfl, hc1, (by show 3 ≤ sizeLine; decide), fun u u0 => ?_⟩
      obtain ⟨r1, r2, r3⟩ := (sm_list (k := 0) (m := 20) (ds := [.int l, .int t, .bool (decide (t = l))]) (by
        intro d hd
        simp only [List.mem_cons, List.not_mem_nil, or_false] at hd
        rcases hd with rfl | rfl | rfl
        · exact sm_int (by omega)
        · exact sm_int (by omega)
        · exact (sm_bool _).mono (Nat.le_refl _) (by decide))).rep (by decide) (by simp)
      refine ⟨_, .list [.int l, .int t, .bool (decide (t = l))], rfl, .lst (SqL.of upd_same) (.cons (.int _) (.cons (.int _) (.cons (.bl _) .nil))), r1, r2, r3, ?_⟩
      have hp2 : upd H1 u (.lst [.int l, .int t, .bl (decide (t = l))]) p = some (.lst [.bl (decide (t = l)), .int l, .int t]) := by rw [upd_ne (ne_of_none hp u0)]; exact hp
      refine ⟨_, rfl, 1, rfl, p, _, rfl, SqL.of hp2, fun v v0 => ?_⟩
      have s3 : Same (upd H1 u (.lst [.int l, .int t, .bl (decide (t = l))])) (upd (upd H1 u (.lst [.int l, .int t, .bl (decide (t = l))])) v (.lst [.int l, .int t])) := same_new v0
      refine ⟨_, rfl, 1, rfl, p, _, rfl, SqL.of (s3 _ _ hp2), fun v2 v20 => ?_⟩
      have s4 := s3.trans (same_new (o := .lst [.bl (decide (t = l))]) v20)
      have hv : upd (upd (upd H1 u (.lst [.int l, .int t, .bl (decide (t = l))])) v (.lst [.int l, .int t])) v2 (.lst [.bl (decide (t = l))]) v = some (.lst [.int l, .int t]) := by
        rw [upd_ne (ne_of_none upd_same v20)]
        exact upd_same
      refine ⟨v, v2, _, _, rfl, rfl, hv, upd_same, (by show 2 + 1 ≤ sizeLine; decide), fun z z0 => ?_⟩
      refine ⟨_, .list [.int l, .int t, .bool (decide (t = l))], rfl, .lst (SqL.of upd_same) (.cons (.int _) (.cons (.int _) (.cons (.bl _) .nil))), r1, r2, r3, rfl, ?_⟩
      show Q (.bl (decide (_ = _))) _
      rw [decide_eq_true rfl]
      exact k _ ((s2.trans (same_new u0)).trans (s4.trans (same_new z0)))
abbrev s_law_both_right : Stmt := top 13
theorem sc_law_both_right : FnScope ["_law_counts", "_law_models"] ["_law_counts", "_law_models"] (defScope s_law_both_right) := ⟨rfl, rfl, rfl, by decide +kernel, rfl, by decide +kernel, by decide +kernel⟩
def spBoth (C : Addr) : Sp := fun vs H Q _ => ∃ (lc lm c0 c1 m0 m1 : Addr) (l0 t0 l1 t1 : Int), vs = [.ref lc, .ref lm] ∧ H lc = some (.lst [.ref c0, .ref c1]) ∧ H lm = some (.lst [.ref m0, .ref m1]) ∧
  Co C H c0 m0 l0 t0 ∧ Co C H c1 m1 l1 t1 ∧ ∀ H', Same H H' → Q (.bl true) H'
theorem ok_both {f fR : Addr} {fd fdR : FuncData} (F : Fun K "_law_both_right" "_law_both_right" s_law_both_right f fd) (Glaw_right : GOk P w K mg base CX0 2 fR fdR ["_law_count", "_law_model"] (spRight C))
    (Nlaw_right : Fn K mg "_law_right" s_law_right ["_law_count", "_law_model"] fR fdR) : GOk P w K mg base CX0 3 f fd ["_law_counts", "_law_models"] (spBoth C) := by
  refine gok F sc_law_both_right (fun vs H Q E h => ?_) (fun cdv A outer s H vs Q E gd hr h => ?_)
  · obtain ⟨lc, lm, c0, c1, m0, m1, l0, t0, l1, t1, rfl, _⟩ := h
    rfl
  · obtain ⟨lc, lm, c0, c1, m0, m1, l0, t0, l1, t1, rfl, hc, hm, a0, a1, k⟩ := h
    refine ⟨_, pss_one (ps_ret (pe_and (pe_gcall gd Glaw_right (hr.mono (by decide)) (by rfl) Nlaw_right.g Nlaw_right.kp Nlaw_right.b .nil pass0 (pa_cons (pe_ix ix_list (pv 0) pe_int (fun _ _ => rfl)) (pa_cons (pe_ix ix_list (pv 1) pe_int (fun _ _ => rfl)) pa_nil))) (pe_one (pe_gcall gd Glaw_right (hr.mono (by decide)) (by rfl) Nlaw_right.g Nlaw_right.kp Nlaw_right.b .nil pass0 (pa_cons (pe_ix ix_list (pv 0) pe_int (fun _ _ => rfl)) (pa_cons (pe_ix ix_list (pv 1) pe_int (fun _ _ => rfl)) pa_nil)))))), ?_⟩
    have y0 : atI [V.ref c0, .ref c1] 0 = some (.ref c0) := rfl
    have y1 : atI [V.ref c0, .ref c1] 1 = some (.ref c1) := rfl
    have z0 : atI [V.ref m0, .ref m1] 0 = some (.ref m0) := rfl
    have z1 : atI [V.ref m0, .ref m1] 1 = some (.ref m1) := rfl
    refine ⟨_, rfl, lc, _, _, _, rfl, rfl, SqL.of hc, y0, _, rfl, lm, _, _, _, rfl, rfl, SqL.of hm, z0, c0, m0, l0, t0, rfl, a0, fun H1 s1 => ?_⟩
    refine ⟨_, rfl, iteT ?_⟩
    refine ⟨_, rfl, lc, _, _, _, rfl, rfl, SqL.of (s1 _ _ hc), y1, _, rfl, lm, _, _, _, rfl, rfl, SqL.of (s1 _ _ hm), z1, c1, m1, l1, t1, rfl, a1.same s1, fun H2 s2 => ?_⟩
    exact k H2 (s1.trans s2)
end
end K13

set_option maxRecDepth 100000
set_option maxHeartbeats 400000
namespace K13
open PySem PySem.Spec PyProof.Rows L2 GxR Gd TL My
/-- what is shown of a refusal -/
def Fits (d : PyData) : Prop := (PyData.tuple [d, .bool false]).showable = true ∧ (PyData.tuple [d, .bool false]).depth ≤ 100 ∧ (PyData.tuple [d, .bool false]).shown.length ≤ sizeLine
theorem fits_none : Fits .none := ⟨by decide +kernel, by decide +kernel, by decide +kernel⟩
theorem fits_bool (b : Bool) : Fits (.bool b) := by cases b <;> exact ⟨by decide +kernel, by decide +kernel, by decide +kernel⟩
theorem fits_int {i : Int} (h : i.natAbs ≤ 1000) : Fits (.int i) := (sm_tuple (k := 0) (m := 20) (ds := [.int i, .bool false]) (by
  intro d hd
  simp only [List.mem_cons, List.not_mem_nil, or_false] at hd
  rcases hd with rfl | rfl
  · exact sm_int h
  · exact (sm_bool _).mono (Nat.le_refl _) (by decide))).rep (by decide) (by simp)
theorem fits_big : Fits (.int (10 ^ 29)) := ⟨by decide +kernel, by decide +kernel, by decide +kernel⟩
theorem fits_str : Fits (.str "1") := ⟨by decide +kernel, by decide +kernel, by decide +kernel⟩
theorem fits_l1 : Fits (.list [.int 1, .int 1]) := ⟨by decide +kernel, by decide +kernel, by decide +kernel⟩
theorem fits_t1 : Fits (.tuple [.int 1]) := ⟨by decide +kernel, by decide +kernel, by decide +kernel⟩
theorem fits_tl : Fits (.tuple [.list [.int 1]]) := ⟨by decide +kernel, by decide +kernel, by decide +kernel⟩
theorem fits_d0 : Fits (.dict [(.str "more", .int 1)]) := ⟨by decide +kernel, by decide +kernel, by decide +kernel⟩
theorem fits_d1 : Fits (.dict [(.str "a", .list [.int 1]), (.str "more", .int 1)]) := ⟨by decide +kernel, by decide +kernel, by decide +kernel⟩
/-- a thing that is refused: how it is then shown -/
inductive Tg (K : PySem.W.Frag) (H : Hp) : V → Prop
  | pl (v : V) (d : PyData) (t : String) (hd : Dq K H v d) (f : Fits d) (ht : ∀ H', Same H H' → TyX K H' v (.type t)) (n1 : t = "int" ∨ t = "NoneType" ∨ t = "bool" ∨ t = "str" ∨ t = "tuple") : Tg K H v
  | l1 (a : Addr) (h : H a = some (.lst [.int 1])) : Tg K H (.ref a)
  | d0 (a : Addr) (h : H a = some (.dK [])) : Tg K H (.ref a)
  | d1 (a b : Addr) (h : H a = some (.dK [(Sum.inr "a", .ref b)])) (hb : H b = some (.lst [.int 1])) : Tg K H (.ref a)
section
variable {P : Program} {w : World} {K : PySem.W.Frag} {mg : Str → Option Value} {base : Heap} {C CS CN CW fS fN : Addr} {fdS fdN : FuncData}
abbrev s_law_refused : Stmt := top 14
theorem sc_law_refused : FnScope ["_law_box_here", "_law_count", "_law_model", "_law_some", "_law_thing", "_law_found", "e"] ["_law_box_here", "_law_count", "_law_model"] (defScope s_law_refused) := ⟨rfl, rfl, rfl, by decide +kernel, rfl, by decide +kernel, by decide +kernel⟩
def spRefused (C : Addr) : Sp := fun vs H Q _ => ∃ (b c m : Addr) (n l t : Int), vs = [.ref b, .ref c, .ref m] ∧ Bx b n H ∧ n ≤ 90000 ∧ SmAt H ∧ Co C H c m l t ∧
  ∀ H', KB b H H' → Bx b (n + 1) H' → Q (.bl true) H'
theorem ok_refused {f f1 fW fT : Addr} {fd fd1 fdW fdT : FuncData} (ns : K.lookup sysModules = none) (F : Fun K "_law_refused" "_law_refused" s_law_refused f fd) (T : Txt mg) (Tdict : mg "dict" = none) (TC : CntT K C) (X : Exs K mg CS CN fS fN fdS fdN)
    (gW : mg "NoWord" = some (.ref CW)) (iW : PySem.W.kitOne K (.ref CN) (.ref CW) = some false)
    (GW : FnOk P w K mg base CX0 1 fW fdW ["thing", "low", "high"] spWhole) (NW : Fn K mg "is_whole" sWhole ["thing", "low", "high"] fW fdW)
    (Mthrough : Me K C "through" "Count.through" s_through ["self", "number"] f1 fd1)
    (Glaw_take : FnOk P w K mg base CX0 1 fT fdT ["_law_box_here", "_law_many"] spTake) (Nlaw_take : Fn K mg "_law_take" sTake ["_law_box_here", "_law_many"] fT fdT) :
    GOk P w K mg base CX0 6 f fd ["_law_box_here", "_law_count", "_law_model"] (spRefused C) := by
  have Gthrough : FnOk P w K mg base (CX P w) 4 f1 fd1 ["self", "number"] (spThrough C CN) := ok_through Mthrough.fn T TC X GW NW
  refine gok F sc_law_refused (fun vs H Q E h => ?_) (fun cdv A outer s H vs Q E gd hr h => ?_)
  · obtain ⟨b, c, m, n, l, t, rfl, _⟩ := h
    rfl
  · obtain ⟨b, c, m, n, l, t, rfl, hb, hn, sm, ⟨⟨dx, hc⟩, hm, b1, b2, b3⟩, k⟩ := h
    have smb : ∀ H', KB b H H' → SmAt H' := fun H' kb => by
      obtain ⟨o, e⟩ := sm
      obtain ⟨x, y, z, q, r⟩ := hb
      exact ⟨o, kb _ _ (ne_of e q (by intro z; cases z)) e⟩
    refine ⟨_, pss_cons (ps_set (i := 3) sc_law_refused.nd rfl (Or.inl rfl) (pe_lst (pa_cons pe_int (pa_cons (pe_op op_add (pe_ix ix_list (pv 2) pe_int (fun _ _ => rfl)) pe_int) (pa_cons (pe_un un_neg pe_int) (pa_cons pe_non (pa_cons pe_bl (pa_cons pe_str (pa_cons (pe_lst (pa_cons pe_int pa_nil)) (pa_cons (pe_tup (pa_cons pe_int pa_nil)) (pa_cons (pe_op op_pow pe_int pe_int) (pa_cons pe_dnewK (pa_cons pe_bl (pa_cons (pe_tup (pa_cons (pe_lst (pa_cons pe_int pa_nil)) pa_nil))
        (pa_cons (pe_disp (pps_cons pe_str (pe_lst (pa_cons pe_int pa_nil)) pps_nil) (by rfl) (by rfl) (fun z => by cases z) (by decide)) pa_nil)))))))))))))))
      (pss_cons (ps_set (i := 4) sc_law_refused.nd rfl (Or.inl rfl) (pe_ix ix_list (pv 3) (pe_call Glaw_take (hr.mono (by decide)) (by rfl) Nlaw_take.g Nlaw_take.kp Nlaw_take.b .nil pass0 (pa_cons (pv 0) (pa_cons pe_int pa_nil))) (fun _ _ => rfl)))
      (pss_cons (ps_set (i := 5) sc_law_refused.nd rfl (Or.inl rfl) pe_non)
      (pss_cons (ps_try_cl rfl rfl sc_law_refused.nd takes_never
          (.named (i := 6) (ts := fun a cls d => _) ⟨by rfl, by decide, .inl X.gN⟩ rfl (by rfl) (fun a oe cls d pn hz hf =>
              pss_one (ps_set (i := 5) sc_law_refused.nd rfl (Or.inl rfl) (pe_tup (pa_cons (pe_xf X.xN X.nN hz hf (pv 6)) (pa_cons (pe_callB (call_isD X.uN hz hf) (by rfl) T.isinstance_ (by decide +kernel) (pa_cons (pv 6) (pa_cons (pe_glob (v := .ref CW) (by rfl) gW rfl) pa_nil))) pa_nil)))))
            (.plain (ts := fun a cls d => _) ⟨by rfl, by decide, .inl X.gS⟩ (fun a oe cls d pn hz hf => pss_one (ps_set (i := 5) sc_law_refused.nd rfl (Or.inl rfl) pe_non)) .nil))
          (fun W pn xe tk _ => pss_one (ps_expr (pe_methX (pv 1) TC.cl Mthrough.m Gthrough (hr.mono (by decide)) Mthrough.b (fun σ => passAt tk σ) (pa_cons (pv 4) pa_nil)))))
      (pss_cons (ps_if (pt_val (pe_callB call_isi (by rfl) T.isinstance_ (by decide +kernel) (pa_cons (pv 4) (pa_cons (pe_bltn (v := .ty "list") (by rfl) T.list_ (by decide +kernel) rfl) pa_nil)))) (pss_one (ps_expr (pe_bm PySem.F.plainAttrs_list PySem.F.slot_list_append PySem.F.type_list_append mt_append (pv 4) (pa_cons pe_int pa_nil)))) pss_nil)
      (pss_cons (ps_if (pt_val (pe_callB call_isi (by rfl) T.isinstance_ (by decide +kernel) (pa_cons (pv 4) (pa_cons (pe_bltn (v := .ty "dict") (by rfl) Tdict (by decide +kernel) rfl) pa_nil)))) (pss_one (ps_dput (hu_of hr) (pv 4) pe_str pe_int rfl)) pss_nil)
      (pss_one (ps_ret (pe_cmpR op_eq (pe_callB (call_reprQ ns gd hr) (by rfl) T.repr_ (by decide +kernel) (pa_cons (pv 5) pa_nil)) (pe_callB (call_reprQ ns gd hr) (by rfl) T.repr_ (by decide +kernel) (pa_cons (pe_tup (pa_cons (pv 4) (pa_cons pe_bl pa_nil))) pa_nil)) (nomark _))))))))), ?_⟩
    have x0 : atI [V.int l, .int t] 0 = some (.int l) := rfl
    have one : ([V.int 1] : List V).length ≤ sizeLine := by decide
    refine ⟨_, rfl, m, _, _, _, rfl, rfl, SqL.of hm, x0, _, _, rfl, rfl, _, rfl, one, fun a6 n6 => ?_⟩
    have s6 : Same H (upd H a6 (.lst [.int 1])) := same_new n6
    have e6 : upd H a6 (.lst [.int 1]) a6 = some (.lst [.int 1]) := upd_same
    have h6 := hb.alloc (o := .lst [.int 1]) n6
    generalize upd H a6 (.lst [.int 1]) = H6 at s6 e6 h6 ⊢
    refine ⟨one, fun a7 n7 => ?_⟩
    have s7 : Same H6 (upd H6 a7 (.tup [.int 1])) := same_new n7
    have e7 : upd H6 a7 (.tup [.int 1]) a7 = some (.tup [.int 1]) := upd_same
    have h7 := h6.alloc (o := .tup [.int 1]) n7
    generalize upd H6 a7 (.tup [.int 1]) = H7 at s7 e7 h7 ⊢
    refine ⟨_, _, rfl, rfl, ⟨by decide, by decide, by decide⟩, fun a9 n9 => ?_⟩
    have s9 : Same H7 (upd H7 a9 (.dK [])) := same_new n9
    have e9 : upd H7 a9 (.dK []) a9 = some (.dK []) := upd_same
    have h9 := h7.alloc (o := .dK []) n9
    generalize upd H7 a9 (.dK []) = H9 at s9 e9 h9 ⊢
    refine ⟨one, fun a10 n10 => ?_⟩
    have s10 : Same H9 (upd H9 a10 (.lst [.int 1])) := same_new n10
    have e10 : upd H9 a10 (.lst [.int 1]) a10 = some (.lst [.int 1]) := upd_same
    have h10 := h9.alloc (o := .lst [.int 1]) n10
    generalize upd H9 a10 (.lst [.int 1]) = H10 at s10 e10 h10 ⊢
    refine ⟨(by show 1 ≤ sizeLine; decide), fun a11 n11 => ?_⟩
    have s11 : Same H10 (upd H10 a11 (.tup [.ref a10])) := same_new n11
    have e11 : upd H10 a11 (.tup [.ref a10]) a11 = some (.tup [.ref a10]) := upd_same
    have h11 := h10.alloc (o := .tup [.ref a10]) n11
    generalize upd H10 a11 (.tup [.ref a10]) = H11 at s11 e11 h11 ⊢
    intro a12 n12
    refine ⟨one, fun a13 n13 => ?_⟩
    have n13' : a12 ≠ a13 := ne_of_none upd_same n13
    refine ⟨(by rw [upd_ne n13', upd_same]), [(Sum.inr "a", .ref a13)], rfl, by simp, (by show 13 ≤ sizeLine; decide), fun a3 n3 => ?_⟩
    have s12 : Same H11 (upd (upd (upd H11 a12 (.dK [])) a13 (.lst [.int 1])) a12 (.dK (mergeK [] [(Sum.inr "a", .ref a13)]))) := fun x u e => by
      have q := ne_of_none e n12
      rw [upd_ne q, upd_ne (ne_of_none (by rw [upd_ne q]; exact e) n13), upd_ne q]
      exact e
    have e12 : (upd (upd (upd H11 a12 (.dK [])) a13 (.lst [.int 1])) a12 (.dK (mergeK [] [(Sum.inr "a", .ref a13)]))) a12 = some (.dK [(Sum.inr "a", .ref a13)]) := upd_same
    have e13 : (upd (upd (upd H11 a12 (.dK [])) a13 (.lst [.int 1])) a12 (.dK (mergeK [] [(Sum.inr "a", .ref a13)]))) a13 = some (.lst [.int 1]) := by
      rw [upd_ne (Ne.symm n13'), upd_same]
    have h12 := ((h11.alloc (o := .dK []) n12).alloc (o := .lst [.int 1]) n13).put (o := .dK (mergeK [] [(Sum.inr "a", .ref a13)])) (h11.fresh n12)
    generalize upd (upd (upd H11 a12 (.dK [])) a13 (.lst [.int 1])) a12 (.dK (mergeK [] [(Sum.inr "a", .ref a13)])) = H12 at s12 e12 e13 h12 n3 ⊢
    have a3b := h12.fresh n3
    have hL : upd H12 a3 (.lst [.int 0, .int (l + 1), .int (-1), .non, .bl true, .str "1", .ref a6, .ref a7, .int (10 ^ (29 : Int).toNat), .ref a9, .bl false, .ref a11, .ref a12]) a3 = _ := upd_same
    have s3 : Same H12 (upd H12 a3 (.lst [.int 0, .int (l + 1), .int (-1), .non, .bl true, .str "1", .ref a6, .ref a7, .int (10 ^ (29 : Int).toNat), .ref a9, .bl false, .ref a11, .ref a12])) := same_new n3
    have h3 := h12.alloc (o := .lst [.int 0, .int (l + 1), .int (-1), .non, .bl true, .str "1", .ref a6, .ref a7, .int (10 ^ (29 : Int).toNat), .ref a9, .bl false, .ref a11, .ref a12]) n3
    refine ⟨_, rfl, _, rfl, b, 13, n, rfl, h3, by omega, by decide, by decide, fun d H13 d0 d1 off hb13 => ?_⟩
    have hL13 := (off a3 a3b).trans hL
    obtain ⟨v, hv, ev⟩ := atI_ex (xs := [V.int 0, .int (l + 1), .int (-1), .non, .bl true, .str "1", .ref a6, .ref a7, .int (10 ^ (29 : Int).toNat), .ref a9, .bl false, .ref a11, .ref a12]) d0 d1
    have keep : ∀ a o, H12 a = some o → (∀ x y z : Int, o ≠ .lst [.int x, .int y, .int z]) → H13 a = some o := fun a o e ne => by
      obtain ⟨x, y, z, hx, _⟩ := h12
      rw [off a (ne_of e hx (ne x y z))]
      exact s3 _ _ e
    have hc13 : H13 c = some (.ins C dx (cf l t)) := keep _ _ (s12 _ _ (s11 _ _ (s10 _ _ (s9 _ _ (s7 _ _ (s6 _ _ hc)))))) (by simp)
    have f6 := keep _ _ (s12 _ _ (s11 _ _ (s10 _ _ (s9 _ _ (s7 _ _ e6))))) (by simp)
    have f7 := keep _ _ (s12 _ _ (s11 _ _ (s10 _ _ (s9 _ _ e7)))) (by simp)
    have f9 := keep _ _ (s12 _ _ (s11 _ _ (s10 _ _ e9))) (by simp)
    have f10 := keep _ _ (s12 _ _ (s11 _ _ e10)) (by simp)
    have f11 := keep _ _ (s12 _ _ e11) (by simp)
    have f12 := keep _ _ e12 (by simp)
    have f13 := keep _ _ e13 (by simp)
    have hk : KB b H H13 := fun x o nx e => (off x nx).trans (s3 _ _ (s12 _ _ (s11 _ _ (s10 _ _ (s9 _ _ (s7 _ _ (s6 _ _ e)))))))
    have big : ((10 : Int) ^ (29 : Int).toNat) = 10 ^ 29 := rfl
    have tv : Tg K H13 v ∧ Th H13 v ∧ wh 1 l v = false ∧ ∀ a, v = .ref a → H a = none := by
      have up : ∀ {x : Addr}, H6 x = none → H x = none := fun e => s6.free e
      simp only [List.mem_cons, List.not_mem_nil, or_false] at hv
      rcases hv with rfl | rfl | rfl | rfl | rfl | rfl | rfl | rfl | rfl | rfl | rfl | rfl | rfl
      · exact ⟨.pl _ _ "int" (.int _) (fits_int (by decide)) (fun _ _ => .base (.int _)) (by simp), .int _, by simp [wh], by simp⟩
      · exact ⟨.pl _ _ "int" (.int _) (fits_int (by omega)) (fun _ _ => .base (.int _)) (by simp), .int _, by simp [wh]; omega, by simp⟩
      · exact ⟨.pl _ _ "int" (.int _) (fits_int (by decide)) (fun _ _ => .base (.int _)) (by simp), .int _, by simp [wh], by simp⟩
      · exact ⟨.pl _ _ "NoneType" .non fits_none (fun _ _ => .base .non) (by simp), .non, rfl, by simp⟩
      · exact ⟨.pl _ _ "bool" (.bl _) (fits_bool _) (fun _ _ => .base (.bl _)) (by simp), .bl _, rfl, by simp⟩
      · exact ⟨.pl _ _ "str" (.str _) fits_str (fun _ _ => .base (.str _)) (by simp), .str _ (by decide) (good_of _), rfl, by simp⟩
      · exact ⟨.l1 _ f6, .lst _ _ f6, rfl, by rintro _ ⟨⟩; exact n6⟩
      · exact ⟨.pl _ _ "tuple" (.tup (SqT.of f7) (.cons (.int _) .nil)) fits_t1 (fun _ s => .base (.tup (s _ _ f7))) (by simp), .tup _ _ f7, rfl, by rintro _ ⟨⟩; exact up n7⟩
      · exact ⟨.pl _ _ "int" (.int _) (by rw [big]; exact fits_big) (fun _ _ => .base (.int _)) (by simp), .int _, by rw [big]; simp [wh]; omega, by simp⟩
      · exact ⟨.d0 _ f9, .dic _ f9, rfl, by rintro _ ⟨⟩; exact up (s7.free n9)⟩
      · exact ⟨.pl _ _ "bool" (.bl _) (fits_bool _) (fun _ _ => .base (.bl _)) (by simp), .bl _, rfl, by simp⟩
      · exact ⟨.pl _ _ "tuple" (.tup (SqT.of f11) (.cons (.lst (SqL.of f10) (.cons (.int _) .nil)) .nil)) fits_tl (fun _ s => .base (.tup (s _ _ f11))) (by simp), .tup _ _ f11, rfl, by rintro _ ⟨⟩; exact up (s7.free (s9.free (s10.free n11)))⟩
      · exact ⟨.d1 _ _ f12 f13, .dic _ f12, rfl, by rintro _ ⟨⟩; exact up (s7.free (s9.free (s10.free (s11.free n12))))⟩
    obtain ⟨tg, th, hw, new⟩ := tv
    clear keep f6 f7 f9 f10 f11 f12 f13 e6 e7 e9 e10 e11 e12 e13 s6 s7 s9 s10 s11 s12 h6 h7 h9 h10 h11 h12 n6 n7 n9 n10 n11 n12 n13 n13'
    refine ⟨a3, _, d, v, rfl, rfl, SqL.of hL13, ev, ?_⟩
    refine ⟨_, rfl, c, dx, _, rfl, hc13, cf_no _ _ (by decide +kernel) (by decide +kernel), _, rfl, c, dx, l, t, v, rfl, hc13, th, ?_, fun _ e he => ⟨true, X.eN, fun _ y hy => ?_, nofun⟩⟩
    · rintro i rfl h1 h2
      simp [wh, h1, h2] at hw
    refine ⟨_, rfl, rfl, rfl, e, _, v, rfl, upd_same, rfl, _, rfl, _, _, false, e, _, rfl, (fun u r => r), iW, rfl, rfl, upd_same, (by show 2 ≤ sizeLine; decide), fun u hu => ?_⟩
    have s14 : Same H13 (upd (upd H13 e (.xd [("found", v)])) u (.tup [v, .bl false])) := (same_new he).trans (same_new hu)
    have e14 : upd (upd H13 e (.xd [("found", v)])) u (.tup [v, .bl false]) u = some (.tup [v, .bl false]) := upd_same
    generalize upd (upd H13 e (.xd [("found", v)])) u (.tup [v, .bl false]) = H14 at s14 e14 ⊢
    have hb14 : Bx b (n + 1) H14 := by
      obtain ⟨x, y, z, q, r⟩ := hb13
      exact ⟨x, y, z, s14 _ _ q, r⟩
    have hk14 : KB b H H14 := fun x o nx e => s14 _ _ (hk x o nx e)
    -- what is left: both are shown
    have fin : ∀ (H15 : Hp) (d : PyData), H15 u = some (.tup [v, .bl false]) → Dq K H15 v d → Fits d → KB b H H15 → Bx b (n + 1) H15 →
        ∃ w e, [.ref u] = [w] ∧ SmAt H15 ∧ Dq K H15 w e ∧ e.showable = true ∧ e.depth ≤ 100 ∧ e.shown.length ≤ sizeLine ∧ ∃ x, some v = some x ∧ 2 ≤ sizeLine ∧ ∀ p, H15 p = none →
          ∃ w2 e2, [.ref p] = [w2] ∧ SmAt (upd H15 p (.tup [x, .bl false])) ∧ Dq K (upd H15 p (.tup [x, .bl false])) w2 e2 ∧ e2.showable = true ∧ e2.depth ≤ 100 ∧ e2.shown.length ≤ sizeLine ∧ Q (.bl (decide (V.str e.shown = V.str e2.shown))) (upd H15 p (.tup [x, .bl false])) := by
      rintro H15 d e15 dq ⟨g1, g2, g3⟩ kb bx
      refine ⟨_, .tuple [d, .bool false], rfl, smb _ kb, .tup (SqT.of e15) (.cons dq (.cons (.bl _) .nil)), g1, g2, g3, v, rfl, by decide, fun p hp => ?_⟩
      refine ⟨_, .tuple [d, .bool false], rfl, (smb _ kb).same (same_new hp), .tup (SqT.of upd_same) (.cons (dq.same (same_new hp)) (.cons (.bl _) .nil)), g1, g2, g3, ?_⟩
      rw [decide_eq_true rfl]
      exact k _ (fun x o nx e => same_new hp _ _ (kb x o nx e)) (bx.alloc hp)
    cases tg with
    | pl _ d tt hd ff ht hn =>
      have ty := ht _ s14
      obtain ⟨w1, d1, q1, q1b, q2, q3, q4, q5, v', q6, q7, rest⟩ := fin H14 d e14 (hd.same s14) ff hk14 hb14
      obtain rfl := Option.some.inj q6
      rcases hn with rfl | rfl | rfl | rfl | rfl
      all_goals
        refine ⟨_, rfl, _, _, _, _, false, rfl, .ty "list", ty, (by rfl), _, rfl, iteF ?_⟩
        refine ⟨_, rfl, _, _, _, _, false, rfl, .ty "dict", ty, (by rfl), _, rfl, iteF ?_⟩
        refine ⟨_, rfl, w1, d1, q1, q1b, q2, q3, q4, q5, _, rfl, q7, fun p hp => ?_⟩
        obtain ⟨w2, d2, r1, r1b, r2, r3, r4, r5, r6⟩ := rest p hp
        exact ⟨w2, d2, r1, r1b, r2, r3, r4, r5, rfl, r6⟩
    | l1 a h =>
      have h14 := s14 _ _ h
      have nau : a ≠ u := ne_of h14 e14 (by intro z; cases z)
      have nab : a ≠ b := by
        obtain ⟨x, y, z, q, r⟩ := hb14
        exact ne_of h14 q (by intro z; cases z)
      refine ⟨_, rfl, _, _, _, _, true, rfl, .ty "list", .base (.lst h14), (by rfl), _, rfl, iteT ?_⟩
      refine ⟨_, rfl, .inl ⟨rfl, _, SqL.of h14⟩, a, _, _, rfl, rfl, h14, by decide, ?_⟩
      obtain ⟨w1, d1, q1, q1b, q2, q3, q4, q5, v', q6, q7, rest⟩ := fin (upd H14 a (.lst [.int 1, .int 1])) (.list [.int 1, .int 1]) (by rw [upd_ne nau.symm]; exact e14)
        (.lst (SqL.of upd_same) (.cons (.int _) (.cons (.int _) .nil))) fits_l1 (fun x o nx e => by rw [upd_ne (ne_of_none e (new _ rfl))]; exact hk14 x o nx e) (hb14.put nab)
      obtain rfl := Option.some.inj q6
      refine ⟨_, rfl, _, _, _, _, false, rfl, .ty "dict", .base (.lst upd_same), (by rfl), _, rfl, iteF ?_⟩
      refine ⟨_, rfl, w1, d1, q1, q1b, q2, q3, q4, q5, _, rfl, q7, fun p hp => ?_⟩
      obtain ⟨w2, d2, r1, r1b, r2, r3, r4, r5, r6⟩ := rest p hp
      exact ⟨w2, d2, r1, r1b, r2, r3, r4, r5, rfl, r6⟩
    | d0 a h =>
      have h14 := s14 _ _ h
      have nau : a ≠ u := ne_of h14 e14 (by intro z; cases z)
      have nab : a ≠ b := by
        obtain ⟨x, y, z, q, r⟩ := hb14
        exact ne_of h14 q (by intro z; cases z)
      refine ⟨_, rfl, _, _, _, _, false, rfl, .ty "list", .base (.dK h14), (by rfl), _, rfl, iteF ?_⟩
      refine ⟨_, rfl, _, _, _, _, true, rfl, .ty "dict", .base (.dK h14), (by rfl), _, rfl, iteT ?_⟩
      refine ⟨_, rfl, _, _, rfl, DPut.k (k := Sum.inr "more") h14 (by decide), ?_⟩
      obtain ⟨w1, d1, q1, q1b, q2, q3, q4, q5, v', q6, q7, rest⟩ := fin (upd H14 a (.dK [(Sum.inr "more", .int 1)])) (.dict [(.str "more", .int 1)]) (by rw [upd_ne nau.symm]; exact e14)
        (.dic upd_same (.cons (k := Sum.inr "more") (.int _) .nil)) fits_d0 (fun x o nx e => by rw [upd_ne (ne_of_none e (new _ rfl))]; exact hk14 x o nx e) (hb14.put nab)
      obtain rfl := Option.some.inj q6
      refine ⟨_, rfl, w1, d1, q1, q1b, q2, q3, q4, q5, _, rfl, q7, fun p hp => ?_⟩
      obtain ⟨w2, d2, r1, r1b, r2, r3, r4, r5, r6⟩ := rest p hp
      exact ⟨w2, d2, r1, r1b, r2, r3, r4, r5, rfl, r6⟩
    | d1 a a2 h h2 =>
      have h14 := s14 _ _ h
      have h142 := s14 _ _ h2
      have nau : a ≠ u := ne_of h14 e14 (by intro z; cases z)
      have na2 : a ≠ a2 := ne_of h14 h142 (by intro z; cases z)
      have nab : a ≠ b := by
        obtain ⟨x, y, z, q, r⟩ := hb14
        exact ne_of h14 q (by intro z; cases z)
      refine ⟨_, rfl, _, _, _, _, false, rfl, .ty "list", .base (.dK h14), (by rfl), _, rfl, iteF ?_⟩
      refine ⟨_, rfl, _, _, _, _, true, rfl, .ty "dict", .base (.dK h14), (by rfl), _, rfl, iteT ?_⟩
      refine ⟨_, rfl, _, _, rfl, DPut.k (k := Sum.inr "more") h14 (by simp; decide), ?_⟩
      have ep : putK [((Sum.inr ("a" : Str) : Key), V.ref a2)] (Sum.inr ("more" : Str)) (V.int 1) = [((Sum.inr ("a" : Str) : Key), V.ref a2), (Sum.inr ("more" : Str), V.int 1)] := rfl
      rw [ep]
      obtain ⟨w1, d1, q1, q1b, q2, q3, q4, q5, v', q6, q7, rest⟩ := fin (upd H14 a (.dK [(Sum.inr "a", .ref a2), (Sum.inr "more", .int 1)])) (.dict [(.str "a", .list [.int 1]), (.str "more", .int 1)]) (by rw [upd_ne nau.symm]; exact e14)
        (.dic upd_same (.cons (k := Sum.inr "a") (.lst (SqL.of (by rw [upd_ne na2.symm]; exact h142)) (.cons (.int _) .nil)) (.cons (k := Sum.inr "more") (.int _) .nil))) fits_d1 (fun x o nx e => by rw [upd_ne (ne_of_none e (new _ rfl))]; exact hk14 x o nx e) (hb14.put nab)
      obtain rfl := Option.some.inj q6
      refine ⟨_, rfl, w1, d1, q1, q1b, q2, q3, q4, q5, _, rfl, q7, fun p hp => ?_⟩
      obtain ⟨w2, d2, r1, r1b, r2, r3, r4, r5, r6⟩ := rest p hp
      exact ⟨w2, d2, r1, r1b, r2, r3, r4, r5, rfl, r6⟩
end
end K13

set_option maxRecDepth 100000
set_option maxHeartbeats 400000
namespace K13
open PySem PySem.Spec PyProof.Rows L2 GxR Gd TL My
section
variable {P : Program} {w : World} {K : PySem.W.Frag} {mg : Str → Option Value} {base : Heap} {C CS CN CW fS fN : Addr} {fdS fdN : FuncData}
/-- all but the box, the count and its list stays -/
def KC (b c m : Addr) (H H' : Hp) : Prop := ∀ x o, x ≠ b → x ≠ c → x ≠ m → H x = some o → H' x = some o
abbrev s_law_deed : Stmt := top 15
theorem sc_law_deed : FnScope ["_law_box_here", "_law_count", "_law_model", "_law_way", "_law_number"] ["_law_box_here", "_law_count", "_law_model"] (defScope s_law_deed) := ⟨rfl, rfl, rfl, by decide +kernel, rfl, by decide +kernel, by decide +kernel⟩
def spDeed (C : Addr) : Sp := fun vs H Q _ => ∃ (b c m : Addr) (n l t : Int), vs = [.ref b, .ref c, .ref m] ∧ Bx b n H ∧ n ≤ 80000 ∧ b ≠ m ∧ SmAt H ∧ Co C H c m l t ∧ l ≤ 800 ∧
  ∀ H' l' t', KC b c m H H' → Bx b (n + 4) H' → Co C H' c m l' t' → l' ≤ l + 1 → Q (.bl true) H'
theorem ok_deed {f fR fT f1 f2 f3 : Addr} {fd fdR fdT fd1 fd2 fd3 : FuncData} (F : Fun K "_law_deed" "_law_deed" s_law_deed f fd) (T : Txt mg) (TC : CntT K C)
    (Glaw_refused : GOk P w K mg base CX0 6 fR fdR ["_law_box_here", "_law_count", "_law_model"] (spRefused C)) (Nlaw_refused : Fn K mg "_law_refused" s_law_refused ["_law_box_here", "_law_count", "_law_model"] fR fdR)
    (Glaw_take : FnOk P w K mg base CX0 1 fT fdT ["_law_box_here", "_law_many"] spTake) (Nlaw_take : Fn K mg "_law_take" sTake ["_law_box_here", "_law_many"] fT fdT)
    (Mout : Me K C "out" "Count.out" s_out ["self"] f1 fd1) (Mall_through : Me K C "all_through" "Count.all_through" s_all ["self"] f2 fd2)
    (Mthrough : Me K C "through" "Count.through" s_through ["self", "number"] f3 fd3) (Gthrough : FnOk P w K mg base (CX P w) 4 f3 fd3 ["self", "number"] (spThrough C CN)) :
    GOk P w K mg base CX0 7 f fd ["_law_box_here", "_law_count", "_law_model"] (spDeed C) := by
  have Gout : FnOk P w K mg base CX0 1 f1 fd1 ["self"] (spOut C) := ok_out Mout.fn TC
  have Gall_through : FnOk P w K mg base CX0 1 f2 fd2 ["self"] (spAll C) := ok_all Mall_through.fn TC
  refine gok F sc_law_deed (fun vs H Q E h => ?_) (fun cdv A outer s H vs Q E gd hr h => ?_)
  · obtain ⟨b, c, m, n, l, t, rfl, _⟩ := h
    rfl
  · obtain ⟨b, c, m, n, l, t, rfl, hb, hn, nbm, sm, ⟨⟨dx, hc⟩, hm, b1, b2, b3⟩, l8, k⟩ := h
    refine ⟨_, pss_cons (ps_set (i := 3) sc_law_deed.nd rfl (Or.inl rfl) (pe_call Glaw_take (hr.mono (by decide)) (by rfl) Nlaw_take.g Nlaw_take.kp Nlaw_take.b .nil pass0 (pa_cons (pv 0) (pa_cons pe_int pa_nil))))
      (pss_cons (ps_if (pt_cmpR op_lt (pv 3) pe_int (nomark _)) (pss_cons (ps_asg (pe_op op_add (pe_ix ix_list (pv 2) pe_int (fun _ _ => rfl)) pe_int) (pg_sub (pv 2) pe_int set_list))
          (pss_one (ps_ret (pe_cmpR op_eq (pe_callB (call_repr gd hr) (by rfl) T.repr_ (by decide +kernel) (pa_cons (pe_meth0 (pv 1) TC.cl Mout.m Gout (hr.mono (by decide)) Mout.b .nil pass0) pa_nil)) (pe_callB (call_repr gd hr) (by rfl) T.repr_ (by decide +kernel) (pa_cons (pe_ix ix_list (pv 2) pe_int (fun _ _ => rfl)) pa_nil)) (nomark _))))) pss_nil)
      (pss_cons (ps_if (PW.pt (pw_and (pt_cmpR op_eq (pv 3) pe_int (nomark _)) (pw_and1 (pt_cmpR op_eq (pe_call Glaw_take (hr.mono (by decide)) (by rfl) Nlaw_take.g Nlaw_take.kp Nlaw_take.b .nil pass0 (pa_cons (pv 0) (pa_cons pe_int pa_nil))) pe_int (nomark _))))) (pss_cons (ps_asg (pe_ix ix_list (pv 2) pe_int (fun _ _ => rfl)) (pg_sub (pv 2) pe_int set_list))
          (pss_one (ps_ret (pe_cmpR op_isN (pe_meth0 (pv 1) TC.cl Mall_through.m Gall_through (hr.mono (by decide)) Mall_through.b .nil pass0) pe_non (nomark _))))) pss_nil)
      (pss_cons (ps_if (PW.pt (pw_or (pt_cmpR op_eq (pv 3) pe_int (nomark _)) (pw_or1 (pt_cmpR op_eq (pe_ix ix_list (pv 2) pe_int (fun _ _ => rfl)) pe_int (nomark _))))) (pss_one (ps_ret (pe_gcall gd Glaw_refused (hr.mono (by decide)) (by rfl) Nlaw_refused.g Nlaw_refused.kp Nlaw_refused.b .nil pass0 (pa_cons (pv 0) (pa_cons (pv 1) (pa_cons (pv 2) pa_nil)))))) pss_nil)
      (pss_cons (ps_set (i := 4) sc_law_deed.nd rfl (Or.inl rfl) (pe_ix ix_list (pe_lst (pa_cons (pe_ix ix_list (pv 2) pe_int (fun _ _ => rfl)) (pa_cons (pe_callB (call_min2 rfl) (by rfl) T.min_ (by decide +kernel) (pa_cons (pe_ix ix_list (pv 2) pe_int (fun _ _ => rfl)) (pa_cons (pe_op op_add (pe_ix ix_list (pv 2) pe_int (fun _ _ => rfl)) pe_int) pa_nil))) (pa_cons pe_int (pa_cons (pe_op op_add pe_int (pe_call Glaw_take (hr.mono (by decide)) (by rfl) Nlaw_take.g Nlaw_take.kp Nlaw_take.b .nil pass0 (pa_cons (pv 0) (pa_cons (pe_ix ix_list (pv 2) pe_int (fun _ _ => rfl)) pa_nil)))) pa_nil))))) (pe_call Glaw_take (hr.mono (by decide)) (by rfl) Nlaw_take.g Nlaw_take.kp Nlaw_take.b .nil pass0 (pa_cons (pv 0) (pa_cons pe_int pa_nil))) (fun _ _ => rfl)))
      (pss_cons (ps_asg (pe_callB (call_max2 rfl) (by rfl) T.max_ (by decide +kernel) (pa_cons (pe_ix ix_list (pv 2) pe_int (fun _ _ => rfl)) (pa_cons (pv 4) pa_nil))) (pg_sub (pv 2) pe_int set_list))
      (pss_one (ps_ret (pe_cmpR op_isN (pe_meth (pv 1) TC.cl Mthrough.m Gthrough (hr.mono (by decide)) Mthrough.b .nil pass_no (pa_cons (pv 4) pa_nil)) pe_non (nomark _))))))))), ?_⟩
    have nbc : b ≠ c := by
      obtain ⟨x, y, z, q, r⟩ := hb
      exact ne_of q hc (by intro z; cases z)
    have ncm : c ≠ m := ne_of hc hm (by intro z; cases z)
    have g0 : atI [V.int l, .int t] 0 = some (.int l) := rfl
    have g1 : atI [V.int l, .int t] 1 = some (.int t) := rfl
    have s0 : ixN 2 0 = some 0 := rfl
    have s1 : ixN 2 1 = some 1 := rfl
    refine ⟨_, rfl, b, 8, n, rfl, hb, by omega, by decide, by decide, fun way H1 w0 w1 off1 hb1 => ?_⟩
    have hc1 := (off1 c nbc.symm).trans hc
    have hm1 := (off1 m nbm.symm).trans hm
    have k1 : KC b c m H H1 := fun x o x1 _ _ e => (off1 x x1).trans e
    refine ⟨_, rfl, _, _, rfl, rfl, _, rfl, ite2 (fun e3 => ?_) (fun e3 => ?_)⟩
    · -- a train goes out
      refine ⟨_, rfl, m, _, _, _, rfl, rfl, SqL.of hm1, g0, _, _, rfl, rfl, _, rfl, m, _, _, _, rfl, rfl, hm1, s0, ?_⟩
      have e2 : upd H1 m (.lst [.int (l + 1), .int t]) c = some (.ins C dx (cf l t)) := by rw [upd_ne ncm]; exact hc1
      obtain ⟨m1, m2, m3⟩ := (sm_int (i := l + 1) (by omega)).rep (by decide) (by decide)
      have e3 : upd (upd H1 m (.lst [.int (l + 1), .int t])) c (.ins C dx (cf (l + 1) t)) m = some (.lst [.int (l + 1), .int t]) := by rw [upd_ne ncm.symm, upd_same]
      refine ⟨_, rfl, c, dx, _, rfl, e2, cf_no _ _ (by decide +kernel) (by decide +kernel), c, dx, l, t, rfl, e2, _, .int (l + 1), rfl, .int _, m1, m2, m3, ?_⟩
      refine ⟨_, rfl, m, _, _, _, rfl, rfl, SqL.of e3, rfl, _, .int (l + 1), rfl, .int _, m1, m2, m3, rfl, ?_⟩
      show Q (.bl (decide (_ = _))) _
      rw [decide_eq_true rfl]
      refine k _ (l + 1) t (fun x o x1 x2 x3 e => by rw [upd_ne x2, upd_ne x3]; exact k1 x o x1 x2 x3 e) (((hb1.put nbm.symm).put nbc.symm).mono (by omega)) ⟨⟨dx, upd_same⟩, e3, b1, by omega, by omega⟩ (Int.le_refl _)
    refine (fun (rest : ∀ (H2 : Hp), Bx b (n + 2) H2 → H2 c = some (.ins C dx (cf l t)) → H2 m = some (.lst [.int l, .int t]) → KC b c m H H2 → (?G : Hp → Prop) H2) => ?main) ?last
    case main =>
      refine ⟨_, rfl, rfl, _, rfl, ite2 (fun e4 => ?_) (fun e4 => ?_)⟩
      · refine ⟨_, rfl, b, 2, n + 1, rfl, hb1, by omega, by decide, by decide, fun d2 H2 _ _ off2 hb2 => ?_⟩
        have hc2 := (off2 c nbc.symm).trans hc1
        have hm2 := (off2 m nbm.symm).trans hm1
        have k2 : KC b c m H H2 := fun x o x1 x2 x3 e => (off2 x x1).trans (k1 x o x1 x2 x3 e)
        refine ⟨rfl, _, rfl, ite2 (fun e5 => ?_) (fun e5 => ?_)⟩
        · refine ⟨_, rfl, m, _, _, _, rfl, rfl, SqL.of hm2, g0, _, rfl, m, _, _, _, rfl, rfl, hm2, s1, ?_⟩
          have e2 : upd H2 m (.lst [.int l, .int l]) c = some (.ins C dx (cf l t)) := by rw [upd_ne ncm]; exact hc2
          have e3 : upd (upd H2 m (.lst [.int l, .int l])) c (.ins C dx (cf l l)) m = some (.lst [.int l, .int l]) := by rw [upd_ne ncm.symm, upd_same]
          refine ⟨_, rfl, c, dx, _, rfl, e2, cf_no _ _ (by decide +kernel) (by decide +kernel), c, dx, l, t, rfl, e2, rfl, ?_⟩
          exact k _ l l (fun x o x1 x2 x3 e => by rw [upd_ne x2, upd_ne x3]; exact k2 x o x1 x2 x3 e) (((hb2.put nbm.symm).put nbc.symm).mono (by omega)) ⟨⟨dx, upd_same⟩, e3, by omega, by omega, by omega⟩ (by omega)
        · exact rest H2 (hb2.mono (by omega)) hc2 hm2 k2
      · exact rest H1 (hb1.mono (by omega)) hc1 hm1 k1
    clear hb1 hc1 hm1 k1
    intro H2 hb2 hc2 hm2 k2
    have sm2 : SmAt H2 := by
      obtain ⟨o, e⟩ := sm
      refine ⟨o, k2 _ _ ?_ (ne_of e hc (by intro z; cases z)) (ne_of e hm (by intro z; cases z)) e⟩
      obtain ⟨x, y, z, q, r⟩ := hb
      exact ne_of e q (by intro z; cases z)
    have co2 : Co C H2 c m l t := ⟨⟨dx, hc2⟩, hm2, b1, b2, b3⟩
    have ref : ∀ H3, KB b H2 H3 → Bx b (n + 2 + 1) H3 → Q (.bl true) H3 := fun H3 k3 hb3 =>
      k H3 l t (fun x o x1 x2 x3 e => k3 x o x1 (k2 x o x1 x2 x3 e)) (hb3.mono (by omega)) ⟨⟨dx, k3 _ _ nbc.symm hc2⟩, k3 _ _ nbm.symm hm2, b1, b2, b3⟩ (by omega)
    refine ⟨_, rfl, rfl, _, rfl, ite2 (fun e5 => ?_) (fun e5 => ?_)⟩
    · exact ⟨_, rfl, _, rfl, _, rfl, b, c, m, n + 2, l, t, rfl, hb2, by omega, sm2, co2, ref⟩
    refine ⟨_, rfl, m, _, _, _, rfl, rfl, SqL.of hm2, g0, rfl, _, rfl, ite2 (fun e6 => ?_) (fun e6 => ?_)⟩
    · exact ⟨_, rfl, _, rfl, _, rfl, b, c, m, n + 2, l, t, rfl, hb2, by omega, sm2, co2, ref⟩
    have l1 : 1 ≤ l := by
      have : ¬ l = 0 := by simpa using e6
      omega
    clear ref
    refine ⟨_, rfl, m, _, _, _, rfl, rfl, SqL.of hm2, g0, _, rfl, m, _, _, _, rfl, rfl, SqL.of hm2, g0, _, rfl, m, _, _, _, rfl, rfl, SqL.of hm2, g1, _, _, rfl, rfl, _, _, rfl, ?_⟩
    refine ⟨_, rfl, _, rfl, m, _, _, _, rfl, rfl, SqL.of hm2, g0, b, l, n + 2, rfl, hb2, by omega, by omega, dec9000 (by omega) (by omega), fun d3 H3 d0 d1 off3 hb3 => ?_⟩
    have hc3 := (off3 c nbc.symm).trans hc2
    have hm3 := (off3 m nbm.symm).trans hm2
    have k3 : KC b c m H H3 := fun x o x1 x2 x3 e => (off3 x x1).trans (k2 x o x1 x2 x3 e)
    refine ⟨_, _, rfl, rfl, (by show 4 ≤ sizeLine; decide), fun p np => ?_⟩
    have npb := hb3.fresh np
    have npc : p ≠ c := (ne_of_none hc3 np).symm
    have npm : p ≠ m := (ne_of_none hm3 np).symm
    refine ⟨_, rfl, b, 4, n + 2 + 1, rfl, hb3.alloc np, by omega, by decide, by decide, fun d4 H4 f0 f1 off4 hb4 => ?_⟩
    have hp4 := (off4 p npb).trans upd_same
    have hc4 : H4 c = some (.ins C dx (cf l t)) := (off4 c nbc.symm).trans (by rw [upd_ne npc.symm]; exact hc3)
    have hm4 : H4 m = some (.lst [.int l, .int t]) := (off4 m nbm.symm).trans (by rw [upd_ne npm.symm]; exact hm3)
    have k4 : KC b c m H H4 := fun x o x1 x2 x3 e => (off4 x x1).trans (by
      have q := k3 x o x1 x2 x3 e
      rw [upd_ne (ne_of_none q np)]
      exact q)
    have f1' : d4 < (([V.int l, .int (if t + 1 < l then t + 1 else l), .int 1, .int (1 + d3)] : List V).length : Int) := f1
    obtain ⟨v, hv, ev⟩ := atI_ex f0 f1'
    obtain ⟨i, rfl, i1, i2⟩ : ∃ i, v = V.int i ∧ 1 ≤ i ∧ i ≤ l := by
      simp only [List.mem_cons, List.not_mem_nil, or_false] at hv
      rcases hv with rfl | rfl | rfl | rfl
      · exact ⟨_, rfl, l1, Int.le_refl _⟩
      · exact ⟨_, rfl, by split <;> omega, by split <;> omega⟩
      · exact ⟨_, rfl, Int.le_refl _, l1⟩
      · exact ⟨_, rfl, by omega, by omega⟩
    refine ⟨p, _, _, _, rfl, rfl, SqL.of hp4, ev, ?_⟩
    refine ⟨_, rfl, m, _, _, _, rfl, rfl, SqL.of hm4, g1, _, rfl, _, _, rfl, _, rfl, m, _, _, _, rfl, rfl, hm4, s1, ?_⟩
    have emax : (if i > t then i else t) = max t i := by omega
    rw [emax]
    have e2 : upd H4 m (.lst [.int l, .int (max t i)]) c = some (.ins C dx (cf l t)) := by rw [upd_ne ncm]; exact hc4
    have e3 : upd (upd H4 m (.lst [.int l, .int (max t i)])) c (.ins C dx (cf l (max t i))) m = some (.lst [.int l, .int (max t i)]) := by rw [upd_ne ncm.symm, upd_same]
    refine ⟨_, rfl, c, dx, _, rfl, e2, cf_no _ _ (by decide +kernel) (by decide +kernel), _, rfl, c, dx, l, t, .int i, rfl, e2, .int i, ?_, ?_⟩
    · rintro j ej _ _
      obtain rfl := V.int.inj ej
      refine ⟨rfl, ?_⟩
      exact k _ l (max t i) (fun x o x1 x2 x3 e => by rw [upd_ne x2, upd_ne x3]; exact k4 x o x1 x2 x3 e) (((hb4.put nbm.symm).put nbc.symm).mono (by omega)) ⟨⟨dx, upd_same⟩, e3, by omega, by omega, by omega⟩ (by omega)
    · intro z
      simp [wh, i1, i2] at z
end
end K13

set_option maxRecDepth 100000
set_option maxHeartbeats 400000
namespace K13
open PySem PySem.Spec PyProof.Rows L2 GxR Gd TL My
section
variable {P : Program} {w : World} {K : PySem.W.Frag} {mg : Str → Option Value} {base : Heap} {C CS CN CW fS fN : Addr} {fdS fdN : FuncData}
theorem zl {H0 : Hp} {a b c d e f : Addr} (h1 : H0 a = none) (h2 : H0 b = none) (h3 : H0 c = none) (h4 : H0 d = none) (h5 : H0 e = none) (h6 : H0 f = none) : ∀ x ∈ [a, b, c, d, e, f], H0 x = none := by
  intro x hx
  simp only [List.mem_cons, List.not_mem_nil, or_false] at hx
  rcases hx with rfl | rfl | rfl | rfl | rfl | rfl <;> assumption
structure Wo (C : Addr) (H0 H : Hp) (lc lm c0 c1 m0 m1 : Addr) (l0 t0 l1 t1 : Int) : Prop where
  hc : H lc = some (.lst [.ref c0, .ref c1])
  hm : H lm = some (.lst [.ref m0, .ref m1])
  a0 : Co C H c0 m0 l0 t0
  a1 : Co C H c1 m1 l1 t1
  n1 : c0 ≠ c1
  n2 : m0 ≠ m1
  s0 : Same H0 H
  z : ∀ x ∈ [lc, lm, c0, c1, m0, m1], H0 x = none
theorem Co.ne {H : Hp} {c m c' m' : Addr} {l t l' t' : Int} (h : Co C H c m l t) (h' : Co C H c' m' l' t') : c ≠ m' := by
  obtain ⟨dx, e⟩ := h.at_
  exact ne_of e h'.md (by intro z; cases z)
theorem Wo.ne {H0 H : Hp} {lc lm c0 c1 m0 m1 : Addr} {l0 t0 l1 t1 : Int} (h : Wo C H0 H lc lm c0 c1 m0 m1 l0 t0 l1 t1) : lc ≠ lm := by
  rintro rfl
  have e := h.hc.symm.trans h.hm
  have e2 : c0 = m0 := by
    injection e with e
    injection e with e
    injection e with e _
    exact V.ref.inj e
  exact (h.a0.ne h.a0) e2
/-- what is neither of the lists nor the box is not touched -/
def KO (b lc lm : Addr) (H H' : Hp) : Prop := ∀ x o, x ≠ b → x ≠ lc → x ≠ lm → H x = some o → H' x = some o
theorem Co.ko {b lc lm : Addr} {H H' : Hp} {c m : Addr} {l t : Int} (h : Co C H c m l t) (n : ∀ x o, (∀ y z, o ≠ .lst [.ref y, .ref z]) → (∀ x y z, o ≠ .lst [.int x, .int y, .int z]) → H x = some o → H' x = some o) : Co C H' c m l t := by
  obtain ⟨⟨dx, e⟩, e2, b1, b2, b3⟩ := h
  exact ⟨⟨dx, n _ _ (by simp) (by simp) e⟩, n _ _ (by simp) (by simp) e2, b1, b2, b3⟩
theorem put_any {H0 H2 H3 : Hp} {b lc lm c0 c1 m0 m1 x dy y : Addr} {n l t l0 t0 l1 t1 : Int} {X Y : List V} (wo : Wo C H0 H2 lc lm c0 c1 m0 m1 l0 t0 l1 t1) (hb : Bx b n H2) (s3 : Same H2 H3) (nx : H2 x = none) (hx : H3 x = some (.ins C dy (cf l t)))
    (b1 : 0 ≤ t) (b2 : t ≤ l) (b3 : l ≤ 900) (ny : upd H3 lc (.lst X) y = none) :
    KO b lc lm H2 (upd (upd (upd H3 lc (.lst X)) y (.lst [.int l, .int t])) lm (.lst Y)) ∧ Bx b n (upd (upd (upd H3 lc (.lst X)) y (.lst [.int l, .int t])) lm (.lst Y)) ∧
      Co C (upd (upd (upd H3 lc (.lst X)) y (.lst [.int l, .int t])) lm (.lst Y)) x y l t ∧
      (∀ c m l' t', Co C H2 c m l' t' → Co C (upd (upd (upd H3 lc (.lst X)) y (.lst [.int l, .int t])) lm (.lst Y)) c m l' t' ∧ x ≠ c ∧ y ≠ m) ∧
      upd (upd (upd H3 lc (.lst X)) y (.lst [.int l, .int t])) lm (.lst Y) lc = some (.lst X) ∧ H0 x = none ∧ H0 y = none := by
  have nyc : y ≠ lc := (ne_of_none upd_same ny).symm
  have ny3 : H3 y = none := by rw [upd_ne nyc] at ny; exact ny
  have nym : y ≠ lm := (ne_of_none (s3 _ _ wo.hm) ny3).symm
  have nxc : x ≠ lc := ne_of hx (s3 _ _ wo.hc) (by intro z; cases z)
  have nxm : x ≠ lm := ne_of hx (s3 _ _ wo.hm) (by intro z; cases z)
  have nxy : x ≠ y := ne_of_none hx ny3
  have go : ∀ z o, z ≠ lc → z ≠ lm → H3 z = some o → upd (upd (upd H3 lc (.lst X)) y (.lst [.int l, .int t])) lm (.lst Y) z = some o := fun z o z1 z2 e => by
    rw [upd_ne z2, upd_ne (ne_of_none e ny3), upd_ne z1]
    exact e
  obtain ⟨bx, by_, bz, q, r⟩ := hb
  refine ⟨fun z o _ z1 z2 e => go z o z1 z2 (s3 _ _ e), ⟨bx, by_, bz, go _ _ ?_ ?_ (s3 _ _ q), r⟩, ⟨⟨dy, go _ _ nxc nxm hx⟩, ?_, b1, b2, b3⟩, ?_, ?_, wo.s0.free nx, wo.s0.free (s3.free ny3)⟩
  · exact ne_of q wo.hc (by intro z; cases z)
  · exact ne_of q wo.hm (by intro z; cases z)
  · rw [upd_ne nym, upd_same]
  · rintro c m l' t' ⟨⟨dz, f⟩, f2, f3, f4, f5⟩
    refine ⟨⟨⟨dz, go _ _ (ne_of f wo.hc (by intro z; cases z)) (ne_of f wo.hm (by intro z; cases z)) (s3 _ _ f)⟩, go _ _ (ne_of f2 wo.hc (by intro z; cases z)) (ne_of f2 wo.hm (by intro z; cases z)) (s3 _ _ f2), f3, f4, f5⟩, (ne_of_none f nx).symm, (ne_of_none (s3 _ _ f2) ny3).symm⟩
  · rw [upd_ne wo.ne, upd_ne nyc.symm, upd_same]
abbrev s_law_other : Stmt := top 16
theorem sc_law_other : FnScope ["_law_box_here", "_law_counts", "_law_models", "_law_at"] ["_law_box_here", "_law_counts", "_law_models"] (defScope s_law_other) := ⟨rfl, rfl, rfl, by decide +kernel, rfl, by decide +kernel, by decide +kernel⟩
def spOther (C : Addr) : Sp := fun vs H Q _ => ∃ (H0 : Hp) (b lc lm c0 c1 m0 m1 : Addr) (n l0 t0 l1 t1 L : Int), vs = [.ref b, .ref lc, .ref lm] ∧ Bx b n H ∧ n ≤ 80000 ∧ H0 b = none ∧ Wo C H0 H lc lm c0 c1 m0 m1 l0 t0 l1 t1 ∧ 0 ≤ L ∧ l0 ≤ L ∧ l1 ≤ L ∧
  ∀ H' c0' c1' m0' m1' l0' t0' l1' t1', Bx b (n + 2) H' → Wo C H0 H' lc lm c0' c1' m0' m1' l0' t0' l1' t1' → l0' ≤ L → l1' ≤ L → Q .non H'
theorem ok_other {f fT f1 fI : Addr} {fd fdT fd1 fdI : FuncData} (F : Fun K "_law_other" "_law_other" s_law_other f fd) (T : Txt mg) (TC : CntT K C) (gC : mg "Count" = some (.ref C)) (M : Mk K C fI)
    (GI : FnOk P w K mg base CX0 1 fI fdI ["self"] (spInit C)) (bI : Binds K fdI ["self"] [])
    (Glaw_take : FnOk P w K mg base CX0 1 fT fdT ["_law_box_here", "_law_many"] spTake) (Nlaw_take : Fn K mg "_law_take" sTake ["_law_box_here", "_law_many"] fT fdT)
    (Mtwin : Me K C "twin" "Count.twin" s_twin ["self"] f1 fd1) (Gtwin : FnOk P w K mg base CX0 3 f1 fd1 ["self"] (spTwin C)) :
    FnOk P w K mg base CX0 4 f fd ["_law_box_here", "_law_counts", "_law_models"] (spOther C) := by
  refine F.ok sc_law_other (fun vs H Q E h => ?_) (fun cdv A outer s H vs Q E hr h => ?_)
  · obtain ⟨H0, b, lc, lm, c0, c1, m0, m1, n, l0, t0, l1, t1, L, rfl, _⟩ := h
    rfl
  · obtain ⟨H0, b, lc, lm, c0, c1, m0, m1, n, l0, t0, l1, t1, L, rfl, hb, hn, zb, wo, L0, e0, e1, k⟩ := h
    refine ⟨_, pss_cons (ps_set (i := 3) sc_law_other.nd rfl (Or.inl rfl) (pe_call Glaw_take (hr.mono (by decide)) (by rfl) Nlaw_take.g Nlaw_take.kp Nlaw_take.b .nil pass0 (pa_cons (pv 0) (pa_cons pe_int pa_nil))))
      (pss_one (ps_if (pt_cmpR op_eq (pe_call Glaw_take (hr.mono (by decide)) (by rfl) Nlaw_take.g Nlaw_take.kp Nlaw_take.b .nil pass0 (pa_cons (pv 0) (pa_cons pe_int pa_nil))) pe_int (nomark _)) (pss_cons (ps_asg (pe_make0 M GI (hr.mono (by decide)) (by rfl) gC bI .nil pass0) (pg_sub (pv 1) (pv 3) set_list))
          (pss_one (ps_asg (pe_lst (pa_cons pe_int (pa_cons pe_int pa_nil))) (pg_sub (pv 2) (pv 3) set_list)))) (pss_cons (ps_asg (pe_meth0 (pe_ix ix_list (pv 1) (pe_op op_sub pe_int (pv 3)) (fun _ _ => rfl)) TC.cl Mtwin.m Gtwin (hr.mono (by decide)) Mtwin.b .nil pass0) (pg_sub (pv 1) (pv 3) set_list))
          (pss_one (ps_asg (pe_callTy call_list_of (by rfl) T.list_ (by decide +kernel) (pa_cons (pe_ix ix_list (pv 2) (pe_op op_sub pe_int (pv 3)) (fun _ _ => rfl)) pa_nil)) (pg_sub (pv 2) (pv 3) set_list)))))), ?_⟩
    have nbc : b ≠ lc := by
      obtain ⟨x, y, z, q, r⟩ := hb
      exact ne_of q wo.hc (by intro z; cases z)
    have nbm : b ≠ lm := by
      obtain ⟨x, y, z, q, r⟩ := hb
      exact ne_of q wo.hm (by intro z; cases z)
    refine ⟨_, rfl, b, 2, n, rfl, hb, by omega, by decide, by decide, fun d H1 d0 d1 off1 hb1 => ?_⟩
    refine ⟨_, rfl, b, 4, n + 1, rfl, hb1, by omega, by decide, by decide, fun d2 H2 _ _ off2 hb2 => ?_⟩
    have off : ∀ x, x ≠ b → H2 x = H x := fun x nx => (off2 x nx).trans (off1 x nx)
    have wo2 : Wo C H0 H2 lc lm c0 c1 m0 m1 l0 t0 l1 t1 := by
      have up : ∀ x o, (∀ y z, o ≠ .lst [.ref y, .ref z]) → (∀ x y z, o ≠ .lst [.int x, .int y, .int z]) → H x = some o → H2 x = some o := fun x o _ no e => by
        obtain ⟨x', y, z, q, r⟩ := hb
        rw [off x (ne_of e q (no x' y z))]
        exact e
      exact ⟨(off _ nbc.symm).trans wo.hc, (off _ nbm.symm).trans wo.hm, wo.a0.ko (b := b) (lc := lc) (lm := lm) up, wo.a1.ko (b := b) (lc := lc) (lm := lm) up, wo.n1, wo.n2, fun x o e => (off x (ne_of_none e zb)).trans (wo.s0 x o e), wo.z⟩
    have hb2' : Bx b (n + 2) H2 := hb2.mono (by omega)
    clear hb hb1 hb2 off off1 off2 wo
    have nlm := wo2.ne
    obtain ⟨hc, hm, a0, a1, n1, n2, s0, z⟩ := id wo2
    have zlc : H0 lc = none := z _ (by simp)
    have zlm : H0 lm = none := z _ (by simp)
    have zc0 : H0 c0 = none := z _ (by simp)
    have zc1 : H0 c1 = none := z _ (by simp)
    have zm0 : H0 m0 = none := z _ (by simp)
    have zm1 : H0 m1 = none := z _ (by simp)
    have ss : ∀ H', KO b lc lm H2 H' → Same H0 H' := fun H' ko x o e => ko x o (ne_of_none e zb) (ne_of_none e zlc) (ne_of_none e zlm) (s0 x o e)
    have s0_ : ixN 2 0 = some 0 := rfl
    have s1_ : ixN 2 1 = some 1 := rfl
    refine ⟨rfl, _, rfl, ite2 (fun e5 => ?_) (fun e5 => ?_)⟩
    · intro x dy nx ny nxy
      refine ⟨x, dy, rfl, upd_same, rfl, ?_⟩
      have s3 : Same H2 (upd (upd (upd (upd H2 dy (.own x)) x (.ins C dy [])) x (.ins C dy (putF "_last" (.int 0) []))) x (.ins C dy (cf 0 0))) := fun z o e => by
        have q := ne_of_none e nx
        rw [upd_ne q, upd_ne q, upd_ne q, upd_ne (ne_of_none e ny)]
        exact e
      have hx : upd (upd (upd (upd H2 dy (.own x)) x (.ins C dy [])) x (.ins C dy (putF "_last" (.int 0) []))) x (.ins C dy (cf 0 0)) x = some (.ins C dy (cf 0 0)) := upd_same
      generalize upd (upd (upd (upd H2 dy (.own x)) x (.ins C dy [])) x (.ins C dy (putF "_last" (.int 0) []))) x (.ins C dy (cf 0 0)) = H3 at s3 hx ⊢
      have hm4 : ∀ y X Y, upd H3 lc (.lst X) y = none → upd (upd H3 lc (.lst X)) y (.lst Y) lm = some (.lst [.ref m0, .ref m1]) := fun y X Y e => by
        rw [upd_ne (ne_of_none (by rw [upd_ne nlm.symm]; exact s3 _ _ hm) e), upd_ne nlm.symm]
        exact s3 _ _ hm
      rcases (by omega : d = 0 ∨ d = 1) with rfl | rfl
      · refine ⟨_, rfl, _, rfl, lc, _, _, _, rfl, rfl, s3 _ _ hc, s0_, ?_⟩
        refine ⟨(by show 2 ≤ sizeLine; decide), fun y ny2 => ?_⟩
        have hm3 := hm4 y _ [.int 0, .int 0] ny2
        refine ⟨_, rfl, _, rfl, lm, _, _, _, rfl, rfl, hm3, s0_, ?_⟩
        obtain ⟨p1, p2, p3, p4, p5, p6, p7⟩ := put_any (Y := [.ref y, .ref m1]) wo2 hb2' s3 nx hx (Int.le_refl 0) (Int.le_refl 0) (by decide) ny2
        obtain ⟨q1, q2, q3⟩ := p4 _ _ _ _ a1
        exact k _ x c1 y m1 0 0 l1 t1 p2 ⟨p5, upd_same, p3, q1, q2, q3, ss _ p1, zl zlc zlm p6 zc1 p7 zm1⟩ L0 e1
      · refine ⟨_, rfl, _, rfl, lc, _, _, _, rfl, rfl, s3 _ _ hc, s1_, ?_⟩
        refine ⟨(by show 2 ≤ sizeLine; decide), fun y ny2 => ?_⟩
        have hm3 := hm4 y _ [.int 0, .int 0] ny2
        refine ⟨_, rfl, _, rfl, lm, _, _, _, rfl, rfl, hm3, s1_, ?_⟩
        obtain ⟨p1, p2, p3, p4, p5, p6, p7⟩ := put_any (Y := [.ref m0, .ref y]) wo2 hb2' s3 nx hx (Int.le_refl 0) (Int.le_refl 0) (by decide) ny2
        obtain ⟨q1, q2, q3⟩ := p4 _ _ _ _ a0
        exact k _ c0 x m0 y l0 t0 0 0 p2 ⟨p5, upd_same, q1, p3, q2.symm, q3.symm, ss _ p1, zl zlc zlm zc0 p6 zm0 p7⟩ e0 L0
    · have y0 : atI [V.ref c0, .ref c1] 0 = some (.ref c0) := rfl
      have y1 : atI [V.ref c0, .ref c1] 1 = some (.ref c1) := rfl
      have z0 : atI [V.ref m0, .ref m1] 0 = some (.ref m0) := rfl
      have z1 : atI [V.ref m0, .ref m1] 1 = some (.ref m1) := rfl
      obtain ⟨⟨dx0, h0⟩, g0, r01, r02, r03⟩ := id a0
      obtain ⟨⟨dx1, h1⟩, g1, r11, r12, r13⟩ := id a1
      rcases (by omega : d = 0 ∨ d = 1) with rfl | rfl
      · refine ⟨_, rfl, _, rfl, _, _, rfl, rfl, lc, _, _, _, rfl, rfl, SqL.of hc, y1, c1, dx1, _, rfl, h1, cf_no _ _ (by decide +kernel) (by decide +kernel), c1, dx1, l1, t1, rfl, h1, fun x dy H3 nx s3 hx => ?_⟩
        have hm4 : ∀ X, upd H3 lc (.lst X) lm = some (.lst [.ref m0, .ref m1]) := fun X => by
          rw [upd_ne nlm.symm]
          exact s3 _ _ hm
        have g4 : ∀ X, upd H3 lc (.lst X) m1 = some (.lst [.int l1, .int t1]) := fun X => by
          rw [upd_ne (ne_of g1 hc (by intro z; cases z))]
          exact s3 _ _ g1
        refine ⟨_, rfl, _, rfl, lc, _, _, _, rfl, rfl, s3 _ _ hc, s0_, ?_⟩
        refine ⟨_, rfl, _, rfl, _, _, rfl, rfl, lm, _, _, _, rfl, rfl, SqL.of (hm4 _), z1, m1, _, rfl, .inl (SqL.of (g4 _)), fun y ny2 => ?_⟩
        refine ⟨_, rfl, _, rfl, lm, _, _, _, rfl, rfl, (upd_ne (ne_of_none (hm4 _) ny2)).trans (hm4 _), s0_, ?_⟩
        obtain ⟨p1, p2, p3, p4, p5, p6, p7⟩ := put_any (Y := [.ref y, .ref m1]) wo2 hb2' s3 nx hx r11 r12 r13 ny2
        obtain ⟨q1, q2, q3⟩ := p4 _ _ _ _ a1
        exact k _ x c1 y m1 l1 t1 l1 t1 p2 ⟨p5, upd_same, p3, q1, q2, q3, ss _ p1, zl zlc zlm p6 zc1 p7 zm1⟩ e1 e1
      · refine ⟨_, rfl, _, rfl, _, _, rfl, rfl, lc, _, _, _, rfl, rfl, SqL.of hc, y0, c0, dx0, _, rfl, h0, cf_no _ _ (by decide +kernel) (by decide +kernel), c0, dx0, l0, t0, rfl, h0, fun x dy H3 nx s3 hx => ?_⟩
        have hm4 : ∀ X, upd H3 lc (.lst X) lm = some (.lst [.ref m0, .ref m1]) := fun X => by
          rw [upd_ne nlm.symm]
          exact s3 _ _ hm
        have g4 : ∀ X, upd H3 lc (.lst X) m0 = some (.lst [.int l0, .int t0]) := fun X => by
          rw [upd_ne (ne_of g0 hc (by intro z; cases z))]
          exact s3 _ _ g0
        refine ⟨_, rfl, _, rfl, lc, _, _, _, rfl, rfl, s3 _ _ hc, s1_, ?_⟩
        refine ⟨_, rfl, _, rfl, _, _, rfl, rfl, lm, _, _, _, rfl, rfl, SqL.of (hm4 _), z0, m0, _, rfl, .inl (SqL.of (g4 _)), fun y ny2 => ?_⟩
        refine ⟨_, rfl, _, rfl, lm, _, _, _, rfl, rfl, (upd_ne (ne_of_none (hm4 _) ny2)).trans (hm4 _), s1_, ?_⟩
        obtain ⟨p1, p2, p3, p4, p5, p6, p7⟩ := put_any (Y := [.ref m0, .ref y]) wo2 hb2' s3 nx hx r01 r02 r03 ny2
        obtain ⟨q1, q2, q3⟩ := p4 _ _ _ _ a0
        exact k _ c0 x m0 y l0 t0 l0 t0 p2 ⟨p5, upd_same, q1, p3, q2.symm, q3.symm, ss _ p1, zl zlc zlm zc0 p6 zm0 p7⟩ e0 e0
end
end K13

set_option maxRecDepth 100000
set_option maxHeartbeats 400000
namespace K13
open PySem PySem.Spec PyProof.Rows L2 GxR Gd TL My
section
variable {P : Program} {w : World} {K : PySem.W.Frag} {mg : Str → Option Value} {base : Heap} {C CS CN CW fS fN : Addr} {fdS fdN : FuncData}
theorem made_new {H : Hp} {x dy : Addr} (nx : H x = none) (ny : H dy = none) : Same H (upd (upd (upd (upd H dy (.own x)) x (.ins C dy [])) x (.ins C dy (putF "_last" (.int 0) []))) x (.ins C dy (cf 0 0))) := fun z o e => by
  have q := ne_of_none e nx
  rw [upd_ne q, upd_ne q, upd_ne q, upd_ne (ne_of_none e ny)]
  exact e
theorem Wo.off {H0 H H' : Hp} {b lc lm c0 c1 m0 m1 : Addr} {n l0 t0 l1 t1 : Int} (wo : Wo C H0 H lc lm c0 c1 m0 m1 l0 t0 l1 t1) (hb : Bx b n H) (zb : H0 b = none) (off : ∀ x, x ≠ b → H' x = H x) : Wo C H0 H' lc lm c0 c1 m0 m1 l0 t0 l1 t1 := by
  obtain ⟨x', y, z, q, r⟩ := hb
  have up : ∀ x o, (∀ y z, o ≠ .lst [.ref y, .ref z]) → (∀ x y z, o ≠ .lst [.int x, .int y, .int z]) → H x = some o → H' x = some o := fun x o _ no e => by
    rw [off x (ne_of e q (no x' y z))]
    exact e
  exact ⟨(off _ (ne_of wo.hc q (by intro z; cases z))).trans wo.hc, (off _ (ne_of wo.hm q (by intro z; cases z))).trans wo.hm, wo.a0.ko (b := b) (lc := lc) (lm := lm) up, wo.a1.ko (b := b) (lc := lc) (lm := lm) up, wo.n1, wo.n2,
    fun x o e => (off x (ne_of_none e zb)).trans (wo.s0 x o e), wo.z⟩
theorem Wo.deed0 {H0 H H' : Hp} {b lc lm c0 c1 m0 m1 : Addr} {n l0 t0 l1 t1 l t : Int} (wo : Wo C H0 H lc lm c0 c1 m0 m1 l0 t0 l1 t1) (hb : Bx b n H) (zb : H0 b = none) (kc : KC b c0 m0 H H') (co : Co C H' c0 m0 l t) :
    Wo C H0 H' lc lm c0 c1 m0 m1 l t l1 t1 := by
  obtain ⟨x', y, z, q, r⟩ := hb
  obtain ⟨⟨d0, e0⟩, g0, _⟩ := id wo.a0
  obtain ⟨⟨d1, e1⟩, g1, r1, r2, r3⟩ := id wo.a1
  have zz := wo.z
  refine ⟨kc _ _ ?_ ?_ ?_ wo.hc, kc _ _ ?_ ?_ ?_ wo.hm, co, ⟨⟨d1, kc _ _ ?_ wo.n1.symm ?_ e1⟩, kc _ _ ?_ ?_ wo.n2.symm g1, r1, r2, r3⟩, wo.n1, wo.n2, fun x o e => kc x o (ne_of_none e zb) (ne_of_none e (zz _ (by simp))) (ne_of_none e (zz _ (by simp))) (wo.s0 x o e), zz⟩
  · exact ne_of wo.hc q (by intro z; cases z)
  · exact ne_of wo.hc e0 (by intro z; cases z)
  · exact ne_of wo.hc g0 (by intro z; cases z)
  · exact ne_of wo.hm q (by intro z; cases z)
  · exact ne_of wo.hm e0 (by intro z; cases z)
  · exact ne_of wo.hm g0 (by intro z; cases z)
  · exact ne_of e1 q (by intro z; cases z)
  · exact ne_of e1 g0 (by intro z; cases z)
  · exact ne_of g1 q (by intro z; cases z)
  · exact ne_of g1 e0 (by intro z; cases z)
theorem Wo.deed1 {H0 H H' : Hp} {b lc lm c0 c1 m0 m1 : Addr} {n l0 t0 l1 t1 l t : Int} (wo : Wo C H0 H lc lm c0 c1 m0 m1 l0 t0 l1 t1) (hb : Bx b n H) (zb : H0 b = none) (kc : KC b c1 m1 H H') (co : Co C H' c1 m1 l t) :
    Wo C H0 H' lc lm c0 c1 m0 m1 l0 t0 l t := by
  obtain ⟨x', y, z, q, r⟩ := hb
  obtain ⟨⟨d0, e0⟩, g0, r1, r2, r3⟩ := id wo.a0
  obtain ⟨⟨d1, e1⟩, g1, _⟩ := id wo.a1
  have zz := wo.z
  refine ⟨kc _ _ ?_ ?_ ?_ wo.hc, kc _ _ ?_ ?_ ?_ wo.hm, ⟨⟨d0, kc _ _ ?_ wo.n1 ?_ e0⟩, kc _ _ ?_ ?_ wo.n2 g0, r1, r2, r3⟩, co, wo.n1, wo.n2, fun x o e => kc x o (ne_of_none e zb) (ne_of_none e (zz _ (by simp))) (ne_of_none e (zz _ (by simp))) (wo.s0 x o e), zz⟩
  · exact ne_of wo.hc q (by intro z; cases z)
  · exact ne_of wo.hc e1 (by intro z; cases z)
  · exact ne_of wo.hc g1 (by intro z; cases z)
  · exact ne_of wo.hm q (by intro z; cases z)
  · exact ne_of wo.hm e1 (by intro z; cases z)
  · exact ne_of wo.hm g1 (by intro z; cases z)
  · exact ne_of e0 q (by intro z; cases z)
  · exact ne_of e0 g1 (by intro z; cases z)
  · exact ne_of g0 q (by intro z; cases z)
  · exact ne_of g0 e1 (by intro z; cases z)
abbrev s_law : Stmt := top 17
theorem sc_law : FnScope ["_law_script", "_law_counts", "_law_models", "_law_many", "_law_quiet", "_law_k", "_law_box_here", "_law_turn", "_law_at"] ["_law_script"] (defScope s_law) := ⟨rfl, rfl, rfl, by decide +kernel, rfl, by decide +kernel, by decide +kernel⟩
def spLaw (K : PySem.W.Frag) : Sp := fun vs H Q _ => ∃ (a : Addr) (ns : List Int), vs = [.ref a] ∧ SqL K H a (ns.map V.int) ∧ SmAt H ∧ ns.length ≤ 63 ∧ ∀ H', Q (.bl true) H'
theorem ok_law {f fI f1 f2 f3 f4 f5 f6 : Addr} {fd fdI fd1 fd2 fd3 fd4 fd5 fd6 : FuncData} (F : Fun K "law" "law" s_law f fd) (T : Txt mg) (gC : mg "Count" = some (.ref C)) (M : Mk K C fI)
    (GI : FnOk P w K mg base CX0 1 fI fdI ["self"] (spInit C)) (bI : Binds K fdI ["self"] [])
    (Glaw_cell : FnOk P w K mg base CX0 1 f1 fd1 ["_law_script", "_law_k"] (spCell K)) (Nlaw_cell : Fn K mg "_law_cell" sCell ["_law_script", "_law_k"] f1 fd1)
    (Glaw_box : FnOk P w K mg base CX0 1 f2 fd2 ["_law_cell_here"] spBox) (Nlaw_box : Fn K mg "_law_box" sBox ["_law_cell_here"] f2 fd2)
    (Glaw_take : FnOk P w K mg base CX0 1 f3 fd3 ["_law_box_here", "_law_many"] spTake) (Nlaw_take : Fn K mg "_law_take" sTake ["_law_box_here", "_law_many"] f3 fd3)
    (Glaw_both_right : GOk P w K mg base CX0 3 f4 fd4 ["_law_counts", "_law_models"] (spBoth C)) (Nlaw_both_right : Fn K mg "_law_both_right" s_law_both_right ["_law_counts", "_law_models"] f4 fd4)
    (Glaw_deed : GOk P w K mg base CX0 7 f5 fd5 ["_law_box_here", "_law_count", "_law_model"] (spDeed C)) (Nlaw_deed : Fn K mg "_law_deed" s_law_deed ["_law_box_here", "_law_count", "_law_model"] f5 fd5)
    (Glaw_other : FnOk P w K mg base CX0 4 f6 fd6 ["_law_box_here", "_law_counts", "_law_models"] (spOther C)) (Nlaw_other : Fn K mg "_law_other" s_law_other ["_law_box_here", "_law_counts", "_law_models"] f6 fd6) :
    GOk P w K mg base CX0 8 f fd ["_law_script"] (spLaw K) := by
  refine gok F sc_law (fun vs H Q E h => ?_) (fun cdv A outer s H vs Q E gd hr h => ?_)
  · obtain ⟨a, ns, rfl, _⟩ := h
    rfl
  · obtain ⟨a, ns, rfl, hS, sm, hl, k⟩ := h
    refine ⟨_, pss_cons (ps_set (i := 1) sc_law.nd rfl (Or.inl rfl) (pe_lst (pa_cons (pe_make0 M GI (hr.mono (by decide)) (by rfl) gC bI .nil pass0) (pa_cons (pe_make0 M GI (hr.mono (by decide)) (by rfl) gC bI .nil pass0) pa_nil))))
      (pss_cons (ps_set (i := 2) sc_law.nd rfl (Or.inl rfl) (pe_lst (pa_cons (pe_lst (pa_cons pe_int (pa_cons pe_int pa_nil))) (pa_cons (pe_lst (pa_cons pe_int (pa_cons pe_int pa_nil))) pa_nil))))
      (pss_cons (ps_set (i := 3) sc_law.nd rfl (Or.inl rfl) (pe_callB (call_max2 rfl) (by rfl) T.max_ (by decide +kernel) (pa_cons pe_int (pa_cons (pe_callB (call_min2 rfl) (by rfl) T.min_ (by decide +kernel) (pa_cons pe_int (pa_cons (pe_callB call_len_seq (by rfl) T.len_ PySem.boot_len (pa_cons (pv 0) pa_nil)) pa_nil))) pa_nil))))
      (pss_cons (ps_set (i := 4) sc_law.nd rfl (Or.inl rfl) (pe_cmpR op_eq (pe_call Glaw_take (hr.mono (by decide)) (by rfl) Nlaw_take.g Nlaw_take.kp Nlaw_take.b .nil pass0 (pa_cons (pe_call Glaw_box (hr.mono (by decide)) (by rfl) Nlaw_box.g Nlaw_box.kp Nlaw_box.b .nil pass0 (pa_cons (pe_call Glaw_cell (hr.mono (by decide)) (by rfl) Nlaw_cell.g Nlaw_cell.kp Nlaw_cell.b .nil pass0 (pa_cons (pv 0) (pa_cons (pe_op op_sub (pv 3) pe_int) pa_nil))) pa_nil)) (pa_cons pe_int pa_nil))) pe_int (nomark _)))
      (pss_cons (ps_for PassesOwn.never rfl (pi_range1 (by rfl) T.range_ (pa_cons (pv 3) pa_nil)) (pg_name (i := 5) sc_law.nd rfl (Or.inl rfl)) (pss_cons (ps_set (i := 6) sc_law.nd rfl (Or.inl rfl) (pe_call Glaw_box (hr.mono (by decide)) (by rfl) Nlaw_box.g Nlaw_box.kp Nlaw_box.b .nil pass0 (pa_cons (pe_call Glaw_cell (hr.mono (by decide)) (by rfl) Nlaw_cell.g Nlaw_cell.kp Nlaw_cell.b .nil pass0 (pa_cons (pv 0) (pa_cons (pv 5) pa_nil))) pa_nil)))
          (pss_one (ps_for PassesOwn.never rfl (pi_range1 (by rfl) T.range_ (pa_cons (pe_op op_add pe_int (pe_call Glaw_take (hr.mono (by decide)) (by rfl) Nlaw_take.g Nlaw_take.kp Nlaw_take.b .nil pass0 (pa_cons (pv 6) (pa_cons pe_int pa_nil)))) pa_nil)) (pg_name (i := 7) sc_law.nd rfl (Or.inl rfl)) (pss_cons (ps_if (pt_cmpR op_eq (pe_call Glaw_take (hr.mono (by decide)) (by rfl) Nlaw_take.g Nlaw_take.kp Nlaw_take.b .nil pass0 (pa_cons (pv 6) (pa_cons pe_int pa_nil))) pe_int (nomark _)) (pss_one (ps_expr (pe_call Glaw_other (hr.mono (by decide)) (by rfl) Nlaw_other.g Nlaw_other.kp Nlaw_other.b .nil pass0 (pa_cons (pv 6) (pa_cons (pv 1) (pa_cons (pv 2) pa_nil)))))) pss_nil)
              (pss_cons (ps_set (i := 8) sc_law.nd rfl (Or.inl rfl) (pe_call Glaw_take (hr.mono (by decide)) (by rfl) Nlaw_take.g Nlaw_take.kp Nlaw_take.b .nil pass0 (pa_cons (pv 6) (pa_cons pe_int pa_nil))))
              (pss_cons (ps_if (pt_not (pt_val (pe_gcall gd Glaw_deed (hr.mono (by decide)) (by rfl) Nlaw_deed.g Nlaw_deed.kp Nlaw_deed.b .nil pass0 (pa_cons (pv 6) (pa_cons (pe_ix ix_list (pv 1) (pv 8) (fun _ _ => rfl)) (pa_cons (pe_ix ix_list (pv 2) (pv 8) (fun _ _ => rfl)) pa_nil)))))) (pss_one (ps_ret pe_bl)) pss_nil)
              (pss_one (ps_if (PW.pt (pw_and (pt_not (pt_val (pv 4))) (pw_and1 (pt_not (pt_val (pe_gcall gd Glaw_both_right (hr.mono (by decide)) (by rfl) Nlaw_both_right.g Nlaw_both_right.kp Nlaw_both_right.b .nil pass0 (pa_cons (pv 1) (pa_cons (pv 2) pa_nil)))))))) (pss_one (ps_ret pe_bl)) pss_nil)))))))))
      (pss_one (ps_ret (pe_gcall gd Glaw_both_right (hr.mono (by decide)) (by rfl) Nlaw_both_right.g Nlaw_both_right.kp Nlaw_both_right.b .nil pass0 (pa_cons (pv 1) (pa_cons (pv 2) pa_nil))))))))), ?_⟩
    intro c0 dy0 nc0 nd0 _
    refine ⟨c0, dy0, rfl, upd_same, rfl, ?_⟩
    have s1 : Same H _ := made_new (C := C) nc0 nd0
    have e0 : upd (upd (upd (upd H dy0 (.own c0)) c0 (.ins C dy0 [])) c0 (.ins C dy0 (putF "_last" (.int 0) []))) c0 (.ins C dy0 (cf 0 0)) c0 = some (.ins C dy0 (cf 0 0)) := upd_same
    generalize upd (upd (upd (upd H dy0 (.own c0)) c0 (.ins C dy0 [])) c0 (.ins C dy0 (putF "_last" (.int 0) []))) c0 (.ins C dy0 (cf 0 0)) = H1 at s1 e0 ⊢
    intro c1 dy1 nc1 nd1 _
    refine ⟨c1, dy1, rfl, upd_same, rfl, (by show 2 ≤ sizeLine; decide), ?_⟩
    have s2 : Same H1 _ := made_new (C := C) nc1 nd1
    have e1 : upd (upd (upd (upd H1 dy1 (.own c1)) c1 (.ins C dy1 [])) c1 (.ins C dy1 (putF "_last" (.int 0) []))) c1 (.ins C dy1 (cf 0 0)) c1 = some (.ins C dy1 (cf 0 0)) := upd_same
    generalize upd (upd (upd (upd H1 dy1 (.own c1)) c1 (.ins C dy1 [])) c1 (.ins C dy1 (putF "_last" (.int 0) []))) c1 (.ins C dy1 (cf 0 0)) = H2 at s2 e1 ⊢
    have n01 : c0 ≠ c1 := ne_of_none e0 nc1
    have e02 := s2 _ _ e0
    have z1 : H c1 = none := s1.free nc1
    intro lc nlc
    have zlc : H lc = none := s1.free (s2.free nlc)
    have s3 : Same H2 (upd H2 lc (.lst [.ref c0, .ref c1])) := same_new nlc
    have hlc : upd H2 lc (.lst [.ref c0, .ref c1]) lc = some (.lst [.ref c0, .ref c1]) := upd_same
    generalize upd H2 lc (.lst [.ref c0, .ref c1]) = H3 at s3 hlc ⊢
    refine ⟨(by show 2 ≤ sizeLine; decide), fun m0 nm0 => ?_⟩
    have s4 : Same H3 (upd H3 m0 (.lst [.int 0, .int 0])) := same_new nm0
    have g0 : upd H3 m0 (.lst [.int 0, .int 0]) m0 = some (.lst [.int 0, .int 0]) := upd_same
    have zm0 : H m0 = none := s1.free (s2.free (s3.free nm0))
    generalize upd H3 m0 (.lst [.int 0, .int 0]) = H4 at s4 g0 ⊢
    refine ⟨(by show 2 ≤ sizeLine; decide), fun m1 nm1 => ?_⟩
    have s5 : Same H4 (upd H4 m1 (.lst [.int 0, .int 0])) := same_new nm1
    have g1 : upd H4 m1 (.lst [.int 0, .int 0]) m1 = some (.lst [.int 0, .int 0]) := upd_same
    have zm1 : H m1 = none := s1.free (s2.free (s3.free (s4.free nm1)))
    have m01 : m0 ≠ m1 := ne_of_none g0 nm1
    generalize upd H4 m1 (.lst [.int 0, .int 0]) = H5 at s5 g1 ⊢
    refine ⟨(by show 2 ≤ sizeLine; decide), fun lm nlm => ?_⟩
    have s6 : Same H5 (upd H5 lm (.lst [.ref m0, .ref m1])) := same_new nlm
    have hlm : upd H5 lm (.lst [.ref m0, .ref m1]) lm = some (.lst [.ref m0, .ref m1]) := upd_same
    have zlm : H lm = none := s1.free (s2.free (s3.free (s4.free (s5.free nlm))))
    generalize upd H5 lm (.lst [.ref m0, .ref m1]) = H6 at s6 hlm ⊢
    have sA : Same H H6 := s1.trans (s2.trans (s3.trans (s4.trans (s5.trans s6))))
    have wo : Wo C H H6 lc lm c0 c1 m0 m1 0 0 0 0 := ⟨s6 _ _ (s5 _ _ (s4 _ _ hlc)), hlm,
      ⟨⟨dy0, s6 _ _ (s5 _ _ (s4 _ _ (s3 _ _ e02)))⟩, s6 _ _ (s5 _ _ g0), by decide, by decide, by decide⟩, ⟨⟨dy1, s6 _ _ (s5 _ _ (s4 _ _ (s3 _ _ e1)))⟩, s6 _ _ g1, by decide, by decide, by decide⟩, n01, m01, sA, zl zlc zlm nc0 z1 zm0 zm1⟩
    clear s1 s2 s3 s4 s5 s6 e0 e1 e02 g0 g1 hlc hlm nlc nlm nm0 nm1 nc1 nd1 sA n01 m01 nd0
    have hlen : (ns.map V.int).length = ns.length := List.length_map ..
    refine ⟨_, rfl, a, _, rfl, .inl (wo.s0.seq hS), _, _, rfl, _, _, rfl, ?_⟩
    obtain ⟨N, hN, N2, N50⟩ : ∃ N : Nat, (if (if (((ns.map V.int).length : Nat) : Int) < 50 then (((ns.map V.int).length : Nat) : Int) else 50) > 2 then (if (((ns.map V.int).length : Nat) : Int) < 50 then (((ns.map V.int).length : Nat) : Int) else 50) else 2) = (N : Int) ∧ 2 ≤ N ∧ N ≤ 50 := by
      rw [hlen]
      refine ⟨max 2 (min 50 ns.length), ?_, by omega, by omega⟩
      split <;> split <;> omega
    rw [hN]
    refine ⟨_, rfl, _, rfl, _, _, rfl, rfl, a, ns, N - 1, ?_, wo.s0.seq hS, fun cell => ?_⟩
    · show [V.ref a, V.int ((N : Int) - 1)] = [V.ref a, V.int ((N - 1 : Nat) : Int)]
      rw [show ((N : Int) - 1) = ((N - 1 : Nat) : Int) by omega]
    refine ⟨cell, rfl, fun b1 H7 nb1 off1 hb1 => ?_⟩
    have s7 : Same H6 H7 := fun x o e => (off1 x (ne_of_none e nb1)).trans e
    refine ⟨b1, 2, 0, rfl, hb1, by omega, by decide, by decide, fun quiet H8 q0 q1 off2 hb2 => ?_⟩
    have s8 : Same H6 H8 := fun x o e => (off2 x (ne_of_none e nb1)).trans (s7 x o e)
    have wo8 : Wo C H H8 lc lm c0 c1 m0 m1 0 0 0 0 := ⟨s8 _ _ wo.hc, s8 _ _ wo.hm, wo.a0.same s8, wo.a1.same s8, wo.n1, wo.n2, wo.s0.trans s8, wo.z⟩
    clear wo s7 s8 off1 off2 hb1 hb2
    refine ⟨rfl, ?_⟩
    generalize decide (V.int quiet = V.int 0) = bq
    refine ⟨_, rfl, _, rfl, by omega, by omega, for_range (lo := 0) (n := N) (fun i σ H' => ∃ (v5 v6 v7 v8 : Option V) (c0 c1 m0 m1 : Addr) (l0 t0 l1 t1 : Int), σ = [some (.ref a), some (.ref lc), some (.ref lm), some (.int (N : Int)), some (.bl bq), v5, v6, v7, v8] ∧
      Wo C H H' lc lm c0 c1 m0 m1 l0 t0 l1 t1 ∧ l0 ≤ 5 * i ∧ l1 ≤ 5 * i) ⟨_, _, _, _, c0, c1, m0, m1, 0, 0, 0, 0, rfl, wo8, by omega, by omega⟩ ?_ ?_⟩
    · clear wo8 nc0 z1 zm0 zm1
      rintro i σ H1 hi ⟨v5, v6, v7, v8, c0, c1, m0, m1, l0, t0, l1, t1, rfl, wo, L0, L1⟩
      refine ⟨_, rfl, _, rfl, a, ns, i, ?_, wo.s0.seq hS, fun cell => ?_⟩
      · show [V.ref a, V.int (0 + (i : Int))] = [V.ref a, V.int i]
        rw [Int.zero_add]
      refine ⟨cell, rfl, fun b H2 nb off hb => ?_⟩
      have zb : H b = none := wo.s0.free nb
      have s2 : Same H1 H2 := fun x o e => (off x (ne_of_none e nb)).trans e
      have wo2 : Wo C H H2 lc lm c0 c1 m0 m1 l0 t0 l1 t1 := ⟨s2 _ _ wo.hc, s2 _ _ wo.hm, wo.a0.same s2, wo.a1.same s2, wo.n1, wo.n2, wo.s0.trans s2, wo.z⟩
      clear wo s2 off nb
      refine ⟨_, rfl, b, 5, 0, rfl, hb, by omega, by decide, by decide, fun d H3 d0 d1 off3 hb3 => ?_⟩
      have wo3 := wo2.off hb zb off3
      clear wo2 hb off3
      obtain ⟨D, rfl⟩ := Int.eq_ofNat_of_zero_le d0
      have eD : ((1 : Int) + (D : Int)).toNat = 1 + D := by omega
      refine ⟨_, _, rfl, rfl, _, rfl, by omega, by omega, ?_⟩
      rw [eD]
      refine for_range (lo := 0) (n := 1 + D) (fun j σ H' => ∃ (v7 v8 : Option V) (c0 c1 m0 m1 : Addr) (l0 t0 l1 t1 : Int), σ = [some (.ref a), some (.ref lc), some (.ref lm), some (.int (N : Int)), some (.bl bq), some (.int (0 + (i : Int))), some (.ref b), v7, v8] ∧
        Wo C H H' lc lm c0 c1 m0 m1 l0 t0 l1 t1 ∧ Bx b (1 + 8 * j) H' ∧ l0 ≤ 5 * i + j ∧ l1 ≤ 5 * i + j) ⟨_, _, c0, c1, m0, m1, l0, t0, l1, t1, rfl, wo3, hb3.mono (by omega), by omega, by omega⟩ ?_ ?_
      · clear wo3 hb3 L0 L1
        rintro j σ H4 hj ⟨v7, v8, c0, c1, m0, m1, l0, t0, l1, t1, rfl, wo, hb, L0, L1⟩
        have hi' : i < N := hi
        refine ⟨_, rfl, b, 8, 1 + 8 * j, rfl, hb, by omega, by decide, by decide, fun d1 H5 _ _ off5 hb5 => ?_⟩
        have wo5 := wo.off hb zb off5
        clear wo hb off5
        refine (fun (rest : ∀ (H6 : Hp) (c0 c1 m0 m1 : Addr) (l0 t0 l1 t1 : Int), Wo C H H6 lc lm c0 c1 m0 m1 l0 t0 l1 t1 → Bx b (1 + 8 * j + 3) H6 → l0 ≤ 5 * i + j → l1 ≤ 5 * i + j → (?G : Hp → Prop) H6) => ?main) ?last
        case main =>
          refine ⟨rfl, _, rfl, ite2 (fun e5 => ?_) (fun e5 => ?_)⟩
          · refine ⟨_, rfl, _, rfl, _, rfl, H, b, lc, lm, c0, c1, m0, m1, 1 + 8 * j + 1, l0, t0, l1, t1, 5 * i + j, rfl, hb5, by omega, zb, wo5, by omega, L0, L1, fun H6 c0' c1' m0' m1' l0' t0' l1' t1' hb6 wo6 r0 r1 => ?_⟩
            exact rest H6 c0' c1' m0' m1' l0' t0' l1' t1' wo6 (hb6.mono (by omega)) r0 r1
          · exact rest H5 c0 c1 m0 m1 l0 t0 l1 t1 wo5 (hb5.mono (by omega)) L0 L1
        clear wo5 hb5 L0 L1
        intro H6 c0 c1 m0 m1 l0 t0 l1 t1 wo hb L0 L1
        refine ⟨_, rfl, b, 2, 1 + 8 * j + 3, rfl, hb, by omega, by decide, by decide, fun d H7 w0 w1 off7 hb7 => ?_⟩
        have wo7 := wo.off hb zb off7
        clear wo hb off7
        have nbm : ∀ {m : Addr} {l t : Int}, H7 m = some (.lst [.int l, .int t]) → b ≠ m := fun e => by
          obtain ⟨x, y, z, q, r⟩ := hb7
          exact ne_of q e (by intro z; cases z)
        refine' cutR (G := _) (fun H8 => ∃ l0 t0 l1 t1 : Int, Wo C H H8 lc lm c0 c1 m0 m1 l0 t0 l1 t1 ∧ Bx b (1 + 8 * j + 8) H8 ∧ l0 ≤ 5 * i + j + 1 ∧ l1 ≤ 5 * i + j + 1) (fun rest => ?main2) ?last2
        case main2 =>
          rcases (by omega : d = 0 ∨ d = 1) with ed | ed
          · have y0 : atI [V.ref c0, .ref c1] d = some (.ref c0) := by rw [ed]; rfl
            have z0 : atI [V.ref m0, .ref m1] d = some (.ref m0) := by rw [ed]; rfl
            refine ⟨_, rfl, _, rfl, _, rfl, lc, _, _, _, rfl, rfl, SqL.of wo7.hc, y0, _, rfl, _, rfl, lm, _, _, _, rfl, rfl, SqL.of wo7.hm, z0, b, c0, m0, 1 + 8 * j + 4, l0, t0, rfl, hb7.mono (by omega), by omega, nbm wo7.a0.md, sm.same wo7.s0, wo7.a0, by omega, fun H8 l' t' kc hb8 co hl8 => ?_⟩
            refine ⟨_, rfl, iteF ?_⟩
            exact rest H8 ⟨l', t', l1, t1, wo7.deed0 hb7 zb kc co, hb8.mono (by omega), by omega, by omega⟩
          · have y0 : atI [V.ref c0, .ref c1] d = some (.ref c1) := by rw [ed]; rfl
            have z0 : atI [V.ref m0, .ref m1] d = some (.ref m1) := by rw [ed]; rfl
            refine ⟨_, rfl, _, rfl, _, rfl, lc, _, _, _, rfl, rfl, SqL.of wo7.hc, y0, _, rfl, _, rfl, lm, _, _, _, rfl, rfl, SqL.of wo7.hm, z0, b, c1, m1, 1 + 8 * j + 4, l1, t1, rfl, hb7.mono (by omega), by omega, nbm wo7.a1.md, sm.same wo7.s0, wo7.a1, by omega, fun H8 l' t' kc hb8 co hl8 => ?_⟩
            refine ⟨_, rfl, iteF ?_⟩
            exact rest H8 ⟨l0, t0, l', t', wo7.deed1 hb7 zb kc co, hb8.mono (by omega), by omega, by omega⟩
        clear wo7 hb7 L0 L1 nbm
        rintro H8 ⟨l0, t0, l1, t1, wo, hb, L0, L1⟩
        have nxt : ∀ H9, Same H8 H9 → ∃ (v7 v8 : Option V) (c0 c1 m0 m1 : Addr) (l0 t0 l1 t1 : Int), ([some (.ref a), some (.ref lc), some (.ref lm), some (.int (N : Int)), some (.bl bq), some (.int (0 + (i : Int))), some (.ref b), some (.int (0 + (j : Int))), some (.int d)] : L2.St) = [some (.ref a), some (.ref lc), some (.ref lm), some (.int (N : Int)), some (.bl bq), some (.int (0 + (i : Int))), some (.ref b), v7, v8] ∧
            Wo C H H9 lc lm c0 c1 m0 m1 l0 t0 l1 t1 ∧ Bx b (1 + 8 * (j + 1 : Nat)) H9 ∧ l0 ≤ 5 * i + (j + 1 : Nat) ∧ l1 ≤ 5 * i + (j + 1 : Nat) := fun H9 s9 => by
          obtain ⟨x, y, z, q, r1, r2, r3, r4, r5⟩ := hb
          exact ⟨_, _, c0, c1, m0, m1, l0, t0, l1, t1, rfl, ⟨s9 _ _ wo.hc, s9 _ _ wo.hm, wo.a0.same s9, wo.a1.same s9, wo.n1, wo.n2, wo.s0.trans s9, wo.z⟩, ⟨x, y, z, s9 _ _ q, r1, r2, r3, r4, by omega⟩, by omega, by omega⟩
        cases bq with
        | true =>
          refine ⟨_, rfl, _, rfl, iteF (iteF ?_)⟩
          exact nxt H8 (Same.refl _)
        | false =>
          refine ⟨_, rfl, _, rfl, iteT ?_⟩
          refine ⟨_, rfl, _, rfl, lc, lm, c0, c1, m0, m1, l0, t0, l1, t1, rfl, wo.hc, wo.hm, wo.a0, wo.a1, fun H9 s9 => ?_⟩
          refine ⟨_, rfl, iteF ?_⟩
          exact nxt H9 s9
      · rintro σ H4 ⟨v7, v8, c0, c1, m0, m1, l0, t0, l1, t1, rfl, wo, hb, L0, L1⟩
        exact ⟨_, _, _, _, c0, c1, m0, m1, l0, t0, l1, t1, rfl, wo, by omega, by omega⟩
    · rintro σ H1 ⟨v5, v6, v7, v8, c0, c1, m0, m1, l0, t0, l1, t1, rfl, wo, L0, L1⟩
      exact ⟨_, rfl, _, rfl, lc, lm, c0, c1, m0, m1, l0, t0, l1, t1, rfl, wo.hc, wo.hm, wo.a0, wo.a1, fun H' _ => k H'⟩
end
end K13

set_option maxRecDepth 100000
set_option maxHeartbeats 4000000
namespace K13
open PySem PySem.Spec PyProof.Rows L2 GxR Gd TL My
theorem all_mk {l : PySem.W.OpenLaw} {w : World} {K : PySem.W.Frag} {h : Heap} {mg : Str → Option Value} {fa C CN fse fnn fwh fin fout fthr fall flast ftold fclear ftwin fcell fbox ftake fright fboth fref fdeed fother flaw CS CW : Addr}
    (X : K.In h) (G : h.Ns mainGlobals mg) (hfa : mg "law" = some (.ref fa))
    {nmCN qCN : Str} {NCN : Addr} {bsCN : List Value} {snCN : List Str} {subCN : List Value} {abCN : Bool} {colCN : Option Bool} {ddCN : Option Addr} {m0CN m1CN m2CN m3CN m5CN : Option Value} {odse anse : Option Addr} {slse : Array (Option Value)} {ocse kVse dcse pmse cdse ctse : Value} {odnn annn : Option Addr} {slnn : Array (Option Value)} {ocnn kVnn dcnn pmnn cdnn ctnn : Value} {odwh anwh : Option Addr} {slwh : Array (Option Value)} {ocwh kVwh dcwh pmwh cdwh ctwh : Value} {odin anin : Option Addr} {slin : Array (Option Value)} {ocin kVin dcin pmin cdin ctin : Value} {odout anout : Option Addr} {slout : Array (Option Value)} {ocout kVout dcout pmout cdout ctout : Value} {odthr anthr : Option Addr} {slthr : Array (Option Value)} {octhr kVthr dcthr pmthr cdthr ctthr : Value} {odall anall : Option Addr} {slall : Array (Option Value)} {ocall kVall dcall pmall cdall ctall : Value} {odlast anlast : Option Addr} {sllast : Array (Option Value)} {oclast kVlast dclast pmlast cdlast ctlast : Value} {odtold antold : Option Addr} {sltold : Array (Option Value)} {octold kVtold dctold pmtold cdtold cttold : Value} {odclear anclear : Option Addr} {slclear : Array (Option Value)} {occlear kVclear dcclear pmclear cdclear ctclear : Value} {odtwin antwin : Option Addr} {sltwin : Array (Option Value)} {octwin kVtwin dctwin pmtwin cdtwin cttwin : Value} {odcell ancell : Option Addr} {slcell : Array (Option Value)} {occell kVcell dccell pmcell cdcell ctcell : Value} {odbox anbox : Option Addr} {slbox : Array (Option Value)} {ocbox kVbox dcbox pmbox cdbox ctbox : Value} {odtake antake : Option Addr} {sltake : Array (Option Value)} {octake kVtake dctake pmtake cdtake cttake : Value} {odright anright : Option Addr} {slright : Array (Option Value)} {ocright kVright dcright pmright cdright ctright : Value} {odboth anboth : Option Addr} {slboth : Array (Option Value)} {ocboth kVboth dcboth pmboth cdboth ctboth : Value} {odref anref : Option Addr} {slref : Array (Option Value)} {ocref kVref dcref pmref cdref ctref : Value} {oddeed andeed : Option Addr} {sldeed : Array (Option Value)} {ocdeed kVdeed dcdeed pmdeed cddeed ctdeed : Value} {odother another : Option Addr} {slother : Array (Option Value)} {ocother kVother dcother pmother cdother ctother : Value} {odlaw anlaw : Option Addr} {sllaw : Array (Option Value)} {oclaw kVlaw dclaw pmlaw cdlaw ctlaw : Value}
    (aC : PySem.W.nsIn K mainGlobals "Count" = some (some (.ref C))) (pgC : PySem.W.plainGet K C Str.empty = true) (hdC : PySem.W.hasDictIn K C = true) (poC : PySem.W.plainOver K C = true) (saC : PySem.W.findIn K (.ref C) "__setattr__" = some (some (.builtin "object.__setattr__"))) (mkC : PySem.W.makesIn K C = true) (kcC : PySem.W.keepIn K (.ref C) = true) (n0C : PySem.W.findIn K (.ref C) "_last" = some none) (n1C : PySem.W.findIn K (.ref C) "_told" = some none) (aCN : PySem.W.nsIn K mainGlobals "NoNumber" = some (some (.ref CN))) (xlCN : K.lookup CN = some (excClassObj nmCN qCN CN NCN bsCN [.ref CS, .type "ValueError", .type "Exception", .type "BaseException", .type "object"] true snCN subCN abCN colCN ddCN m0CN m1CN m2CN m3CN m5CN "ValueError.__new__")) (saCN : PySem.W.findIn K (.ref CN) "__setattr__" = some (some (.builtin "object.__setattr__"))) (gaCN : PySem.W.findIn K (.ref CN) "__getattribute__" = some (some (.builtin "BaseException.__getattribute__"))) (ggCN : PySem.W.findIn K (.ref CN) "__getattr__" = some none) (kcCN : PySem.W.keepIn K (.ref CN) = true) (exCN : PySem.W.subIn K (.ref CN) (.type "BaseException") = some true) (tyCN : PySem.W.typeIn K (.ref CN) = some (.type "type")) (hdCN : PySem.W.hasDictIn K CN = true) (icCN : PySem.W.isClsIn K CN = true) (coCN : PySem.W.findIn K (.ref CN) "__class__" = some (some (.builtin "object.__class__"))) (moCN : PySem.W.mroIn K CN (.type "object") = some true) (n0CN : PySem.W.findIn K (.ref CN) "found" = some none) (ase : PySem.W.findIn K (.ref CS) "__init__" = some (some (.ref fse))) (ise : PySem.W.isFn K (.ref fse) = true) (lse : K.lookup fse = some ⟨ocse, odse, .func (PySem.W.fnOf "__init__" "StaffError.__init__" (defArgs sSE) (defBody sSE) (defScope sSE) .none kVse dcse pmse anse cdse ctse), slse⟩) (cse : PySem.W.codeIn K cdse "StaffError.__init__" = true) (kse : PySem.W.keepIn K (.ref fse) = true) (ann : PySem.W.findIn K (.ref CN) "__init__" = some (some (.ref fnn))) (inn : PySem.W.isFn K (.ref fnn) = true) (lnn : K.lookup fnn = some ⟨ocnn, odnn, .func (PySem.W.fnOf "__init__" "NoNumber.__init__" (defArgs sNN) (defBody sNN) (defScope sNN) .none kVnn dcnn pmnn annn cdnn ctnn), slnn⟩) (cnn : PySem.W.codeIn K cdnn "NoNumber.__init__" = true) (knn : PySem.W.keepIn K (.ref fnn) = true) (awh : PySem.W.nsIn K mainGlobals "is_whole" = some (some (.ref fwh))) (lwh : K.lookup fwh = some ⟨ocwh, odwh, .func (PySem.W.fnOf "is_whole" "is_whole" (defArgs sWhole) (defBody sWhole) (defScope sWhole) .none kVwh dcwh pmwh anwh cdwh ctwh), slwh⟩) (cwh : PySem.W.codeIn K cdwh "is_whole" = true) (kwh : PySem.W.keepIn K (.ref fwh) = true) (ain : PySem.W.findIn K (.ref C) "__init__" = some (some (.ref fin))) (iin : PySem.W.isFn K (.ref fin) = true) (lin : K.lookup fin = some ⟨ocin, odin, .func (PySem.W.fnOf "__init__" "Count.__init__" (defArgs s_init) (defBody s_init) (defScope s_init) .none kVin dcin pmin anin cdin ctin), slin⟩) (cin : PySem.W.codeIn K cdin "Count.__init__" = true) (kin : PySem.W.keepIn K (.ref fin) = true) (aout : PySem.W.findIn K (.ref C) "out" = some (some (.ref fout))) (iout : PySem.W.isFn K (.ref fout) = true) (lout : K.lookup fout = some ⟨ocout, odout, .func (PySem.W.fnOf "out" "Count.out" (defArgs s_out) (defBody s_out) (defScope s_out) .none kVout dcout pmout anout cdout ctout), slout⟩) (cout : PySem.W.codeIn K cdout "Count.out" = true) (kout : PySem.W.keepIn K (.ref fout) = true) (athr : PySem.W.findIn K (.ref C) "through" = some (some (.ref fthr))) (ithr : PySem.W.isFn K (.ref fthr) = true) (lthr : K.lookup fthr = some ⟨octhr, odthr, .func (PySem.W.fnOf "through" "Count.through" (defArgs s_through) (defBody s_through) (defScope s_through) .none kVthr dcthr pmthr anthr cdthr ctthr), slthr⟩) (cthr : PySem.W.codeIn K cdthr "Count.through" = true) (kthr : PySem.W.keepIn K (.ref fthr) = true) (aall : PySem.W.findIn K (.ref C) "all_through" = some (some (.ref fall))) (iall : PySem.W.isFn K (.ref fall) = true) (lall : K.lookup fall = some ⟨ocall, odall, .func (PySem.W.fnOf "all_through" "Count.all_through" (defArgs s_all) (defBody s_all) (defScope s_all) .none kVall dcall pmall anall cdall ctall), slall⟩) (call : PySem.W.codeIn K cdall "Count.all_through" = true) (kall : PySem.W.keepIn K (.ref fall) = true) (alast : PySem.W.findIn K (.ref C) "last" = some (some (.ref flast))) (ilast : PySem.W.isFn K (.ref flast) = true) (llast : K.lookup flast = some ⟨oclast, odlast, .func (PySem.W.fnOf "last" "Count.last" (defArgs s_last) (defBody s_last) (defScope s_last) .none kVlast dclast pmlast anlast cdlast ctlast), sllast⟩) (clast : PySem.W.codeIn K cdlast "Count.last" = true) (klast : PySem.W.keepIn K (.ref flast) = true) (atold : PySem.W.findIn K (.ref C) "told" = some (some (.ref ftold))) (itold : PySem.W.isFn K (.ref ftold) = true) (ltold : K.lookup ftold = some ⟨octold, odtold, .func (PySem.W.fnOf "told" "Count.told" (defArgs s_told) (defBody s_told) (defScope s_told) .none kVtold dctold pmtold antold cdtold cttold), sltold⟩) (ctold : PySem.W.codeIn K cdtold "Count.told" = true) (ktold : PySem.W.keepIn K (.ref ftold) = true) (aclear : PySem.W.findIn K (.ref C) "clear" = some (some (.ref fclear))) (iclear : PySem.W.isFn K (.ref fclear) = true) (lclear : K.lookup fclear = some ⟨occlear, odclear, .func (PySem.W.fnOf "clear" "Count.clear" (defArgs s_clear) (defBody s_clear) (defScope s_clear) .none kVclear dcclear pmclear anclear cdclear ctclear), slclear⟩) (cclear : PySem.W.codeIn K cdclear "Count.clear" = true) (kclear : PySem.W.keepIn K (.ref fclear) = true) (atwin : PySem.W.findIn K (.ref C) "twin" = some (some (.ref ftwin))) (itwin : PySem.W.isFn K (.ref ftwin) = true) (ltwin : K.lookup ftwin = some ⟨octwin, odtwin, .func (PySem.W.fnOf "twin" "Count.twin" (defArgs s_twin) (defBody s_twin) (defScope s_twin) .none kVtwin dctwin pmtwin antwin cdtwin cttwin), sltwin⟩) (ctwin : PySem.W.codeIn K cdtwin "Count.twin" = true) (ktwin : PySem.W.keepIn K (.ref ftwin) = true) (acell : PySem.W.nsIn K mainGlobals "_law_cell" = some (some (.ref fcell))) (lcell : K.lookup fcell = some ⟨occell, odcell, .func (PySem.W.fnOf "_law_cell" "_law_cell" (defArgs sCell) (defBody sCell) (defScope sCell) .none kVcell dccell pmcell ancell cdcell ctcell), slcell⟩) (ccell : PySem.W.codeIn K cdcell "_law_cell" = true) (kcell : PySem.W.keepIn K (.ref fcell) = true) (abox : PySem.W.nsIn K mainGlobals "_law_box" = some (some (.ref fbox))) (lbox : K.lookup fbox = some ⟨ocbox, odbox, .func (PySem.W.fnOf "_law_box" "_law_box" (defArgs sBox) (defBody sBox) (defScope sBox) .none kVbox dcbox pmbox anbox cdbox ctbox), slbox⟩) (cbox : PySem.W.codeIn K cdbox "_law_box" = true) (kbox : PySem.W.keepIn K (.ref fbox) = true) (atake : PySem.W.nsIn K mainGlobals "_law_take" = some (some (.ref ftake))) (ltake : K.lookup ftake = some ⟨octake, odtake, .func (PySem.W.fnOf "_law_take" "_law_take" (defArgs sTake) (defBody sTake) (defScope sTake) .none kVtake dctake pmtake antake cdtake cttake), sltake⟩) (ctake : PySem.W.codeIn K cdtake "_law_take" = true) (ktake : PySem.W.keepIn K (.ref ftake) = true) (aright : PySem.W.nsIn K mainGlobals "_law_right" = some (some (.ref fright))) (lright : K.lookup fright = some ⟨ocright, odright, .func (PySem.W.fnOf "_law_right" "_law_right" (defArgs s_law_right) (defBody s_law_right) (defScope s_law_right) .none kVright dcright pmright anright cdright ctright), slright⟩) (cright : PySem.W.codeIn K cdright "_law_right" = true) (kright : PySem.W.keepIn K (.ref fright) = true) (aboth : PySem.W.nsIn K mainGlobals "_law_both_right" = some (some (.ref fboth))) (lboth : K.lookup fboth = some ⟨ocboth, odboth, .func (PySem.W.fnOf "_law_both_right" "_law_both_right" (defArgs s_law_both_right) (defBody s_law_both_right) (defScope s_law_both_right) .none kVboth dcboth pmboth anboth cdboth ctboth), slboth⟩) (cboth : PySem.W.codeIn K cdboth "_law_both_right" = true) (kboth : PySem.W.keepIn K (.ref fboth) = true) (aref : PySem.W.nsIn K mainGlobals "_law_refused" = some (some (.ref fref))) (lref : K.lookup fref = some ⟨ocref, odref, .func (PySem.W.fnOf "_law_refused" "_law_refused" (defArgs s_law_refused) (defBody s_law_refused) (defScope s_law_refused) .none kVref dcref pmref anref cdref ctref), slref⟩) (cref : PySem.W.codeIn K cdref "_law_refused" = true) (kref : PySem.W.keepIn K (.ref fref) = true) (adeed : PySem.W.nsIn K mainGlobals "_law_deed" = some (some (.ref fdeed))) (ldeed : K.lookup fdeed = some ⟨ocdeed, oddeed, .func (PySem.W.fnOf "_law_deed" "_law_deed" (defArgs s_law_deed) (defBody s_law_deed) (defScope s_law_deed) .none kVdeed dcdeed pmdeed andeed cddeed ctdeed), sldeed⟩) (cdeed : PySem.W.codeIn K cddeed "_law_deed" = true) (kdeed : PySem.W.keepIn K (.ref fdeed) = true) (aother : PySem.W.nsIn K mainGlobals "_law_other" = some (some (.ref fother))) (lother : K.lookup fother = some ⟨ocother, odother, .func (PySem.W.fnOf "_law_other" "_law_other" (defArgs s_law_other) (defBody s_law_other) (defScope s_law_other) .none kVother dcother pmother another cdother ctother), slother⟩) (cother : PySem.W.codeIn K cdother "_law_other" = true) (kother : PySem.W.keepIn K (.ref fother) = true) (alaw : PySem.W.nsIn K mainGlobals "law" = some (some (.ref flaw))) (llaw : K.lookup flaw = some ⟨oclaw, odlaw, .func (PySem.W.fnOf "law" "law" (defArgs s_law) (defBody s_law) (defScope s_law) .none kVlaw dclaw pmlaw anlaw cdlaw ctlaw), sllaw⟩) (claw : PySem.W.codeIn K cdlaw "law" = true) (klaw : PySem.W.keepIn K (.ref flaw) = true) (smN : K.lookup sysModules = none) (aCS : PySem.W.nsIn K mainGlobals "StaffError" = some (some (.ref CS))) (aCW : PySem.W.nsIn K mainGlobals "NoWord" = some (some (.ref CW))) (gaCS : PySem.W.specialIn K (.ref CS) "__getattribute__" = some (some (.builtin "type.__getattribute__"))) (rdCS : PySem.W.readsIn K CS (.type "type") = true) (atCS : PySem.W.findCls K (.ref CS) (.type "type") "__init__" = some (.val (.ref fse))) (vi : PySem.W.findCls K (.type "ValueError") (.type "type") "__init__" = some (.val (.builtin "ValueError.__init__"))) (kw : PySem.W.kitOne K (.ref CN) (.ref CW) = some false) (cg : PySem.W.specialIn K (.builtin "object.__class__") "__get__" = some (some (.builtin "getset_descriptor.__get__"))) (ct : PySem.W.takesIn K (.builtin "object.__class__") = some true) (z0 : PySem.W.nsIn K mainGlobals "isinstance" = some none) (z1 : PySem.W.nsIn K mainGlobals "int" = some none) (z2 : PySem.W.nsIn K mainGlobals "bool" = some none) (z3 : PySem.W.nsIn K mainGlobals "str" = some none) (z4 : PySem.W.nsIn K mainGlobals "len" = some none) (z5 : PySem.W.nsIn K mainGlobals "all" = some none) (z6 : PySem.W.nsIn K mainGlobals "max" = some none) (z7 : PySem.W.nsIn K mainGlobals "min" = some none) (z8 : PySem.W.nsIn K mainGlobals "range" = some none) (z9 : PySem.W.nsIn K mainGlobals "repr" = some none) (z10 : PySem.W.nsIn K mainGlobals "list" = some none) (z11 : PySem.W.nsIn K mainGlobals "tuple" = some none) (z12 : PySem.W.nsIn K mainGlobals "enumerate" = some none) (z13 : PySem.W.nsIn K mainGlobals "sorted" = some none) (z14 : PySem.W.nsIn K mainGlobals "ValueError" = some none) (z15 : PySem.W.nsIn K mainGlobals "dict" = some none) :
    GLawS l w K CX0 8 63 "_law_script" mg fa := by
  have e := hfa.symm.trans (PySem.W.mg_of X G alaw)
  cases e
  have T : Txt mg := ⟨PySem.W.mg_none_of X G z0, PySem.W.mg_none_of X G z1, PySem.W.mg_none_of X G z2, PySem.W.mg_none_of X G z3, PySem.W.mg_none_of X G z4, PySem.W.mg_none_of X G z5, PySem.W.mg_none_of X G z6, PySem.W.mg_none_of X G z7, PySem.W.mg_none_of X G z8, PySem.W.mg_none_of X G z9, PySem.W.mg_none_of X G z10, PySem.W.mg_none_of X G z11, PySem.W.mg_none_of X G z12, PySem.W.mg_none_of X G z13⟩
  have seCN : PySem.W.subIn K (.ref CN) (.ref CN) = some true := My.sub_self (by unfold PySem.W.clsIn; rw [xlCN] <;> rfl) rfl
  have Fse := fun_mk (st := sSE) lse cse kse
  have bse := Fse.binds (ps := ["self", "text"]) fun _ _ _ _ _ _ us hl => match us, hl with | [_, _], _ => rfl
  have Fnn := fun_mk (st := sNN) lnn cnn knn
  have bnn := Fnn.binds (ps := ["self", "found"]) fun _ _ _ _ _ _ us hl => match us, hl with | [_, _], _ => rfl
  have Fwh := fun_mk (st := sWhole) lwh cwh kwh
  have bwh := Fwh.binds (ps := ["thing", "low", "high"]) fun _ _ _ _ _ _ us hl => match us, hl with | [_, _, _], _ => rfl
  have Nwh : Fn K mg "is_whole" sWhole ["thing", "low", "high"] fwh _ := ⟨Fwh, PySem.W.mg_of X G awh, bwh⟩
  have Fin := fun_mk (st := s_init) lin cin kin
  have bin := Fin.binds (ps := ["self"]) fun _ _ _ _ _ _ us hl => match us, hl with | [_], _ => rfl
  have Fout := fun_mk (st := s_out) lout cout kout
  have bout := Fout.binds (ps := ["self"]) fun _ _ _ _ _ _ us hl => match us, hl with | [_], _ => rfl
  have Mout : Me K C "out" "Count.out" s_out ["self"] fout _ := ⟨Fout, ⟨aout, iout, kout⟩, bout⟩
  have Fthr := fun_mk (st := s_through) lthr cthr kthr
  have bthr := Fthr.binds (ps := ["self", "number"]) fun _ _ _ _ _ _ us hl => match us, hl with | [_, _], _ => rfl
  have Mthr : Me K C "through" "Count.through" s_through ["self", "number"] fthr _ := ⟨Fthr, ⟨athr, ithr, kthr⟩, bthr⟩
  have Fall := fun_mk (st := s_all) lall call kall
  have ball := Fall.binds (ps := ["self"]) fun _ _ _ _ _ _ us hl => match us, hl with | [_], _ => rfl
  have Mall : Me K C "all_through" "Count.all_through" s_all ["self"] fall _ := ⟨Fall, ⟨aall, iall, kall⟩, ball⟩
  have Flast := fun_mk (st := s_last) llast clast klast
  have blast := Flast.binds (ps := ["self"]) fun _ _ _ _ _ _ us hl => match us, hl with | [_], _ => rfl
  have Mlast : Me K C "last" "Count.last" s_last ["self"] flast _ := ⟨Flast, ⟨alast, ilast, klast⟩, blast⟩
  have Ftold := fun_mk (st := s_told) ltold ctold ktold
  have btold := Ftold.binds (ps := ["self"]) fun _ _ _ _ _ _ us hl => match us, hl with | [_], _ => rfl
  have Mtold : Me K C "told" "Count.told" s_told ["self"] ftold _ := ⟨Ftold, ⟨atold, itold, ktold⟩, btold⟩
  have Fclear := fun_mk (st := s_clear) lclear cclear kclear
  have bclear := Fclear.binds (ps := ["self"]) fun _ _ _ _ _ _ us hl => match us, hl with | [_], _ => rfl
  have Mclear : Me K C "clear" "Count.clear" s_clear ["self"] fclear _ := ⟨Fclear, ⟨aclear, iclear, kclear⟩, bclear⟩
  have Ftwin := fun_mk (st := s_twin) ltwin ctwin ktwin
  have btwin := Ftwin.binds (ps := ["self"]) fun _ _ _ _ _ _ us hl => match us, hl with | [_], _ => rfl
  have Mtwin : Me K C "twin" "Count.twin" s_twin ["self"] ftwin _ := ⟨Ftwin, ⟨atwin, itwin, ktwin⟩, btwin⟩
  have Fcell := fun_mk (st := sCell) lcell ccell kcell
  have bcell := Fcell.binds (ps := ["_law_script", "_law_k"]) fun _ _ _ _ _ _ us hl => match us, hl with | [_, _], _ => rfl
  have Ncell : Fn K mg "_law_cell" sCell ["_law_script", "_law_k"] fcell _ := ⟨Fcell, PySem.W.mg_of X G acell, bcell⟩
  have Fbox := fun_mk (st := sBox) lbox cbox kbox
  have bbox := Fbox.binds (ps := ["_law_cell_here"]) fun _ _ _ _ _ _ us hl => match us, hl with | [_], _ => rfl
  have Nbox : Fn K mg "_law_box" sBox ["_law_cell_here"] fbox _ := ⟨Fbox, PySem.W.mg_of X G abox, bbox⟩
  have Ftake := fun_mk (st := sTake) ltake ctake ktake
  have btake := Ftake.binds (ps := ["_law_box_here", "_law_many"]) fun _ _ _ _ _ _ us hl => match us, hl with | [_, _], _ => rfl
  have Ntake : Fn K mg "_law_take" sTake ["_law_box_here", "_law_many"] ftake _ := ⟨Ftake, PySem.W.mg_of X G atake, btake⟩
  have Fright := fun_mk (st := s_law_right) lright cright kright
  have bright := Fright.binds (ps := ["_law_count", "_law_model"]) fun _ _ _ _ _ _ us hl => match us, hl with | [_, _], _ => rfl
  have Nright : Fn K mg "_law_right" s_law_right ["_law_count", "_law_model"] fright _ := ⟨Fright, PySem.W.mg_of X G aright, bright⟩
  have Fboth := fun_mk (st := s_law_both_right) lboth cboth kboth
  have bboth := Fboth.binds (ps := ["_law_counts", "_law_models"]) fun _ _ _ _ _ _ us hl => match us, hl with | [_, _], _ => rfl
  have Nboth : Fn K mg "_law_both_right" s_law_both_right ["_law_counts", "_law_models"] fboth _ := ⟨Fboth, PySem.W.mg_of X G aboth, bboth⟩
  have Fref := fun_mk (st := s_law_refused) lref cref kref
  have bref := Fref.binds (ps := ["_law_box_here", "_law_count", "_law_model"]) fun _ _ _ _ _ _ us hl => match us, hl with | [_, _, _], _ => rfl
  have Nref : Fn K mg "_law_refused" s_law_refused ["_law_box_here", "_law_count", "_law_model"] fref _ := ⟨Fref, PySem.W.mg_of X G aref, bref⟩
  have Fdeed := fun_mk (st := s_law_deed) ldeed cdeed kdeed
  have bdeed := Fdeed.binds (ps := ["_law_box_here", "_law_count", "_law_model"]) fun _ _ _ _ _ _ us hl => match us, hl with | [_, _, _], _ => rfl
  have Ndeed : Fn K mg "_law_deed" s_law_deed ["_law_box_here", "_law_count", "_law_model"] fdeed _ := ⟨Fdeed, PySem.W.mg_of X G adeed, bdeed⟩
  have Fother := fun_mk (st := s_law_other) lother cother kother
  have bother := Fother.binds (ps := ["_law_box_here", "_law_counts", "_law_models"]) fun _ _ _ _ _ _ us hl => match us, hl with | [_, _, _], _ => rfl
  have Nother : Fn K mg "_law_other" s_law_other ["_law_box_here", "_law_counts", "_law_models"] fother _ := ⟨Fother, PySem.W.mg_of X G aother, bother⟩
  have Flaw := fun_mk (st := s_law) llaw claw klaw
  refine ⟨PySem.W.fnOf "law" "law" (defArgs s_law) (defBody s_law) (defScope s_law) .none kVlaw dclaw pmlaw anlaw cdlaw ctlaw, spLaw K, smN, fun s v => .of_eq rfl, ?_, ?_⟩
  · intro H a ns hn sm hS
    exact ⟨a, ns, rfl, hS, sm, hn, fun _ => rfl⟩
  · intro base kb nb
    have TC : CntT K C := ⟨⟨pgC, hdC, poC, saC⟩, n0C, n1C⟩
    have gC := PySem.W.mg_of X G aC
    have oN : OexC K CN := ⟨⟨nmCN, qCN, NCN, bsCN, _, snCN, subCN, abCN, colCN, ddCN, m0CN, m1CN, m2CN, m3CN, m5CN, xlCN, rfl⟩, saCN, exCN, tyCN, kcCN⟩
    have E : Exs K mg CS CN fse fnn _ _ := ⟨PySem.W.mg_none_of X G z14, vi, PySem.W.mg_of X G aCS, PySem.W.mg_of X G aCN, ⟨gaCS, rdCS, atCS⟩, kse, Fse, bse, Fnn, bnn, oN, ann, (beq_iff_eq.mp inn), n0CN, PySem.W.exm_ref exCN hdCN tyCN seCN,
      ⟨gaCN, ggCN, exCN, hdCN⟩, ⟨icCN, gaCN, ggCN, exCN, coCN, cg, ct, moCN⟩⟩
    have gIn : FnOk l.prog w K mg base CX0 1 fin _ _ _ := ok_init Fin TC
    have gWh : FnOk l.prog w K mg base CX0 1 fwh _ _ _ := ok_whole Fwh T
    have gTa : FnOk l.prog w K mg base CX0 1 ftake _ _ _ := ok_take Ftake
    have gTh := ok_through Mthr.fn T TC E gWh Nwh
    have gTw := ok_twin Mtwin.fn TC gC ⟨mkC, ain, iin, kcC⟩ gIn bin
    have gRi : GOk l.prog w K mg base CX0 2 fright _ _ _ := ok_right Fright T TC Mclear Mlast Mtold
    have gBo := ok_both Fboth gRi Nright
    have gRe := ok_refused smN Fref T (PySem.W.mg_none_of X G z15) TC E (PySem.W.mg_of X G aCW) kw gWh Nwh Mthr gTa Ntake
    have gDe := ok_deed Fdeed T TC gRe Nref gTa Ntake Mout Mall Mthr gTh
    have gOt := ok_other Fother T TC gC ⟨mkC, ain, iin, kcC⟩ gIn bin gTa Ntake Mtwin gTw
    exact ok_law Flaw T gC ⟨mkC, ain, iin, kcC⟩ gIn bin (ok_cell Fcell T) Ncell (ok_box Fbox T) Nbox gTa Ntake gBo Nboth gDe Ndeed gOt Nother
end K13

open PySem PySem.W PyProof.Rows in
set_option maxRecDepth 100000 in
set_option maxHeartbeats 0 in
theorem PySem.Challenge.cw_onestaff_k13_trains_counted_holds : PySem.Challenge.rw_onestaff_k13_trains_counted.Holds := by
  w_on; o_law; k_head; (case hw => w_witness2)
  k_fill
  refine Gd.walk_s (no := by first | rfl | decide +kernel) (l := PySem.Challenge.rw_onestaff_k13_trains_counted) (n := 63) (k := 8) (x := "_law_script") (CX := fun _ => L2.CX0) rfl (by decide) rfl ⟨rfl, by decide, by decide⟩ (fun w h Y => PySem.W.kIn_of Y) ?F (fun _ _ _ _ _ z => z)
  case F =>
    intro w mg fa h Y KX G hmg
    refine' K13.all_mk KX G hmg ?QaC ?QpgC ?QhdC ?QpoC ?QsaC ?QmkC ?QkcC ?Qn0C ?Qn1C ?QaCN ?QxlCN ?QsaCN ?QgaCN ?QggCN ?QkcCN ?QexCN ?QtyCN ?QhdCN ?QicCN ?QcoCN ?QmoCN ?Qn0CN ?Qase ?Qise ?Qlse ?Qcse ?Qkse ?Qann ?Qinn ?Qlnn ?Qcnn ?Qknn ?Qawh ?Qlwh ?Qcwh ?Qkwh ?Qain ?Qiin ?Qlin ?Qcin ?Qkin ?Qaout ?Qiout ?Qlout ?Qcout ?Qkout ?Qathr ?Qithr ?Qlthr ?Qcthr ?Qkthr ?Qaall ?Qiall ?Qlall ?Qcall ?Qkall ?Qalast ?Qilast ?Qllast ?Qclast ?Qklast ?Qatold ?Qitold ?Qltold ?Qctold ?Qktold ?Qaclear ?Qiclear ?Qlclear ?Qcclear ?Qkclear ?Qatwin ?Qitwin ?Qltwin ?Qctwin ?Qktwin ?Qacell ?Qlcell ?Qccell ?Qkcell ?Qabox ?Qlbox ?Qcbox ?Qkbox ?Qatake ?Qltake ?Qctake ?Qktake ?Qaright ?Qlright ?Qcright ?Qkright ?Qaboth ?Qlboth ?Qcboth ?Qkboth ?Qaref ?Qlref ?Qcref ?Qkref ?Qadeed ?Qldeed ?Qcdeed ?Qkdeed ?Qaother ?Qlother ?Qcother ?Qkother ?Qalaw ?Qllaw ?Qclaw ?Qklaw ?QsmN ?QaCS ?QaCW ?QgaCS ?QrdCS ?QatCS ?Qvi ?Qkw ?Qcg ?Qct ?Qz0 ?Qz1 ?Qz2 ?Qz3 ?Qz4 ?Qz5 ?Qz6 ?Qz7 ?Qz8 ?Qz9 ?Qz10 ?Qz11 ?Qz12 ?Qz13 ?Qz14 ?Qz15
    (case QaC => k_is)
    (case QpgC => k_is)
    (case QhdC => k_is)
    (case QpoC => k_is)
    (case QsaC => k_is)
    (case QmkC => k_is)
    (case QkcC => k_is)
    (case Qn0C => k_is)
    (case Qn1C => k_is)
    (case QaCN => k_is)
    (case QxlCN => k_is)
    (case QsaCN => k_is)
    (case QgaCN => k_is)
    (case QggCN => k_is)
    (case QkcCN => k_is)
    (case QexCN => k_is)
    (case QtyCN => k_is)
    (case QhdCN => k_is)
    (case QicCN => k_is)
    (case QcoCN => k_is)
    (case QmoCN => k_is)
    (case Qn0CN => k_is)
    (case Qase => k_is)
    (case Qise => k_is)
    (case Qlse => k_is)
    (case Qcse => k_is)
    (case Qkse => k_is)
    (case Qann => k_is)
    (case Qinn => k_is)
    (case Qlnn => k_is)
    (case Qcnn => k_is)
    (case Qknn => k_is)
    (case Qawh => k_is)
    (case Qlwh => k_is)
    (case Qcwh => k_is)
    (case Qkwh => k_is)
    (case Qain => k_is)
    (case Qiin => k_is)
    (case Qlin => k_is)
    (case Qcin => k_is)
    (case Qkin => k_is)
    (case Qaout => k_is)
    (case Qiout => k_is)
    (case Qlout => k_is)
    (case Qcout => k_is)
    (case Qkout => k_is)
    (case Qathr => k_is)
    (case Qithr => k_is)
    (case Qlthr => k_is)
    (case Qcthr => k_is)
    (case Qkthr => k_is)
    (case Qaall => k_is)
    (case Qiall => k_is)
    (case Qlall => k_is)
    (case Qcall => k_is)
    (case Qkall => k_is)
    (case Qalast => k_is)
    (case Qilast => k_is)
    (case Qllast => k_is)
    (case Qclast => k_is)
    (case Qklast => k_is)
    (case Qatold => k_is)
    (case Qitold => k_is)
    (case Qltold => k_is)
    (case Qctold => k_is)
    (case Qktold => k_is)
    (case Qaclear => k_is)
    (case Qiclear => k_is)
    (case Qlclear => k_is)
    (case Qcclear => k_is)
    (case Qkclear => k_is)
    (case Qatwin => k_is)
    (case Qitwin => k_is)
    (case Qltwin => k_is)
    (case Qctwin => k_is)
    (case Qktwin => k_is)
    (case Qacell => k_is)
    (case Qlcell => k_is)
    (case Qccell => k_is)
    (case Qkcell => k_is)
    (case Qabox => k_is)
    (case Qlbox => k_is)
    (case Qcbox => k_is)
    (case Qkbox => k_is)
    (case Qatake => k_is)
    (case Qltake => k_is)
    (case Qctake => k_is)
    (case Qktake => k_is)
    (case Qaright => k_is)
    (case Qlright => k_is)
    (case Qcright => k_is)
    (case Qkright => k_is)
    (case Qaboth => k_is)
    (case Qlboth => k_is)
    (case Qcboth => k_is)
    (case Qkboth => k_is)
    (case Qaref => k_is)
    (case Qlref => k_is)
    (case Qcref => k_is)
    (case Qkref => k_is)
    (case Qadeed => k_is)
    (case Qldeed => k_is)
    (case Qcdeed => k_is)
    (case Qkdeed => k_is)
    (case Qaother => k_is)
    (case Qlother => k_is)
    (case Qcother => k_is)
    (case Qkother => k_is)
    (case Qalaw => k_is)
    (case Qllaw => k_is)
    (case Qclaw => k_is)
    (case Qklaw => k_is)
    (case QsmN => first | rfl | kernel_rfl)
    (case QaCS => k_is)
    (case QaCW => k_is)
    (case QgaCS => k_is)
    (case QrdCS => k_is)
    (case QatCS => k_is)
    (case Qvi => k_is)
    (case Qkw => first | kit_is | kernel_rfl | k_is)
    (case Qcg => k_is)
    (case Qct => k_is)
    (case Qz0 => k_is)
    (case Qz1 => k_is)
    (case Qz2 => k_is)
    (case Qz3 => k_is)
    (case Qz4 => k_is)
    (case Qz5 => k_is)
    (case Qz6 => k_is)
    (case Qz7 => k_is)
    (case Qz8 => k_is)
    (case Qz9 => k_is)
    (case Qz10 => k_is)
    (case Qz11 => k_is)
    (case Qz12 => k_is)
    (case Qz13 => k_is)
    (case Qz14 => k_is)
    (case Qz15 => k_is)

