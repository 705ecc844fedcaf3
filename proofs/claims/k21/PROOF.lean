import PyProof.Rows.All
import Wide.All
import OpenK.AllK
import Wide.FinOn
import PyProof.EqAt
import PyProof.EqKinds
import PyProof.TupleCall
import HandS.Base
import HandS.Call
import HandS.List
import HandS.Comp
import HandS.Ends
import HandS.Text
import HandS.Exc
import HandS.Words
import HandS.WordsList
import HandS.Iter
import HandS.Dict
import HandS.Wide
import HandS.IsInst
import HandS.AnyAll
import HandS.EndBits
import HandS.EndTab
import HandS.TryMany
import HandS.ExcOwn
import HandS.WordsExc
import HandS.ExcInit
import HandS.ExcField
import HandS.ExcIs
import KE.KExcIs
import KE.KIsAll
import PyProof.Rows.RegFStrParts
import PyProof.Rows.ReprShort
import HandS.Walk
import PySem.Challenge.RW_onestaff_k21_locks_of_staffs
set_option Elab.async false
set_option linter.all false
set_option maxRecDepth 100000
set_option maxHeartbeats 4000000
/-! Defs that show lists and tuples: they run where no display is under way. -/
namespace Gd
open PySem PySem.Spec PyProof.Rows L2

/-- a def's promise, kept wherever no display is under way -/
structure GOk (P : Program) (w : World) (K : PySem.W.Frag) (mg : Str → Option Value) (base : Heap) (CX : CXT) (k : Nat) (f : Addr) (fd : FuncData) (ps : List Str) (sp : Sp) : Prop where
  size : ∀ vs H Q E, sp vs H Q E → vs.length = ps.length
  go : ∀ (A : Around) (out : List Env) (s : Shared) (H : Hp) (ar : Args) (us : List Value) (vs : List V) (Q : VK) (E : XK), A.guards = some [] →
    Room k A → Env0 P w K mg base A out s H → BindsTo s fd ar (ps.zip us) → Vals vs us → sp vs H Q E →
    codeAny (model P w) A (.call (.ref f) ar) (CR CX out P w H s Q E) s

section
variable {P : Program} {w : World} {K : PySem.W.Frag} {mg : Str → Option Value} {base : Heap}

/-- by its body -/
theorem gok_body {CX : CXT} {k : Nat} {x qual : Str} {st : Stmt} {f : Addr} {fd : FuncData} {N ps : List Str} {sp : Sp} (F : Fun K x qual st f fd) (S : FnScope N ps (defScope st))
    (size : ∀ vs H Q E, sp vs H Q E → vs.length = ps.length)
    (body : ∀ (cd : Value) (A : Around) (out : List Env) (s : Shared) (H : Hp) (vs : List V) (Q : VK) (E : XK), A.guards = some [] →
      Room k (A.deeper (envOfC qual (defScope st) s.heap.objs.size f cd)) → sp vs H Q E →
      ∃ t, PSs (cxOf CX P w K mg base N qual (defScope st) f cd A out s H E) (defBody st) t ∧ t { nx := fun _ H' => Q .non H', rt := Q } (start N vs) H) :
    GOk P w K mg base CX (k + 1) f fd ps sp := by
  obtain ⟨oc, od, kV, doc, pm, an, cd, ct, osl, rfl, lk, hcd⟩ := F.ex
  refine ⟨size, fun A out s H ar us vs Q E gd hr e0 hb r hsp => ?_⟩
  have hl := size _ _ _ _ hsp
  have KX : K.In s.heap := e0.mod.kin.keeps fun b o z => (e0.bs b o z).1
  have kinds : ∀ y ∈ ps.zip us, (defScope st).names.lookup y.1 = some .local ∨
      ((defScope st).names.lookup y.1 = some .cell ∧ ((cellsFrom (s.heap.objs.size + 1) (defScope st).names []).lookup y.1).isSome = true) := by
    rintro ⟨n, v⟩ hy
    have hm := (List.of_mem_zip hy).1
    cases S.par n hm with
    | inl q => exact .inl q
    | inr q => exact .inr ⟨q, PySem.W.cellsFrom_some _ _ _ (.inl q)⟩
  have Z := PySem.W.codeRec_of KX hcd
  refine codeAny_call_function hr.depth (KX _ _ lk) rfl S.co S.gen rfl Z (hb _ _ _ _ ?_)
  refine wpAny_newFunctionEnv_cells S.kind kinds fun env he s1 ic => ?_
  subst he
  have lim : s.heap.NoLimit := e0.mod.nolimit.keeps fun b o z => (e0.bs b o z).1
  refine ⟨lim.keeps ic.toInCall.keep, codeAny_func ?_⟩
  obtain ⟨t, ht, hq⟩ := body cd A out s H vs Q E gd (hr.deeper _) hsp
  have I := inv_start (CX := CX) (E := E) S hr.hd e0 hl r ic
  refine wpAny_mono (ht.run [] s1 (start N vs) H _ I hq) ?_ (fun _ _ z => z)
  intro fl s' hs
  cases fl with
  | brk => obtain ⟨_, _, _, q⟩ := hs; exact q.elim
  | cont => obtain ⟨_, _, _, q⟩ := hs; exact q.elim
  | next =>
    obtain ⟨σ', H', J, q⟩ := hs
    exact ⟨V.non, H', J.os, J.bare, J.base, J.hok, rfl, q⟩
  | ret u =>
    obtain ⟨v, σ', H', J, rv, q⟩ := hs
    exact ⟨v, H', J.os, J.bare, J.base, J.hok, rv, q⟩
/-- the same where nothing is raised -/
theorem gok {k : Nat} {x qual : Str} {st : Stmt} {f : Addr} {fd : FuncData} {N ps : List Str} {sp : Sp} (F : Fun K x qual st f fd) (S : FnScope N ps (defScope st))
    (size : ∀ vs H Q E, sp vs H Q E → vs.length = ps.length)
    (body : ∀ (cd : Value) (A : Around) (out : List Env) (s : Shared) (H : Hp) (vs : List V) (Q : VK) (E : XK), A.guards = some [] →
      Room k (A.deeper (envOfC qual (defScope st) s.heap.objs.size f cd)) → sp vs H Q E →
      ∃ t, PSs (cxOf CX0 P w K mg base N qual (defScope st) f cd A out s H E).nox (defBody st) t ∧ t { nx := fun _ H' => Q .non H', rt := Q } (start N vs) H) :
    GOk P w K mg base CX0 (k + 1) f fd ps sp := by
  refine gok_body F S size fun cd A out s H vs Q E gd hr q => ?_
  obtain ⟨t, h, z⟩ := body cd A out s H vs Q E gd hr q
  exact ⟨t, h.nox, z⟩
theorem GOk.mono {CX : CXT} {j k : Nat} {f : Addr} {fd : FuncData} {ps : List Str} {sp : Sp} (F : GOk P w K mg base CX j f fd ps sp) (h : j ≤ k) : GOk P w K mg base CX k f fd ps sp :=
  ⟨F.size, fun A out s H ar us vs Q E gd hr => F.go A out s H ar us vs Q E gd (hr.mono h)⟩
theorem gok_of {CX : CXT} {k : Nat} {f : Addr} {fd : FuncData} {ps : List Str} {sp : Sp} (F : FnOk P w K mg base CX k f fd ps sp) : GOk P w K mg base CX k f fd ps sp :=
  ⟨F.len, fun A out s H ar us vs Q E _ hr => F.run A out s H ar us vs Q E hr⟩
end

section
variable {X : Cx} {CX : CXT} {k : Nat} {f : Addr} {fd : FuncData} {ps : List Str} {sp : Sp} {dvs : List V} {ds : List Value} {E : XK} {x : Str} {p pos : Pos} {e : Expr} {es : List Expr} {t : TA}
/-- f(e, ..), f such a def, from a body of such a def -/
theorem pe_gcall (gd : X.A.guards = some []) (F : GOk X.prog X.w X.K X.mg X.base CX k f fd ps sp) (hr : Room k X.A) (hg : Gl X x) (hm : X.mg x = some (.ref f)) (hk : PySem.W.keepIn X.K (.ref f) = true)
    (hb : Binds X.K fd ps ds) (hd : Vals dvs ds) (hx : Passes CX X E) (ha : PA X (e :: es) t) (hdb : (x == ("__debug__" : Str)) = false := by decide)
    (he : starEach (e :: es) X.env = (false, eval e X.env) :: starEach es X.env := by rfl) (hpl : (backTo pos (starEach es X.env)).any (·.1) = false := by rfl) :
    PE X (.Call (.Name x p) (e :: es) [] pos) (tCall sp dvs E t) := by
  refine ⟨fun pins s σ H Q I h => wpAny_Call_Name_kw (ld_glob I hg hm ?_ hdb)⟩
  have A1 := ha.run pos pins s σ H _ I h
  refine PySem.W.callWith_K (h₀ := X.base) I.ok.mod.kin hk (thn A1 ?_) he hpl
  rintro us s1 ⟨vs, H1, I1, r, q⟩
  refine ⟨I1.kIn, ?_⟩
  have both := r.append hd
  have hl : (us ++ ds).length = ps.length := (both.length).symm.trans (F.size _ _ _ _ q)
  have run1 := F.go X.A X.stack s1 H1 ⟨us, []⟩ (us ++ ds) (vs ++ dvs) Q E gd hr I1.env0 (hb s1 us I1.kIn hl) both q
  refine wpAny_call (codeAny_mono run1 ?_)
  intro res s' hq
  match res, hq with
  | .error e, hq => exact hx pins σ H1 s1 e s' I1 hq
  | .ok (.ret u), hq => exact I1.after hq
  | .ok .next, hq => exact hq.elim
  | .ok .brk, hq => exact hq.elim
  | .ok .cont, hq => exact hq.elim

/-! ### repr of data -/
mutual
theorem dp_noDict {K : PySem.W.Frag} {H : Hp} : ∀ {v : V} {d : PyData}, Dp K H v d → d.hasDict = false
  | _, _, .non => by simp only [PyData.hasDict]
  | _, _, .bl _ => by simp only [PyData.hasDict]
  | _, _, .int _ => by simp only [PyData.hasDict]
  | _, _, .str _ => by simp only [PyData.hasDict]
  | _, _, .lst _ h => by simp only [PyData.hasDict]; exact dpAll_noDict h
  | _, _, .tup _ h => by simp only [PyData.hasDict]; exact dpAll_noDict h
theorem dpAll_noDict {K : PySem.W.Frag} {H : Hp} : ∀ {vs : List V} {ds : List PyData}, DpAll K H vs ds → PyData.hasDictAll ds = false
  | _, _, .nil => by simp only [PyData.hasDictAll]
  | _, _, .cons h t => by simp only [PyData.hasDictAll, dp_noDict h, dpAll_noDict t, Bool.or_self]
end
/-- repr(v), v some data d -/
def rRepr (K : PySem.W.Frag) : List V → Hp → VK → Prop := fun xs H Q => ∃ v d, xs = [v] ∧ Dp K H v d ∧ d.showable = true ∧ d.depth ≤ 100 ∧ d.shown.length ≤ sizeLine ∧ Q (.str d.shown) H
theorem call_repr (gd : X.A.guards = some []) (hr : Room k X.A) : CallR X (.builtin "repr") (rRepr X.K) := by
  intro pins s σ H xs us Q I r h
  obtain ⟨v, d, rfl, dp, hs, hdep, hsz, q⟩ := h
  cases r with
  | cons rv rn =>
    cases rn
    have hun := hr.un
    cases dp with
    | non =>
      cases rv
      refine PySem.P.repr_of_none ⟨.str _, H, I.tok _, ⟨_, rfl⟩, ?_⟩
      simpa only [PyData.shown] using q
    | bl b =>
      cases rv
      refine PySem.P.repr_of_bool ⟨.str _, H, I.tok _, ⟨_, rfl⟩, ?_⟩
      simpa only [PyData.shown] using q
    | int i =>
      obtain ⟨t, rfl⟩ := rv
      refine PySem.P.repr_of_int (by simpa [PyData.showable] using hs) ⟨.str _, H, I.tok _, ⟨_, rfl⟩, ?_⟩
      simpa only [PyData.shown] using q
    | str z =>
      obtain ⟨t, rfl⟩ := rv
      refine PySem.P.repr_of_str ⟨.str _, H, I.tok _, ⟨_, rfl⟩, ?_⟩ (by simpa only [PyData.shown] using hsz)
      simpa only [PyData.shown] using q
    | lst hl ha =>
      cases rv
      obtain ⟨as, rd⟩ := Dp.reads I _ _ _ (.lst hl ha) rfl
      refine repr_of_reads' rd hs (PyData.noDict_hsm (dp_noDict (.lst hl ha))) gd (by omega) (fun _ _ z => z) (fun h' u tk hk => ?_) hsz
      exact ⟨.str _, H, I.kept hk, ⟨_, rfl⟩, q⟩
    | tup hl ha =>
      cases rv
      obtain ⟨as, rd⟩ := Dp.reads I _ _ _ (.tup hl ha) rfl
      refine repr_of_reads' rd hs (PyData.noDict_hsm (dp_noDict (.tup hl ha))) gd (by omega) (fun _ _ z => z) (fun h' u tk hk => ?_) hsz
      exact ⟨.str _, H, I.kept hk, ⟨_, rfl⟩, q⟩
end
end Gd

set_option maxRecDepth 100000
set_option maxHeartbeats 4000000
/-! The end of a law whose own def shows data: no display is under way at its call. -/
namespace Gd
open PySem PySem.Spec PyProof.Rows L2 GxR

/-- the script's own object -/
def scriptO (vs : List Value) : Obj := { cls := .type "list", data := .seq vs.toArray }
def tabO : Obj := { cls := .none, data := .fields #[] }
open Classical in
/-- what is tracked at the law's call: the script (where the written part hasn't it), the tables -/
noncomputable def h0 (K : PySem.W.Frag) (a : Addr) (vs : List Value) (ns : List Int) (T : List Addr) : Hp := fun b =>
  if b = a ∧ K.lookup a = none then some (.frz (scriptO vs) (.lst (ns.map V.int))) else if b ∈ T then some (.tbl #[]) else none

theorem h0_inv {K : PySem.W.Frag} {a b : Addr} {vs : List Value} {ns : List Int} {T : List Addr} {u : HO} (h : h0 K a vs ns T b = some u) :
    (b = a ∧ K.lookup a = none ∧ u = .frz (scriptO vs) (.lst (ns.map V.int))) ∨ (b ∈ T ∧ u = .tbl #[]) := by
  unfold h0 at h
  by_cases c1 : b = a ∧ K.lookup a = none
  · rw [if_pos c1] at h
    exact .inl ⟨c1.1, c1.2, (Option.some.inj h).symm⟩
  · rw [if_neg c1] at h
    by_cases c2 : b ∈ T
    · rw [if_pos c2] at h
      exact .inr ⟨c2, (Option.some.inj h).symm⟩
    · rw [if_neg c2] at h
      cases h

section
variable {P : Program} {w : World} {K : PySem.W.Frag} {mg mb : Str → Option Value} {CX : CXT} {k : Nat} {fa a : Addr} {cs : List (Addr × Addr)} {fd : FuncData} {x : Str} {sp : Sp} {s1 : Shared} {vs : List Value} {ns : List Int}
theorem law_gcall (KX : K.In s1.heap) (nsG : s1.heap.Ns mainGlobals mg) (nsB : s1.heap.Ns builtinsNs mb) (isB : ∀ x : Str, x ≠ "__name__" → mb x = bootBuiltins x) (lim : s1.heap.NoLimit) (gens : s1.gens = #[])
    (tabs : ∀ p ∈ cs, s1.heap.get? p.2 = some tabO) (tabK : ∀ p ∈ cs, K.lookup p.2 = none) (codes : ∀ p ∈ cs, PySem.W.CodeHd s1.heap p.1 p.2)
    (bmain : ∃ (bm : Addr) (ob : Obj), mg "__builtins__" = some (.ref bm) ∧ bm ≠ builtinsNs ∧ s1.heap.get? bm = some ob ∧ ob.cls = .type "module" ∧ ob.dict = some builtinsNs ∧ ob.data = .plain)
    (ha : s1.heap.get? a = some (scriptO vs)) (hi : IntsAre vs ns) (hl : ns.length ≤ sizeLine) (hr : Room k callerA)
    (F : ∀ base : Heap, K.In base → base.Ns mainGlobals mg → (∀ p ∈ cs, TabB base mg p.1 p.2) → GOk P w K mg base CX k fa fd [x] sp)
    (hbind : ∀ (s : Shared) (u : Value), BindsTo s fd ⟨[u], []⟩ [(x, u)])
    (hsp : ∀ H : Hp, (∀ p ∈ cs, H p.2 = some (.tbl #[])) → SqL K H a (ns.map V.int) → sp [.ref a] H (fun v _ => v = .bl true) fun _ _ _ => False)
    (hCX : ∀ H e s', CX [] H s1 (fun _ _ _ => False) e s' → False) :
    codeAny (model P w) callerA (.call (.ref fa) ⟨[.ref a], []⟩) (fun r s' => r = .ok (.ret (.bool true)) ∧ OldK s1.heap s'.heap ∧ s'.os = s1.os ∧ AllBare s'.gens) s1 := by
  have rv := vals_ints hi
  have hlen := hi.length
  let T := cs.map Prod.snd
  have inT : ∀ p ∈ cs, p.2 ∈ T := fun p hp => List.mem_map.mpr ⟨p, hp, rfl⟩
  have ofT : ∀ b ∈ T, s1.heap.get? b = some tabO ∧ K.lookup b = none := by
    intro b hb
    obtain ⟨p, hp, rfl⟩ := List.mem_map.mp hb
    exact ⟨tabs p hp, tabK p hp⟩
  have neT : a ∉ T := fun z => by
    have q := (ofT a z).1
    rw [ha] at q
    cases q
  let H := h0 K a vs ns T
  -- a tracked object is the script or a table
  have seen : ∀ {b : Addr} {o : Obj}, s1.heap.get? b = some o → (∀ us n, o.data ≠ .seq us n) → o.data ≠ .fields #[] → H b = none := by
    intro b o e n1 n2
    cases q : H b with
    | none => rfl
    | some u =>
      exfalso
      rcases h0_inv q with ⟨rfl, _, _⟩ | ⟨hb, _⟩
      · rw [ha] at e
        cases e
        exact n1 _ _ rfl
      · rw [(ofT b hb).1] at e
        cases e
        exact n2 rfl
  have keepHid : ∀ {b : Addr} {o : Obj}, s1.heap.get? b = some o → H b = none → (hidT s1.heap H).get? b = some o := fun e n => hidT_get e n
  have dictHid : ∀ {b : Addr} {o : Obj} {es : Array DictEntry} {ep : Nat}, s1.heap.get? b = some o → o.data = .dict es ep → (hidT s1.heap H).get? b = some o := by
    intro b o es ep e d
    refine keepHid e (seen e (fun us n z => ?_) fun z => ?_) <;> (rw [d] at z; cases z)
  have nsHid : ∀ {b : Addr} {m : Str → Option Value}, s1.heap.Ns b m → (hidT s1.heap H).Ns b m := by
    rintro b m ⟨o, es, ep, e, d, rest⟩
    exact ⟨o, es, ep, dictHid e d, d, rest⟩
  have KH : K.In (hidT s1.heap H) := by
    intro b o e
    refine keepHid (KX b o e) ?_
    cases q : H b with
    | none => rfl
    | some u =>
      exfalso
      rcases h0_inv q with ⟨rfl, z, _⟩ | ⟨hb, _⟩
      · rw [z] at e
        cases e
      · rw [(ofT b hb).2] at e
        cases e
  have limH : (hidT s1.heap H).NoLimit := by
    obtain ⟨mc, h1, h2⟩ := lim
    exact ⟨mc, nsHid h1, h2⟩
  have M : L2.Mod K mg (hidT s1.heap H) := ⟨KH, nsHid nsG, ⟨mb, nsHid nsB, isB⟩, limH⟩
  have TB : ∀ p ∈ cs, TabB (hidT s1.heap H) mg p.1 p.2 := by
    intro p hp
    have tp := tabs p hp
    refine ⟨?_, ?_, ?_⟩
    · obtain ⟨o, us, file, tf, flags, tg, inF, text, tt, e1, r1, r2, r3, rest⟩ := codes p hp
      refine ⟨o, us, file, tf, flags, tg, inF, text, tt, keepHid e1 (seen e1 (fun vs n z => ?_) fun z => ?_), r1, r2, r3, rest⟩
      · rw [r2] at z
        cases z
      · rw [r2] at z
        cases z
        simp at r3
    · obtain ⟨bm, ob, b1, b2, b3, b4, b5, b6⟩ := bmain
      have g1 : bm ≠ mainGlobals := by
        rintro rfl
        obtain ⟨o, es, ep, e, d, _⟩ := nsG
        rw [b3] at e
        cases e
        rw [b6] at d
        cases d
      have g2 : bm ≠ p.2 := by
        rintro rfl
        rw [tp] at b3
        cases b3
        cases b6
      refine ⟨bm, ob, b1, b2, g1, g2, keepHid b3 (seen b3 (fun vs n z => ?_) fun z => ?_), b4, b5, b6⟩ <;> (rw [b6] at z; cases z)
    · intro z
      obtain ⟨o, es, ep, e, d, _⟩ := nsG
      rw [z, tp] at e
      cases e
      cases d
  have hH : ∀ p ∈ cs, H p.2 = some (.tbl #[]) := by
    intro p hp
    have n1 : ¬ (p.2 = a ∧ K.lookup a = none) := fun z => neT (z.1 ▸ inT p hp)
    exact (if_neg n1).trans (if_pos (inT p hp))
  have hS : SqL K H a (ns.map V.int) := by
    cases q : K.lookup a with
    | none => exact .inl (.inr ⟨scriptO vs, if_pos ⟨rfl, q⟩⟩)
    | some o =>
      have e := KX a o q
      rw [ha] at e
      cases e
      exact .inr ⟨_, vs.toArray, _, q, rfl, rfl, rfl, by rw [List.size_toArray, hlen]; exact hl, by simpa using rv⟩
  have hok : HOk P w H s1.heap := by
    intro b u q
    rcases h0_inv q with ⟨rfl, _, rfl⟩ | ⟨hb, rfl⟩
    · exact ⟨ha, by rw [List.length_map]; exact hl, vs, _, rv, ha⟩
    · exact (ofT b hb).1
  have e0 : Env0 P w K mg (hidT s1.heap H) callerA [] s1 H :=
    ⟨rfl, M, fun b o e => of_hidT e, Nat.le_of_eq (hidT_size _ _), trivial, (fun b hb => by cases (show b ∈ ([] : List Addr) from hb)), hok, .of_eq gens⟩
  have run := (F _ KH (nsHid nsG) TB).go callerA [] s1 H ⟨[.ref a], []⟩ [.ref a] [.ref a] (fun v _ => v = .bl true) (fun _ _ _ => False) rfl hr e0 (hbind s1 (.ref a)) (.cons rfl .nil) (hsp H hH hS)
  refine codeAny_mono run ?_
  intro r s' h
  match r, h with
  | .error e, h => exact (hCX H e s' h).elim
  | .ok .next, h => exact h.elim
  | .ok .brk, h => exact h.elim
  | .ok .cont, h => exact h.elim
  | .ok (.ret u), h =>
    obtain ⟨v, H', os, bare, un, hok', r', q⟩ := h
    obtain rfl : v = .bl true := q
    obtain rfl : u = Value.bool true := r'
    have plain : ∀ b o, b ∉ T → s1.heap.get? b = some o → s'.heap.get? b = some o := by
      intro b o nb e
      cases q : H b with
      | none => exact un.keep b o e q (fun z => by cases (show b ∈ ([] : List Addr) from z)) (by simp)
      | some y =>
        rcases h0_inv q with ⟨rfl, _, rfl⟩ | ⟨hb, _⟩
        · obtain ⟨e2, _⟩ := hok' b _ (un.frzs b _ _ q)
          rw [ha] at e
          cases e
          exact e2
        · exact absurd hb nb
    have grown : ∀ p ∈ cs, ∃ more : Array Value, s'.heap.get? p.2 = some { cls := .none, data := .fields more } := by
      intro p hp
      obtain ⟨more, z⟩ := un.tbls p.2 #[] (hH p hp)
      exact ⟨_, hok' p.2 _ z⟩
    refine ⟨rfl, ⟨fun b o e => ?_, fun b o e => ?_⟩, os, bare⟩ <;> by_cases hb : b ∈ T
    · obtain ⟨p, hp, rfl⟩ := List.mem_map.mp hb
      obtain ⟨more, hm⟩ := grown p hp
      rw [tabs p hp] at e
      cases e
      exact .inr (.inl ⟨((codes p hp).tab (tabs p hp)).isCodeTable, rfl, #[], more, rfl, by rw [Array.empty_append]; exact hm⟩)
    · exact .inl (plain b o hb e)
    · obtain ⟨p, hp, rfl⟩ := List.mem_map.mp hb
      obtain ⟨more, hm⟩ := grown p hp
      exact ⟨_, hm⟩
    · exact ⟨o, plain b o hb e⟩
end

/-- the tables of the text's own defs are empty behind the top -/
def Empt (q : Program) (K : PySem.W.Frag) (h : Heap) : Prop := ∀ (x : Str) (f c t : Addr) (o : Obj) (fd : FuncData) (e : Value) (dd : Option Addr) (us : Array Value) (sl : Array (Option Value)),
  ((PyProof.Rows.recsOf q).any fun r => r.name == x) = true → PySem.W.nsIn K mainGlobals x = some (some (.ref f)) → K.lookup f = some o → o.data = .func fd → fd.code = .ref c →
  K.lookup c = some ⟨e, dd, .fields us, sl⟩ → us[11]? = some (.ref t) → PySem.W.CodeHd h c t ∧ h.get? t = some tabO
/-- what is to be known of the law at the head's heap -/
def GLaw (l : PySem.W.OpenLaw) (w : World) (K : PySem.W.Frag) (CX : CXT) (k n : Nat) (x : Str) (mg : Str → Option Value) (fa : Addr) (h : Heap) : Prop :=
  ∃ (fd : FuncData) (cs : List (Addr × Addr)) (sp : Sp), (∀ p ∈ cs, h.get? p.2 = some tabO) ∧ (∀ p ∈ cs, K.lookup p.2 = none) ∧ (∀ p ∈ cs, PySem.W.CodeHd h p.1 p.2) ∧
    (∀ (s : Shared) (u : Value), BindsTo s fd ⟨[u], []⟩ [(x, u)]) ∧
    (∀ (H : Hp) (a : Addr) (ns : List Int), ns.length ≤ n → (∀ z ∈ ns, Builtin.Int.intBits z ≤ 1048576) → (∀ p ∈ cs, H p.2 = some (.tbl #[])) → SqL K H a (ns.map V.int) →
      sp [.ref a] H (fun v _ => v = .bl true) fun _ _ _ => False) ∧
    ∀ base : Heap, K.In base → base.Ns mainGlobals mg → (∀ p ∈ cs, TabB base mg p.1 p.2) → GOk l.prog w K mg base CX k fa fd [x] sp
theorem walk_g {l : PySem.W.OpenLaw} {n k : Nat} {q : Program} {loose : List Str} {XP : (Str → Option Value) → Heap → Prop} {YP : World → Heap → Prop} {d : DefRec} {K : Params → PySem.W.Frag} {CX : World → CXT} {x : Str}
    (hn : l.most = some n) (small : n ≤ sizeLine) (hdf : d.params.defaults = []) (hr : Room k callerA) (hY : ∀ (w : World) (h : Heap), YP w h → (K w.params).In h)
    (F : ∀ (w : World) (mg : Str → Option Value) (fa : Addr) (h : Heap), YP w h → (K w.params).In h → h.Ns mainGlobals mg → mg d.name = some (.ref fa) → Empt q (K w.params) h → GLaw l w (K w.params) (CX w) k n x mg fa h)
    (hCX : ∀ (w : World) (H : Hp) (s : Shared) (e : Value) (s' : Shared), CX w [] H s (fun _ _ _ => False) e s' → False) :
    PySem.W.WalkO q loose XP YP l.row.toRowW d [] (fun f vs => PySem.call f vs) := by
  refine Att.attach_callB hn hdf ?_
  intro w sA s1 mg mb fa o pm cd doc a vs ns G Y ho hd hcd hmg hobj hints hlen hbits hg
  have KX := hY w _ Y
  have em : Empt q (K w.params) s1.heap := by
    intro x f c t o1 fd1 e dd us sl hx k1 k2 k3 k4 k5 k6
    obtain ⟨r, hr1, hr2⟩ := List.any_eq_true.mp hx
    have hn1 : r.name = x := beq_iff_eq.mp hr2
    obtain ⟨a1, o2, fd2, c2, t2, y1, y2, y3, y4, y5, y6⟩ := G.T.tab r hr1
    have z1 := PySem.W.mg_of KX G.T.g k1
    rw [hn1, z1] at y1
    cases y1
    have z2 := KX _ _ k2
    rw [z2] at y2
    cases y2
    rw [k3] at y3
    cases y3
    rw [k4] at y4
    cases y4
    have y6b := y6
    obtain ⟨⟨oc, vc, e1, e2, e3, e4⟩, hP⟩ := y6b
    have z5 := KX _ _ k5
    rw [z5] at e1
    cases e1
    cases e3
    rw [k6] at e4
    cases e4
    exact ⟨PySem.W.CodeHd.of y5 y6, hP⟩
  obtain ⟨fd, cs, sp, t1, t2, t3, hb, hsp, hF⟩ := F w mg fa _ Y KX G.T.g hmg em
  exact law_gcall KX G.T.g G.T.b G.T.builtins G.T.nolimit hg t1 t2 t3 G.T.bmain hobj hints (Nat.le_trans hlen small) hr hF hb (fun H a1 a2 => hsp H a ns hlen hbits a1 a2) (fun H e s' => hCX w H s1 e s')
end Gd

set_option maxRecDepth 100000
set_option maxHeartbeats 4000000
/-! Things, boxes, texts: what the laws share, over no program. -/
namespace My
open PySem PySem.Spec PyProof.Rows L2 GxR Gd TL
/-! ### things -/
def Good (z : Str) : Prop := ∀ c ∈ z.cps.toList, c < 1114112
inductive Th (H : Hp) : V → Prop
  | non : Th H .non
  | bl (b : Bool) : Th H (.bl b)
  | int (i : Int) : Th H (.int i)
  | str (z : Str) (h : z.length ≤ 1000000) (g : Good z) : Th H (.str z)
  | lst (a : Addr) (xs : List V) (h : H a = some (.lst xs)) : Th H (.ref a)
  | tup (a : Addr) (xs : List V) (h : H a = some (.tup xs)) : Th H (.ref a)
  | dic (a : Addr) {kvs : List (Key × V)} (h : H a = some (.dK kvs)) : Th H (.ref a)
def lc (c : Nat) : Bool := decide (97 ≤ c) && decide (c ≤ 122)
def nm : V → Bool
  | .str z => decide (1 ≤ z.length) && decide (z.length ≤ 6) && z.cps.toList.all lc
  | _ => false
def wh (lo hi : Int) : V → Bool
  | .int i => decide (lo ≤ i) && decide (i ≤ hi)
  | _ => false
/-- its kind -/
theorem Th.ty {K : PySem.W.Frag} {H : Hp} {v : V} (h : Th H v) : ∃ t, TyX K H v (.type t) ∧
    ((∃ i, v = .int i ∧ t = "int") ∨ (∃ b, v = .bl b ∧ t = "bool") ∨ (∃ z, v = .str z ∧ (z.length ≤ 1000000 ∧ Good z) ∧ t = "str") ∨
     ((∀ i, v ≠ .int i) ∧ (∀ b, v ≠ .bl b) ∧ (∀ z, v ≠ .str z) ∧ (t = "NoneType" ∨ t = "list" ∨ t = "tuple" ∨ t = "dict"))) := by
  cases h with
  | non => exact ⟨_, .base .non, .inr (.inr (.inr ⟨by simp, by simp, by simp, .inl rfl⟩))⟩
  | bl b => exact ⟨_, .base (.bl b), .inr (.inl ⟨b, rfl, rfl⟩)⟩
  | int i => exact ⟨_, .base (.int i), .inl ⟨i, rfl, rfl⟩⟩
  | str z h g => exact ⟨_, .base (.str z), .inr (.inr (.inl ⟨z, rfl, ⟨h, g⟩, rfl⟩))⟩
  | lst a xs h => exact ⟨_, .base (.lst h), .inr (.inr (.inr ⟨by simp, by simp, by simp, .inr (.inl rfl)⟩))⟩
  | tup a xs h => exact ⟨_, .base (.tup h), .inr (.inr (.inr ⟨by simp, by simp, by simp, .inr (.inr (.inl rfl))⟩))⟩
  | dic a h => exact ⟨_, .base (.dK h), .inr (.inr (.inr ⟨by simp, by simp, by simp, .inr (.inr (.inr rfl))⟩))⟩
/-- all but the table stays -/
structure KT (P : Addr) (H H' : Hp) : Prop where
  keep : ∀ c o, c ≠ P → H c = some o → H' c = some o
  tab : TabG H' P
theorem TabG.at {H : Hp} {P : Addr} (t : TabG H P) : ∃ ps, H P = some (.tbl ps) := let ⟨ps, h, _⟩ := t; ⟨ps, h⟩
theorem ne_tab {H : Hp} {P a : Addr} {o : HO} (t : TabG H P) (h : H a = some o) (n : ∀ ps, o ≠ .tbl ps) : a ≠ P := by
  rintro rfl
  obtain ⟨ps, e⟩ := TabG.at t
  rw [h] at e
  exact n ps (Option.some.inj e)
theorem KT.refl {P : Addr} {H : Hp} (t : TabG H P) : KT P H H := ⟨fun _ _ _ h => h, t⟩
theorem KT.trans {P : Addr} {H H1 H2 : Hp} (a : KT P H H1) (b : KT P H1 H2) : KT P H H2 := ⟨fun c o n h => b.keep c o n (a.keep c o n h), b.tab⟩
theorem KT.of {P : Addr} {H H' : Hp} (t : Tabbed P H H') : KT P H H' := ⟨fun c o n h => by rw [t.2 c n]; exact h, t.1⟩
theorem KT.alloc {P p : Addr} {H : Hp} {o : HO} (t : TabG H P) (n : H p = none) : KT P H (upd H p o) := by
  obtain ⟨ps, e, ht⟩ := t
  refine ⟨fun c q _ h => by rw [upd_ne (ne_of_none h n)]; exact h, ps, by rw [upd_ne (ne_of_none e n)]; exact e, ht⟩
theorem Th.kt {P : Addr} {H H' : Hp} (t : TabG H P) (k : KT P H H') {v : V} (h : Th H v) : Th H' v := by
  cases h with
  | non => exact .non
  | bl b => exact .bl b
  | int i => exact .int i
  | str z h g => exact .str z h g
  | lst a xs h => exact .lst a xs (k.keep _ _ (ne_tab t h (by simp)) h)
  | tup a xs h => exact .tup a xs (k.keep _ _ (ne_tab t h (by simp)) h)
  | dic a h => exact .dic a (k.keep _ _ (ne_tab t h (by simp)) h)

theorem elt_between {prog : Program} {w : World} {scope : Scope} {x a b : Str} {j1 j2 : Nat} {p1 p2 p3 p4 : Pos} (hk : scope.kind = .function) (hl : scope.names.lookup x = some .local)
    (hd : (x == ("__debug__" : Str)) = false := by decide) :
    EltP prog w scope x (.Compare (.Constant (.str a) j1 p1) [.LtE, .LtE] [.Name x p2, .Constant (.str b) j2 p3] p4) (fun c => !decide ([c] < a.cps.toList) && !decide (b.cps.toList < [c])) := by
  intro cenv A' E' c t s2 m2 hs hn hm
  refine Compare_chain ?_ (by with_unfolding_all rfl)
  refine Calls.Constant_str (chain_link ?_)
  refine wpAny_Name (wpAny_loadName_local (by rw [hs]; exact hk) (show cenv.scope.names.lookup x = some .local by rw [hs]; exact hl) hn hm ?_) hd
  refine PySem.P.le_str ?_
  refine wpAny_truthy_bool ?_
  cases q : decide ([c] < a.cps.toList) with
  | true =>
    refine ite_ff ⟨?_, keeps_tok _ _⟩
    have q' : decide ((⟨#[c]⟩ : Str).cps.toList < a.cps.toList) = true := q
    simp [q']
  | false =>
    refine ite_tt (chain_last ?_)
    refine Calls.Constant_str ?_
    refine PySem.P.le_str ⟨?_, keeps_tok _ _⟩
    have q2 : ¬ [c] < a.cps.toList := of_decide_eq_false q
    simp [List.not_lt.mp q2]
def genSc : Scope := { kind := ScopeKind.function, names := [(Str.ofString ".0", NameKind.local), (Str.ofString "sign", NameKind.local)], isGenerator := true, isCoroutine := false }
theorem no_free : ∀ y ∈ genSc.names, y.2 ≠ NameKind.free := by decide +kernel
theorem one_lt (c d : Nat) : [c] < [d] ↔ c < d := by
  rw [List.cons_lt_cons_iff]
  constructor
  · rintro (h | ⟨_, h⟩)
    · exact h
    · exact absurd h (List.not_lt_nil _)
  · exact .inl
theorem lc_eq (c : Nat) : (!decide ([c] < [97]) && !decide ([122] < [c])) = lc c := by
  unfold lc
  rw [Bool.eq_iff_iff]
  simp only [Bool.and_eq_true, Bool.not_eq_true', decide_eq_false_iff_not, decide_eq_true_eq, one_lt]
  omega
/-! ### the box -/
def Bx (b : Addr) (n : Int) (H : Hp) : Prop := ∃ x y z : Int, H b = some (.lst [.int x, .int y, .int z]) ∧ 0 ≤ x ∧ 0 ≤ y ∧ y < 2147483629 ∧ 0 ≤ z ∧ z ≤ n
theorem Bx.same {b : Addr} {n : Int} {H H' : Hp} (h : Bx b n H) (e : H' b = H b) : Bx b n H' := by
  obtain ⟨x, y, z, h1, r⟩ := h
  exact ⟨x, y, z, e.trans h1, r⟩
theorem Bx.mono {b : Addr} {n m : Int} {H : Hp} (h : Bx b n H) (e : n ≤ m) : Bx b m H := by
  obtain ⟨x, y, z, h1, h2, h3, h4, h5, h6⟩ := h
  exact ⟨x, y, z, h1, h2, h3, h4, h5, by omega⟩
theorem i0 (a b c : V) : atI [a, b, c] 0 = some a := rfl
theorem i1 (a b c : V) : atI [a, b, c] 1 = some b := rfl
theorem i2 (a b c : V) : atI [a, b, c] 2 = some c := rfl
theorem j0 : ixN 3 0 = some 0 := rfl
theorem j2 : ixN 3 2 = some 2 := rfl
/-! ### lists and texts -/
theorem atI_ex {α : Type} {xs : List α} {d : Int} (h0 : 0 ≤ d) (h1 : d < xs.length) : ∃ v, v ∈ xs ∧ atI xs d = some v := by
  obtain ⟨j, rfl⟩ := Int.eq_ofNat_of_zero_le h0
  have hj : j < xs.length := by omega
  exact ⟨xs[j], List.getElem_mem hj, atI_nat (List.getElem?_eq_getElem hj)⟩
theorem joinL_len (S : List Nat) : ∀ ps : List (List Nat), (joinL S ps).length ≤ (ps.map List.length).sum + ps.length * S.length
  | [] => by simp [joinL]
  | [p] => by simp [joinL]
  | p :: q :: r => by
    have ih := joinL_len S (q :: r)
    have e : joinL S (p :: q :: r) = p ++ (S ++ joinL S (q :: r)) := rfl
    rw [e, List.length_append, List.length_append, List.map_cons, List.sum_cons, List.length_cons, Nat.succ_mul]
    omega
theorem tl_len (z : Str) : (tl z).length = z.length := by
  show z.cps.toList.length = z.cps.size
  simp
theorem join_len (y : Str) (ps : List Str) : (Txt.join y ps).length ≤ (ps.map (·.length)).sum + ps.length * y.length := by
  have h := joinL_len (tl y) (ps.map tl)
  rw [← tl_len, join_eq, tl_join]
  have e : (ps.map tl).map List.length = ps.map (·.length) := by
    rw [List.map_map]
    exact List.map_congr_left fun z _ => tl_len z
  rw [e, List.length_map, tl_len] at h
  exact h
theorem sum_ones (ps : List Str) (h : ∀ z ∈ ps, z.length ≤ 1) : (ps.map (·.length)).sum ≤ ps.length := by
  induction ps with
  | nil => simp
  | cons a r ih =>
    have h1 := h a List.mem_cons_self
    have h2 := ih fun z hz => h z (List.mem_cons_of_mem _ hz)
    simp only [List.map_cons, List.sum_cons, List.length_cons]
    omega
theorem lcY {A : TE} {σ : L2.St} {H : Hp} {G : VK} {B : Hp → Prop} (h : A σ H G) : tYes σ H (fun b H3 => if b = true then A σ H3 G else B H3) := by
  show if true = true then A σ H G else B H
  exact iteT h
theorem good_app {a b : Str} (h : Good a) (k : Good b) : Good (a ++ b) := fun c hc => by
  have e : (a ++ b).cps.toList = a.cps.toList ++ b.cps.toList := tl_append a b
  rw [e] at hc
  exact (List.mem_append.mp hc).elim (h c) (k c)
theorem good_cut {a : Str} (h : Good a) (lo hi : Option Int) : Good (cutS a lo hi) := fun c hc => by
  unfold cutS at hc
  exact h c (List.mem_of_mem_drop (List.mem_of_mem_take (by simpa using hc)))
theorem good_joinL {S : List Nat} (hS : ∀ c ∈ S, c < 1114112) : ∀ ps : List (List Nat), (∀ p ∈ ps, ∀ c ∈ p, c < 1114112) → ∀ c ∈ joinL S ps, c < 1114112
  | [], _, c, h => by simp [joinL] at h
  | [p], hp, c, h => hp p List.mem_cons_self c (by simpa [joinL] using h)
  | p :: q :: r, hp, c, h => by
    have e : joinL S (p :: q :: r) = p ++ (S ++ joinL S (q :: r)) := rfl
    rw [e, List.mem_append, List.mem_append] at h
    rcases h with h | h | h
    · exact hp p List.mem_cons_self c h
    · exact hS c h
    · exact good_joinL hS (q :: r) (fun z hz => hp z (List.mem_cons_of_mem _ hz)) c h
theorem good_join {y : Str} {ps : List Str} (hy : Good y) (h : ∀ z ∈ ps, Good z) : Good (Txt.join y ps) := fun c hc => by
  have e : (Txt.join y ps).cps.toList = joinL (tl y) (ps.map tl) := by rw [join_eq]; exact tl_join y ps
  rw [e] at hc
  refine good_joinL hy _ (fun p hp => ?_) c hc
  obtain ⟨z, hz, rfl⟩ := List.mem_map.mp hp
  exact h z hz
theorem good_of (x : String) : Good (Str.ofString x) := fun c hc => by
  have e : (Str.ofString x).cps.toList = x.toList.map Char.toNat := by
    rw [Str.ofString_eq_toList]
  rw [e] at hc
  obtain ⟨d, _, rfl⟩ := List.mem_map.mp hc
  have := d.valid
  unfold UInt32.isValidChar Nat.isValidChar at this
  show d.val.toNat < 1114112
  omega
theorem good_one {z : Str} {c : Nat} (h : Good z) (hc : c ∈ z.cps.toList) : Good ⟨#[c]⟩ := fun d hd => by
  have e : d = c := by simpa using hd
  rw [e]
  exact h c hc
/-- all but the box stays -/
def KB (b : Addr) (H H' : Hp) : Prop := ∀ c o, c ≠ b → H c = some o → H' c = some o
theorem KB.refl (b : Addr) (H : Hp) : KB b H H := fun _ _ _ h => h
theorem KB.trans {b : Addr} {H H1 H2 : Hp} (a : KB b H H1) (c : KB b H1 H2) : KB b H H2 := fun x o n h => c x o n (a x o n h)
theorem KB.off {b : Addr} {H H' : Hp} (h : ∀ a, a ≠ b → H' a = H a) : KB b H H' := fun c o n e => (h c n).trans e
theorem KB.alloc {b p : Addr} {H : Hp} {o : HO} (n : H p = none) : KB b H (upd H p o) := fun c u _ h => by rw [upd_ne (ne_of_none h n)]; exact h
theorem Bx.alloc {b p : Addr} {n : Int} {H : Hp} {o : HO} (h : Bx b n H) (f : H p = none) : Bx b n (upd H p o) := by
  obtain ⟨x, y, z, h1, r⟩ := h
  exact ⟨x, y, z, by rw [upd_ne (ne_of_none h1 f)]; exact h1, r⟩
theorem Bx.put {b p : Addr} {n : Int} {H : Hp} {o : HO} (h : Bx b n H) (f : p ≠ b) : Bx b n (upd H p o) := by
  obtain ⟨x, y, z, h1, r⟩ := h
  exact ⟨x, y, z, by rw [upd_ne f.symm]; exact h1, r⟩
/-- a comprehension over a text's signs -/
theorem lc_text {z : Str} {g : TG} {tt : TT} {te : TE} {vs : List Nat} {σ : L2.St} {H1 : Hp} {D : Addr} {Qd : Hp → Prop} (Pv : Nat → Hp → Prop) (h0 : Pv 0 (upd H1 D (.lst [])))
    (hs : ∀ i c H, z.cps.toList[i]? = some c → Pv i H → g (.str ⟨#[c]⟩) (wipe σ vs) H fun σ2 H2 => wipe σ2 vs = wipe σ vs ∧ tt σ2 H2 fun b H3 =>
      if b = true then te σ2 H3 fun y H4 => ∃ acc, H4 D = some (.lst acc) ∧ acc.length < sizeLine ∧ Pv (i + 1) (upd H4 D (.lst (acc ++ [y]))) else Pv (i + 1) H3) (hd : ∀ H, Pv z.length H → Qd H) :
    ∃ W : Nat → Nat → Hp → Prop, (∃ m, W 0 m (upd H1 D (.lst []))) ∧ ∀ i m H, W i m H →
      ((Its z).stop i H ∧ Qd H) ∨ ((Its z).go i H ∧ ∃ Nx : Hp → Prop, (∀ H', Nx H' → ∃ m', m' < m ∧ W (i + 1) m' H') ∧ ∀ x H', (Its z).yld i H x H' → g x (wipe σ vs) H' fun σ2 H2 => wipe σ2 vs = wipe σ vs ∧ tt σ2 H2 fun b H3 =>
        if b = true then te σ2 H3 fun y H4 => ∃ acc, H4 D = some (.lst acc) ∧ acc.length < sizeLine ∧ Nx (upd H4 D (.lst (acc ++ [y]))) else Nx H3) := by
  refine ⟨fun i m H => i + m = z.cps.size ∧ Pv i H, ⟨z.cps.size, by simp, h0⟩, fun i m H hW => ?_⟩
  obtain ⟨e, p⟩ := hW
  cases m with
  | zero =>
    have ei : i = z.cps.size := e
    subst ei
    exact .inl ⟨Nat.le_refl _, hd H p⟩
  | succ m =>
    refine .inr ⟨show i < z.cps.size by omega, Pv (i + 1), fun H' q => ⟨m, Nat.lt_succ_self m, by omega, q⟩, ?_⟩
    rintro x H' ⟨rfl, c, hc, rfl⟩
    exact hs i c _ (by rw [← hc]; simp) p
def badOf (l : List Nat) : List V := (l.filter fun c => !lc c).map fun c => V.str ⟨#[c]⟩
theorem bad_data {K : PySem.W.Frag} {H : Hp} : ∀ l : List Nat, DpAll K H (l.map fun c => V.str ⟨#[c]⟩) (l.map fun c => PyData.str ⟨#[c]⟩)
  | [] => .nil
  | c :: r => .cons (.str _) (bad_data r)
theorem one_ok {c : Nat} (h : c < 1114112) : PyData.strOk ⟨#[c]⟩ = true := by
  simp [PyData.strOk, h]
theorem bad_shaped : ∀ l : List Nat, (∀ c ∈ l, c < 1114112) → PyData.canLayAll0 (l.map fun c => PyData.str ⟨#[c]⟩) = true
  | [], _ => by simp [PyData.canLayAll0]
  | c :: r, h => by
    simp only [List.map_cons, PyData.canLayAll0, PyData.canLay0, Bool.and_eq_true]
    exact ⟨one_ok (h c List.mem_cons_self), bad_shaped r fun d hd => h d (List.mem_cons_of_mem _ hd)⟩
theorem bad_depth : ∀ l : List Nat, PyData.depthAll (l.map fun c => PyData.str ⟨#[c]⟩) = 0
  | [] => by simp [PyData.depthAll]
  | c :: r => by
    simp only [List.map_cons, PyData.depthAll, PyData.depth, bad_depth r]
    rfl
theorem letters_mem (c : Nat) : decide (c ∈ (Str.ofString "abcdefghijklmnopqrstuvwxyz").cps.toList) = lc c := by
  have e : (Str.ofString "abcdefghijklmnopqrstuvwxyz").cps.toList = (List.range 26).map (· + 97) := by decide +kernel
  rw [e]
  unfold lc
  rw [Bool.eq_iff_iff]
  simp only [decide_eq_true_eq, List.mem_map, List.mem_range, Bool.and_eq_true]
  constructor
  · rintro ⟨a, h, rfl⟩
    omega
  · intro h
    exact ⟨c - 97, by omega, by omega⟩
/-- a fresh place is no box -/
theorem Bx.fresh {b p : Addr} {n : Int} {H : Hp} (h : Bx b n H) (f : H p = none) : p ≠ b := by
  rintro rfl
  obtain ⟨x, y, z, e, _⟩ := h
  rw [f] at e
  cases e
theorem dec9000 {m : Int} (h0 : 0 < m) (h : m ≤ 10 ^ 30) : m.natAbs.log2 < 9000 := by
  have h1 : m.natAbs ≤ 10 ^ 30 := by omega
  have h2 : m.natAbs < 2 ^ 100 := Nat.lt_of_le_of_lt h1 (by decide)
  have h3 := (Nat.log2_lt (by omega)).mpr h2
  omega
theorem log1900 {m : Int} (h : m.natAbs ≤ 10 ^ 31) : m.natAbs.log2 < 1900 := by
  by_cases h0 : m.natAbs = 0
  · rw [h0]
    decide
  · have h2 : m.natAbs < 2 ^ 110 := Nat.lt_of_le_of_lt h (by decide)
    have h3 := (Nat.log2_lt h0).mpr h2
    omega
/-- a place in a list of the script stays -/
theorem seq_kt {K : PySem.W.Frag} {P a : Addr} {H H' : Hp} {xs : List V} (t : TabG H P) (k : KT P H H') (h : SqL K H a xs) : SqL K H' a xs := by
  rcases h with (h | ⟨o, h⟩) | h
  · exact .inl (.inl (k.keep _ _ (ne_tab t h (by simp)) h))
  · exact .inl (.inr ⟨o, k.keep _ _ (ne_tab t h (by simp)) h⟩)
  · exact .inr h
/-- what a row of steps with the box does to all else -/
theorem KT.box {P b : Addr} {H H' H1 : Hp} (t : TabG H P) (f : H b = none) (e : ∀ a, a ≠ b → H1 a = H a) (k : KB b H1 H') : KT P H H' := by
  obtain ⟨ps, ht, tr⟩ := t
  have nb : P ≠ b := ne_of_none ht f
  exact ⟨fun c o _ h => k c o (ne_of_none h f) ((e c (ne_of_none h f)).trans h), ps, k P _ nb ((e P nb).trans ht), tr⟩
theorem two_bools (a b : Bool) : (PyData.list [.bool a, .bool b]).shown.length ≤ sizeLine := by
  cases a <;> cases b <;> decide +kernel
end My

set_option maxRecDepth 100000
set_option maxHeartbeats 4000000
namespace K21
open PySem PySem.Spec PyProof.Rows L2 GxR Gd TL My
/-! ### the text -/
def top (i : Nat) : Stmt := PySem.Challenge.pw_onestaff_k21_locks_of_staffs.main.body.getD i (.Pass ⟨0, 0, 0, 0⟩)
abbrev sWhole : Stmt := top 6
abbrev sCell : Stmt := top 10
abbrev sBox : Stmt := top 11
abbrev sTake : Stmt := top 12
structure Txt (mg : Str → Option Value) : Prop where
  isinstance_ : mg "isinstance" = none
  int_ : mg "int" = none
  bool_ : mg "bool" = none
  str_ : mg "str" = none
  len_ : mg "len" = none
  all_ : mg "all" = none
  max_ : mg "max" = none
  min_ : mg "min" = none
  range_ : mg "range" = none
  repr_ : mg "repr" = none
  list_ : mg "list" = none
  tuple_ : mg "tuple" = none
  enumerate_ : mg "enumerate" = none
  sorted_ : mg "sorted" = none
  dict_ : mg "dict" = none
structure Fn (K : PySem.W.Frag) (mg : Str → Option Value) (x : Str) (st : Stmt) (ps : List Str) (f : Addr) (fd : FuncData) : Prop where
  fn : Fun K x x st f fd
  g : mg x = some (.ref f)
  b : Binds K fd ps []
theorem Fn.kp {K : PySem.W.Frag} {mg : Str → Option Value} {x : Str} {st : Stmt} {ps : List Str} {f : Addr} {fd : FuncData} (h : Fn K mg x st ps f fd) : PySem.W.keepIn K (.ref f) = true := h.fn.kp
section
variable {P : Program} {w : World} {K : PySem.W.Frag} {mg : Str → Option Value} {base : Heap}
def spWhole : Sp := fun vs H Q _ => ∃ (v : V) (lo hi : Int), vs = [v, .int lo, .int hi] ∧ Th H v ∧ Q (.bl (wh lo hi v)) H
theorem scWhole : FnScope ["thing", "low", "high"] ["thing", "low", "high"] (defScope sWhole) := ⟨rfl, rfl, rfl, by decide +kernel, rfl, by decide +kernel, by decide +kernel⟩
theorem ok_whole {f : Addr} {fd : FuncData} (F : Fun K "is_whole" "is_whole" sWhole f fd) (T : Txt mg) : FnOk P w K mg base CX0 1 f fd ["thing", "low", "high"] spWhole := by
  refine F.ok scWhole (fun vs H Q E h => ?_) (fun cdv A outer s H vs Q E hr h => ?_)
  · obtain ⟨v, lo, hi, rfl, _⟩ := h
    rfl
  · obtain ⟨v, lo, hi, rfl, th, k⟩ := h
    obtain ⟨t, ty, cs⟩ := th.ty (K := K)
    refine ⟨_, pss_cons (ps_if (PW.pt (pw_or (pt_not (pt_val (pe_callB call_isi (by rfl) T.isinstance_ (by decide +kernel) (pa_cons (pv 0) (pa_cons (pe_bltn (v := .ty "int") (by rfl) T.int_ (by decide +kernel) rfl) pa_nil)))))
        (pw_or1 (pt_val (pe_callB call_isi (by rfl) T.isinstance_ (by decide +kernel) (pa_cons (pv 0) (pa_cons (pe_bltn (v := .ty "bool") (by rfl) T.bool_ (by decide +kernel) rfl) pa_nil)))))))
        (pss_one (ps_ret pe_bl)) pss_nil)
      (pss_one (ps_ret (pe_chain op_le op_le (pv 1) (pv 0) (pv 2)))), ?_⟩
    rcases cs with ⟨i, rfl, rfl⟩ | ⟨b, rfl, rfl⟩ | ⟨z, rfl, _, rfl⟩ | ⟨n1, n2, n3, ht⟩
    · refine ⟨_, rfl, _, _, _, _, true, rfl, .ty "int", ty, (by rfl), _, rfl, iteF ?_⟩
      refine ⟨_, rfl, _, _, _, _, false, rfl, .ty "bool", ty, (by rfl), _, rfl, iteF ?_⟩
      refine ⟨_, rfl, _, rfl, _, _, rfl, rfl, _, rfl, ?_⟩
      refine ite2 (fun c => ?_) (fun c => ?_)
      · refine ⟨_, rfl, _, _, rfl, rfl, ?_⟩
        have e : (decide (i ≤ hi)) = wh lo hi (.int i) := by simp [wh, of_decide_eq_true c]
        show Q (.bl (decide (i ≤ hi))) H
        rw [e]; exact k
      · have e : false = wh lo hi (.int i) := by simp at c; simp [wh]; omega
        rw [e]; exact k
    · refine ⟨_, rfl, _, _, _, _, true, rfl, .ty "int", ty, (by rfl), _, rfl, iteF ?_⟩
      refine ⟨_, rfl, _, _, _, _, true, rfl, .ty "bool", ty, (by rfl), _, rfl, iteT ?_⟩
      exact k
    · refine ⟨_, rfl, _, _, _, _, false, rfl, .ty "int", ty, (by rfl), _, rfl, iteT (iteT ?_)⟩
      exact k
    · have e : wh lo hi v = false := by
        cases v with
        | int i => exact absurd rfl (n1 i)
        | _ => rfl
      rw [e] at k
      rcases ht with rfl | rfl | rfl | rfl
      · exact ⟨_, rfl, _, _, _, _, false, rfl, .ty "int", ty, (by rfl), _, rfl, iteT (iteT k)⟩
      · exact ⟨_, rfl, _, _, _, _, false, rfl, .ty "int", ty, (by rfl), _, rfl, iteT (iteT k)⟩
      · exact ⟨_, rfl, _, _, _, _, false, rfl, .ty "int", ty, (by rfl), _, rfl, iteT (iteT k)⟩
      · exact ⟨_, rfl, _, _, _, _, false, rfl, .ty "int", ty, (by rfl), _, rfl, iteT (iteT k)⟩

def spCell (K : PySem.W.Frag) : Sp := fun vs H Q _ => ∃ (l : Addr) (ns : List Int) (j : Nat), vs = [.ref l, .int (j : Int)] ∧ SqL K H l (ns.map V.int) ∧ ∀ i : Int, Q (.int i) H
theorem scCell : FnScope ["_law_script", "_law_k"] ["_law_script", "_law_k"] (defScope sCell) := ⟨rfl, rfl, rfl, by decide +kernel, rfl, by decide +kernel, by decide +kernel⟩
theorem ok_cell {f : Addr} {fd : FuncData} (F : Fun K "_law_cell" "_law_cell" sCell f fd) (T : Txt mg) : FnOk P w K mg base CX0 1 f fd ["_law_script", "_law_k"] (spCell K) := by
  refine F.ok scCell (fun vs H Q E h => ?_) (fun cdv A outer s H vs Q E hr h => ?_)
  · obtain ⟨l, ns, j, rfl, _⟩ := h
    rfl
  · obtain ⟨l, ns, j, rfl, hS, k⟩ := h
    refine ⟨_, pss_cons (ps_if (pt_cmpR op_lt (pv 1) (pe_callB call_len_seq (by rfl) T.len_ PySem.boot_len (pa_cons (pv 0) pa_nil)) (nomark _)) (pss_one (ps_ret (pe_ix ix_list (pv 0) (pv 1) (fun _ _ => rfl)))) pss_nil)
      (pss_one (ps_ret (pe_op op_add (pe_op op_mul pe_int (pv 1)) pe_int))), ?_⟩
    refine ⟨_, rfl, _, rfl, l, _, rfl, .inl hS, _, _, rfl, rfl, _, rfl, ite2 (fun c => ?_) (fun c => ?_)⟩
    · have c1 : (j : Int) < ((ns.map V.int).length : Nat) := of_decide_eq_true c
      have c2 : j < ns.length := by rw [List.length_map] at c1; omega
      refine ⟨_, rfl, _, rfl, l, _, _, _, rfl, rfl, hS, atI_nat (v := .int ns[j]) ?_, k _⟩
      rw [List.getElem?_map, List.getElem?_eq_getElem c2]
      rfl
    · exact ⟨_, rfl, _, _, rfl, rfl, .inl ⟨by decide, by decide⟩, _, _, rfl, rfl, k _⟩
def spBox : Sp := fun vs H Q _ => ∃ c : Int, vs = [.int c] ∧ ∀ b H', H b = none → (∀ a, a ≠ b → H' a = H a) → Bx b 0 H' → Q (.ref b) H'
theorem scBox : FnScope ["_law_cell_here"] ["_law_cell_here"] (defScope sBox) := ⟨rfl, rfl, rfl, by decide +kernel, rfl, by decide +kernel, by decide +kernel⟩
theorem ok_box {f : Addr} {fd : FuncData} (F : Fun K "_law_box" "_law_box" sBox f fd) (T : Txt mg) : FnOk P w K mg base CX0 1 f fd ["_law_cell_here"] spBox := by
  refine F.ok scBox (fun vs H Q E h => ?_) (fun cdv A outer s H vs Q E hr h => ?_)
  · obtain ⟨c, rfl, _⟩ := h
    rfl
  · obtain ⟨c, rfl, k⟩ := h
    refine ⟨_, pss_one (ps_ret (pe_lst (pa_cons (pe_callB (call_max2 rfl) (by rfl) T.max_ (by decide +kernel) (pa_cons pe_int (pa_cons (pe_op op_sub (pv 0) (pe_op op_pow pe_int pe_int)) pa_nil))) (pa_cons (pe_op op_mod (pv 0) pe_int) (pa_cons pe_int pa_nil))))), ?_⟩
    refine ⟨_, rfl, _, _, rfl, rfl, ⟨by decide, by decide, by decide⟩, _, _, rfl, rfl, _, _, rfl, ?_⟩
    refine ⟨_, rfl, _, _, rfl, rfl, (by show (0 : Int) < 2147483629; decide), ?_⟩
    refine ⟨(by show 3 ≤ sizeLine; decide), fun b hb => ?_⟩
    refine k b _ hb (fun a na => upd_ne na) ⟨_, _, 0, upd_same, ?_, ?_, ?_, Int.le_refl _, Int.le_refl _⟩
    · split <;> omega
    · exact Int.emod_nonneg _ (by decide)
    · exact Int.emod_lt_of_pos _ (by decide)
def spTake : Sp := fun vs H Q _ => ∃ (b : Addr) (many n : Int), vs = [.ref b, .int many] ∧ Bx b n H ∧ n ≤ 100000 ∧ 0 < many ∧ many.natAbs.log2 < 9000 ∧
  ∀ d H', 0 ≤ d → d < many → (∀ a, a ≠ b → H' a = H a) → Bx b (n + 1) H' → Q (.int d) H'
theorem scTake : FnScope ["_law_box_here", "_law_many", "_law_digit", "_law_number"] ["_law_box_here", "_law_many"] (defScope sTake) := ⟨rfl, rfl, rfl, by decide +kernel, rfl, by decide +kernel, by decide +kernel⟩
theorem ok_take {f : Addr} {fd : FuncData} (F : Fun K "_law_take" "_law_take" sTake f fd) : FnOk P w K mg base CX0 1 f fd ["_law_box_here", "_law_many"] spTake := by
  refine F.ok scTake (fun vs H Q E h => ?_) (fun cdv A outer s H vs Q E hr h => ?_)
  · obtain ⟨b, many, n, rfl, _⟩ := h
    rfl
  · obtain ⟨b, many, n, rfl, ⟨x, y, z, hb, x0, y0, y1, z0, zn⟩, hn, m0, ml, k⟩ := h
    refine ⟨_, pss_cons (ps_if (pt_cmpR op_gt (pe_ix ix_list (pv 0) pe_int (fun _ _ => rfl)) pe_int (nomark _))
        (pss_cons (ps_set (i := 2) scTake.nd rfl (Or.inl rfl) (pe_op op_mod (pe_ix ix_list (pv 0) pe_int (fun _ _ => rfl)) (pv 1)))
        (pss_cons (ps_asg (pe_op op_fdivW (pe_ix ix_list (pv 0) pe_int (fun _ _ => rfl)) (pv 1)) (pg_sub (pv 0) pe_int set_list))
        (pss_one (ps_ret (pv 2))))) pss_nil)
      (pss_cons (ps_asg (pe_op op_add (pe_ix ix_list (pv 0) pe_int (fun _ _ => rfl)) pe_int) (pg_sub (pv 0) pe_int set_list))
      (pss_cons (ps_set (i := 3) scTake.nd rfl (Or.inl rfl) (pe_op op_mod (pe_op op_pow (pe_op op_add (pe_op op_add (pe_ix ix_list (pv 0) pe_int (fun _ _ => rfl)) (pe_op op_mul pe_int (pe_ix ix_list (pv 0) pe_int (fun _ _ => rfl)))) pe_int) pe_int) pe_int))
      (pss_cons (ps_set (i := 3) scTake.nd rfl (Or.inl rfl) (pe_op op_mod (pe_op op_pow (pe_op op_add (pv 3) (pe_op op_mul pe_int (pe_ix ix_list (pv 0) pe_int (fun _ _ => rfl)))) pe_int) pe_int))
      (pss_one (ps_ret (pe_op op_mod (pe_op op_fdiv (pv 3) pe_int) (pv 1))))))), ?_⟩
    have hL : SqL K H b [.int x, .int y, .int z] := SqL.of hb
    refine ⟨_, rfl, b, _, _, _, rfl, rfl, hL, i0 _ _ _, _, _, rfl, rfl, _, rfl, ite2 (fun c => ?_) (fun c => ?_)⟩
    · refine ⟨_, rfl, b, _, _, _, rfl, rfl, hL, i0 _ _ _, _, rfl, _, _, rfl, rfl, m0, ?_⟩
      refine ⟨_, rfl, b, _, _, _, rfl, rfl, hL, i0 _ _ _, _, rfl, _, _, rfl, rfl, ⟨m0, ml⟩, ?_⟩
      refine ⟨_, rfl, b, _, _, _, rfl, rfl, hb, j0, ?_⟩
      refine ⟨_, rfl, ?_⟩
      exact k _ _ (Int.emod_nonneg _ (by omega)) (Int.emod_lt_of_pos _ m0) (fun a na => upd_ne na) ⟨_, _, _, upd_same, Int.ediv_nonneg x0 (by omega), y0, y1, z0, by omega⟩
    · refine ⟨_, rfl, b, _, _, _, rfl, rfl, hL, i2 _ _ _, _, _, rfl, rfl, ?_⟩
      refine ⟨_, rfl, b, _, _, _, rfl, rfl, hb, j2, ?_⟩
      have h1 : upd H b (.lst ([V.int x, .int y, .int z].set 2 (.int (z + 1)))) b = some (.lst [.int x, .int y, .int (z + 1)]) := upd_same
      have hL1 : SqL K (upd H b (.lst ([V.int x, .int y, .int z].set 2 (.int (z + 1))))) b [.int x, .int y, .int (z + 1)] := SqL.of h1
      refine ⟨_, rfl, b, _, _, _, rfl, rfl, hL1, i1 _ _ _, _, rfl, b, _, _, _, rfl, rfl, hL1, i2 _ _ _, _, _, rfl, rfl, .inl ⟨by decide, by decide⟩, _, _, rfl, rfl, _, _, rfl, rfl,
        _, _, rfl, rfl, ⟨by decide, by decide, ?_⟩, _, _, rfl, rfl, (by show (0 : Int) < 2147483647; decide), ?_⟩
      · omega
      refine ⟨_, rfl, _, rfl, b, _, _, _, rfl, rfl, hL1, i2 _ _ _, _, _, rfl, rfl, .inl ⟨by decide, by decide⟩, _, _, rfl, rfl,
        _, _, rfl, rfl, ⟨by decide, by decide, ?_⟩, _, _, rfl, rfl, (by show (0 : Int) < 2147483629; decide), ?_⟩
      · have g0 := Int.emod_nonneg ((y + 6700417 * (z + 1) + 271) ^ (5 : Int).toNat) (show (2147483647 : Int) ≠ 0 by decide)
        have g1 := Int.emod_lt_of_pos ((y + 6700417 * (z + 1) + 271) ^ (5 : Int).toNat) (show (0 : Int) < 2147483647 by decide)
        generalize (y + 6700417 * (z + 1) + 271) ^ (5 : Int).toNat % 2147483647 = q at g0 g1 ⊢
        omega
      refine ⟨_, rfl, _, _, rfl, rfl, ⟨by decide, by decide⟩, _, rfl, _, _, rfl, rfl, m0, ?_⟩
      exact k _ _ (Int.emod_nonneg _ (by omega)) (Int.emod_lt_of_pos _ m0) (fun a na => upd_ne na) ⟨_, _, _, h1, x0, y0, y1, by omega, by omega⟩
end
end K21


set_option maxRecDepth 100000
set_option maxHeartbeats 1000000
/-! Refusals: a try with clauses, named or not, in any order; a class's def called by the class; isinstance of what was caught. -/
namespace My
open PySem PySem.Spec PyProof.Rows L2 GxR
/-! ### a try with clauses, named or not -/
abbrev Cl := Value × Option Nat × (Addr → Value → Option Addr → TS)
/-- what follows is the same by two ways: I holds there -/
theorem cutR {A : Prop} {G : Hp → Prop} (I : Hp → Prop) (main : (∀ H, I H → G H) → A) (last : ∀ H, I H → G H) : A := main last
def endsOff (i : Nat) (D : Ends) : Ends :=
  { nx := fun τ G => D.nx (τ.set i none) G, rt := D.rt, bk := fun τ G => D.bk (τ.set i none) G, ct := fun τ G => D.ct (τ.set i none) G }
def suiteOf (i : Option Nat) (t : TS) (a : Addr) (D : Ends) (σ : L2.St) (H : Hp) : Prop :=
  match i with
  | none => t D σ H
  | some i => t (endsOff i D) (σ.set i (some (.ref a))) H
/-- what the clauses wish, one behind the other -/
def wCl (K : PySem.W.Frag) (Wout : WX) (D : Ends) : List Cl → WX
  | [] => Wout
  | p :: l => fun cls d σ H => ∃ b, PySem.W.exmOne K cls p.1 = some b ∧
      (b = true → ∀ a, H a = none → suiteOf p.2.1 (p.2.2 a cls d) a D σ H) ∧ (b = false → wCl K Wout D l cls d σ H)
def SuiteOk (X : Cx) (ss : List Stmt) (ts : Addr → Value → Option Addr → TS) : Prop :=
  ∀ (a : Addr) (oe : Obj) (cls : Value) (d : Option Addr) (pn : List (Addr × Obj)), Zc cls d oe → (∃ fv, oe.data = .fields fv) → PSs (X.suite a ((a, oe) :: pn)) ss (ts a cls d)
inductive Clauses (X : Cx) : List ExceptHandler → List Cl → Prop
  | nil : Clauses X [] []
  | plain {x : Str} {c : Value} {ts : Addr → Value → Option Addr → TS} {st : Stmt} {ss : List Stmt} {p q : Pos} {hds : List ExceptHandler} {l : List Cl}
      (hc : Names X x c) (hsu : SuiteOk X (st :: ss) ts) (r : Clauses X hds l) : Clauses X (.ExceptHandler (some (.Name x p)) none (st :: ss) q :: hds) ((c, none, ts) :: l)
  | named {x n : Str} {i : Nat} {c : Value} {ts : Addr → Value → Option Addr → TS} {st : Stmt} {ss : List Stmt} {p q : Pos} {hds : List ExceptHandler} {l : List Cl}
      (hc : Names X x c) (hi : X.N[i]? = some n) (hn : X.env.kindOf n = some .local) (hsu : SuiteOk X (st :: ss) ts) (r : Clauses X hds l) :
      Clauses X (.ExceptHandler (some (.Name x p)) (some n) (st :: ss) q :: hds) ((c, some i, ts) :: l)
/-- an exception in hand -/
structure InHand (X : Cx) (pins : List (Addr × Obj)) (σ : L2.St) (H : Hp) (cls : Value) (d : Option Addr) (a : Addr) (B : Heap) (sI s : Shared) : Prop where
  inv : Inv X pins σ H sI
  grd : ∀ b o, sI.heap.get? b = some o → b ∉ frs X.stack → B.get? b = some o
  up : sI.heap.UpToSlots s.heap
  fly : HandSPX.FlyingZ B (X.env :: X.outer) a (Zc cls d) s.heap
  new : H a = none
  os : s.os = sI.os
  ag : AllBare s.gens
section
variable {X : Cx} {pins : List (Addr × Obj)} {σ : L2.St} {H : Hp} {cls : Value} {d : Option Addr} {a : Addr} {B : Heap} {sI s : Shared}
theorem InHand.now (h : InHand X pins σ H cls d a B sI s) : Inv X pins σ H s := h.inv.landed h.grd h.fly.1 h.up h.os h.ag
theorem InHand.move (h : InHand X pins σ H cls d a B sI s) {g : Heap} (f : HandSPX.FlyingZ B (X.env :: X.outer) a (Zc cls d) g) (u : s.heap.UpToSlots g) :
    InHand X pins σ H cls d a B sI { s with heap := g } := ⟨h.inv, h.grd, h.up.trans u, f, h.new, h.os, h.ag⟩
theorem InHand.seen (h : InHand X pins σ H cls d a B sI s) (hf : X.env.frame = some X.env.locals) :
    ∃ oe fv, s.heap.get? a = some oe ∧ Zc cls d oe ∧ oe.data = .fields fv ∧ a ≠ X.env.locals ∧ a ∉ X.fs := by
  obtain ⟨oe, fv, e1, e2, e3⟩ := h.fly.there
  have off : a ∉ frs (X.env :: X.outer) := by
    intro m
    obtain ⟨_, o2, e4, no⟩ := h.fly.2.2.1.mem m
    rw [e1] at e4
    obtain rfl := Option.some.inj e4
    exact no _ e3
  refine ⟨oe, fv, e1, e2, e3, fun z => off ?_, fun z => off ?_⟩
  · rw [z]
    exact List.mem_filterMap.mpr ⟨X.env, by simp, hf⟩
  · obtain ⟨v, hv, q⟩ := List.mem_filterMap.mp z
    exact List.mem_filterMap.mpr ⟨v, by simp [hv], q⟩
/-- the suite of a clause behind the try's own end -/
theorem InHand.leave (ok : X.Ok) {oe : Obj} {D : Ends} {f : Flow} {s2 : Shared} (h : SP (X.suite a ((a, oe) :: (X.pn ++ pins))) [] D f s2) : SP X pins D f s2 := by
  cases f with
  | ret u => obtain ⟨v, τ, G, J, r, q⟩ := h; exact ⟨v, τ, G, J.unsuite ok, r, q⟩
  | next => obtain ⟨τ, G, J, q⟩ := h; exact ⟨τ, G, J.unsuite ok, q⟩
  | brk => obtain ⟨τ, G, J, q⟩ := h; exact ⟨τ, G, J.unsuite ok, q⟩
  | cont => obtain ⟨τ, G, J, q⟩ := h; exact ⟨τ, G, J.unsuite ok, q⟩
/-- no clause took it -/
theorem InHand.out (hs : X.stack = X.env :: X.outer) (hf : X.env.frame = some X.env.locals) {Wout : WX} (tk : Takes X Wout) (h : InHand X pins σ H cls d a B sI s) (w : Wout cls d σ H) {Q : Flow → Shared → Prop} :
    wpAny (model X.prog X.w) X.A (handleBy (.ref a) X.env []) Q X.xe s := by
  have fly := h.fly
  refine wpAny_handleBy_nil ?_
  obtain ⟨_, _, _, oe, fv, T, _, _, e1, _, e2, e3, _⟩ := id h.fly
  unfold PySem.passOn
  refine wpAny_bind (wpAny_field e1 e2 e3 ?_)
  rw [if_neg (by simp)]
  have last : wpAny (model X.prog X.w) X.A (setFlight (.ref a) X.env.frame) (fun _ z => wpAny (model X.prog X.w) X.A (throw (.ref a) : Sem Flow) Q X.xe z) X.xe s := by
    rw [hf]
    refine HandSPX.setFlight_upZ fly fun g held up => wpAny_throw (tk _ _ ⟨a, B, sI, pins, σ, H, cls, d, rfl, h.inv, h.grd, h.up.trans up, .inr (.inr ?_), h.new, h.os, h.ag, w⟩)
    rw [hs]
    exact held
  first
    | exact wpAny_bind last
    | exact wpAny_bind (wpAny_pure (wpAny_bind last))
/-- the class that a clause names, told -/
theorem InHand.named (h : InHand X pins σ H cls d a B sI s) (hf : X.env.frame = some X.env.locals) {x : Str} {c : Value} {p : Pos} (hc : Names X x c) {Q : Value → Shared → Prop} {E : Value → Shared → Prop} (q : Q c s) :
    wpAny (model X.prog X.w) (X.A.mark (some (.ref a))) (eval (.Name x p) X.env) Q E s := by
  obtain ⟨oe, fv, e1, _, e3, n1, n2⟩ := h.seen hf
  have S := h.now.suite e1 e3 h.new n1 n2
  obtain ⟨hg, hd, hm | ⟨hm, hv, hn⟩⟩ := hc
  · exact ld_glob (X := X.suite a ((a, oe) :: (X.pn ++ pins))) S hg hm q hd
  · exact ld_blt (X := X.suite a ((a, oe) :: (X.pn ++ pins))) S hg hm hv q hn hd
theorem InHand.through (hs : X.stack = X.env :: X.outer) (hf : X.env.frame = some X.env.locals) (hN : X.N.Nodup) {Wout : WX} (tk : Takes X Wout) {D : Ends} {hds : List ExceptHandler} {l : List Cl}
    (ck : Clauses X hds l) : ∀ {s : Shared}, InHand X pins σ H cls d a B sI s → wCl X.K Wout D l cls d σ H → wpAny (model X.prog X.w) X.A (handleBy (.ref a) X.env hds) (SP X pins D) X.xe s := by
  induction ck with
  | nil => exact fun h w => h.out hs hf tk w
  | @plain x c ts st ss p q hds l hc hsu r ih =>
    rintro s h ⟨b, hb, yes, no⟩
    have fly := h.fly
    obtain ⟨oe, fv, e1, e2, _⟩ := h.seen hf
    have own : PySem.W.Looks (model X.prog X.w) s.heap (typeOf (.ref a)) cls := fun _ _ _ z k q => wpAny_typeOf_ref (k _ _ e1) (by rw [e2.1]; exact q)
    refine wpAny_handleBy_cons (codeAny_handlers_test (h.named hf hc ((PySem.W.exm_one h.now.kIn own hb).here ?_))) (fun z => by cases z)
    cases b with
    | false => exact ih h (no rfl)
    | true =>
      refine codeAny_handlers_suite (HandSPX.lands_againZ fly fun g f2 u2 => ?_)
      have h2 := h.move f2 u2
      obtain ⟨oe2, fv2, i1, i2, i3, i4, i5⟩ := h2.seen hf
      exact wpAny_mono ((hsu a oe2 cls d (X.pn ++ pins) i2 ⟨_, i3⟩).run [] _ _ _ _ (h2.now.suite i1 i3 h.new i4 i5) (yes rfl a h.new)) (fun f z y => InHand.leave h.inv.ok y) fun _ _ z => z.elim
  | @named x n i c ts st ss p q hds l hc hi hn hsu r ih =>
    rintro s h ⟨b, hb, yes, no⟩
    have fly := h.fly
    obtain ⟨oe, fv, e1, e2, _⟩ := h.seen hf
    have own : PySem.W.Looks (model X.prog X.w) s.heap (typeOf (.ref a)) cls := fun _ _ _ z k q => wpAny_typeOf_ref (k _ _ e1) (by rw [e2.1]; exact q)
    refine wpAny_handleBy_cons (codeAny_handlers_test (h.named hf hc ((PySem.W.exm_one h.now.kIn own hb).here ?_))) (fun z => by cases z)
    cases b with
    | false => exact ih h (no rfl)
    | true =>
      refine codeAny_handlers_suite_as (HandSPX.lands_againZ fly fun g f2 u2 => ?_)
      have h2 := h.move f2 u2
      obtain ⟨oe2, fv2, i1, i2, i3, i4, i5⟩ := h2.seen hf
      refine store_ok (X := X.suite a ((a, oe2) :: (X.pn ++ pins))) (v := .ref a) (h2.now.suite i1 i3 h.new i4 i5) hN hi (.inl hn) rfl (fun z J => ?_) (.inr hn)
      refine wpAny_mono ((hsu a oe2 cls d (X.pn ++ pins) i2 ⟨_, i3⟩).run [] z _ _ _ J (yes rfl a h.new)) (fun f y k => ?_) fun _ _ z => z.elim
      have k' := InHand.leave h.inv.ok k
      cases f with
      | next => obtain ⟨τ, G, J2, q2⟩ := k'; exact gone_ok J2 hN hi hn fun _ J3 => ⟨_, _, J3, q2⟩
      | brk => obtain ⟨τ, G, J2, q2⟩ := k'; exact gone_ok J2 hN hi hn fun _ J3 => ⟨_, _, J3, q2⟩
      | cont => obtain ⟨τ, G, J2, q2⟩ := k'; exact gone_ok J2 hN hi hn fun _ J3 => ⟨_, _, J3, q2⟩
      | ret u => obtain ⟨v, τ, G, J2, r2, q2⟩ := k'; exact gone_ok J2 hN hi hn fun _ J3 => ⟨_, _, _, J3, r2, q2⟩
end
/-- try: body, any clauses -/
theorem ps_try_cl {X : Cx} {body : List Stmt} {hd : ExceptHandler} {hds : List ExceptHandler} {l : List Cl} {pos : Pos} {tb : WX → TS} {Wout : WX} (hs : X.stack = X.env :: X.outer) (hf : X.env.frame = some X.env.locals) (hN : X.N.Nodup)
    (tk : Takes X Wout) (ck : Clauses X (hd :: hds) l)
    (hb : ∀ (W : WX) (pn : List (Addr × Obj)) (xe : Value → Shared → Prop), Takes (X.tr pn xe) W → PassesOwn (model X.prog X.w) X.A X.env xe → PSs (X.tr pn xe) body (tb W)) :
    PS X (.Try body (hd :: hds) [] [] pos) (fun D σ H => tb (wCl X.K Wout D l) D σ H) := by
  refine ⟨fun pins s σ H D I h => wpAny_Try_except ?_⟩
  have ok := I.ok
  have fr : X.A.frames = some (X.env :: X.outer) := by rw [ok.frames, hs]
  let xe : Value → Shared → Prop := fun e z => wpAny (model X.prog X.w) X.A (noteFrame e X.env) (fun _ z2 => wpAny (model X.prog X.w) X.A (setFlight e none)
    (fun _ z3 => wpAny (model X.prog X.w) X.A (handleBy e X.env (hd :: hds)) (SP X pins D) X.xe z3) X.xe z2) X.xe z
  have take : Takes (X.tr (X.pn ++ pins) xe) (wCl X.K Wout D l) := by
    rintro _ z ⟨a, B, sI, pn, τ, G, cls, d, rfl, J, grd, up, sky, new, os, ag, w⟩
    rw [show (X.tr (X.pn ++ pins) xe).stack = X.env :: X.outer from hs] at sky
    refine Sky.land Zc.steady fr hf sky fun g fly u => ?_
    exact InHand.through hs hf hN tk ck (s := { z with heap := g }) ⟨J.ofTry ok, grd, up.trans u, fly, new, os, ag⟩ w
  refine wpAny_mono ((hb _ _ xe take PassesOwn.looking).run [] s σ H D (I.toTry _) h) (fun f z k => ?_) fun _ _ z => z
  cases f with
  | next => obtain ⟨τ, G, J, q⟩ := k; exact wpAny_execs_nil ⟨τ, G, J.ofTry ok, q⟩
  | brk => obtain ⟨τ, G, J, q⟩ := k; exact ⟨τ, G, J.ofTry ok, q⟩
  | cont => obtain ⟨τ, G, J, q⟩ := k; exact ⟨τ, G, J.ofTry ok, q⟩
  | ret u => obtain ⟨v, τ, G, J, r, q⟩ := k; exact ⟨v, τ, G, J.ofTry ok, r, q⟩
/-! ### C.m(e, ..), C a class of the program -/
/-- what the written part says of a def f that a class at C tells by its name -/
structure ClsDef (K : PySem.W.Frag) (C f : Addr) (n : Str) : Prop where
  ga : PySem.W.specialIn K (.ref C) "__getattribute__" = some (some (.builtin "type.__getattribute__"))
  rd : PySem.W.readsIn K C (.type "type") = true
  at_ : PySem.W.findCls K (.ref C) (.type "type") n = some (.val (.ref f))
section
variable {X : Cx} {CX : CXT} {k : Nat} {C f : Addr} {fd : FuncData} {ps : List Str} {sp : Sp} {dvs : List V} {ds : List Value} {E : XK} {x n : Str} {p1 p2 pos : Pos} {e : Expr} {es : List Expr} {t : TA}
theorem pe_ccall {pl : Sem Bool} (T : ClsDef X.K C f n) (F : FnOk X.prog X.w X.K X.mg X.base CX k f fd ps sp) (hr : Room k X.A) (hg : Gl X x) (hm : X.mg x = some (.ref C)) (hk : PySem.W.keepIn X.K (.ref f) = true)
    (hb : Binds X.K fd ps ds) (hd : Vals dvs ds) (hx : Passes CX X E) (ha : PA X (e :: es) t) (hdb : (x == ("__debug__" : Str)) = false := by decide)
    (hc : eval (.Call (.Attribute (.Name x p1) n p2) (e :: es) [] pos) X.env = (do
      let ov ← eval (.Name x p1) X.env
      standAt p2.atName
      let (f, first) ← holding [ov] (getMethod ov n pl)
      callWith pos f first (backTo pos (starEach (e :: es) X.env)) (backToKw pos (keywordEach [] X.env))) := by rfl)
    (he : starEach (e :: es) X.env = (false, eval e X.env) :: starEach es X.env := by rfl) (hpl : (backTo pos (starEach es X.env)).any (·.1) = false := by rfl) :
    PE X (.Call (.Attribute (.Name x p1) n p2) (e :: es) [] pos) (tCall sp dvs E t) := by
  refine ⟨fun pins s σ H Q I h => PySem.W.methodCall_KW (ld_glob I hg hm ?_ hdb) hc⟩
  refine PySem.W.method_cls I.kIn T.ga (PySem.W.cls_value I.kIn T.rd T.at_ rfl ?_)
  refine PySem.W.callWith_K (h₀ := X.base) I.ok.mod.kin hk (thn (ha.run pos pins _ σ H _ (I.tok _) h) ?_) he hpl
  rintro us s1 ⟨vs, H1, I1, r, q⟩
  refine ⟨I1.kIn, ?_⟩
  have both := r.append hd
  have len : (us ++ ds).length = ps.length := (both.length).symm.trans (F.len _ _ _ _ q)
  refine wpAny_call (codeAny_mono (F.run X.A X.stack s1 H1 ⟨us, []⟩ (us ++ ds) (vs ++ dvs) Q E hr I1.env0 (hb s1 us I1.kIn len) both q) ?_)
  intro res z hz
  match res, hz with
  | .ok (.ret u), hz => exact I1.after hz
  | .error e, hz => exact hx pins σ H1 s1 e z I1 hz
  | .ok .next, hz => exact hz.elim
  | .ok .brk, hz => exact hz.elim
  | .ok .cont, hz => exact hz.elim
end
/-! ### o.m(e, ..) in a try's body -/
section
variable {X : Cx} {CX : CXT} {k : Nat} {C f : Addr} {fd : FuncData} {ps : List Str} {sp : Sp} {E : L2.St → XK} {m : Str} {pos apos : Pos} {e o : Expr} {es : List Expr} {ta : TE} {t : TA}
def tMethX (C : Addr) (m : Str) (sp : Sp) (E : L2.St → XK) (ta : TE) (t : TA) : TE := fun σ H Q => ta σ H fun x G => ∃ a dx fs, x = .ref a ∧ G a = some (.ins C dx fs) ∧ fs.lookup m = none ∧
  t σ G fun vs G2 => sp (x :: vs) G2 Q (E σ)
theorem pe_methX {pl : Sem Bool} (he : PE X o ta) (c : Cls X.K C) (hm : Meth X.K C m f) (F : FnOk X.prog X.w X.K X.mg X.base CX k f fd ps sp) (hr : Room k X.A) (hb : Binds X.K fd ps []) (hx : ∀ σ, PassesAt CX X σ (E σ)) (ha : PA X (e :: es) t)
    (hst : starEach (e :: es) X.env = (false, eval e X.env) :: starEach es X.env := by rfl) (hpl : (backTo pos (starEach es X.env)).any (·.1) = false := by rfl)
    (ht : eval (.Call (.Attribute o m apos) (e :: es) [] pos) X.env = (do
      let ov ← eval o X.env
      standAt apos.atName
      let (f, first) ← holding [ov] (getMethod ov m pl)
      callWith pos f first (backTo pos (starEach (e :: es) X.env)) (backToKw pos (keywordEach [] X.env))) := by rfl) :
    PE X (.Call (.Attribute o m apos) (e :: es) [] pos) (tMethX C m sp E ta t) := by
  refine ⟨fun pins s σ H Q I h => PySem.W.methodCall_KW (pl := pl) (thn (he.run pins s σ H _ I h) ?_) ht⟩
  rintro u z ⟨x, G, J, rx, a, dx, fs, rfl, ea, l, q⟩
  obtain rfl : u = Value.ref a := rx
  refine getmeth_ok J ea c hm l (PySem.W.callWith_K (first := [.ref a]) (h₀ := X.base) I.ok.mod.kin hm.kp (thn (ha.run pos pins z σ G _ J q) ?_) hst hpl)
  rintro us y ⟨vs, G2, J2, r, q2⟩
  exact ⟨J2.kIn, run_fnS (us := .ref a :: us) (vs := .ref a :: vs) F hr hb (hx σ) J2 (.cons rfl r) q2⟩
end
/-! ### the family: an __init__ over another class's, one field -/
/-- StaffError.__init__(self, text) and the like -/
def spUp (K : PySem.W.Frag) : Sp := fun vs H Q _ => ∃ (a C : Addr) (z : Str), vs = [.ref a, .str z] ∧ OexC K C ∧ H a = some (exo a C none) ∧ Q .non H
/-- C.__init__(self, x), its one field f -/
def spOne (K : PySem.W.Frag) (C : Addr) (f : Str) : Sp := fun vs H Q _ => ∃ (a : Addr) (v : V), vs = [.ref a, v] ∧ H a = some (exo a C none) ∧
  ∀ dx, H dx = none → dx ≠ a → Q .non (upd (upd H dx (exd dx [(f, v)])) a (exo a C (some dx)))
/-- what is left of a made exception: its dict alone -/
theorem made_eq {H : Hp} {a d C : Addr} {fs : List (Str × V)} (n : H a = none) (ne : d ≠ a) :
    upd (del (upd (upd (upd H a (exo a C none)) d (exd d fs)) a (exo a C (some d))) a) d (.xd fs) = upd H d (.xd fs) := by
  funext b
  by_cases hd : b = d
  · rw [hd, upd_same, upd_same]
  · rw [upd_ne hd, upd_ne hd]
    by_cases ha : b = a
    · rw [ha, del_same, n]
    · rw [del_ne ha, upd_ne ha, upd_ne hd, upd_ne ha]
/-- raise C(x): what is to be shown -/
theorem made_one {K : PySem.W.Frag} {C : Addr} {f : Str} {v : V} {H : Hp} {W : Value → Option Addr → Hp → Prop} (k : ∀ d, H d = none → W (.ref C) (some d) (upd H d (.xd [(f, v)]))) :
    ([v] : List V).length ≤ 1000 ∧ ∀ a, H a = none → spOne K C f (.ref a :: ([v] ++ [])) (upd H a (exo a C none))
      (fun u H2 => u = .non ∧ ∃ (d : Addr) (fs : List (Str × V)), H2 a = some (exo a C (some d)) ∧ H2 d = some (exd d fs) ∧ H d = none ∧ W (.ref C) (some d) (upd (del H2 a) d (.xd fs))) (fun _ _ _ => False) := by
  refine ⟨by simp, fun a n => ⟨a, v, rfl, upd_same, fun dx hdx ne => ⟨rfl, dx, [(f, v)], upd_same, ?_, ?_, ?_⟩⟩⟩
  · rw [upd_ne ne, upd_same]
  · rw [upd_ne ne] at hdx
    exact hdx
  · rw [made_eq n ne]
    rw [upd_ne ne] at hdx
    exact k dx hdx
/-- a class is its own -/
theorem sub_self {K : PySem.W.Frag} {C : Addr} {cd : ClassData} {r : List Value} (h : PySem.W.clsIn K C = some cd) (e : cd.mro = .ref C :: r) : PySem.W.subIn K (.ref C) (.ref C) = some true := by
  show PySem.W.mroIn K C (.ref C) = some true
  unfold PySem.W.mroIn
  rw [h]
  simp [e]
/-! ### isinstance of what was caught -/
structure CauC (K : PySem.W.Frag) (D : Addr) : Prop where
  cl : (PySem.W.clsIn K D).isSome = true
  ga : PySem.W.findIn K (.ref D) "__getattribute__" = some (some (.builtin "BaseException.__getattribute__"))
  gg : PySem.W.findIn K (.ref D) "__getattr__" = some none
  sub : PySem.W.subIn K (.ref D) (.type "BaseException") = some true
  co : PySem.W.findIn K (.ref D) "__class__" = some (some (.builtin "object.__class__"))
  cg : PySem.W.specialIn K (.builtin "object.__class__") "__get__" = some (some (.builtin "getset_descriptor.__get__"))
  ct : PySem.W.takesIn K (.builtin "object.__class__") = some true
  mo : PySem.W.mroIn K D (.type "object") = some true
/-- isinstance(e, c), e what the suite holds (cls its class, d its dict) -/
def rIsD (K : PySem.W.Frag) (D a : Addr) (cls : Value) (d : Option Addr) : List V → Hp → VK → Prop := fun xs H Q => ∃ (c : V) (cv : Value) (b : Bool) (dd : Addr) (fs : List (Str × V)),
  xs = [.ref a, c] ∧ (∀ u, RelV c u → u = cv) ∧ PySem.W.kitOne K (.ref D) cv = some b ∧ cls = .ref D ∧ d = some dd ∧ H dd = some (.xd fs) ∧ Q (.bl b) H
theorem call_isD {X : Cx} {a D : Addr} {cls : Value} {d : Option Addr} {oe : Obj} {pn : List (Addr × Obj)} (T : CauC X.K D) (hz : Zc cls d oe) (hf : ∃ fv, oe.data = .fields fv) :
    CallR (X.suite a ((a, oe) :: pn)) (.builtin "isinstance") (rIsD X.K D a cls d) := by
  rintro pins s σ H xs us Q I r ⟨c, cv, b, dd, fs, rfl, hcv, e, rfl, rfl, ed, q⟩
  cases r with
  | cons rx rr =>
    cases rr with
    | cons rt rr =>
      cases rr
      cases rx
      obtain rfl := hcv _ rt
      obtain ⟨hget, _⟩ := I.pin (a, oe) (by simp)
      obtain ⟨fv, hv⟩ := hf
      have hx : ObjOk X.prog X.w H s.heap dd (.xd fs) := I.hok dd _ ed
      obtain ⟨mA, hns, _⟩ := hx
      obtain ⟨od, ho, _⟩ := lookIn_ns hns
      have J : PySem.W.InstAt s.heap a oe D (some od) := ⟨hget, hz.1, by unfold PySem.W.notCls; rw [hv] <;> rfl, by rw [hz.2]; exact ho⟩
      exact PySem.W.kia_one (PySem.W.kitx_exc T.cl T.ga T.gg T.sub T.co T.cg T.ct T.mo) I.kIn J e (fun z => nomatch z) fun tk => ⟨.bl b, H, I.tok _, rfl, q⟩
/-- a call of a def that may raise, where it does not -/
theorem pass_no {X : Cx} : Passes (L2.CX X.prog X.w) X E0 := fun _ _ _ _ _ _ _ ⟨_, _, _, _, _, _, _, _, _, _, _, _, z⟩ => z.elim
theorem takes_never {X : Cx} : Takes X (fun _ _ _ _ => False) := fun _ _ ⟨_, _, _, _, _, _, _, _, _, _, _, _, _, _, _, _, z⟩ => z.elim
end My

set_option maxRecDepth 100000
set_option maxHeartbeats 400000
/-! Several refusals of one family: what the written part says of each. -/
namespace My
open PySem PySem.Spec PyProof.Rows L2 GxR Gd TL
/-- the class above them -/
structure SeT (K : PySem.W.Frag) (mg : Str → Option Value) (CS fS : Addr) (fdS : FuncData) (st : Stmt) : Prop where
  ve : mg "ValueError" = none
  vi : PySem.W.findCls K (.type "ValueError") (.type "type") "__init__" = some (.val (.builtin "ValueError.__init__"))
  g : mg "StaffError" = some (.ref CS)
  c : ClsDef K CS fS "__init__"
  k : PySem.W.keepIn K (.ref fS) = true
  F : Fun K "__init__" "StaffError.__init__" st fS fdS
  b : Binds K fdS ["self", "text"] []
/-- one of them -/
structure ExC (K : PySem.W.Frag) (mg : Str → Option Value) (x q : Str) (st : Stmt) (C f : Addr) (fd : FuncData) : Prop where
  g : mg x = some (.ref C)
  F : Fun K "__init__" q st f fd
  b : Binds K fd ["self", "found"] []
  o : OexC K C
  i : PySem.W.findIn K (.ref C) "__init__" = some (some (.ref f))
  t : PySem.W.typeIn K (.ref f) = some (.type "function")
  n : PySem.W.findIn K (.ref C) "found" = some none
  e : PySem.W.exmOne K (.ref C) (.ref C) = some true
  x : XfC K C
  u : CauC K C
section
variable {X : Cx} {CX : CXT} {k : Nat} {C f : Addr} {fd : FuncData} {ps : List Str} {sp : Sp} {E : L2.St → XK} {m : Str} {pos apos : Pos} {o : Expr} {ta : TE}
def tMethX0 (C : Addr) (m : Str) (sp : Sp) (E : L2.St → XK) (ta : TE) : TE := fun σ H Q => ta σ H fun x G => ∃ a dx fs, x = .ref a ∧ G a = some (.ins C dx fs) ∧ fs.lookup m = none ∧ sp [x] G Q (E σ)
/-- o.m() in a try's body -/
theorem pe_methX0 {pl : Sem Bool} (he : PE X o ta) (c : Cls X.K C) (hm : Meth X.K C m f) (F : FnOk X.prog X.w X.K X.mg X.base CX k f fd ps sp) (hr : Room k X.A) (hb : Binds X.K fd ps []) (hx : ∀ σ, PassesAt CX X σ (E σ))
    (ht : eval (.Call (.Attribute o m apos) [] [] pos) X.env = (do
      let who ← eval o X.env
      standAt apos.atName
      let (g, ahead) ← holding [who] (getMethod who m pl)
      callWith pos g ahead (backTo pos (starEach [] X.env)) (backToKw pos (keywordEach [] X.env))) := by rfl) :
    PE X (.Call (.Attribute o m apos) [] [] pos) (tMethX0 C m sp E ta) := by
  refine ⟨fun pins s σ H Q I h => PySem.W.methodCall_KW (pl := pl) (thn (he.run pins s σ H _ I h) ?_) ht⟩
  rintro u z ⟨x, G, J, rx, a, dx, fs, rfl, ea, l, q⟩
  obtain rfl := show u = Value.ref a from rx
  refine getmeth_ok J ea c hm l ?_
  exact PySem.W.callWith_K0 (first := [.ref a]) J.kIn hm.kp (run_fnS (us := [.ref a]) (vs := [.ref a]) F hr hb (hx σ) J (.cons rfl .nil) q)
end
end My

set_option maxRecDepth 100000
set_option maxHeartbeats 4000000
/-! Data in the heap, kept by steps that change a box, a table. -/
namespace My
open PySem PySem.Spec PyProof.Rows L2 GxR Gd TL
/-- all but tables stays -/
def Nt (H H' : Hp) : Prop := ∀ c o, (∀ ps, o ≠ .tbl ps) → H c = some o → H' c = some o
theorem Nt.refl (H : Hp) : Nt H H := fun _ _ _ h => h
theorem Nt.trans {H H1 H2 : Hp} (a : Nt H H1) (b : Nt H1 H2) : Nt H H2 := fun c o n h => b c o n (a c o n h)
theorem KT.nt {P : Addr} {H H' : Hp} (t : TabG H P) (k : KT P H H') : Nt H H' := fun c o n h => k.keep c o (ne_tab t h n) h
theorem Nt.alloc {H : Hp} {p : Addr} {o : HO} (n : H p = none) : Nt H (upd H p o) := fun c u _ h => by rw [upd_ne (ne_of_none h n)]; exact h
/-- the heap but the box -/
def hide (b : Addr) (H : Hp) : Hp := fun c => if c = b then none else H c
theorem hide_ne {b c : Addr} {H : Hp} (h : c ≠ b) : hide b H c = H c := if_neg h
theorem hide_some {b c : Addr} {H : Hp} {o : HO} (h : hide b H c = some o) : c ≠ b ∧ H c = some o := by
  unfold hide at h
  by_cases q : c = b
  · rw [if_pos q] at h
    cases h
  · rw [if_neg q] at h
    exact ⟨q, h⟩
theorem KB.nt {b : Addr} {H H' : Hp} (k : KB b H H') : Nt (hide b H) (hide b H') := fun c o _ h => by
  obtain ⟨n, h⟩ := hide_some h
  rw [hide_ne n]
  exact k c o n h
theorem hide_nt (b : Addr) (H : Hp) : Nt (hide b H) H := fun c o _ h => (hide_some h).2
theorem Nt.seq {K : PySem.W.Frag} {H H' : Hp} {a : Addr} {xs : List V} (e : Nt H H') (h : SqL K H a xs) : SqL K H' a xs := by
  rcases h with (h | ⟨o, h⟩) | h
  · exact .inl (.inl (e _ _ (by simp) h))
  · exact .inl (.inr ⟨o, e _ _ (by simp) h⟩)
  · exact .inr h
theorem Nt.seqT {K : PySem.W.Frag} {H H' : Hp} {a : Addr} {xs : List V} (e : Nt H H') (h : SqT K H a xs) : SqT K H' a xs := by
  rcases h with (h | ⟨o, h⟩) | h
  · exact .inl (.inl (e _ _ (by simp) h))
  · exact .inl (.inr ⟨o, e _ _ (by simp) h⟩)
  · exact .inr h
section
variable {K : PySem.W.Frag} {H H' : Hp}
mutual
theorem dp_nt (e : Nt H H') : ∀ {v : V} {d : PyData}, Dp K H v d → Dp K H' v d
  | _, _, .non => .non
  | _, _, .bl b => .bl b
  | _, _, .int i => .int i
  | _, _, .str z => .str z
  | _, _, .lst h a => .lst (e.seq h) (dpAll_nt e a)
  | _, _, .tup h a => .tup (e.seqT h) (dpAll_nt e a)
theorem dpAll_nt (e : Nt H H') : ∀ {vs : List V} {ds : List PyData}, DpAll K H vs ds → DpAll K H' vs ds
  | _, _, .nil => .nil
  | _, _, .cons h t => .cons (dp_nt e h) (dpAll_nt e t)
end
theorem dp_list {v : V} {ds : List PyData} (h : Dp K H v (.list ds)) : ∃ a xs, v = .ref a ∧ SqL K H a xs ∧ DpAll K H xs ds := by
  cases h with
  | lst h a => exact ⟨_, _, rfl, h, a⟩
theorem dp_tuple {v : V} {ds : List PyData} (h : Dp K H v (.tuple ds)) : ∃ a xs, v = .ref a ∧ SqT K H a xs ∧ DpAll K H xs ds := by
  cases h with
  | tup h a => exact ⟨_, _, rfl, h, a⟩
theorem dp_str {v : V} {z : Str} (h : Dp K H v (.str z)) : v = .str z := by
  cases h
  rfl
theorem dp_int {v : V} {i : Int} (h : Dp K H v (.int i)) : v = .int i := by
  cases h
  rfl
theorem dp_none {v : V} (h : Dp K H v .none) : v = .non := by
  cases h
  rfl
theorem dpAll_len : ∀ {xs : List V} {ds : List PyData}, DpAll K H xs ds → xs.length = ds.length
  | _, _, .nil => rfl
  | _, _, .cons _ t => congrArg (· + 1) (dpAll_len t)
theorem dpAll_get : ∀ {xs : List V} {ds : List PyData}, DpAll K H xs ds → ∀ {i : Nat} {x : V}, xs[i]? = some x → ∃ d, ds[i]? = some d ∧ Dp K H x d
  | _, _, .nil, _, _, h => by simp at h
  | _, _, .cons a _, 0, _, h => by simp at h; subst h; exact ⟨_, rfl, a⟩
  | _, _, .cons _ t, i + 1, x, h => by
    obtain ⟨d, h1, h2⟩ := dpAll_get t (i := i) (x := x) (by simpa using h)
    exact ⟨d, by simpa using h1, h2⟩
theorem dpAll_at : ∀ {xs : List V} {ds : List PyData}, DpAll K H xs ds → ∀ {i : Nat} {d : PyData}, ds[i]? = some d → ∃ x, xs[i]? = some x ∧ Dp K H x d
  | _, _, .nil, _, _, h => by simp at h
  | _, _, .cons a _, 0, _, h => by simp at h; subst h; exact ⟨_, rfl, a⟩
  | _, _, .cons _ t, i + 1, d, h => by
    obtain ⟨x, h1, h2⟩ := dpAll_at t (i := i) (d := d) (by simpa using h)
    exact ⟨x, by simpa using h1, h2⟩
theorem dpAll_app : ∀ {xs ys : List V} {ds es : List PyData}, DpAll K H xs ds → DpAll K H ys es → DpAll K H (xs ++ ys) (ds ++ es)
  | _, _, _, _, .nil, h => h
  | _, _, _, _, .cons a t, h => .cons a (dpAll_app t h)
theorem dp_two {v : V} {c d : PyData} (h : Dp K H v (.tuple [c, d])) : ∃ a x y, v = .ref a ∧ SqT K H a [x, y] ∧ Dp K H x c ∧ Dp K H y d := by
  obtain ⟨a, xs, rfl, h1, h2⟩ := dp_tuple h
  cases h2 with
  | cons p t =>
    cases t with
    | cons q t =>
      cases t
      exact ⟨a, _, _, rfl, h1, p, q⟩
theorem dp_three {v : V} {c d e : PyData} (h : Dp K H v (.tuple [c, d, e])) : ∃ a x y z, v = .ref a ∧ SqT K H a [x, y, z] ∧ Dp K H x c ∧ Dp K H y d ∧ Dp K H z e := by
  obtain ⟨a, xs, rfl, h1, h2⟩ := dp_tuple h
  cases h2 with
  | cons p t =>
    cases t with
    | cons q t =>
      cases t with
      | cons r t =>
        cases t
        exact ⟨a, _, _, _, rfl, h1, p, q, r⟩
theorem dp_four {v : V} {c d e f : PyData} (h : Dp K H v (.list [c, d, e, f])) : ∃ a x y z u, v = .ref a ∧ SqL K H a [x, y, z, u] ∧ Dp K H x c ∧ Dp K H y d ∧ Dp K H z e ∧ Dp K H u f := by
  obtain ⟨a, xs, rfl, h1, h2⟩ := dp_list h
  cases h2 with
  | cons p t =>
    cases t with
    | cons q t =>
      cases t with
      | cons r t =>
        cases t with
        | cons s t =>
          cases t
          exact ⟨a, _, _, _, _, rfl, h1, p, q, r, s⟩
end
/-! ### names that are good, worlds of lines -/
def NameOk (z : Str) : Prop := 1 ≤ z.length ∧ z.length ≤ 6 ∧ z.cps.toList.all lc = true
theorem NameOk.good {z : Str} (h : NameOk z) : Good z := fun c hc => by
  have := List.all_eq_true.mp h.2.2 c hc
  unfold lc at this
  simp at this
  omega
theorem NameOk.nm {z : Str} (h : NameOk z) : nm (.str z) = true := by
  obtain ⟨h1, h2, h3⟩ := h
  simp [My.nm, h1, h2, h3]
theorem NameOk.th {z : Str} {H : Hp} (h : NameOk z) : Th H (.str z) := .str z (by have := h.2.1; omega) h.good
structure Wd where
  ps : List (Str × Int)
  st : List (Str × Int)
  lo : List (Int × Int × Int)
  sp : Str
def longsOk (top : Int) : Int → List (Int × Int × Int) → Prop
  | _, [] => True
  | low, (f, l, h) :: r => low ≤ f ∧ f + 2 ≤ l ∧ l ≤ top ∧ 0 ≤ h ∧ h ≤ 1 ∧ longsOk top l r
structure Wd.Ok (w : Wd) : Prop where
  p2 : 2 ≤ w.ps.length
  p6 : w.ps.length ≤ 6
  nm : ∀ p ∈ w.ps, NameOk p.1 ∧ 1 ≤ p.2 ∧ p.2 ≤ 3
  nd : (w.ps.map (·.1)).Nodup
  sl : w.st.length + 1 = w.ps.length
  st : ∀ p ∈ w.st, (p.1 = "staff" ∨ p.1 = "ticket") ∧ 0 ≤ p.2 ∧ p.2 ≤ 1
  ll : w.lo.length ≤ 2
  lo : longsOk (w.ps.length - 1 : Nat) 0 w.lo
  sn : NameOk w.sp
  s0 : w.sp ∉ w.ps.map (·.1)
def dP (p : Str × Int) : PyData := .tuple [.str p.1, .int p.2]
def dL (p : Int × Int × Int) : PyData := .tuple [.int p.1, .int p.2.1, .int p.2.2]
def Wd.data (w : Wd) : PyData := .list [.list (w.ps.map dP), .list (w.st.map dP), .list (w.lo.map dL), .str w.sp]
end My

set_option maxRecDepth 100000
set_option maxHeartbeats 400000
/-! small data: what repr asks of them -/
namespace My
open PySem PySem.Spec PyProof.Rows L2 GxR Gd TL
structure Sm (d : PyData) (k m : Nat) : Prop where
  lay : d.canLay0 = true
  dep : d.depth ≤ k
  wt : d.weight ≤ m
  ish : d.intsShort 13 = true
  sh : d.showable = true
theorem Sm.rep {d : PyData} {k m : Nat} (h : Sm d k m) (hk : k ≤ 64) (hm : m ≤ 2 ^ 20) : d.showable = true ∧ d.depth ≤ 100 ∧ d.shown.length ≤ sizeLine := by
  refine ⟨h.sh, Nat.le_trans h.dep (by omega), Nat.le_trans (shown_le13 ?_ h.ish) (by rw [sizeLine_eq]; decide)⟩
  unfold PyData.layable0
  rw [Bool.and_eq_true, Bool.and_eq_true, decide_eq_true_eq, decide_eq_true_eq]
  exact ⟨⟨h.lay, Nat.le_trans h.dep hk⟩, Nat.le_trans h.wt hm⟩
theorem Sm.mono {d : PyData} {k m k' m' : Nat} (h : Sm d k m) (hk : k ≤ k') (hm : m ≤ m') : Sm d k' m' := ⟨h.lay, Nat.le_trans h.dep hk, Nat.le_trans h.wt hm, h.ish, h.sh⟩
theorem sm_none : Sm .none 0 0 := ⟨rfl, Nat.le_refl 0, Nat.le_refl 0, rfl, rfl⟩
theorem sm_bool (b : Bool) : Sm (.bool b) 0 0 := ⟨rfl, Nat.le_refl 0, Nat.le_refl 0, rfl, rfl⟩
theorem sm_int {i : Int} (h : i.natAbs ≤ 1000) : Sm (.int i) 0 20 := by
  have hl : i.natAbs.log2 ≤ 10 := by
    by_cases z : i.natAbs = 0
    · rw [z]; decide
    · have : i.natAbs.log2 < 11 := (Nat.log2_lt z).mpr (by omega)
      omega
  refine ⟨rfl, Nat.le_refl 0, ?_, ?_, ?_⟩
  · unfold PyData.weight
    split
    · omega
    · omega
  · exact intsShort_of_noneOrIn (lo := -2000) (hi := 2000) (by decide) (by decide) (.int i) (by simp [noneOrIn]; omega)
  · unfold PyData.showable
    rw [decide_eq_true_eq]
    omega
theorem sm_str {z : Str} (g : Good z) (h : z.length ≤ 6) : Sm (.str z) 0 6 := by
  refine ⟨?_, Nat.le_refl 0, h, rfl, rfl⟩
  unfold PyData.canLay0
  unfold PyData.strOk
  rw [Array.all_eq_true_iff_forall_mem]
  intro c hc
  exact decide_eq_true (g c (Array.mem_toList_iff.mpr hc))
theorem sm_all {k m : Nat} : ∀ {ds : List PyData}, (∀ d ∈ ds, Sm d k m) → PyData.canLayAll0 ds = true ∧ PyData.depthAll ds ≤ k ∧ PyData.weightAll ds ≤ ds.length * (m + 1) ∧ PyData.intsShortAll 13 ds = true ∧ PyData.showableAll ds = true
  | [], _ => ⟨rfl, Nat.zero_le _, Nat.zero_le _, rfl, rfl⟩
  | d :: r, h => by
    obtain ⟨a1, a2, a3, a4, a5⟩ := sm_all (ds := r) fun x hx => h x (List.mem_cons_of_mem _ hx)
    have b := h d List.mem_cons_self
    refine ⟨?_, ?_, ?_, ?_, ?_⟩
    · unfold PyData.canLayAll0; rw [b.lay, a1]; rfl
    · unfold PyData.depthAll; exact Nat.max_le.mpr ⟨b.dep, a2⟩
    · unfold PyData.weightAll
      have := b.wt
      rw [List.length_cons, Nat.succ_mul]
      omega
    · unfold PyData.intsShortAll; rw [b.ish, a4]; rfl
    · unfold PyData.showableAll; rw [b.sh, a5]; rfl
theorem sm_list {k m : Nat} {ds : List PyData} (h : ∀ d ∈ ds, Sm d k m) : Sm (.list ds) (k + 1) (ds.length * (m + 1)) := by
  obtain ⟨a1, a2, a3, a4, a5⟩ := sm_all h
  exact ⟨by unfold PyData.canLay0; exact a1, by unfold PyData.depth; omega, by unfold PyData.weight; exact a3, by unfold PyData.intsShort; exact a4, by unfold PyData.showable; exact a5⟩
theorem sm_tuple {k m : Nat} {ds : List PyData} (h : ∀ d ∈ ds, Sm d k m) : Sm (.tuple ds) (k + 1) (ds.length * (m + 1)) := by
  obtain ⟨a1, a2, a3, a4, a5⟩ := sm_all h
  exact ⟨by unfold PyData.canLay0; exact a1, by unfold PyData.depth; omega, by unfold PyData.weight; exact a3, by unfold PyData.intsShort; exact a4, by unfold PyData.showable; exact a5⟩
theorem sm_dP {p : Str × Int} (g : Good p.1) (h : p.1.length ≤ 6) (hr : p.2.natAbs ≤ 1000) : Sm (dP p) 1 42 :=
  sm_tuple (k := 0) (m := 20) (ds := [.str p.1, .int p.2]) fun d hd => by
    simp only [List.mem_cons, List.not_mem_nil, or_false] at hd
    rcases hd with rfl | rfl
    · exact (sm_str g h).mono (Nat.le_refl 0) (by decide)
    · exact sm_int hr
theorem sm_names {a b : Str} (ha : NameOk a) (hb : NameOk b) : Sm (.tuple [.str a, .str b]) 1 14 :=
  sm_tuple (k := 0) (m := 6) (ds := [.str a, .str b]) fun d hd => by
    simp only [List.mem_cons, List.not_mem_nil, or_false] at hd
    rcases hd with rfl | rfl
    · exact sm_str ha.good ha.2.1
    · exact sm_str hb.good hb.2.1
end My

set_option maxRecDepth 100000
set_option maxHeartbeats 400000
/-! data with longer texts and numbers: what repr asks of them -/
namespace My
open PySem PySem.Spec PyProof.Rows L2 GxR Gd TL
structure Sb (d : PyData) (k m : Nat) : Prop where
  lv : d.leavesShort 40 = true
  dep : d.depth ≤ k
  wt : d.weight ≤ m
  sh : d.showable = true
theorem Sb.rep {d : PyData} {k m : Nat} (h : Sb d k m) (hk : k ≤ 100) (hm : m ≤ 390000) : d.showable = true ∧ d.depth ≤ 100 ∧ d.shown.length ≤ sizeLine := by
  refine ⟨h.sh, Nat.le_trans h.dep hk, ?_⟩
  have h1 := PyData.shown_le 40 (by decide) d h.lv
  have h2 := h.wt
  refine Nat.le_trans h1 (Nat.le_trans (m := 42 * 390000 + 40) (by omega) (by rw [sizeLine_eq]; decide))
theorem Sb.mono {d : PyData} {k m k' m' : Nat} (h : Sb d k m) (hk : k ≤ k') (hm : m ≤ m') : Sb d k' m' := ⟨h.lv, Nat.le_trans h.dep hk, Nat.le_trans h.wt hm, h.sh⟩
theorem sb_none : Sb .none 0 0 := ⟨rfl, Nat.le_refl 0, Nat.le_refl 0, rfl⟩
theorem sb_bool (b : Bool) : Sb (.bool b) 0 0 := ⟨rfl, Nat.le_refl 0, Nat.le_refl 0, rfl⟩
theorem text_int {i : Int} (h : i.natAbs < 10 ^ 31) : (Str.ofString (toString i)).length ≤ 32 := by
  have e := int_text_length_le10 (k := 31) (by decide) h
  rw [PySem.ofString_length]
  exact e
theorem sb_int {i : Int} (h : i.natAbs < 10 ^ 31) : Sb (.int i) 0 110 := by
  have hl : i.natAbs.log2 ≤ 109 := by
    by_cases z : i.natAbs = 0
    · rw [z]; decide
    · have : i.natAbs.log2 < 110 := (Nat.log2_lt z).mpr (Nat.lt_of_lt_of_le h (by decide))
      omega
  refine ⟨?_, Nat.le_refl 0, ?_, ?_⟩
  · unfold PyData.leavesShort
    rw [decide_eq_true_eq]
    exact Nat.le_trans (text_int h) (by decide)
  · unfold PyData.weight
    split <;> omega
  · unfold PyData.showable
    rw [decide_eq_true_eq]
    omega
theorem sb_str {z : Str} {m : Nat} (g : Good z) (h : z.length ≤ m) : Sb (.str z) 0 m := by
  refine ⟨?_, Nat.le_refl 0, h, rfl⟩
  unfold PyData.leavesShort
  rw [List.all_eq_true]
  intro c hc
  have := g c hc
  rw [decide_eq_true_eq]
  exact Nat.lt_trans this (by decide)
theorem sb_all {k m : Nat} : ∀ {ds : List PyData}, (∀ d ∈ ds, Sb d k m) → PyData.leavesShortAll 40 ds = true ∧ PyData.depthAll ds ≤ k ∧ PyData.weightAll ds ≤ ds.length * (m + 1) ∧ PyData.showableAll ds = true
  | [], _ => ⟨rfl, Nat.zero_le _, Nat.zero_le _, rfl⟩
  | d :: r, h => by
    obtain ⟨a1, a2, a3, a4⟩ := sb_all (ds := r) fun x hx => h x (List.mem_cons_of_mem _ hx)
    have b := h d List.mem_cons_self
    refine ⟨?_, ?_, ?_, ?_⟩
    · unfold PyData.leavesShortAll; rw [b.lv, a1]; rfl
    · unfold PyData.depthAll; exact Nat.max_le.mpr ⟨b.dep, a2⟩
    · unfold PyData.weightAll
      have := b.wt
      rw [List.length_cons, Nat.succ_mul]
      omega
    · unfold PyData.showableAll; rw [b.sh, a4]; rfl
theorem sb_list {k m : Nat} {ds : List PyData} (h : ∀ d ∈ ds, Sb d k m) : Sb (.list ds) (k + 1) (ds.length * (m + 1)) := by
  obtain ⟨a1, a2, a3, a4⟩ := sb_all h
  exact ⟨by unfold PyData.leavesShort; exact a1, by unfold PyData.depth; omega, by unfold PyData.weight; exact a3, by unfold PyData.showable; exact a4⟩
theorem sb_tuple {k m : Nat} {ds : List PyData} (h : ∀ d ∈ ds, Sb d k m) : Sb (.tuple ds) (k + 1) (ds.length * (m + 1)) := by
  obtain ⟨a1, a2, a3, a4⟩ := sb_all h
  exact ⟨by unfold PyData.leavesShort; exact a1, by unfold PyData.depth; omega, by unfold PyData.weight; exact a3, by unfold PyData.showable; exact a4⟩
theorem good_int (i : Int) : Good (Str.ofString (toString i)) := good_of _
end My

set_option maxRecDepth 100000
set_option maxHeartbeats 400000
namespace K21
open PySem PySem.Spec PyProof.Rows L2 GxR Gd TL My
/-- a method of the class -/
structure Me (K : PySem.W.Frag) (C : Addr) (m qual : Str) (st : Stmt) (ps : List Str) (f : Addr) (fd : FuncData) : Prop where
  fn : Fun K m qual st f fd
  m : Meth K C m f
  b : Binds K fd ps []
/-! ### the refusals -/
abbrev sSE : Stmt := inClass (top 1) 0
theorem scSE : FnScope ["self", "text"] ["self", "text"] (defScope sSE) := ⟨rfl, rfl, rfl, by decide +kernel, rfl, by decide +kernel, by decide +kernel⟩
abbrev sShut : Stmt := inClass (top 2) 0
theorem scShut : FnScope ["self", "found"] ["self", "found"] (defScope sShut) := ⟨rfl, rfl, rfl, by decide +kernel, rfl, by decide +kernel, by decide +kernel⟩
abbrev sNotShut : Stmt := inClass (top 4) 0
theorem scNotShut : FnScope ["self", "found"] ["self", "found"] (defScope sNotShut) := ⟨rfl, rfl, rfl, by decide +kernel, rfl, by decide +kernel, by decide +kernel⟩
abbrev sNoRight : Stmt := inClass (top 3) 0
theorem scNoRight : FnScope ["self", "found"] ["self", "found"] (defScope sNoRight) := ⟨rfl, rfl, rfl, by decide +kernel, rfl, by decide +kernel, by decide +kernel⟩
section
variable {P : Program} {w : World} {K : PySem.W.Frag} {mg : Str → Option Value} {base : Heap} {CS fS C fN : Addr} {fdS fdN : FuncData}
theorem ok_SE (T : SeT K mg CS fS fdS sSE) {CX : CXT} : FnOk P w K mg base CX0 1 fS fdS ["self", "text"] (spUp K) := by
  refine T.F.ok scSE (fun vs H Q E h => ?_) (fun cdv A outer s H vs Q E hr h => ?_)
  · obtain ⟨a, C, z, rfl, _⟩ := h
    rfl
  · obtain ⟨a, C, z, rfl, o, e, k⟩ := h
    refine ⟨_, pss_one (ps_expr (pe_veinit (by rfl) T.ve T.vi (pa_cons (pv 0) (pa_cons (pv 1) pa_nil)))), ?_⟩
    exact ⟨_, rfl, _, rfl, a, C, _, rfl, by simp, o, e, k⟩
theorem ok_Shut (S : SeT K mg CS fS fdS sSE) (T : ExC K mg "Shut" "Shut.__init__" sShut C fN fdN) : FnOk P w K mg base CX0 2 fN fdN ["self", "found"] (spOne K C "found") := by
  refine T.F.ok scShut (fun vs H Q E h => ?_) (fun cdv A outer s H vs Q E hr h => ?_)
  · obtain ⟨a, v, rfl, _⟩ := h
    rfl
  · obtain ⟨a, v, rfl, e, k⟩ := h
    refine ⟨_, pss_cons (ps_expr (pe_ccall S.c (ok_SE (CX := CX0) S) hr (by rfl) S.g S.k S.b .nil pass0 (pa_cons (pv 0) (pa_cons pe_str pa_nil))))
      (pss_one (ps_ost (pv 0) (pv 1))), ?_⟩
    refine ⟨_, rfl, a, C, _, rfl, T.o, e, ?_⟩
    exact ⟨_, rfl, _, rfl, a, C, rfl, T.o, T.n, .inl ⟨e, fun dx h1 h2 => k dx h1 h2⟩⟩
theorem ok_NotShut (S : SeT K mg CS fS fdS sSE) (T : ExC K mg "NotShut" "NotShut.__init__" sNotShut C fN fdN) : FnOk P w K mg base CX0 2 fN fdN ["self", "found"] (spOne K C "found") := by
  refine T.F.ok scNotShut (fun vs H Q E h => ?_) (fun cdv A outer s H vs Q E hr h => ?_)
  · obtain ⟨a, v, rfl, _⟩ := h
    rfl
  · obtain ⟨a, v, rfl, e, k⟩ := h
    refine ⟨_, pss_cons (ps_expr (pe_ccall S.c (ok_SE (CX := CX0) S) hr (by rfl) S.g S.k S.b .nil pass0 (pa_cons (pv 0) (pa_cons pe_str pa_nil))))
      (pss_one (ps_ost (pv 0) (pv 1))), ?_⟩
    refine ⟨_, rfl, a, C, _, rfl, T.o, e, ?_⟩
    exact ⟨_, rfl, _, rfl, a, C, rfl, T.o, T.n, .inl ⟨e, fun dx h1 h2 => k dx h1 h2⟩⟩
theorem ok_NoRight (S : SeT K mg CS fS fdS sSE) (T : ExC K mg "NoRight" "NoRight.__init__" sNoRight C fN fdN) : FnOk P w K mg base CX0 2 fN fdN ["self", "found"] (spOne K C "found") := by
  refine T.F.ok scNoRight (fun vs H Q E h => ?_) (fun cdv A outer s H vs Q E hr h => ?_)
  · obtain ⟨a, v, rfl, _⟩ := h
    rfl
  · obtain ⟨a, v, rfl, e, k⟩ := h
    refine ⟨_, pss_cons (ps_expr (pe_ccall S.c (ok_SE (CX := CX0) S) hr (by rfl) S.g S.k S.b .nil pass0 (pa_cons (pv 0) (pa_cons pe_str pa_nil))))
      (pss_one (ps_ost (pv 0) (pv 1))), ?_⟩
    refine ⟨_, rfl, a, C, _, rfl, T.o, e, ?_⟩
    exact ⟨_, rfl, _, rfl, a, C, rfl, T.o, T.n, .inl ⟨e, fun dx h1 h2 => k dx h1 h2⟩⟩
end
/-! ### a keeper of a staff's lock -/
theorem to_ : ¬ (("_times" : Str) = "_to") := by decide +kernel
theorem tp_ : ¬ (("_times" : Str) = "_opened") := by decide +kernel
theorem op_ : ¬ (("_to" : Str) = "_opened") := by decide +kernel
def kf (t : Int) (o : V) (p : Bool) : List (Str × V) := [("_times", .int t), ("_to", o), ("_opened", .bl p)]
theorem kf_times (t : Int) (o : V) (p : Bool) : (kf t o p).lookup ("_times" : Str) = some (.int t) := by
  unfold kf
  simp [List.lookup]
theorem kf_to (t : Int) (o : V) (p : Bool) : (kf t o p).lookup ("_to" : Str) = some o := by
  have : (("_to" : Str) == "_times") = false := by decide +kernel
  unfold kf
  simp [List.lookup, this]
theorem kf_opened (t : Int) (o : V) (p : Bool) : (kf t o p).lookup ("_opened" : Str) = some (.bl p) := by
  have h1 : (("_opened" : Str) == "_times") = false := by decide +kernel
  have h2 : (("_opened" : Str) == "_to") = false := by decide +kernel
  unfold kf
  simp [List.lookup, h1, h2]
theorem kf_no (t : Int) (o : V) (p : Bool) {m : Str} (h1 : (m == "_times") = false) (h2 : (m == "_to") = false) (h3 : (m == "_opened") = false) : (kf t o p).lookup m = none := by
  unfold kf
  simp [List.lookup, h1, h2, h3]
theorem kf_put_times (t t' : Int) (o : V) (p : Bool) : putF "_times" (.int t') (kf t o p) = kf t' o p := by
  unfold kf
  simp [putF]
theorem kf_put_to (t : Int) (o o' : V) (p : Bool) : putF "_to" o' (kf t o p) = kf t o' p := by
  unfold kf
  simp [putF, to_]
theorem kf_put_opened (t : Int) (o : V) (p p' : Bool) : putF "_opened" (.bl p') (kf t o p) = kf t o p' := by
  unfold kf
  simp [putF, tp_, op_]
theorem kf_len (t : Int) (o : V) (p : Bool) : (kf t o p).length < 1000 := by
  show 3 < 1000
  decide
structure KeeT (K : PySem.W.Frag) (C : Addr) : Prop where
  cl : Cls K C
  nt : NoAttr K C "_times"
  no : NoAttr K C "_to"
  np : NoAttr K C "_opened"
section
variable {P : Program} {w : World} {K : PySem.W.Frag} {mg : Str → Option Value} {base : Heap} {C CS fS CH fH CN fN CR fR : Addr} {fdS fdH fdN fdR : FuncData}
abbrev s_init : Stmt := inClass (top 8) 0
theorem sc_init : FnScope ["self"] ["self"] (defScope s_init) := ⟨rfl, rfl, rfl, by decide +kernel, rfl, by decide +kernel, by decide +kernel⟩
def spInit (C : Addr) : Sp := fun vs H Q _ => ∃ c dx, vs = [.ref c] ∧ H c = some (.ins C dx []) ∧ ∀ H', (∀ x, x ≠ c → H' x = H x) → H' c = some (.ins C dx (kf 0 .non false)) → Q .non H'
theorem ok_init {f : Addr} {fd : FuncData} (F : Fun K "__init__" "Keeper.__init__" s_init f fd) (TC : KeeT K C) : FnOk P w K mg base CX0 1 f fd ["self"] (spInit C) := by
  refine F.ok sc_init (fun vs H Q E h => ?_) (fun cdv A outer s H vs Q E hr h => ?_)
  · obtain ⟨c, dx, rfl, _⟩ := h
    rfl
  · obtain ⟨c, dx, rfl, e, k⟩ := h
    refine ⟨_, pss_cons (ps_fld (pv 0) pe_int rfl)
      (pss_cons (ps_fld (pv 0) pe_non rfl)
      (pss_one (ps_fld (pv 0) pe_bl rfl))), ?_⟩
    refine ⟨_, rfl, c, C, dx, _, rfl, e, TC.cl, TC.nt, (by decide), ?_⟩
    refine ⟨_, rfl, c, C, dx, _, rfl, upd_same, TC.cl, TC.no, (by show 1 < 1000; decide), ?_⟩
    refine ⟨_, rfl, c, C, dx, _, rfl, upd_same, TC.cl, TC.np, (by simp [putF, to_]), ?_⟩
    refine k _ (fun x nx => by rw [upd_ne nx, upd_ne nx, upd_ne nx]) ?_
    rw [upd_same]
    simp [putF, kf, to_, tp_, op_]
abbrev s_lock : Stmt := inClass (top 8) 1
theorem sc_lock : FnScope ["self", "to"] ["self", "to"] (defScope s_lock) := ⟨rfl, rfl, rfl, by decide +kernel, rfl, by decide +kernel, by decide +kernel⟩
def spLock (C CH : Addr) : Sp := fun vs H Q E => ∃ c dx t o p v, vs = [.ref c, v] ∧ H c = some (.ins C dx (kf t o p)) ∧
  (o = .non → Q (.int (t + 1)) (upd H c (.ins C dx (kf (t + 1) v p)))) ∧ (o ≠ .non → ∀ d, H d = none → E (.ref CH) (some d) (upd H d (.xd [("found", o)])))
theorem ok_lock {f : Addr} {fd : FuncData} (F : Fun K "lock" "Keeper.lock" s_lock f fd) (T : Txt mg) (TC : KeeT K C) (ES : SeT K mg CS fS fdS sSE) (EShut : ExC K mg "Shut" "Shut.__init__" sShut CH fH fdH) :
    FnOk P w K mg base (CX P w) 4 f fd ["self", "to"] (spLock C CH) := by
  refine F.okX sc_lock (fun vs H Q E h => ?_) (fun cdv A outer s H vs Q E hr h => ?_)
  · obtain ⟨c, dx, t, o, p, v, rfl, _⟩ := h
    rfl
  · obtain ⟨c, dx, t, o, p, v, rfl, e, k1, k2⟩ := h
    refine ⟨_, pss_cons (ps_if (pt_cmpR op_notN (pe_fld (pv 0) rfl) pe_non (nomark _)) (pss_one (ps_raise rfl (takes_of rfl rfl rfl rfl) (pmk_oex EShut.o EShut.i EShut.t (ok_Shut ES EShut) (hr.mono (by decide)) EShut.b .nil pass0 (by rfl) EShut.g (pa_cons (pe_fld (pv 0) rfl) pa_nil)))) pss_nil)
      (pss_cons (ps_fldaug (pv 0) pe_int in_add)
      (pss_cons (ps_fld (pv 0) (pv 1) rfl)
      (pss_one (ps_ret (pe_fld (pv 0) rfl))))), ?_⟩
    refine ⟨_, rfl, c, C, dx, _, _, rfl, e, TC.cl, TC.no, kf_to t o p, rfl, _, rfl, ite2 (fun q => ?_) (fun q => ?_)⟩
    · exact ⟨_, rfl, c, C, dx, _, _, rfl, e, TC.cl, TC.no, kf_to t o p, made_one (k2 (by simpa using q))⟩
    · have q : o = .non := by simpa using q
      refine ⟨_, rfl, c, C, dx, _, _, rfl, e, TC.cl, TC.nt, kf_times t o p, _, _, rfl, rfl, _, _, e, kf_len _ _ _, ?_⟩
      rw [kf_put_times]
      refine ⟨_, rfl, _, rfl, c, C, dx, _, rfl, upd_same, TC.cl, TC.no, kf_len _ _ _, ?_⟩
      rw [kf_put_to, upd_upd]
      exact ⟨_, rfl, c, C, dx, _, _, rfl, upd_same, TC.cl, TC.nt, kf_times _ _ _, k1 q⟩
abbrev s_locked : Stmt := inClass (top 8) 2
theorem sc_locked : FnScope ["self"] ["self"] (defScope s_locked) := ⟨rfl, rfl, rfl, by decide +kernel, rfl, by decide +kernel, by decide +kernel⟩
def spLocked (C : Addr) : Sp := fun vs H Q _ => ∃ c dx t o p, vs = [.ref c] ∧ H c = some (.ins C dx (kf t o p)) ∧ (o = .non → Q .non H) ∧ (o ≠ .non → ∀ u, H u = none → Q (.ref u) (upd H u (.tup [.int t, o])))
theorem ok_locked {f : Addr} {fd : FuncData} (F : Fun K "locked" "Keeper.locked" s_locked f fd) (TC : KeeT K C) : FnOk P w K mg base CX0 1 f fd ["self"] (spLocked C) := by
  refine F.ok sc_locked (fun vs H Q E h => ?_) (fun cdv A outer s H vs Q E hr h => ?_)
  · obtain ⟨c, dx, t, o, p, rfl, _⟩ := h
    rfl
  · obtain ⟨c, dx, t, o, p, rfl, e, k1, k2⟩ := h
    refine ⟨_, pss_one (ps_ret (pe_ifExp (pt_cmpR op_isN (pe_fld (pv 0) rfl) pe_non (nomark _)) pe_non (pe_tup (pa_cons (pe_fld (pv 0) rfl) (pa_cons (pe_fld (pv 0) rfl) pa_nil))))), ?_⟩
    refine ⟨_, rfl, c, C, dx, _, _, rfl, e, TC.cl, TC.no, kf_to t o p, rfl, _, rfl, ite2 (fun q => ?_) (fun q => ?_)⟩
    · exact k1 (of_decide_eq_true q)
    · have q' : o ≠ .non := fun z => q (decide_eq_true z)
      refine ⟨_, rfl, c, C, dx, _, _, rfl, e, TC.cl, TC.nt, kf_times t o p, _, rfl, c, C, dx, _, _, rfl, e, TC.cl, TC.no, kf_to t o p, (by show 2 ≤ sizeLine; decide), fun u nu => k2 q' u nu⟩
abbrev s_is_open : Stmt := inClass (top 8) 4
theorem sc_is_open : FnScope ["self"] ["self"] (defScope s_is_open) := ⟨rfl, rfl, rfl, by decide +kernel, rfl, by decide +kernel, by decide +kernel⟩
def spIsOpen (C : Addr) : Sp := fun vs H Q _ => ∃ c dx t o p, vs = [.ref c] ∧ H c = some (.ins C dx (kf t o p)) ∧ Q (.bl p) H
theorem ok_is_open {f : Addr} {fd : FuncData} (F : Fun K "is_open" "Keeper.is_open" s_is_open f fd) (TC : KeeT K C) : FnOk P w K mg base CX0 1 f fd ["self"] (spIsOpen C) := by
  refine F.ok sc_is_open (fun vs H Q E h => ?_) (fun cdv A outer s H vs Q E hr h => ?_)
  · obtain ⟨c, dx, t, o, p, rfl, _⟩ := h
    rfl
  · obtain ⟨c, dx, t, o, p, rfl, e, k⟩ := h
    refine ⟨_, pss_one (ps_ret (pe_fld (pv 0) rfl)), ?_⟩
    exact ⟨_, rfl, c, C, dx, _, _, rfl, e, TC.cl, TC.np, kf_opened t o p, k⟩
abbrev s_times : Stmt := inClass (top 8) 9
theorem sc_times : FnScope ["self"] ["self"] (defScope s_times) := ⟨rfl, rfl, rfl, by decide +kernel, rfl, by decide +kernel, by decide +kernel⟩
def spTimes (C : Addr) : Sp := fun vs H Q _ => ∃ c dx t o p, vs = [.ref c] ∧ H c = some (.ins C dx (kf t o p)) ∧ Q (.int t) H
theorem ok_times {f : Addr} {fd : FuncData} (F : Fun K "times" "Keeper.times" s_times f fd) (TC : KeeT K C) : FnOk P w K mg base CX0 1 f fd ["self"] (spTimes C) := by
  refine F.ok sc_times (fun vs H Q E h => ?_) (fun cdv A outer s H vs Q E hr h => ?_)
  · obtain ⟨c, dx, t, o, p, rfl, _⟩ := h
    rfl
  · obtain ⟨c, dx, t, o, p, rfl, e, k⟩ := h
    refine ⟨_, pss_one (ps_ret (pe_fld (pv 0) rfl)), ?_⟩
    exact ⟨_, rfl, c, C, dx, _, _, rfl, e, TC.cl, TC.nt, kf_times t o p, k⟩
abbrev s_is_locked_by : Stmt := inClass (top 8) 7
theorem sc_is_locked_by : FnScope ["self", "number"] ["self", "number"] (defScope s_is_locked_by) := ⟨rfl, rfl, rfl, by decide +kernel, rfl, by decide +kernel, by decide +kernel⟩
def lby (t : Int) (o v : V) : Bool := !decide (o = .non) && wh t t v
def spBy (C : Addr) : Sp := fun vs H Q _ => ∃ c dx t o p v, vs = [.ref c, v] ∧ H c = some (.ins C dx (kf t o p)) ∧ Th H v ∧ Q (.bl (lby t o v)) H
theorem ok_by {f fW : Addr} {fd fdW : FuncData} (F : Fun K "_is_locked_by" "Keeper._is_locked_by" s_is_locked_by f fd) (TC : KeeT K C)
    (Nis_whole : Fn K mg "is_whole" sWhole ["thing", "low", "high"] fW fdW) (Gis_whole : FnOk P w K mg base CX0 1 fW fdW ["thing", "low", "high"] spWhole) : FnOk P w K mg base CX0 2 f fd ["self", "number"] (spBy C) := by
  refine F.ok sc_is_locked_by (fun vs H Q E h => ?_) (fun cdv A outer s H vs Q E hr h => ?_)
  · obtain ⟨c, dx, t, o, p, v, rfl, _⟩ := h
    rfl
  · obtain ⟨c, dx, t, o, p, v, rfl, e, th, k⟩ := h
    refine ⟨_, pss_one (ps_ret (pe_and (pe_cmpR op_notN (pe_fld (pv 0) rfl) pe_non (nomark _)) (pe_one (pe_call Gis_whole (hr.mono (by decide)) (by rfl) Nis_whole.g Nis_whole.kp Nis_whole.b .nil pass0 (pa_cons (pv 1) (pa_cons (pe_fld (pv 0) rfl) (pa_cons (pe_fld (pv 0) rfl) pa_nil))))))), ?_⟩
    refine ⟨_, rfl, c, C, dx, _, _, rfl, e, TC.cl, TC.no, kf_to t o p, rfl, _, rfl, ?_⟩
    refine ite2 (fun q => ?_) (fun q => ?_)
    · refine ⟨_, rfl, _, rfl, c, C, dx, _, _, rfl, e, TC.cl, TC.nt, kf_times t o p, _, rfl, c, C, dx, _, _, rfl, e, TC.cl, TC.nt, kf_times t o p, v, t, t, rfl, th, ?_⟩
      have lb : lby t o v = wh t t v := by unfold lby; rw [q]; rfl
      rw [← lb]
      exact k
    · have lb : lby t o v = false := by unfold lby; rw [Bool.eq_false_iff.mpr q]; rfl
      rw [lb] at k
      exact k
abbrev s_free : Stmt := inClass (top 8) 8
theorem sc_free : FnScope ["self"] ["self"] (defScope s_free) := ⟨rfl, rfl, rfl, by decide +kernel, rfl, by decide +kernel, by decide +kernel⟩
def spFree (C : Addr) : Sp := fun vs H Q _ => ∃ c dx t o p, vs = [.ref c] ∧ H c = some (.ins C dx (kf t o p)) ∧ Q .non (upd H c (.ins C dx (kf t .non false)))
theorem ok_free {f : Addr} {fd : FuncData} (F : Fun K "_free" "Keeper._free" s_free f fd) (TC : KeeT K C) : FnOk P w K mg base CX0 1 f fd ["self"] (spFree C) := by
  refine F.ok sc_free (fun vs H Q E h => ?_) (fun cdv A outer s H vs Q E hr h => ?_)
  · obtain ⟨c, dx, t, o, p, rfl, _⟩ := h
    rfl
  · obtain ⟨c, dx, t, o, p, rfl, e, k⟩ := h
    refine ⟨_, pss_cons (ps_fld (pv 0) pe_non rfl)
      (pss_one (ps_fld (pv 0) pe_bl rfl)), ?_⟩
    refine ⟨_, rfl, c, C, dx, _, rfl, e, TC.cl, TC.no, kf_len _ _ _, ?_⟩
    rw [kf_put_to]
    refine ⟨_, rfl, c, C, dx, _, rfl, upd_same, TC.cl, TC.np, kf_len _ _ _, ?_⟩
    rw [kf_put_opened, upd_upd]
    exact k
abbrev s_opens : Stmt := inClass (top 8) 3
theorem sc_opens : FnScope ["self", "number"] ["self", "number"] (defScope s_opens) := ⟨rfl, rfl, rfl, by decide +kernel, rfl, by decide +kernel, by decide +kernel⟩
def spOpens (C : Addr) : Sp := fun vs H Q _ => ∃ c dx t o p v, vs = [.ref c, v] ∧ H c = some (.ins C dx (kf t o p)) ∧ Th H v ∧
  ((!p && lby t o v) = false → Q (.bl false) H) ∧ ((!p && lby t o v) = true → Q (.bl true) (upd H c (.ins C dx (kf t o true))))
theorem ok_opens {f fB : Addr} {fd fdB : FuncData} (F : Fun K "opens" "Keeper.opens" s_opens f fd) (TC : KeeT K C)
    (Mis_locked_by : Me K C "_is_locked_by" "Keeper._is_locked_by" s_is_locked_by ["self", "number"] fB fdB) (Gis_locked_by : FnOk P w K mg base CX0 2 fB fdB ["self", "number"] (spBy C)) :
    FnOk P w K mg base (CX P w) 3 f fd ["self", "number"] (spOpens C) := by
  refine F.okX sc_opens (fun vs H Q E h => ?_) (fun cdv A outer s H vs Q E hr h => ?_)
  · obtain ⟨c, dx, t, o, p, v, rfl, _⟩ := h
    rfl
  · obtain ⟨c, dx, t, o, p, v, rfl, e, th, k1, k2⟩ := h
    refine ⟨_, pss_cons (ps_if (PW.pt (pw_or (pt_val (pe_fld (pv 0) rfl)) (pw_or1 (pt_not (pt_val (pe_meth (pv 0) TC.cl Mis_locked_by.m Gis_locked_by (hr.mono (by decide)) Mis_locked_by.b .nil pass0 (pa_cons (pv 1) pa_nil))))))) (pss_one (ps_ret pe_bl)) pss_nil)
      (pss_cons (ps_fld (pv 0) pe_bl rfl)
      (pss_one (ps_ret pe_bl))), ?_⟩
    refine ⟨_, rfl, c, C, dx, _, _, rfl, e, TC.cl, TC.np, kf_opened t o p, ?_⟩
    cases p with
    | true =>
      refine ⟨_, rfl, iteT ?_⟩
      exact k1 rfl
    | false =>
      refine ⟨_, rfl, iteF ?_⟩
      refine ⟨_, rfl, c, dx, _, rfl, e, kf_no _ _ _ (by decide +kernel) (by decide +kernel) (by decide +kernel), _, rfl, c, dx, t, o, false, v, rfl, e, th, ?_⟩
      cases hb : lby t o v with
      | false =>
        refine ⟨_, rfl, iteT ?_⟩
        exact k1 (by rw [hb]; rfl)
      | true =>
        refine ⟨_, rfl, iteF ?_⟩
        refine ⟨_, rfl, c, C, dx, _, rfl, e, TC.cl, TC.np, kf_len _ _ _, ?_⟩
        rw [kf_put_opened]
        exact k2 (by rw [hb]; rfl)
abbrev s_unlock : Stmt := inClass (top 8) 5
theorem sc_unlock : FnScope ["self"] ["self"] (defScope s_unlock) := ⟨rfl, rfl, rfl, by decide +kernel, rfl, by decide +kernel, by decide +kernel⟩
def spUnlock (C CN CR : Addr) : Sp := fun vs H Q E => ∃ c dx t o p, vs = [.ref c] ∧ H c = some (.ins C dx (kf t o p)) ∧
  (o ≠ .non → p = true → Q .non (upd H c (.ins C dx (kf t .non false)))) ∧ (o = .non → ∀ d, H d = none → E (.ref CN) (some d) (upd H d (.xd [("found", .non)]))) ∧
  (o ≠ .non → p = false → ∀ d, H d = none → E (.ref CR) (some d) (upd H d (.xd [("found", .int t)])))
theorem ok_unlock {f fF : Addr} {fd fdF : FuncData} (F : Fun K "unlock" "Keeper.unlock" s_unlock f fd) (TC : KeeT K C) (ES : SeT K mg CS fS fdS sSE) (ENotShut : ExC K mg "NotShut" "NotShut.__init__" sNotShut CN fN fdN) (ENoRight : ExC K mg "NoRight" "NoRight.__init__" sNoRight CR fR fdR)
    (Mfree : Me K C "_free" "Keeper._free" s_free ["self"] fF fdF) (Gfree : FnOk P w K mg base CX0 1 fF fdF ["self"] (spFree C)) :
    FnOk P w K mg base (CX P w) 4 f fd ["self"] (spUnlock C CN CR) := by
  refine F.okX sc_unlock (fun vs H Q E h => ?_) (fun cdv A outer s H vs Q E hr h => ?_)
  · obtain ⟨c, dx, t, o, p, rfl, _⟩ := h
    rfl
  · obtain ⟨c, dx, t, o, p, rfl, e, k1, k2, k3⟩ := h
    refine ⟨_, pss_cons (ps_if (pt_cmpR op_isN (pe_fld (pv 0) rfl) pe_non (nomark _)) (pss_one (ps_raise rfl (takes_of rfl rfl rfl rfl) (pmk_oex ENotShut.o ENotShut.i ENotShut.t (ok_NotShut ES ENotShut) (hr.mono (by decide)) ENotShut.b .nil pass0 (by rfl) ENotShut.g (pa_cons pe_non pa_nil)))) pss_nil)
      (pss_cons (ps_if (pt_not (pt_val (pe_fld (pv 0) rfl))) (pss_one (ps_raise rfl (takes_of rfl rfl rfl rfl) (pmk_oex ENoRight.o ENoRight.i ENoRight.t (ok_NoRight ES ENoRight) (hr.mono (by decide)) ENoRight.b .nil pass0 (by rfl) ENoRight.g (pa_cons (pe_fld (pv 0) rfl) pa_nil)))) pss_nil)
      (pss_one (ps_expr (pe_meth0 (pv 0) TC.cl Mfree.m Gfree (hr.mono (by decide)) Mfree.b .nil pass0)))), ?_⟩
    refine ⟨_, rfl, c, C, dx, _, _, rfl, e, TC.cl, TC.no, kf_to t o p, rfl, _, rfl, ite2 (fun q => ?_) (fun q => ?_)⟩
    · exact made_one (k2 (of_decide_eq_true q))
    · have q' : o ≠ .non := fun z => q (decide_eq_true z)
      refine ⟨_, rfl, c, C, dx, _, _, rfl, e, TC.cl, TC.np, kf_opened t o p, ?_⟩
      cases p with
      | false => exact ⟨_, rfl, iteT ⟨_, rfl, c, C, dx, _, _, rfl, e, TC.cl, TC.nt, kf_times t o _, made_one (k3 q' rfl)⟩⟩
      | true =>
        refine ⟨_, rfl, iteF ?_⟩
        exact ⟨_, rfl, c, dx, _, rfl, e, kf_no _ _ _ (by decide +kernel) (by decide +kernel) (by decide +kernel), c, dx, t, o, true, rfl, e, k1 q' rfl⟩
abbrev s_ended : Stmt := inClass (top 8) 6
theorem sc_ended : FnScope ["self", "number"] ["self", "number"] (defScope s_ended) := ⟨rfl, rfl, rfl, by decide +kernel, rfl, by decide +kernel, by decide +kernel⟩
def spEnded (C CN CR : Addr) : Sp := fun vs H Q E => ∃ c dx t o p v, vs = [.ref c, v] ∧ H c = some (.ins C dx (kf t o p)) ∧ Th H v ∧
  (o ≠ .non → wh t t v = true → Q .non (upd H c (.ins C dx (kf t .non false)))) ∧ (o = .non → ∀ d, H d = none → E (.ref CN) (some d) (upd H d (.xd [("found", .non)]))) ∧
  (o ≠ .non → wh t t v = false → ∀ d, H d = none → E (.ref CR) (some d) (upd H d (.xd [("found", .int t)])))
theorem ok_ended {f fB fF : Addr} {fd fdB fdF : FuncData} (F : Fun K "ended" "Keeper.ended" s_ended f fd) (TC : KeeT K C) (ES : SeT K mg CS fS fdS sSE) (ENotShut : ExC K mg "NotShut" "NotShut.__init__" sNotShut CN fN fdN) (ENoRight : ExC K mg "NoRight" "NoRight.__init__" sNoRight CR fR fdR)
    (Mis_locked_by : Me K C "_is_locked_by" "Keeper._is_locked_by" s_is_locked_by ["self", "number"] fB fdB) (Gis_locked_by : FnOk P w K mg base CX0 2 fB fdB ["self", "number"] (spBy C))
    (Mfree : Me K C "_free" "Keeper._free" s_free ["self"] fF fdF) (Gfree : FnOk P w K mg base CX0 1 fF fdF ["self"] (spFree C)) :
    FnOk P w K mg base (CX P w) 4 f fd ["self", "number"] (spEnded C CN CR) := by
  refine F.okX sc_ended (fun vs H Q E h => ?_) (fun cdv A outer s H vs Q E hr h => ?_)
  · obtain ⟨c, dx, t, o, p, v, rfl, _⟩ := h
    rfl
  · obtain ⟨c, dx, t, o, p, v, rfl, e, th, k1, k2, k3⟩ := h
    refine ⟨_, pss_cons (ps_if (pt_cmpR op_isN (pe_fld (pv 0) rfl) pe_non (nomark _)) (pss_one (ps_raise rfl (takes_of rfl rfl rfl rfl) (pmk_oex ENotShut.o ENotShut.i ENotShut.t (ok_NotShut ES ENotShut) (hr.mono (by decide)) ENotShut.b .nil pass0 (by rfl) ENotShut.g (pa_cons pe_non pa_nil)))) pss_nil)
      (pss_cons (ps_if (pt_not (pt_val (pe_meth (pv 0) TC.cl Mis_locked_by.m Gis_locked_by (hr.mono (by decide)) Mis_locked_by.b .nil pass0 (pa_cons (pv 1) pa_nil)))) (pss_one (ps_raise rfl (takes_of rfl rfl rfl rfl) (pmk_oex ENoRight.o ENoRight.i ENoRight.t (ok_NoRight ES ENoRight) (hr.mono (by decide)) ENoRight.b .nil pass0 (by rfl) ENoRight.g (pa_cons (pe_fld (pv 0) rfl) pa_nil)))) pss_nil)
      (pss_one (ps_expr (pe_meth0 (pv 0) TC.cl Mfree.m Gfree (hr.mono (by decide)) Mfree.b .nil pass0)))), ?_⟩
    refine ⟨_, rfl, c, C, dx, _, _, rfl, e, TC.cl, TC.no, kf_to t o p, rfl, _, rfl, ite2 (fun q => ?_) (fun q => ?_)⟩
    · exact made_one (k2 (of_decide_eq_true q))
    · have q' : o ≠ .non := fun z => q (decide_eq_true z)
      have lb : lby t o v = wh t t v := by unfold lby; rw [decide_eq_false q']; rfl
      refine ⟨_, rfl, c, dx, _, rfl, e, kf_no _ _ _ (by decide +kernel) (by decide +kernel) (by decide +kernel), _, rfl, c, dx, t, o, p, v, rfl, e, th, ?_⟩
      rw [lb]
      cases hb : wh t t v with
      | false => exact ⟨_, rfl, iteT ⟨_, rfl, c, C, dx, _, _, rfl, e, TC.cl, TC.nt, kf_times t o _, made_one (k3 q' hb)⟩⟩
      | true =>
        refine ⟨_, rfl, iteF ?_⟩
        exact ⟨_, rfl, c, dx, _, rfl, e, kf_no _ _ _ (by decide +kernel) (by decide +kernel) (by decide +kernel), c, dx, t, o, p, rfl, e, k1 q' hb⟩
abbrev s_twin : Stmt := inClass (top 8) 10
theorem sc_twin : FnScope ["self", "other"] ["self"] (defScope s_twin) := ⟨rfl, rfl, rfl, by decide +kernel, rfl, by decide +kernel, by decide +kernel⟩
def spTwin (C : Addr) : Sp := fun vs H Q _ => ∃ c dx t o p, vs = [.ref c] ∧ H c = some (.ins C dx (kf t o p)) ∧ ∀ x dy H', H x = none → Same H H' → H' x = some (.ins C dy (kf t o p)) → Q (.ref x) H'
theorem ok_twin {f fI : Addr} {fd fdI : FuncData} (F : Fun K "twin" "Keeper.twin" s_twin f fd) (TC : KeeT K C) (gKeeper : mg "Keeper" = some (.ref C)) (MKeeper : Mk K C fI)
    (GKeeper : FnOk P w K mg base CX0 1 fI fdI ["self"] (spInit C)) (bKeeper : Binds K fdI ["self"] []) : FnOk P w K mg base CX0 3 f fd ["self"] (spTwin C) := by
  refine F.ok sc_twin (fun vs H Q E h => ?_) (fun cdv A outer s H vs Q E hr h => ?_)
  · obtain ⟨c, dx, t, o, p, rfl, _⟩ := h
    rfl
  · obtain ⟨c, dx, t, o, p, rfl, e, k⟩ := h
    refine ⟨_, pss_cons (ps_set (i := 1) sc_twin.nd rfl (Or.inl rfl) (pe_make0 MKeeper GKeeper (hr.mono (by decide)) (by rfl) gKeeper bKeeper .nil pass0))
      (pss_cons (ps_fld (pv 1) (pe_fld (pv 0) rfl) rfl)
      (pss_cons (ps_fld (pv 1) (pe_fld (pv 0) rfl) rfl)
      (pss_cons (ps_fld (pv 1) (pe_fld (pv 0) rfl) rfl)
      (pss_one (ps_ret (pv 1)))))), ?_⟩
    intro x dy nx ny ne
    refine ⟨x, dy, rfl, upd_same, fun H2 off2 e2 => ⟨rfl, ?_⟩⟩
    have up : Same H H2 := fun z o h => by
      have z1 := ne_of_none h nx
      rw [off2 z z1, upd_ne z1, upd_ne (ne_of_none h ny)]
      exact h
    have ncx : c ≠ x := ne_of_none e nx
    have e1 := up _ _ e
    refine ⟨_, rfl, c, C, dx, _, _, rfl, e1, TC.cl, TC.nt, kf_times t o p, _, rfl, x, C, dy, _, rfl, e2, TC.cl, TC.nt, kf_len _ _ _, ?_⟩
    rw [kf_put_times]
    refine ⟨_, rfl, c, C, dx, _, _, rfl, (by rw [upd_ne ncx]; exact e1), TC.cl, TC.no, kf_to t o p, _, rfl, x, C, dy, _, rfl, upd_same, TC.cl, TC.no, kf_len _ _ _, ?_⟩
    rw [kf_put_to]
    refine ⟨_, rfl, c, C, dx, _, _, rfl, (by rw [upd_ne ncx, upd_ne ncx]; exact e1), TC.cl, TC.np, kf_opened t o p, _, rfl, x, C, dy, _, rfl, upd_same, TC.cl, TC.np, kf_len _ _ _, ?_⟩
    rw [kf_put_opened]
    refine ⟨_, rfl, k x dy _ nx (fun b o h => ?_) upd_same⟩
    have n1 := ne_of_none h nx
    rw [upd_ne n1, upd_ne n1, upd_ne n1]
    exact up _ _ h
end
end K21

set_option maxRecDepth 100000
set_option maxHeartbeats 4000000
/-! the names that a law draws: three ways, all good, all apart -/
namespace My
open PySem PySem.Spec PyProof.Rows L2 GxR Gd TL
theorem tl_inj {a b : Str} (h : tl a = tl b) : a = b := by
  obtain ⟨⟨x⟩⟩ := a
  obtain ⟨⟨y⟩⟩ := b
  have e : x = y := h
  rw [e]
theorem name_of {z : Str} (h1 : 1 ≤ (tl z).length) (h2 : (tl z).length ≤ 6) (h3 : ∀ c ∈ tl z, lc c = true) : NameOk z := by
  rw [tl_len] at h1 h2
  exact ⟨h1, h2, List.all_eq_true.mpr h3⟩
theorem tl_to {z : Str} {j : Nat} (h : j ≤ (tl z).length) : tl (cutS z none (some (j : Int))) = (tl z).take j := by
  show (((tl z).drop (HT.sIx z.length 0 none)).take (HT.sIx z.length z.length (some (j : Int)) - HT.sIx z.length 0 none)) = _
  rw [HT.sIx_none, HT.sIx_nat, ← tl_len, Nat.min_eq_left h]
  simp
theorem tl_cut {z : Str} {a b : Nat} (h : b ≤ (tl z).length) (ha : a ≤ b) : tl (cutS z (some (a : Int)) (some (b : Int))) = ((tl z).drop a).take (b - a) := by
  show (((tl z).drop (HT.sIx z.length 0 (some (a : Int)))).take (HT.sIx z.length z.length (some (b : Int)) - HT.sIx z.length 0 (some (a : Int)))) = _
  rw [HT.sIx_nat, HT.sIx_nat, ← tl_len, Nat.min_eq_left h, Nat.min_eq_left (Nat.le_trans ha h)]
theorem joinL_ones : ∀ cs : List Nat, joinL [] (cs.map fun c => [c]) = cs
  | [] => rfl
  | [c] => rfl
  | c :: d :: r => by
    have ih := joinL_ones (d :: r)
    show [c] ++ ([] ++ joinL [] ((d :: r).map fun c => [c])) = _
    rw [ih]
    rfl
theorem tl_ones (cs : List Nat) : tl (Txt.join (Str.ofString "") (cs.map fun c => ⟨#[c]⟩)) = cs := by
  rw [join_eq, tl_join, List.map_map]
  have e : tl (Str.ofString "") = [] := by decide +kernel
  rw [e]
  exact joinL_ones cs
/-- all good, all apart -/
structure Nms (ns : List Str) : Prop where
  ok : ∀ z ∈ ns, NameOk z
  nd : ns.Nodup
theorem nms_of {f : Nat → Str} {n : Nat} (ok : ∀ k, k < n → NameOk (f k)) (ap : ∀ j k, j < k → k < n → f j ≠ f k) : Nms ((List.range n).map f) := by
  refine ⟨fun z hz => ?_, ?_⟩
  · obtain ⟨k, hk, rfl⟩ := List.mem_map.mp hz
    exact ok k (List.mem_range.mp hk)
  · show ((List.range n).map f).Pairwise (· ≠ ·)
    rw [List.pairwise_map]
    have p : (List.range n).Pairwise (fun a b => a < b) := List.pairwise_lt_range
    refine List.Pairwise.imp_of_mem ?_ p
    intro a b ha hb hab
    exact ap a b hab (List.mem_range.mp hb)
/-! the first way -/
def wds : List Str := ["place", "staff", "ticket", "low", "high", "long", "pilot", "train", "at", "to", "in", "get", "a"]
theorem wds_ok : ∀ z ∈ wds, NameOk z := by
  intro z hz
  have h : (wds.all fun z => decide (1 ≤ (tl z).length) && decide ((tl z).length ≤ 6) && (tl z).all lc) = true := by decide +kernel
  have q := List.all_eq_true.mp h z hz
  rw [Bool.and_eq_true, Bool.and_eq_true, decide_eq_true_eq, decide_eq_true_eq] at q
  exact name_of q.1.1 q.1.2 (List.all_eq_true.mp q.2)
theorem wds_nd : wds.Nodup := by decide +kernel
def nm0 (a : Int) (k : Nat) : Str := (wds[((a + 5 * (k : Int)) % 13).toNat]?).getD ⟨#[]⟩
theorem nm0_at (a : Int) (k : Nat) : atI wds ((a + 5 * (k : Int)) % 13) = some (nm0 a k) := by
  have h0 := Int.emod_nonneg (a + 5 * (k : Int)) (by decide : (13 : Int) ≠ 0)
  have h1 := Int.emod_lt_of_pos (a + 5 * (k : Int)) (by decide : (0 : Int) < 13)
  have hl : wds.length = 13 := by decide +kernel
  generalize e : (a + 5 * (k : Int)) % 13 = m at h0 h1
  obtain ⟨j, rfl⟩ := Int.eq_ofNat_of_zero_le h0
  have hj : j < wds.length := by omega
  unfold nm0
  rw [e, Int.toNat_natCast, List.getElem?_eq_getElem hj]
  exact atI_nat (List.getElem?_eq_getElem hj)
theorem nm0_ok (a : Int) (n : Nat) (hn : n ≤ 7) : Nms ((List.range n).map (nm0 a)) := by
  have hl : wds.length = 13 := by decide +kernel
  have key : ∀ k : Nat, ∃ j : Nat, ((j : Nat) : Int) = (a + 5 * (k : Int)) % 13 ∧ ∃ h : j < wds.length, nm0 a k = wds[j] := fun k => by
    have h0 := Int.emod_nonneg (a + 5 * (k : Int)) (by decide : (13 : Int) ≠ 0)
    have h1 := Int.emod_lt_of_pos (a + 5 * (k : Int)) (by decide : (0 : Int) < 13)
    unfold nm0
    generalize (a + 5 * (k : Int)) % 13 = m at h0 h1
    obtain ⟨j, rfl⟩ := Int.eq_ofNat_of_zero_le h0
    have hj : j < wds.length := by omega
    exact ⟨j, rfl, hj, by rw [Int.toNat_natCast, List.getElem?_eq_getElem hj]; rfl⟩
  refine nms_of (fun k hk => ?_) (fun j k hjk hk e => ?_)
  · obtain ⟨j, _, hj, e⟩ := key k
    rw [e]
    exact wds_ok _ (List.getElem_mem hj)
  · obtain ⟨j1, a1, b1, c1⟩ := key j
    obtain ⟨j2, a2, b2, c2⟩ := key k
    rw [c1, c2] at e
    have nd : wds.Pairwise (· ≠ ·) := wds_nd
    rcases Nat.lt_trichotomy j1 j2 with h | h | h
    · exact List.pairwise_iff_getElem.mp nd j1 j2 b1 b2 h e
    · omega
    · exact List.pairwise_iff_getElem.mp nd j2 j1 b2 b1 h e.symm
/-! the second way -/
structure Stem (z : Str) : Prop where
  len : (tl z).length = 6
  ok : ∀ c ∈ tl z, lc c = true
def nm1 (z : Str) (a : Int) (k : Nat) : Str := cutS z none (some (1 + (a + 5 * (k : Int)) % 6))
theorem nm1_ok {z : Str} (h : Stem z) (a : Int) (n : Nat) (hn : n < 7) : Nms ((List.range n).map (nm1 z a)) := by
  have key : ∀ k : Nat, ∃ j : Nat, ((j : Nat) : Int) = 1 + (a + 5 * (k : Int)) % 6 ∧ 1 ≤ j ∧ j ≤ 6 ∧ tl (nm1 z a k) = (tl z).take j := fun k => by
    have h0 := Int.emod_nonneg (a + 5 * (k : Int)) (by decide : (6 : Int) ≠ 0)
    have h1 := Int.emod_lt_of_pos (a + 5 * (k : Int)) (by decide : (0 : Int) < 6)
    unfold nm1
    generalize (a + 5 * (k : Int)) % 6 = m at h0 h1
    obtain ⟨j, rfl⟩ := Int.eq_ofNat_of_zero_le h0
    refine ⟨1 + j, by omega, by omega, by omega, ?_⟩
    have e : (1 + (j : Int)) = ((1 + j : Nat) : Int) := by omega
    rw [e]
    exact tl_to (by rw [h.len]; omega)
  refine nms_of (fun k hk => ?_) (fun j k hjk hk e => ?_)
  · obtain ⟨j, _, j1, j6, e⟩ := key k
    have hl := h.len
    refine name_of ?_ ?_ (fun c hc => h.ok c (by rw [e] at hc; exact List.mem_of_mem_take hc)) <;> rw [e, List.length_take] <;> omega
  · obtain ⟨j1, a1, _, b1, c1⟩ := key j
    obtain ⟨j2, a2, _, b2, c2⟩ := key k
    have l := congrArg (fun z => (tl z).length) e
    have hl := h.len
    simp only [c1, c2, List.length_take] at l
    omega
/-! the third way -/
def abc : Str := "abcdefghijklmnopqrstuvwxyz"
def lt1 (a : Int) (k : Nat) : Nat := 97 + ((a + 7 * (k : Int)) % 26).toNat
theorem abc_at {i : Int} (h0 : 0 ≤ i) (h1 : i < 26) : atI abc.cps.toList i = some (97 + i.toNat) := by
  obtain ⟨j, rfl⟩ := Int.eq_ofNat_of_zero_le h0
  have h : ∀ j : Fin 26, abc.cps.toList[j.1]? = some (97 + j.1) := by decide +kernel
  rw [Int.toNat_natCast]
  exact atI_nat (h ⟨j, by omega⟩)
theorem lt1_at (a : Int) (k : Nat) : atI abc.cps.toList ((a + 7 * (k : Int)) % 26) = some (lt1 a k) := abc_at (Int.emod_nonneg _ (by decide)) (Int.emod_lt_of_pos _ (by decide))
theorem lt1_lc (a : Int) (k : Nat) : lc (lt1 a k) = true := by
  have h0 := Int.emod_nonneg (a + 7 * (k : Int)) (by decide : (26 : Int) ≠ 0)
  have h1 := Int.emod_lt_of_pos (a + 7 * (k : Int)) (by decide : (0 : Int) < 26)
  unfold lt1 lc
  rw [Bool.and_eq_true, decide_eq_true_eq, decide_eq_true_eq]
  omega
def nm2 (z : Str) (a t : Int) (k : Nat) : Str := cutS z none (some t) ++ ⟨#[lt1 a k]⟩ ++ cutS z (some t) (some (t + (a + (k : Int)) % (6 - t)))
theorem nm2_ok {z : Str} (h : Stem z) (a t : Int) (t0 : 0 ≤ t) (t6 : t < 6) (n : Nat) (hn : n ≤ 7) : Nms ((List.range n).map (nm2 z a t)) := by
  obtain ⟨t, rfl⟩ := Int.eq_ofNat_of_zero_le t0
  have hl := h.len
  have key : ∀ k : Nat, ∃ m : Nat, t + m < 6 ∧ tl (nm2 z a t k) = (tl z).take t ++ ([lt1 a k] ++ ((tl z).drop t).take m) := fun k => by
    have h0 := Int.emod_nonneg (a + (k : Int)) (show (6 - (t : Int)) ≠ 0 by omega)
    have h1 := Int.emod_lt_of_pos (a + (k : Int)) (show (0 : Int) < 6 - (t : Int) by omega)
    unfold nm2
    generalize (a + (k : Int)) % (6 - (t : Int)) = m at h0 h1
    obtain ⟨m, rfl⟩ := Int.eq_ofNat_of_zero_le h0
    refine ⟨m, by omega, ?_⟩
    rw [tl_append, tl_append, tl_to (by omega), show ((t : Int) + (m : Int)) = ((t + m : Nat) : Int) by omega, tl_cut (by omega) (by omega), show t + m - t = m by omega, List.append_assoc]
  refine nms_of (fun k hk => ?_) (fun j k hjk hk e => ?_)
  · obtain ⟨m, hm, e⟩ := key k
    refine name_of ?_ ?_ (fun c hc => ?_)
    · rw [e, List.length_append, List.length_append]
      simp
      omega
    · rw [e, List.length_append, List.length_append, List.length_take, List.length_take, List.length_drop]
      simp
      omega
    · rw [e] at hc
      rcases List.mem_append.mp hc with q | q
      · exact h.ok c (List.mem_of_mem_take q)
      · rcases List.mem_append.mp q with q | q
        · rw [List.mem_singleton.mp q]
          exact lt1_lc a k
        · exact h.ok c (List.mem_of_mem_drop (List.mem_of_mem_take q))
  · obtain ⟨m1, hm1, c1⟩ := key j
    obtain ⟨m2, hm2, c2⟩ := key k
    have l := congrArg (fun z => (tl z)[t]?) e
    simp only [c1, c2] at l
    have lt : ((tl z).take t).length = t := by rw [List.length_take]; omega
    have g : ∀ (c : Nat) (r : List Nat), ((tl z).take t ++ ([c] ++ r))[t]? = some c := fun c r => by
      rw [List.getElem?_append_right (by omega), lt, Nat.sub_self]
      rfl
    rw [g, g] at l
    have l := Option.some.inj l
    unfold lt1 at l
    have h0 := Int.emod_nonneg (a + 7 * (j : Int)) (by decide : (26 : Int) ≠ 0)
    have h1 := Int.emod_nonneg (a + 7 * (k : Int)) (by decide : (26 : Int) ≠ 0)
    omega
end My

set_option maxRecDepth 100000
set_option maxHeartbeats 400000
namespace K21
open PySem PySem.Spec PyProof.Rows L2 GxR Gd TL My
theorem ixL {X : Cx} {K : PySem.W.Frag} (h : X.K = K) : IxR X (rIxL K) := h ▸ ix_list
theorem lt_line (i : Nat) (h : i ≤ 1000) : i < sizeLine := Nat.lt_of_le_of_lt h (by decide)
theorem same_nt {H H' : Hp} (s : Same H H') : Nt H H' := fun c o _ h => s c o h
/-- a name that the law draws -/
def Nm (z : Str) : Prop := Good z ∧ z.length ≤ 20
theorem abc_good : Good abc := good_of _
theorem abc_one {i : Int} (h0 : 0 ≤ i) (h1 : i < 26) : ∃ c, atI abc.cps.toList i = some c ∧ Good ⟨#[c]⟩ := by
  refine ⟨_, abc_at h0 h1, good_one abc_good ?_⟩
  have e := abc_at h0 h1
  unfold atI at e
  cases q : ixN abc.cps.toList.length i with
  | none => rw [q] at e; cases e
  | some j => rw [q] at e; exact List.mem_of_getElem? e
section
variable {P : Program} {w : World} {K : PySem.W.Frag} {mg : Str → Option Value} {base : Heap}
abbrev s_law_names : Stmt := top 13
theorem sc_law_names : FnScope ["_law_box_here", "_law_many", "_law_letters", "_law_first", "_law_stem", "_law_at", "_law_k"] ["_law_box_here", "_law_many"] (defScope s_law_names) := ⟨rfl, rfl, rfl, by decide +kernel, rfl, by decide +kernel, by decide +kernel⟩
def spNames : Sp := fun vs H Q _ => ∃ (b : Addr) (m : Nat) (n : Int), vs = [.ref b, .int (m : Nat)] ∧ Bx b n H ∧ n ≤ 90000 ∧ m ≤ 7 ∧
  ∀ (ns : List Str) (a : Addr) (H' : Hp), KB b H H' → Bx b (n + 20) H' → H a = none → H' a = some (.lst (ns.map V.str)) → ns.length = m → (∀ z ∈ ns, Nm z) → Q (.ref a) H'
theorem ok_names {f fT : Addr} {fd fdT : FuncData} (F : Fun K "_law_names" "_law_names" s_law_names f fd) (T : Txt mg)
    (Nlaw_take : Fn K mg "_law_take" sTake ["_law_box_here", "_law_many"] fT fdT) (Glaw_take : FnOk P w K mg base CX0 1 fT fdT ["_law_box_here", "_law_many"] spTake) :
    FnOk P w K mg base CX0 2 f fd ["_law_box_here", "_law_many"] spNames := by
  refine F.ok sc_law_names (fun vs H Q E h => ?_) (fun cdv A outer s H vs Q E hr h => ?_)
  · obtain ⟨b, m, n, rfl, _⟩ := h
    rfl
  · obtain ⟨b, m, n, rfl, hB, hn, hm, k⟩ := h
    refine ⟨_, pss_cons (ps_set (i := 2) sc_law_names.nd rfl (Or.inr rfl) pe_str)
      (pss_cons (ps_set (i := 3) sc_law_names.nd rfl (Or.inr rfl) (pe_call Glaw_take (hr.mono (by decide)) (by rfl) Nlaw_take.g Nlaw_take.kp Nlaw_take.b .nil pass0 (pa_cons (pv 0) (pa_cons pe_int pa_nil))))
      (pss_cons (ps_set (i := 4) sc_law_names.nd rfl (Or.inr rfl) (pe_join pe_str (pe_lc (own := [("_law_k", 6)]) (g := gName 6) (tt := tYes) rfl sc_law_names.nd (pi_range1 (by rfl) T.range_ (pa_cons pe_int pa_nil)) (blkOk_by (own := [("_law_k", 6)]) (N := ["_law_box_here", "_law_many", "_law_letters", "_law_first", "_law_stem", "_law_at", "_law_k"]) (sc := defScope s_law_names) (by decide +kernel)) (fun _ _ _ _ _ => (pg_name (i := 6) sc_law_names.nd rfl (Or.inl rfl))) (fun _ _ _ _ _ => pts_nil) (fun _ _ _ _ _ => (pe_ix ix_str (pv 2) (pe_call Glaw_take (hr.mono (by decide)) (by rfl) Nlaw_take.g Nlaw_take.kp Nlaw_take.b .nil pass0 (pa_cons (pv 0) (pa_cons pe_int pa_nil))) (fun _ _ => rfl))))))
      (pss_cons (ps_set (i := 5) sc_law_names.nd rfl (Or.inr rfl) (pe_call Glaw_take (hr.mono (by decide)) (by rfl) Nlaw_take.g Nlaw_take.kp Nlaw_take.b .nil pass0 (pa_cons (pv 0) (pa_cons pe_int pa_nil))))
      (pss_cons (ps_if (pt_cmpR op_eq (pe_call Glaw_take (hr.mono (by decide)) (by rfl) Nlaw_take.g Nlaw_take.kp Nlaw_take.b .nil pass0 (pa_cons (pv 0) (pa_cons pe_int pa_nil))) pe_int (nomark _)) (pss_one (ps_ret (pe_lc (own := [("_law_k", 6)]) (g := gName 6) (tt := tYes) rfl sc_law_names.nd (pi_range1 (by rfl) T.range_ (pa_cons (pv 1) pa_nil)) (blkOk_by (own := [("_law_k", 6)]) (N := ["_law_box_here", "_law_many", "_law_letters", "_law_first", "_law_stem", "_law_at", "_law_k"]) (sc := defScope s_law_names) (by decide +kernel)) (fun _ _ _ _ _ => (pg_name (i := 6) sc_law_names.nd rfl (Or.inl rfl))) (fun _ _ _ _ _ => pts_nil) (fun _ _ _ _ _ => (pe_slice sl_str (pe_op op_add_str (pv 4) (pe_ix ix_str (pv 2) (pv 3) (fun _ _ => rfl))) po_none (po_some (pe_op op_add pe_int (pe_op op_mod (pe_op op_add (pv 3) (pe_op op_mul pe_int (pv 6))) pe_int)))))))) pss_nil)
      (pss_one (ps_ret (pe_lc (own := [("_law_k", 6)]) (g := gName 6) (tt := tYes) rfl sc_law_names.nd (pi_range1 (by rfl) T.range_ (pa_cons (pv 1) pa_nil)) (blkOk_by (own := [("_law_k", 6)]) (N := ["_law_box_here", "_law_many", "_law_letters", "_law_first", "_law_stem", "_law_at", "_law_k"]) (sc := defScope s_law_names) (by decide +kernel)) (fun _ _ _ _ _ => (pg_name (i := 6) sc_law_names.nd rfl (Or.inl rfl))) (fun _ _ _ _ _ => pts_nil) (fun _ _ _ _ _ => (pe_op op_add_str (pe_op op_add_str (pe_slice sl_str (pv 4) po_none (po_some (pv 5))) (pe_ix ix_str (pv 2) (pe_op op_mod (pe_op op_add (pv 3) (pe_op op_mul pe_int (pv 6))) pe_int) (fun _ _ => rfl))) (pe_slice sl_str (pv 4) (po_some (pv 5)) po_none)))))))))), ?_⟩
    refine ⟨_, rfl, b, 26, n, rfl, hB, by omega, by decide, by decide, fun a H1 a0 a1 off1 B1 => ?_⟩
    refine ⟨⟨_, rfl⟩, 5, rfl, by decide, by decide, fun D hD => ?_⟩
    have nDb : D ≠ b := B1.fresh hD
    refine lc_range (lo := 0) (n := 5) (fun i H' => ∃ cs : List Nat, H' D = some (.lst ((cs.map fun c => (⟨#[c]⟩ : Str)).map V.str)) ∧ cs.length = i ∧ (∀ c ∈ cs, Good ⟨#[c]⟩) ∧ KB b H1 H' ∧ Bx b (n + 1 + i) H')
      ⟨[], upd_same, rfl, by simp, KB.alloc hD, (B1.alloc hD).mono (by simp)⟩ ?_ ?_
    · rintro i H3 hi ⟨cs, hz, hl, h1, k3, B3⟩
      refine ⟨rfl, lcY ?_⟩
      refine ⟨_, rfl, _, rfl, b, 26, _, rfl, B3, by omega, by decide, by decide, fun d' H4 e0 e1 off4 B4 => ?_⟩
      have hz4 : H4 D = some (.lst ((cs.map fun c => (⟨#[c]⟩ : Str)).map V.str)) := by rw [off4 D nDb]; exact hz
      obtain ⟨c, ec, gc⟩ := abc_one e0 e1
      refine ⟨_, d', c, rfl, rfl, by decide +kernel, ec, _, hz4, ?_, cs ++ [c], ?_, ?_, ?_, ?_, ?_⟩
      · rw [List.length_map, List.length_map, hl]
        exact lt_line i (by omega)
      · rw [upd_same, List.map_append, List.map_append]
        rfl
      · rw [List.length_append, hl]
        rfl
      · intro z hz
        rcases List.mem_append.mp hz with q | q
        · exact h1 z q
        · rw [List.mem_singleton.mp q]
          exact gc
      · intro c o nc e
        rw [upd_ne (ne_of_none e hD)]
        exact (k3.trans (KB.off off4)) c o nc e
      · exact (B4.put nDb).mono (by push_cast; omega)
    · rintro H3 ⟨cs, hz, hl, h1, k3, B3⟩
      have e0 : (Str.ofString "").length = 0 := by decide +kernel
      have hs := sum_ones (cs.map fun c => (⟨#[c]⟩ : Str)) (fun z hz => by obtain ⟨c, _, rfl⟩ := List.mem_map.mp hz; exact Nat.le_refl 1)
      have jl := join_len (Str.ofString "") (cs.map fun c => (⟨#[c]⟩ : Str))
      rw [List.length_map] at hs jl
      rw [e0] at jl
      have gS : Good (Txt.join (Str.ofString "") (cs.map fun c => (⟨#[c]⟩ : Str))) := good_join (good_of "") fun z hz => by
        obtain ⟨c, hc, rfl⟩ := List.mem_map.mp hz
        exact h1 c hc
      refine ⟨_, D, _, rfl, rfl, .inl (SqL.of hz), ?_, ?_⟩
      · rw [e0, List.length_map]
        omega
      have jl5 : (Txt.join (Str.ofString "") (cs.map fun c => (⟨#[c]⟩ : Str))).length ≤ 5 := by omega
      generalize Txt.join (Str.ofString "") (cs.map fun c => (⟨#[c]⟩ : Str)) = st at gS jl5 ⊢
      have kH := (KB.off off1).trans k3
      clear hz h1 k3 jl hs B1
      have new : ∀ {p : Addr} {H4 : Hp}, KB b H H4 → Bx b (n + 20) H4 → H4 p = none → H p = none := fun {p H4} kb bx np => by
        cases q : H p with
        | none => rfl
        | some o =>
          have := kb p o (bx.fresh np) q
          rw [np] at this
          cases this
      refine ⟨_, rfl, b, 6, _, rfl, B3, by omega, by decide, by decide, fun t H4 t0 t6 off4 B4 => ?_⟩
      refine ⟨_, rfl, b, 3, _, rfl, B4, by omega, by decide, by decide, fun u H5 u0 u3 off5 B5 => ?_⟩
      have k5 := (kH.trans (KB.off off4)).trans (KB.off off5)
      have B5' : Bx b (n + 20) H5 := B5.mono (by omega)
      clear kH off4 off5 B3 B4 B5
      have fin : ∀ (D2 : Addr) (zs : List Str), H5 D2 = none → zs.length = m → (∀ z ∈ zs, Nm z) → Q (.ref D2) (upd H5 D2 (.lst (zs.map V.str))) := fun D2 zs n2 l2 h2 =>
        k zs D2 _ (k5.trans (KB.alloc n2)) (B5'.alloc n2) (new k5 B5' n2) upd_same l2 h2
      refine ⟨rfl, _, rfl, ite2 (fun c => ?_) (fun c => ?_)⟩
      · refine ⟨_, rfl, m, rfl, by omega, by omega, fun D2 hD2 => ?_⟩
        refine lc_range (lo := 0) (n := m) (fun i H' => ∃ zs : List Str, H' = upd H5 D2 (.lst (zs.map V.str)) ∧ zs.length = i ∧ ∀ z ∈ zs, Nm z) ⟨[], rfl, rfl, by simp⟩ ?_ ?_
        · rintro i H' hi ⟨zs, rfl, l2, h2⟩
          refine ⟨rfl, lcY ?_⟩
          obtain ⟨cc, ec, gc⟩ := abc_one a0 a1
          refine ⟨_, rfl, _, rfl, _, rfl, _, a, cc, rfl, rfl, by decide +kernel, ec, _, _, rfl, rfl, ?_, ?_⟩
          · show st.length + 1 ≤ sizeLine
            exact Nat.le_trans (by omega : st.length + 1 ≤ 6) (by decide)
          refine ⟨_, rfl, _, rfl, _, _, rfl, rfl, .inl ⟨by decide, by decide⟩, _, _, rfl, rfl, _, _, rfl, rfl, (by show (0 : Int) < 6; decide), _, _, rfl, rfl, _, rfl, _, rfl, ?_, _, upd_same, ?_, zs ++ [_], by rw [upd_upd, List.map_append]; rfl, by rw [List.length_append, l2]; rfl, ?_⟩
          · show (st ++ ⟨#[cc]⟩ : Str).length ≤ sizeLine
            rw [← tl_len, tl_append, List.length_append, tl_len]
            exact Nat.le_trans (by show st.length + 1 ≤ 6; omega) (by decide)
          · rw [List.length_map, l2]
            exact lt_line i (by omega)
          · intro z hz
            rcases List.mem_append.mp hz with q | q
            · exact h2 z q
            · rw [List.mem_singleton.mp q]
              refine ⟨good_cut (good_app gS gc) _ _, Nat.le_trans (cutS_length _ _ _) ?_⟩
              rw [← tl_len, tl_append, List.length_append, tl_len]
              show st.length + 1 ≤ 20
              omega
        · rintro H' ⟨zs, rfl, l2, h2⟩
          exact fin D2 zs hD2 l2 h2
      · refine ⟨_, rfl, m, rfl, by omega, by omega, fun D2 hD2 => ?_⟩
        refine lc_range (lo := 0) (n := m) (fun i H' => ∃ zs : List Str, H' = upd H5 D2 (.lst (zs.map V.str)) ∧ zs.length = i ∧ ∀ z ∈ zs, Nm z) ⟨[], rfl, rfl, by simp⟩ ?_ ?_
        · rintro i H' hi ⟨zs, rfl, l2, h2⟩
          refine ⟨rfl, lcY ?_⟩
          obtain ⟨cc, ec, gc⟩ := abc_one (i := (a + 7 * (0 + (i : Int))) % 26) (Int.emod_nonneg _ (by decide)) (Int.emod_lt_of_pos _ (by decide))
          have q1 := cutS_length st none (some t)
          have q2 := cutS_length st (some t) none
          refine ⟨_, rfl, _, rfl, _, rfl, st, rfl, Nat.le_trans jl5 (by decide), _, rfl, _, rfl, _, rfl, _, _, rfl, rfl, .inl ⟨by decide, by decide⟩, _, _, rfl, rfl, _, _, rfl, rfl, (by show (0 : Int) < 26; decide), abc, _, cc, rfl, rfl, by decide +kernel, ec, _, _, rfl, rfl, ?_, ?_⟩
          · exact Nat.le_trans (by show _ + 1 ≤ 6; omega) (by decide : 6 ≤ sizeLine)
          refine ⟨_, rfl, _, rfl, _, rfl, st, rfl, Nat.le_trans jl5 (by decide), _, _, rfl, rfl, ?_, _, upd_same, ?_, zs ++ [_], by rw [upd_upd, List.map_append]; rfl, by rw [List.length_append, l2]; rfl, ?_⟩
          · rw [← tl_len, tl_append, List.length_append, tl_len]
            exact Nat.le_trans (by show _ + 1 + _ ≤ 11; omega) (by decide : 11 ≤ sizeLine)
          · rw [List.length_map, l2]
            exact lt_line i (by omega)
          · intro z hz
            rcases List.mem_append.mp hz with q | q
            · exact h2 z q
            · rw [List.mem_singleton.mp q]
              refine ⟨good_app (good_app (good_cut gS _ _) gc) (good_cut gS _ _), ?_⟩
              rw [← tl_len, tl_append, tl_append, List.length_append, List.length_append]
              simp only [tl_len]
              show _ + 1 + _ ≤ 20
              omega
        · rintro H' ⟨zs, rfl, l2, h2⟩
          exact fin D2 zs hD2 l2 h2
end
end K21

set_option maxRecDepth 100000
set_option maxHeartbeats 1000000
/-! The end of a law whose own def shows dicts: the module table is tracked, so that no new thing is it. For laws without tables. -/
namespace Gd
open PySem PySem.Spec PyProof.Rows L2 GxR
/-- the module table: it is there -/
def smU : HO := .ext fun h => ∃ o, h.get? sysModules = some o
def SmAt (H : Hp) : Prop := ∃ o, H sysModules = some (.frz o smU)
theorem SmAt.same {H H' : Hp} (h : SmAt H) (s : Same H H') : SmAt H' := let ⟨o, e⟩ := h; ⟨o, s _ _ e⟩
theorem smU_ne {u : HO} (n : ∀ φ, u ≠ .ext φ) : smU ≠ u := fun z => n _ z.symm
open Classical in
noncomputable def hs0 (K : PySem.W.Frag) (a : Addr) (vs : List Value) (ns : List Int) (o1 : Obj) : Hp := fun b =>
  if b = sysModules then some (.frz o1 smU) else if b = a ∧ K.lookup a = none then some (.frz (scriptO vs) (.lst (ns.map V.int))) else none
theorem hs0_inv {K : PySem.W.Frag} {a b : Addr} {vs : List Value} {ns : List Int} {o1 : Obj} {u : HO} (h : hs0 K a vs ns o1 b = some u) :
    (b = sysModules ∧ u = .frz o1 smU) ∨ (b = a ∧ K.lookup a = none ∧ u = .frz (scriptO vs) (.lst (ns.map V.int))) := by
  unfold hs0 at h
  split at h
  · rename_i c
    exact .inl ⟨c, (Option.some.inj h).symm⟩
  · split at h
    · rename_i c
      exact .inr ⟨c.1, c.2, (Option.some.inj h).symm⟩
    · cases h
section
variable {P : Program} {w : World} {K : PySem.W.Frag} {mg mb : Str → Option Value} {CX : CXT} {k : Nat} {fa a : Addr} {fd : FuncData} {x : Str} {sp : Sp} {s1 : Shared} {vs : List Value} {ns : List Int}
theorem law_scall (KX : K.In s1.heap) (nsG : s1.heap.Ns mainGlobals mg) (nsB : s1.heap.Ns builtinsNs mb) (isB : ∀ x : Str, x ≠ "__name__" → mb x = bootBuiltins x) (lim : s1.heap.NoLimit) (gens : s1.gens = #[])
    (hsm : ∃ o, s1.heap.get? sysModules = some o) (k1 : K.lookup sysModules = none) (na : a ≠ sysModules) (ha : s1.heap.get? a = some (scriptO vs)) (hi : IntsAre vs ns) (hl : ns.length ≤ sizeLine) (hr : Room k callerA)
    (F : ∀ base : Heap, K.In base → base.Ns mainGlobals mg → GOk P w K mg base CX k fa fd [x] sp) (hbind : ∀ (s : Shared) (u : Value), BindsTo s fd ⟨[u], []⟩ [(x, u)])
    (hsp : ∀ H : Hp, SmAt H → SqL K H a (ns.map V.int) → sp [.ref a] H (fun v _ => v = .bl true) fun _ _ _ => False) (hCX : ∀ H e s', CX [] H s1 (fun _ _ _ => False) e s' → False) :
    codeAny (model P w) callerA (.call (.ref fa) ⟨[.ref a], []⟩) (fun r s' => r = .ok (.ret (.bool true)) ∧ OldK s1.heap s'.heap ∧ s'.os = s1.os ∧ AllBare s'.gens) s1 := by
  have rv := vals_ints hi
  have hlen := hi.length
  obtain ⟨o1, ho1⟩ := hsm
  let H := hs0 K a vs ns o1
  have off : ∀ {b : Addr}, b ≠ sysModules → b ≠ a → H b = none := fun {b} n1 n2 => by
    cases q : H b with
    | none => rfl
    | some u =>
      rcases hs0_inv q with ⟨e, _⟩ | ⟨e, _⟩
      · exact absurd e n1
      · exact absurd e n2
  have dic : ∀ {b : Addr} {m : Str → Option Value}, b ≠ sysModules → s1.heap.Ns b m → (hidT s1.heap H).Ns b m := by
    rintro b m n1 ⟨o, es, ep, e, d, rest⟩
    refine ⟨o, es, ep, hidT_get e (off n1 ?_), d, rest⟩
    rintro rfl
    rw [ha] at e
    obtain rfl := Option.some.inj e
    cases d
  have KH : K.In (hidT s1.heap H) := by
    intro b o e
    refine hidT_get (KX b o e) ?_
    cases q : H b with
    | none => rfl
    | some u =>
      rcases hs0_inv q with ⟨rfl, _⟩ | ⟨rfl, z, _⟩
      · rw [k1] at e
        cases e
      · rw [z] at e
        cases e
  have limH : (hidT s1.heap H).NoLimit := let ⟨mc, h1, h2⟩ := lim; ⟨mc, dic (by decide) h1, h2⟩
  have M : L2.Mod K mg (hidT s1.heap H) := ⟨KH, dic (by decide) nsG, ⟨mb, dic (by decide) nsB, isB⟩, limH⟩
  have hS : SqL K H a (ns.map V.int) := by
    cases q : K.lookup a with
    | none => exact .inl (.inr ⟨scriptO vs, (if_neg na).trans (if_pos ⟨rfl, q⟩)⟩)
    | some o =>
      have e := KX a o q
      rw [ha] at e
      obtain rfl := Option.some.inj e
      exact .inr ⟨_, vs.toArray, _, q, rfl, rfl, rfl, by rw [List.size_toArray, hlen]; exact hl, by simpa using rv⟩
  have hok : HOk P w H s1.heap := by
    intro b u q
    rcases hs0_inv q with ⟨rfl, rfl⟩ | ⟨rfl, _, rfl⟩
    · exact ⟨ho1, ⟨_, ho1⟩, ⟨_, ho1⟩, fun h1 h2 ⟨o, z⟩ k => ⟨o, k _ z⟩⟩
    · exact ⟨ha, by rw [List.length_map]; exact hl, vs, _, rv, ha⟩
  have e0 : Env0 P w K mg (hidT s1.heap H) callerA [] s1 H :=
    ⟨rfl, M, fun b o e => of_hidT e, Nat.le_of_eq (hidT_size _ _), trivial, (fun b hb => by cases (show b ∈ ([] : List Addr) from hb)), hok, .of_eq gens⟩
  refine codeAny_mono ((F _ KH (dic (by decide) nsG)).go callerA [] s1 H ⟨[.ref a], []⟩ [.ref a] [.ref a] (fun v _ => v = .bl true) (fun _ _ _ => False) rfl hr e0 (hbind s1 (.ref a)) (.cons rfl .nil) (hsp H ⟨o1, if_pos rfl⟩ hS)) ?_
  intro r z h
  match r, h with
  | .ok .next, h => exact h.elim
  | .ok .brk, h => exact h.elim
  | .ok .cont, h => exact h.elim
  | .error e, h => exact (hCX H e z h).elim
  | .ok (.ret u), h =>
    obtain ⟨v, G, os, bare, un, hokG, rv', q⟩ := h
    obtain rfl : v = .bl true := q
    obtain rfl : u = Value.bool true := rv'
    have plain : ∀ b o, s1.heap.get? b = some o → z.heap.get? b = some o := by
      intro b o e
      cases q : H b with
      | none => exact un.keep b o e q (fun y => by cases (show b ∈ ([] : List Addr) from y)) (by simp)
      | some y =>
        rcases hs0_inv q with ⟨rfl, rfl⟩ | ⟨rfl, _, rfl⟩
        · obtain ⟨e2, _⟩ := hokG sysModules _ (un.frzs _ _ _ q)
          rw [ho1] at e
          exact Option.some.inj e ▸ e2
        · obtain ⟨e2, _⟩ := hokG b _ (un.frzs b _ _ q)
          rw [ha] at e
          exact Option.some.inj e ▸ e2
    exact ⟨rfl, ⟨fun b o e => .inl (plain b o e), fun b o e => ⟨o, plain b o e⟩⟩, os, bare⟩
end
/-- what is to be known of such a law -/
def GLawS (l : PySem.W.OpenLaw) (w : World) (K : PySem.W.Frag) (CX : CXT) (k n : Nat) (x : Str) (mg : Str → Option Value) (fa : Addr) : Prop :=
  ∃ (fd : FuncData) (sp : Sp), K.lookup sysModules = none ∧ (∀ (s : Shared) (u : Value), BindsTo s fd ⟨[u], []⟩ [(x, u)]) ∧
    (∀ (H : Hp) (a : Addr) (ns : List Int), ns.length ≤ n → SmAt H → SqL K H a (ns.map V.int) → sp [.ref a] H (fun v _ => v = .bl true) fun _ _ _ => False) ∧
    ∀ base : Heap, K.In base → base.Ns mainGlobals mg → GOk l.prog w K mg base CX k fa fd [x] sp
open PySem.W in
theorem walk_s {l : PySem.W.OpenLaw} {n k : Nat} {q : Program} {loose : List Str} {XP : (Str → Option Value) → Heap → Prop} {YP : World → Heap → Prop} {d : DefRec} {K : Params → PySem.W.Frag} {CX : World → CXT} {x : Str}
    (no : importsNone q = true) (hn : l.most = some n) (small : n ≤ sizeLine) (hdf : d.params.defaults = []) (hr : Room k callerA) (hY : ∀ (w : World) (h : Heap), YP w h → (K w.params).In h)
    (F : ∀ (w : World) (mg : Str → Option Value) (fa : Addr) (h : Heap), YP w h → (K w.params).In h → h.Ns mainGlobals mg → mg d.name = some (.ref fa) → GLawS l w (K w.params) (CX w) k n x mg fa)
    (hCX : ∀ (w : World) (H : Hp) (s : Shared) (e : Value) (s' : Shared), CX w [] H s (fun _ _ _ => False) e s' → False) :
    PySem.W.WalkO q loose XP YP l.row.toRowW d [] (fun f vs => PySem.call f vs) := by
  intro w s0 s1 mg mb G Y fa o pm cd doc dV kV ho hd hcd hD hmg hg args vals as pre lay rd well low
  obtain ⟨a, vs, ns, rfl, rfl, hobj, hints, hlen⟩ := Att.script_of hn pre well
  have na : a ≠ sysModules := by
    cases rd with
    | cons r1 r2 =>
      cases r1 with
      | list _ _ _ _ => exact beq_eq_false_iff_ne.mp (low a (by simp))
  have KX := hY w _ Y
  obtain ⟨fd, sp, k1, hb, hsp, hF⟩ := F w mg fa _ Y KX G.T.g hmg
  have run := law_scall KX G.T.g G.T.b G.T.builtins G.T.nolimit hg (let ⟨_, ⟨o, _, _, e, _⟩, _⟩ := (G.T.seer no).mods; ⟨o, e⟩) k1 na hobj hints (Nat.le_trans hlen small) hr hF hb (fun H a1 a2 => hsp H a ns hlen a1 a2) (fun H e s' => hCX w H s1 e s')
  refine enter_call (codeAny_mono run ?_)
  rintro r z ⟨rfl, old, os, bare⟩
  exact ⟨.inl ⟨.bool true, .bool true, [], rfl, fun _ => rfl, .bool true, Att.post_true l _, fun _ => ⟨List.Pairwise.nil, fun _ m => (nomatch m)⟩⟩, old, os, bare⟩
end Gd

set_option maxRecDepth 100000
set_option maxHeartbeats 1000000
/-! Data with dicts: what repr asks of them. -/
namespace My
open PySem PySem.Spec PyProof.Rows L2 GxR Gd TL
theorem same_new {H : Hp} {p : Addr} {o : HO} (n : H p = none) : Same H (upd H p o) := fun b u e => by rw [upd_ne (ne_of_none e n)]; exact e
theorem sameT {K : PySem.W.Frag} {H H' : Hp} {a : Addr} {xs : List V} (s : Same H H') (h : SqT K H a xs) : SqT K H' a xs := by
  rcases h with (h | ⟨o, h⟩) | h
  · exact .inl (.inl (s _ _ h))
  · exact .inl (.inr ⟨o, s _ _ h⟩)
  · exact .inr h
def keyD : Key → PyData
  | .inl i => .int i
  | .inr x => .str x
mutual
/-- v is the data d, dicts too -/
inductive Dq (K : PySem.W.Frag) (H : Hp) : V → PyData → Prop
  | non : Dq K H .non .none
  | bl (b : Bool) : Dq K H (.bl b) (.bool b)
  | int (i : Int) : Dq K H (.int i) (.int i)
  | str (z : Str) : Dq K H (.str z) (.str z)
  | lst {a : Addr} {xs : List V} {ds : List PyData} (e : SqL K H a xs) (h : DqAll K H xs ds) : Dq K H (.ref a) (.list ds)
  | tup {a : Addr} {xs : List V} {ds : List PyData} (e : SqT K H a xs) (h : DqAll K H xs ds) : Dq K H (.ref a) (.tuple ds)
  | dic {a : Addr} {kvs : List (Key × V)} {ds : List (PyData × PyData)} (e : H a = some (.dK kvs)) (h : DqKv K H kvs ds) : Dq K H (.ref a) (.dict ds)
inductive DqAll (K : PySem.W.Frag) (H : Hp) : List V → List PyData → Prop
  | nil : DqAll K H [] []
  | cons {v : V} {vs : List V} {d : PyData} {ds : List PyData} (h : Dq K H v d) (t : DqAll K H vs ds) : DqAll K H (v :: vs) (d :: ds)
inductive DqKv (K : PySem.W.Frag) (H : Hp) : List (Key × V) → List (PyData × PyData) → Prop
  | nil : DqKv K H [] []
  | cons {k : Key} {v : V} {r : List (Key × V)} {d : PyData} {ds : List (PyData × PyData)} (h : Dq K H v d) (t : DqKv K H r ds) : DqKv K H ((k, v) :: r) ((keyD k, d) :: ds)
end
mutual
theorem Dq.of {K : PySem.W.Frag} {H : Hp} : ∀ {v : V} {d : PyData}, Dp K H v d → Dq K H v d
  | _, _, .non => .non
  | _, _, .bl b => .bl b
  | _, _, .int i => .int i
  | _, _, .str z => .str z
  | _, _, .lst e h => .lst e (DqAll.of h)
  | _, _, .tup e h => .tup e (DqAll.of h)
theorem DqAll.of {K : PySem.W.Frag} {H : Hp} : ∀ {vs : List V} {ds : List PyData}, DpAll K H vs ds → DqAll K H vs ds
  | _, _, .nil => .nil
  | _, _, .cons h t => .cons (Dq.of h) (DqAll.of t)
end
mutual
theorem Dq.same {K : PySem.W.Frag} {H H' : Hp} (s : Same H H') : ∀ {v : V} {d : PyData}, Dq K H v d → Dq K H' v d
  | _, _, .non => .non
  | _, _, .bl b => .bl b
  | _, _, .int i => .int i
  | _, _, .str z => .str z
  | _, _, .lst e h => .lst (s.seq e) (DqAll.same s h)
  | _, _, .tup e h => .tup (sameT s e) (DqAll.same s h)
  | _, _, .dic e h => .dic (s _ _ e) (DqKv.same s h)
theorem DqAll.same {K : PySem.W.Frag} {H H' : Hp} (s : Same H H') : ∀ {vs : List V} {ds : List PyData}, DqAll K H vs ds → DqAll K H' vs ds
  | _, _, .nil => .nil
  | _, _, .cons h t => .cons (Dq.same s h) (DqAll.same s t)
theorem DqKv.same {K : PySem.W.Frag} {H H' : Hp} (s : Same H H') : ∀ {kvs : List (Key × V)} {ds : List (PyData × PyData)}, DqKv K H kvs ds → DqKv K H' kvs ds
  | _, _, .nil => .nil
  | _, _, .cons h t => .cons (Dq.same s h) (DqKv.same s t)
end
theorem keyD_reads {h : Heap} {k : Key} {v : Value} (e : keyIs k v = true) : Reads h v (keyD k) [] := by
  rcases keyIs_shape e with ⟨i, t, rfl, rfl⟩ | ⟨x, t, rfl, rfl⟩
  · exact .int i t
  · exact .str x t
section
variable {X : Cx} {pins : List (Addr × Obj)} {σ : L2.St} {H : Hp} {s : Shared}
theorem ne_sm {K : PySem.W.Frag} {H : Hp} {a : Addr} {xs : List V} (n : K.lookup sysModules = none) (sm : SmAt H) (h : SqL K H a xs) : a ≠ sysModules := by
  rintro rfl
  obtain ⟨o, e⟩ := sm
  rcases h with (h | ⟨u, h⟩) | ⟨u, _, _, h, _⟩
  · rw [e] at h
    cases h
  · rw [e] at h
    cases h
  · rw [n] at h
    cases h
mutual
theorem Dq.reads (n : X.K.lookup sysModules = none) (sm : SmAt H) (I : Inv X pins σ H s) : ∀ (d : PyData) (v : V) (u : Value), Dq X.K H v d → RelV v u → ∃ as, Reads s.heap u d as ∧ sysModules ∉ as
  | .none, _, _, h, r => by
    cases h
    cases r
    exact ⟨_, .none, by simp⟩
  | .bool b, _, _, h, r => by
    cases h
    cases r
    exact ⟨_, .bool b, by simp⟩
  | .int i, _, _, h, r => by
    cases h
    obtain ⟨t, rfl⟩ := r
    exact ⟨_, .int i t, by simp⟩
  | .str z, _, _, h, r => by
    cases h
    obtain ⟨t, rfl⟩ := r
    exact ⟨_, .str z t, by simp⟩
  | .list ds, _, _, h, r => by
    cases h with
    | lst hs ha =>
      cases r
      obtain ⟨its, rv, ⟨o, m, ho, hc, _, hd⟩, _⟩ := I.list hs
      obtain ⟨as, hr, no⟩ := Dq.readsAll n sm I ds _ its ha rv
      exact ⟨_, .list ho hc hd hr, fun m => (List.mem_cons.mp m).elim (ne_sm n sm hs).symm no⟩
  | .tuple ds, _, _, h, r => by
    cases h with
    | tup hs ha =>
      cases r
      obtain ⟨its, rv, ⟨o, ho, hc, m, hd⟩, _⟩ := I.tuple hs
      obtain ⟨as, hr, no⟩ := Dq.readsAll n sm I ds _ its ha rv
      exact ⟨_, .tuple ho hc hd hr, no⟩
  | .dict ds, _, _, h, r => by
    cases h with
    | dic e hk =>
      cases r
      obtain ⟨_, ne, vs, rel, o, es, ep, ho, hx, hd, _, hp, _⟩ := dk_of I.hok e
      obtain ⟨as, bs, h1, h2, n1, n2⟩ := Dq.readsKv n sm I ds _ vs es.toList hk rel hp
      refine ⟨_, .dict ho hx.1 hd h1 h2, fun m => ?_⟩
      rw [List.cons_append] at m
      rcases List.mem_cons.mp m with m | m
      · exact (beq_eq_false_iff_ne.mp ne) m.symm
      · exact (List.mem_append.mp m).elim n1 n2
theorem Dq.readsAll (n : X.K.lookup sysModules = none) (sm : SmAt H) (I : Inv X pins σ H s) : ∀ (ds : List PyData) (vs : List V) (us : List Value), DqAll X.K H vs ds → Vals vs us → ∃ as, ReadsAll s.heap us ds as ∧ sysModules ∉ as
  | [], _, _, h, r => by
    cases h
    cases r
    exact ⟨_, .nil, by simp⟩
  | d :: ds, _, _, h, r => by
    cases h with
    | cons h1 h2 =>
      cases r with
      | cons r1 r2 =>
        obtain ⟨as, q1, n1⟩ := Dq.reads n sm I d _ _ h1 r1
        obtain ⟨bs, q2, n2⟩ := Dq.readsAll n sm I ds _ _ h2 r2
        exact ⟨_, .cons q1 q2, fun m => (List.mem_append.mp m).elim n1 n2⟩
theorem Dq.readsKv (n : X.K.lookup sysModules = none) (sm : SmAt H) (I : Inv X pins σ H s) : ∀ (ds : List (PyData × PyData)) (kvs : List (Key × V)) (vs : List (Key × Value)) (es : List DictEntry), DqKv X.K H kvs ds → KV kvs vs → Pairs (mixKind X.prog X.w) es vs →
    ∃ as bs, ReadsAll s.heap (es.map (·.key)) (ds.map (·.1)) as ∧ ReadsAll s.heap (es.map (·.val)) (ds.map (·.2)) bs ∧ sysModules ∉ as ∧ sysModules ∉ bs
  | [], _, _, _, h, r, p => by
    cases h
    cases r
    cases p
    exact ⟨_, _, .nil, .nil, by simp, by simp⟩
  | (_, d) :: ds, _, _, _, h, r, p => by
    cases h with
    | cons h1 h2 =>
      cases r with
      | cons r1 r2 =>
        cases p with
        | cons p1 p2 p3 =>
          obtain ⟨as, q1, n1⟩ := Dq.reads n sm I d _ _ h1 r1.2
          obtain ⟨bs, cs, q2, q3, n2, n3⟩ := Dq.readsKv n sm I ds _ _ _ h2 r2 p3
          refine ⟨_, _, .cons (keyD_reads ?_) q2, .cons ?_ q3, by simpa using n2, fun m => (List.mem_append.mp m).elim n1 n3⟩
          · have e := r1.1
            dsimp only at e ⊢
            rw [e]
            exact p1
          · dsimp only
            rw [p2]
            exact q1
end
end
/-- repr(v), v data with dicts -/
def rReprQ (K : PySem.W.Frag) : List V → Hp → VK → Prop := fun xs H Q => ∃ v d, xs = [v] ∧ SmAt H ∧ Dq K H v d ∧ d.showable = true ∧ d.depth ≤ 100 ∧ d.shown.length ≤ sizeLine ∧ Q (.str d.shown) H
theorem call_reprQ {X : Cx} {k : Nat} (n : X.K.lookup sysModules = none) (gd : X.A.guards = some []) (hr : Room k X.A) : CallR X (.builtin "repr") (rReprQ X.K) := by
  rintro pins s σ H xs us Q I r ⟨v, d, rfl, sm, dq, hs, hdep, hsz, q⟩
  have whole : ∀ {a : Addr} {as : List Addr}, Reads s.heap (.ref a) d as → sysModules ∉ as → wpAny (model X.prog X.w) X.A (call (.builtin "repr") [.ref a]) (EP X pins σ Q) X.xe s := by
    intro a as rd no
    have hun := hr.un
    exact repr_of_reads' rd hs (fun _ => no) gd (by omega) (fun _ _ z => z) (fun h' u tk hk => ⟨.str _, H, I.kept hk, ⟨_, rfl⟩, q⟩) hsz
  cases dq with
  | non => exact call_repr gd hr pins s σ H _ us Q I r ⟨_, _, rfl, .non, hs, hdep, hsz, q⟩
  | bl b => exact call_repr gd hr pins s σ H _ us Q I r ⟨_, _, rfl, .bl b, hs, hdep, hsz, q⟩
  | int i => exact call_repr gd hr pins s σ H _ us Q I r ⟨_, _, rfl, .int i, hs, hdep, hsz, q⟩
  | str z => exact call_repr gd hr pins s σ H _ us Q I r ⟨_, _, rfl, .str z, hs, hdep, hsz, q⟩
  | lst e h =>
    obtain ⟨as, rd, no⟩ := Dq.reads n sm I _ _ us.head! (.lst e h) (by cases r with | cons a b => cases b; exact a)
    cases r with
    | cons a b => cases b; cases a; exact whole rd no
  | tup e h =>
    obtain ⟨as, rd, no⟩ := Dq.reads n sm I _ _ us.head! (.tup e h) (by cases r with | cons a b => cases b; exact a)
    cases r with
    | cons a b => cases b; cases a; exact whole rd no
  | dic e h =>
    obtain ⟨as, rd, no⟩ := Dq.reads n sm I _ _ us.head! (.dic e h) (by cases r with | cons a b => cases b; exact a)
    cases r with
    | cons a b => cases b; cases a; exact whole rd no
end My

set_option maxRecDepth 100000
set_option maxHeartbeats 400000
namespace K21
open PySem PySem.Spec PyProof.Rows L2 GxR Gd TL My
theorem ixT {X : Cx} {K : PySem.W.Frag} (h : X.K = K) : IxR X (rIxT K) := h ▸ ix_tup
theorem iteS {c : Bool} {A B : Prop} (hc : c = true) (h : A) : if c = true then A else B := by rw [if_pos hc]; exact h
theorem iteN {c : Bool} {A B : Prop} (hc : c = false) (h : B) : if c = true then A else B := by rw [if_neg (by rw [hc]; exact Bool.false_ne_true)]; exact h
/-! ### what a keeper has, as a number, a name and a truth -/
structure Sn where
  t : Int
  o : Option Str
  p : Bool
def toV : Option Str → V
  | none => .non
  | some z => .str z
theorem toV_non {o : Option Str} (h : toV o = .non) : o = none := by
  cases o with
  | none => rfl
  | some z => cases h
theorem toV_some {o : Option Str} (h : toV o ≠ .non) : ∃ z, o = some z := by
  cases o with
  | none => exact absurd rfl h
  | some z => exact ⟨z, rfl⟩
/-- what holds of it -/
structure SnOk (B : Int) (x : Sn) : Prop where
  nm : ∀ z, x.o = some z → Nm z
  t0 : 0 ≤ x.t
  t1 : x.t ≤ B
  sh : x.o = none → x.p = false
def LkAt (H : Hp) (v : V) (t : Int) : Option Str → Prop
  | none => v = .non
  | some z => ∃ u, v = .ref u ∧ H u = some (.tup [.int t, .str z])
theorem LkAt.up {H H' : Hp} {v : V} {t : Int} {o : Option Str} (h : LkAt H v t o) (k : ∀ x ys, H x = some (.tup ys) → H' x = some (.tup ys)) : LkAt H' v t o := by
  match o, h with
  | none, h => exact h
  | some p, ⟨u, e, h1⟩ => exact ⟨u, e, k _ _ h1⟩
def lkD (t : Int) : Option Str → PyData
  | none => .none
  | some z => .tuple [.int t, .str z]
theorem LkAt.dp {K : PySem.W.Frag} {H : Hp} {v : V} {t : Int} {o : Option Str} (h : LkAt H v t o) : Dp K H v (lkD t o) := by
  match o, h with
  | none, h =>
    obtain rfl : v = .non := h
    exact .non
  | some p, ⟨u, e, h1⟩ =>
    subst e
    exact .tup (SqT.of h1) (.cons (.int _) (.cons (.str _) .nil))
theorem sb_lk {B : Int} {x : Sn} (h : SnOk B x) (b : B ≤ 1000) : Sb (lkD x.t x.o) 1 300 := by
  have t0 := h.t0
  have t1 := h.t1
  cases q : x.o with
  | none => exact sb_none.mono (by decide) (by decide)
  | some z =>
    refine (sb_tuple (k := 0) (m := 110) (ds := [.int x.t, .str z]) fun d hd => ?_).mono (by decide) (by simp)
    simp only [List.mem_cons, List.not_mem_nil, or_false] at hd
    rcases hd with rfl | rfl
    · exact sb_int (by omega)
    · exact (sb_str (h.nm z q).1 (h.nm z q).2).mono (by decide) (by decide)
def HoAt (C : Addr) (H : Hp) (c : Addr) (x : Sn) : Prop := ∃ dx, H c = some (.ins C dx (kf x.t (toV x.o) x.p))
def RwAt (H : Hp) (c : Addr) (x : Sn) : Prop := ∃ lv, H c = some (.lst [.int x.t, lv, .bl x.p]) ∧ LkAt H lv x.t x.o
inductive Oc
  | shut (z : Str) | nsh | nor (t : Int) | num (t : Int) | bl (b : Bool) | nul
def Oc.tag : Oc → Str
  | .shut _ => "shut"
  | .nsh => "not shut"
  | .nor _ => "no right"
  | _ => "told"
def Oc.val : Oc → V
  | .shut z => .str z
  | .nsh => .non
  | .nor t => .int t
  | .num t => .int t
  | .bl b => .bl b
  | .nul => .non
def Oc.dat : Oc → PyData
  | .shut z => .str z
  | .nsh => .none
  | .nor t => .int t
  | .num t => .int t
  | .bl b => .bool b
  | .nul => .none
def OcAt (H : Hp) (o : Oc) (r : Addr) : Prop := H r = some (.tup [.str o.tag, o.val])
inductive Wk
  | lock | opens | ended | unlock
def Wk.name : Wk → Str
  | .lock => "lock"
  | .opens => "opens"
  | .ended => "ended"
  | .unlock => "unlock"
def stp (w : Wk) (v : V) (x : Sn) : Oc × Sn :=
  match w with
  | .lock => match x.o with
    | some z => (.shut z, x)
    | none => match v with
      | .str z => (.num (x.t + 1), ⟨x.t + 1, some z, false⟩)
      | _ => (.nul, x)
  | .opens => (.bl ((x.o.isSome && wh x.t x.t v) && !x.p), ⟨x.t, x.o, x.p || (x.o.isSome && wh x.t x.t v)⟩)
  | .ended => match x.o with
    | none => (.nsh, x)
    | some _ => if wh x.t x.t v = true then (.nul, ⟨x.t, none, false⟩) else (.nor x.t, x)
  | .unlock => match x.o with
    | none => (.nsh, x)
    | some _ => if x.p = true then (.nul, ⟨x.t, none, false⟩) else (.nor x.t, x)
theorem lby_eq (x : Sn) (v : V) : lby x.t (toV x.o) v = (x.o.isSome && wh x.t x.t v) := by
  unfold lby
  cases x.o <;> rfl
theorem stp_opens0 {x : Sn} {v : V} (h : (!x.p && lby x.t (toV x.o) v) = false) : stp .opens v x = (.bl false, x) := by
  obtain ⟨t, o, p⟩ := x
  rw [lby_eq] at h
  show (Oc.bl ((o.isSome && wh t t v) && !p), (⟨t, o, p || (o.isSome && wh t t v)⟩ : Sn)) = (.bl false, ⟨t, o, p⟩)
  have h : (!p && (o.isSome && wh t t v)) = false := h
  generalize (o.isSome && wh t t v) = b at h ⊢
  cases p <;> cases b <;> first | rfl | cases h
theorem stp_opens1 {x : Sn} {v : V} (h : (!x.p && lby x.t (toV x.o) v) = true) : stp .opens v x = (.bl true, ⟨x.t, x.o, true⟩) := by
  obtain ⟨t, o, p⟩ := x
  rw [lby_eq] at h
  show (Oc.bl ((o.isSome && wh t t v) && !p), (⟨t, o, p || (o.isSome && wh t t v)⟩ : Sn)) = (.bl true, ⟨t, o, true⟩)
  have h : (!p && (o.isSome && wh t t v)) = true := h
  generalize (o.isSome && wh t t v) = b at h ⊢
  cases p <;> cases b <;> first | rfl | cases h
/-- a thing that is handed in -/
inductive Vk (H : Hp) : V → Prop
  | int (i : Int) : Vk H (.int i)
  | bl (b : Bool) : Vk H (.bl b)
  | non : Vk H .non
  | str (z : Str) (h : z.length ≤ 100) (g : Good z) : Vk H (.str z)
  | lst (l : Addr) (i : Int) (h : H l = some (.lst [.int i])) : Vk H (.ref l)
theorem Vk.th {H : Hp} {v : V} (h : Vk H v) : Th H v := by
  cases h with
  | int i => exact .int i
  | bl b => exact .bl b
  | non => exact .non
  | str z h g => exact .str _ (Nat.le_trans h (by decide)) g
  | lst l i h => exact .lst _ _ h
theorem Vk.up {H H' : Hp} {v : V} (h : Vk H v) (k : ∀ y i, H y = some (.lst [.int i]) → H' y = some (.lst [.int i])) : Vk H' v := by
  cases h with
  | int i => exact .int i
  | bl b => exact .bl b
  | non => exact .non
  | str z h g => exact .str _ h g
  | lst l i h => exact .lst _ i (k _ _ h)
structure DdAt (H : Hp) (d : Addr) (w : Wk) (v : V) : Prop where
  at_ : H d = some (.tup [.str w.name, v])
  vk : Vk H v
  nt : w = .lock → ∃ z, v = .str z ∧ Nm z
theorem stp_ok {B : Int} {w : Wk} {v : V} {x : Sn} (h : SnOk B x) (nt : w = .lock → ∃ z, v = .str z ∧ Nm z) : SnOk (B + 1) (stp w v x).2 := by
  obtain ⟨a, b, c, d⟩ := h
  have hx : SnOk (B + 1) x := ⟨a, b, by omega, d⟩
  cases w with
  | lock =>
    obtain ⟨z, rfl, hz⟩ := nt rfl
    cases q : x.o with
    | some y =>
      have e : stp .lock (.str z) x = (.shut y, x) := by unfold stp; rw [q]
      rw [e]
      exact hx
    | none =>
      have e : stp .lock (.str z) x = (.num (x.t + 1), ⟨x.t + 1, some z, false⟩) := by unfold stp; rw [q]
      rw [e]
      exact ⟨fun y hy => Option.some.inj hy ▸ hz, by show 0 ≤ x.t + 1; omega, by show x.t + 1 ≤ B + 1; omega, fun z => by cases z⟩
  | opens => exact ⟨a, b, by show x.t ≤ B + 1; omega, fun z => by
      have z' : x.o = none := z
      show (x.p || (x.o.isSome && wh x.t x.t v)) = false
      rw [d z', z']
      rfl⟩
  | ended =>
    cases q : x.o with
    | none =>
      have e : stp .ended v x = (.nsh, x) := by unfold stp; rw [q]
      rw [e]
      exact hx
    | some y =>
      have e : stp .ended v x = if wh x.t x.t v = true then (.nul, ⟨x.t, none, false⟩) else (.nor x.t, x) := by unfold stp; rw [q]
      rw [e]
      split
      · exact ⟨fun y hy => (by cases hy), b, by show x.t ≤ B + 1; omega, fun _ => rfl⟩
      · exact hx
  | unlock =>
    cases q : x.o with
    | none =>
      have e : stp .unlock v x = (.nsh, x) := by unfold stp; rw [q]
      rw [e]
      exact hx
    | some y =>
      have e : stp .unlock v x = if x.p = true then (.nul, ⟨x.t, none, false⟩) else (.nor x.t, x) := by unfold stp; rw [q]
      rw [e]
      split
      · exact ⟨fun y hy => (by cases hy), b, by show x.t ≤ B + 1; omega, fun _ => rfl⟩
      · exact hx
theorem oc_sb {B : Int} {w : Wk} {v : V} {x : Sn} (h : SnOk B x) (b : B ≤ 900) (nt : w = .lock → ∃ z, v = .str z ∧ Nm z) : Sb (.tuple [.str (stp w v x).1.tag, (stp w v x).1.dat]) 2 700 := by
  have t0 := h.t0
  have t1 := h.t1
  have q : ∀ o : Oc, Sb o.dat 1 300 → Sb (.tuple [.str o.tag, o.dat]) 2 700 := fun o ho => by
    refine (sb_tuple (k := 1) (m := 300) (fun e he => ?_)).mono (by decide) (by simp)
    simp only [List.mem_cons, List.not_mem_nil, or_false] at he
    rcases he with rfl | rfl
    · cases o <;> exact (sb_str (good_of _) (by decide +kernel : _ ≤ 10)).mono (by decide) (by decide)
    · exact ho
  have qi : ∀ i : Int, i.natAbs < 10 ^ 31 → Sb (.int i) 1 300 := fun i h => (sb_int h).mono (by decide) (by decide)
  have qb : ∀ b : Bool, Sb (.bool b) 1 300 := fun b => (sb_bool b).mono (by decide) (by decide)
  have qn : Sb .none 1 300 := sb_none.mono (by decide) (by decide)
  refine q _ ?_
  cases w with
  | lock =>
    obtain ⟨z, rfl, hz⟩ := nt rfl
    cases e : x.o with
    | some y =>
      have e' : stp .lock (.str z) x = (.shut y, x) := by unfold stp; rw [e]
      rw [e']
      exact (sb_str (h.nm y e).1 (h.nm y e).2).mono (by decide) (by decide)
    | none =>
      have e' : stp .lock (.str z) x = (.num (x.t + 1), ⟨x.t + 1, some z, false⟩) := by unfold stp; rw [e]
      rw [e']
      exact qi (x.t + 1) (by omega)
  | opens => exact qb _
  | ended =>
    cases e : x.o with
    | none =>
      have e' : stp .ended v x = (.nsh, x) := by unfold stp; rw [e]
      rw [e']
      exact qn
    | some y =>
      have e' : stp .ended v x = if wh x.t x.t v = true then (.nul, ⟨x.t, none, false⟩) else (.nor x.t, x) := by unfold stp; rw [e]
      rw [e']
      split
      · exact qn
      · exact qi x.t (by omega)
  | unlock =>
    cases e : x.o with
    | none =>
      have e' : stp .unlock v x = (.nsh, x) := by unfold stp; rw [e]
      rw [e']
      exact qn
    | some y =>
      have e' : stp .unlock v x = if x.p = true then (.nul, ⟨x.t, none, false⟩) else (.nor x.t, x) := by unfold stp; rw [e]
      rw [e']
      split
      · exact qn
      · exact qi x.t (by omega)
theorem Oc.dp {K : PySem.W.Frag} {H : Hp} {o : Oc} {r : Addr} (h : OcAt H o r) : Dp K H (.ref r) (.tuple [.str o.tag, o.dat]) := by
  refine .tup (SqT.of h) (.cons (.str _) (.cons ?_ .nil))
  cases o with
  | shut z => exact .str _
  | nsh => exact .non
  | nor t => exact .int _
  | num t => exact .int _
  | bl b => exact .bl _
  | nul => exact .non
section
variable {P : Program} {w : World} {K : PySem.W.Frag} {mg : Str → Option Value} {base : Heap} {C CS fS CH fH CN fN CR fR : Addr} {fdS fdH fdN fdR : FuncData}
abbrev s_law_said : Stmt := top 14
theorem sc_law_said : FnScope ["_law_keeper", "_law_deed_here", "e"] ["_law_keeper", "_law_deed_here"] (defScope s_law_said) := ⟨rfl, rfl, rfl, by decide +kernel, rfl, by decide +kernel, by decide +kernel⟩
def spSaid (C : Addr) : Sp := fun vs H Q _ => ∃ c d w v x B, vs = [.ref c, .ref d] ∧ HoAt C H c x ∧ SnOk B x ∧ DdAt H d w v ∧
  ∀ r H', (∀ y o, y ≠ c → H y = some o → H' y = some o) → H r = none → OcAt H' (stp w v x).1 r → HoAt C H' c (stp w v x).2 → Q (.ref r) H'
theorem ok_said {f f1 f2 f3 f4 : Addr} {fd fd1 fd2 fd3 fd4 : FuncData} (F : Fun K "_law_said" "_law_said" s_law_said f fd) (T : Txt mg) (TC : KeeT K C) (ES : SeT K mg CS fS fdS sSE) (EShut : ExC K mg "Shut" "Shut.__init__" sShut CH fH fdH) (ENotShut : ExC K mg "NotShut" "NotShut.__init__" sNotShut CN fN fdN) (ENoRight : ExC K mg "NoRight" "NoRight.__init__" sNoRight CR fR fdR)
    (xNH : PySem.W.exmOne K (.ref CN) (.ref CH) = some false) (xRH : PySem.W.exmOne K (.ref CR) (.ref CH) = some false) (xRN : PySem.W.exmOne K (.ref CR) (.ref CN) = some false)
    (Mlock : Me K C "lock" "Keeper.lock" s_lock ["self", "to"] f1 fd1) (Glock : FnOk P w K mg base (CX P w) 4 f1 fd1 ["self", "to"] (spLock C CH))
    (Mopens : Me K C "opens" "Keeper.opens" s_opens ["self", "number"] f2 fd2) (Gopens : FnOk P w K mg base (CX P w) 3 f2 fd2 ["self", "number"] (spOpens C))
    (Mended : Me K C "ended" "Keeper.ended" s_ended ["self", "number"] f3 fd3) (Gended : FnOk P w K mg base (CX P w) 4 f3 fd3 ["self", "number"] (spEnded C CN CR))
    (Munlock : Me K C "unlock" "Keeper.unlock" s_unlock ["self"] f4 fd4) (Gunlock : FnOk P w K mg base (CX P w) 4 f4 fd4 ["self"] (spUnlock C CN CR)) :
    FnOk P w K mg base CX0 5 f fd ["_law_keeper", "_law_deed_here"] (spSaid C) := by
  refine F.ok sc_law_said (fun vs H Q E h => ?_) (fun cdv A outer s H vs Q E hr h => ?_)
  · obtain ⟨c, d, w, v, x, B, rfl, _⟩ := h
    rfl
  · obtain ⟨c, d, w, v, x, B, rfl, ⟨dx, hc⟩, ok, ⟨hd, vk, nt⟩, k⟩ := h
    refine ⟨_, pss_one (ps_try_cl rfl rfl sc_law_said.nd takes_never (.named (i := 2) (ts := fun a cls d => _) ⟨by rfl, by decide, .inl EShut.g⟩ rfl (by rfl) (fun a oe cls d pn hz hf => (pss_one (ps_ret (pe_tup (pa_cons pe_str (pa_cons (pe_xf EShut.x EShut.n hz hf (pv 2)) pa_nil)))))) (.named (i := 2) (ts := fun a cls d => _) ⟨by rfl, by decide, .inl ENotShut.g⟩ rfl (by rfl) (fun a oe cls d pn hz hf => (pss_one (ps_ret (pe_tup (pa_cons pe_str (pa_cons (pe_xf ENotShut.x ENotShut.n hz hf (pv 2)) pa_nil)))))) (.named (i := 2) (ts := fun a cls d => _) ⟨by rfl, by decide, .inl ENoRight.g⟩ rfl (by rfl) (fun a oe cls d pn hz hf => (pss_one (ps_ret (pe_tup (pa_cons pe_str (pa_cons (pe_xf ENoRight.x ENoRight.n hz hf (pv 2)) pa_nil)))))) .nil))) (fun W pn xe tk _ => (pss_cons (ps_if (pt_cmpR op_eq (pe_ix (ixT (K := K) rfl) (pv 1) pe_int (fun _ _ => rfl)) pe_str (nomark _)) (pss_one (ps_ret (pe_tup (pa_cons pe_str (pa_cons (pe_methX (pv 0) TC.cl Mlock.m Glock (hr.mono (by decide)) Mlock.b (fun σ => passAt tk σ) (pa_cons (pe_ix (ixT (K := K) rfl) (pv 1) pe_int (fun _ _ => rfl)) pa_nil)) pa_nil))))) pss_nil)
            (pss_cons (ps_if (pt_cmpR op_eq (pe_ix (ixT (K := K) rfl) (pv 1) pe_int (fun _ _ => rfl)) pe_str (nomark _)) (pss_one (ps_ret (pe_tup (pa_cons pe_str (pa_cons (pe_methX (pv 0) TC.cl Mopens.m Gopens (hr.mono (by decide)) Mopens.b (fun σ => passAt tk σ) (pa_cons (pe_ix (ixT (K := K) rfl) (pv 1) pe_int (fun _ _ => rfl)) pa_nil)) pa_nil))))) pss_nil)
            (pss_cons (ps_if (pt_cmpR op_eq (pe_ix (ixT (K := K) rfl) (pv 1) pe_int (fun _ _ => rfl)) pe_str (nomark _)) (pss_one (ps_ret (pe_tup (pa_cons pe_str (pa_cons (pe_methX (pv 0) TC.cl Mended.m Gended (hr.mono (by decide)) Mended.b (fun σ => passAt tk σ) (pa_cons (pe_ix (ixT (K := K) rfl) (pv 1) pe_int (fun _ _ => rfl)) pa_nil)) pa_nil))))) pss_nil)
            (pss_one (ps_ret (pe_tup (pa_cons pe_str (pa_cons (pe_methX0 (pv 0) TC.cl Munlock.m Gunlock (hr.mono (by decide)) Munlock.b (fun σ => passAt tk σ)) pa_nil)))))))))), ?_⟩
    have i0 : atI [V.str w.name, v] 0 = some (.str w.name) := rfl
    have i1 : atI [V.str w.name, v] 1 = some v := rfl
    -- a refusal that is told
    have tell : ∀ {H' : Hp} {u : Addr} {o : Oc}, Same H H' → H' u = none → o = (stp w v x).1 → x = (stp w v x).2 → Q (.ref u) (upd H' u (.tup [.str o.tag, o.val])) := by
      intro H' u o s nu e1 e2
      have s2 : Same H' (upd H' u (.tup [.str o.tag, o.val])) := same_new nu
      exact k u _ (fun y o _ h => s2 _ _ (s _ _ h)) (s.free nu) (e1 ▸ upd_same) (e2 ▸ ⟨dx, s2 _ _ (s _ _ hc)⟩)
    -- a deed that is told
    have did : ∀ {u : Addr} {o : Oc} {x' : Sn}, upd H c (.ins C dx (kf x'.t (toV x'.o) x'.p)) u = none → stp w v x = (o, x') → Q (.ref u) (upd (upd H c (.ins C dx (kf x'.t (toV x'.o) x'.p))) u (.tup [.str o.tag, o.val])) := by
      intro u o x' nu e
      have ncu : c ≠ u := ne_of_none upd_same nu
      refine k u _ (fun y o ny h => ?_) (by rw [upd_ne ncu.symm] at nu; exact nu) (by rw [e]; exact upd_same) (by rw [e]; exact ⟨dx, by rw [upd_ne ncu, upd_same]⟩)
      have h2 : upd H c (.ins C dx (kf x'.t (toV x'.o) x'.p)) y = some o := by rw [upd_ne ny]; exact h
      rw [upd_ne (ne_of_none h2 nu)]
      exact h2
    have two : 2 ≤ sizeLine := by decide
    refine ⟨_, rfl, d, _, _, _, rfl, rfl, SqT.of hd, i0, rfl, _, rfl, ?_⟩
    cases w with
    | lock =>
      obtain ⟨z, rfl, hz⟩ := nt rfl
      refine iteS (by decide +kernel) ?_
      refine ⟨_, rfl, c, dx, _, rfl, hc, kf_no _ _ _ (by decide +kernel) (by decide +kernel) (by decide +kernel), _, rfl, d, _, _, _, rfl, rfl, SqT.of hd, i1, c, dx, x.t, toV x.o, x.p, .str z, rfl, hc, ?_, ?_⟩
      · intro ho
        have ho := toV_non ho
        have e : stp .lock (.str z) x = (.num (x.t + 1), ⟨x.t + 1, some z, false⟩) := by unfold stp; rw [ho]
        rw [ok.sh ho]
        exact ⟨two, fun u nu => did (o := .num (x.t + 1)) (x' := ⟨x.t + 1, some z, false⟩) nu e⟩
      · intro ho e he
        obtain ⟨y, hy⟩ := toV_some ho
        have es : stp .lock (.str z) x = (.shut y, x) := by unfold stp; rw [hy]
        refine ⟨true, EShut.e, fun _ y' hy' => ?_, nofun⟩
        refine ⟨_, rfl, rfl, rfl, e, _, _, rfl, upd_same, rfl, two, fun u hu => ?_⟩
        rw [hy]
        exact tell (o := .shut y) (same_new he) (by rw [hy] at hu; exact hu) (by rw [es]) (by rw [es])
    | opens =>
      refine iteN (by decide +kernel) ?_
      refine ⟨_, rfl, d, _, _, _, rfl, rfl, SqT.of hd, i0, rfl, _, rfl, iteS (by decide +kernel) ?_⟩
      refine ⟨_, rfl, c, dx, _, rfl, hc, kf_no _ _ _ (by decide +kernel) (by decide +kernel) (by decide +kernel), _, rfl, d, _, _, _, rfl, rfl, SqT.of hd, i1, c, dx, x.t, toV x.o, x.p, v, rfl, hc, vk.th, ?_, ?_⟩
      · intro hb
        have es := stp_opens0 (x := x) hb
        exact ⟨two, fun u nu => tell (o := .bl false) (Same.refl H) nu (by rw [es]) (by rw [es])⟩
      · intro hb
        have es := stp_opens1 (x := x) hb
        exact ⟨two, fun u nu => did (o := .bl true) (x' := ⟨x.t, x.o, true⟩) nu es⟩
    | ended =>
      refine iteN (by decide +kernel) ?_
      refine ⟨_, rfl, d, _, _, _, rfl, rfl, SqT.of hd, i0, rfl, _, rfl, iteN (by decide +kernel) ?_⟩
      refine ⟨_, rfl, d, _, _, _, rfl, rfl, SqT.of hd, i0, rfl, _, rfl, iteS (by decide +kernel) ?_⟩
      refine ⟨_, rfl, c, dx, _, rfl, hc, kf_no _ _ _ (by decide +kernel) (by decide +kernel) (by decide +kernel), _, rfl, d, _, _, _, rfl, rfl, SqT.of hd, i1, c, dx, x.t, toV x.o, x.p, v, rfl, hc, vk.th, fun ho hw => ?_, fun ho e he => ?_, fun ho hw e he => ?_⟩
      · obtain ⟨y, hy⟩ := toV_some ho
        have es : stp .ended v x = (.nul, ⟨x.t, none, false⟩) := by unfold stp; rw [hy]; show (if wh x.t x.t v = true then _ else _) = _; rw [if_pos hw]
        exact ⟨two, fun u nu => did (o := .nul) (x' := ⟨x.t, none, false⟩) nu es⟩
      · have ho := toV_non ho
        have es : stp .ended v x = (.nsh, x) := by unfold stp; rw [ho]
        refine ⟨false, xNH, nofun, fun _ => ⟨true, ENotShut.e, fun _ y hy => ?_, nofun⟩⟩
        refine ⟨_, rfl, rfl, rfl, e, _, .non, rfl, upd_same, rfl, two, fun u hu => ?_⟩
        exact tell (o := .nsh) (same_new he) hu (by rw [es]) (by rw [es])
      · obtain ⟨y, hy⟩ := toV_some ho
        have es : stp .ended v x = (.nor x.t, x) := by unfold stp; rw [hy]; show (if wh x.t x.t v = true then _ else _) = _; rw [if_neg (by rw [hw]; exact Bool.false_ne_true)]
        refine ⟨false, xRH, nofun, fun _ => ⟨false, xRN, nofun, fun _ => ⟨true, ENoRight.e, fun _ y hy => ?_, nofun⟩⟩⟩
        refine ⟨_, rfl, rfl, rfl, e, _, .int x.t, rfl, upd_same, rfl, two, fun u hu => ?_⟩
        exact tell (o := .nor x.t) (same_new he) hu (by rw [es]) (by rw [es])
    | unlock =>
      refine iteN (by decide +kernel) ?_
      refine ⟨_, rfl, d, _, _, _, rfl, rfl, SqT.of hd, i0, rfl, _, rfl, iteN (by decide +kernel) ?_⟩
      refine ⟨_, rfl, d, _, _, _, rfl, rfl, SqT.of hd, i0, rfl, _, rfl, iteN (by decide +kernel) ?_⟩
      refine ⟨_, rfl, c, dx, _, rfl, hc, kf_no _ _ _ (by decide +kernel) (by decide +kernel) (by decide +kernel), c, dx, x.t, toV x.o, x.p, rfl, hc, fun ho hw => ?_, fun ho e he => ?_, fun ho hw e he => ?_⟩
      · obtain ⟨y, hy⟩ := toV_some ho
        have es : stp .unlock v x = (.nul, ⟨x.t, none, false⟩) := by unfold stp; rw [hy]; show (if x.p = true then _ else _) = _; rw [if_pos hw]
        exact ⟨two, fun u nu => did (o := .nul) (x' := ⟨x.t, none, false⟩) nu es⟩
      · have ho := toV_non ho
        have es : stp .unlock v x = (.nsh, x) := by unfold stp; rw [ho]
        refine ⟨false, xNH, nofun, fun _ => ⟨true, ENotShut.e, fun _ y hy => ?_, nofun⟩⟩
        refine ⟨_, rfl, rfl, rfl, e, _, .non, rfl, upd_same, rfl, two, fun u hu => ?_⟩
        exact tell (o := .nsh) (same_new he) hu (by rw [es]) (by rw [es])
      · obtain ⟨y, hy⟩ := toV_some ho
        have es : stp .unlock v x = (.nor x.t, x) := by unfold stp; rw [hy]; show (if x.p = true then _ else _) = _; rw [if_neg (by rw [hw]; exact Bool.false_ne_true)]
        refine ⟨false, xRH, nofun, fun _ => ⟨false, xRN, nofun, fun _ => ⟨true, ENoRight.e, fun _ y hy => ?_, nofun⟩⟩⟩
        refine ⟨_, rfl, rfl, rfl, e, _, .int x.t, rfl, upd_same, rfl, two, fun u hu => ?_⟩
        exact tell (o := .nor x.t) (same_new he) hu (by rw [es]) (by rw [es])
end
end K21

set_option maxRecDepth 100000
set_option maxHeartbeats 900000
/-! xs[lo:] = ys, another list -/
namespace My
open PySem PySem.Spec PyProof.Rows L2 GxR Gd
theorem tail_bounds {a n : Nat} (ha : a ≤ n) : sliceBounds (some (a : Int)) none none n = ((a : Int), (n : Int), 1) := by
  have h1 : ¬ ((a : Int) < 0) := Int.not_lt.mpr (by omega)
  simp only [sliceBounds, Option.getD_none, h1, if_false, show (1 : Int) > 0 by decide, if_true]
  have h2 : max (0 : Int) (min (a : Int) (n : Int)) = a := by omega
  rw [h2]
section
variable {s : Shared} {E : Value → Shared → Prop} {A : Around} {w : World} {prog : Program}
theorem tail_cut (xs ys : List Value) (a : Nat) : xs.toArray.extract 0 a ++ ys.toArray ++ xs.toArray.extract xs.toArray.size xs.toArray.size = (xs.take a ++ ys).toArray := by
  apply Array.toList_inj.mp
  simp
/-- at the store -/
theorem tail_store {l b sl : Addr} {xs ys : Array Value} {n n2 : Nat} {vl vu : Value} {a : Nat} {Q : Unit → Shared → Prop}
    (e : s.heap.get? l = some { cls := .type "list", data := .seq xs n })
    (e2 : s.heap.get? b = some { cls := .type "list", data := .seq ys n2 })
    (lb : l ≠ b) (hs : s.heap.IsSliceOf sl vl vu .none)
    (pl : IsPart vl (some (a : Int))) (pu : IsPart vu none) (ha : a ≤ xs.size) (hz : xs.size + ys.size ≤ sizeLine)
    (k : Q () { s with heap := s.heap.update l (Obj.mapSeq fun zs => zs.extract 0 a ++ ys ++ zs.extract xs.size zs.size) }) :
      wpAny (model prog w) A (setItem (.ref l) (.ref sl) (.ref b)) Q E s  := by
  have il := PySem.IsL.isList e
  have ib := PySem.IsL.isList e2
  obtain ⟨os, o1, o2, o3⟩ := id hs
  have ts : s.TypeIs (.ref sl) "slice" := ⟨os, o1, o2⟩
  have ne : Builtin.List.listSameRef (.ref l) (.ref b) = false := beq_eq_false_iff_ne.mpr lb
  have big : ((fun zs : Array Value => zs.extract 0 a ++ ys ++ zs.extract xs.size zs.size) xs).size ≤ sizeLine + 1 := by
    simp only [Array.size_append, Array.size_extract]; omega
  unfold setItem; (try with_reducible refine wpAny_holding ?_); first | refine wpAny_bind (wpAny_pure ?_) | skip
  refine wpAny_bind (wpAny_sequenceKey il.typeIs (by decide) (wpAny_bind (wpAny_callSpecial?_slot (name := Str.ofString "__setitem__") il.typeIs slot_list_setitem (wpAny_call_entry slot_list_setitem il.typeIs entry_list_setitem ?_ (args_list_setitem _ _ _)))))
  show wpAny _ _ (Builtin.List.listSubscript? (.ref sl) >>= _) _ _ _
  refine wpAny_bind (m := Builtin.List.listSubscript? (.ref sl)) ?_; unfold Builtin.List.listSubscript?
  refine wpAny_bind (wpAny_specialOf ts slice_no_index ?_)
  rw [if_pos (by rfl)]
  refine wpAny_pure ?_
  show wpAny _ _ (typeOf (.ref sl) >>= _) _ _ _
  refine wpAny_bind (wpAny_typeOf ts ?_)
  have two : ¬ ((Value.type "slice" != Value.type "slice") = true) := by decide
  rw [if_neg two, listSliceParts_eq]
  have none0 : ¬ ((rawPart none == rawInt 0) = true) := Bool.false_ne_true
  refine wpAny_bind (wpAny_bind (wpAny_field o1 o3 (x := .none) rfl (wpAny_bind (wpAny_listPart .none (by
    rw [if_neg none0]
    refine wpAny_bind (wpAny_field o1 o3 (x := vl) rfl (wpAny_bind (wpAny_listPart pl (wpAny_bind (wpAny_field o1 o3 (x := vu) rfl (wpAny_bind (wpAny_listPart pu (wpAny_pure ?_))))))))
    dsimp only
    have ne' : ¬ (Builtin.List.listSameRef (.ref l) (.ref b) = true) := by rw [ne]; exact Bool.false_ne_true
    rw [if_neg ne']
    refine wpAny_bind (m := Builtin.List.listAllItems (.ref b) "must assign iterable to extended slice") ?_; unfold Builtin.List.listAllItems
    refine wpAny_bind (wpAny_typeOf ib.typeIs (PySem.W.KFB.if_so (by decide) ?_))
    unfold Builtin.List.listItems
    have rw1 := (sliceIndices_raw (some (a : Int)) none none xs.size (by simp)).trans (congrArg (pure : Int × Int × Int → Sem (Int × Int × Int)) (tail_bounds ha))
    refine wpAny_bind (wpAny_seqItems e2 rfl (wpAny_pure (wpAny_bind (wpAny_bind (wpAny_seqItems e rfl (wpAny_pure (wpAny_bind (wpAny_of_eq rw1 ?_))))))))
    have one : ((1 : Int) == 1) = true := rfl
    refine PySem.W.KFB.if_so one (wpAny_bind (wpAny_rule (PySem.W.KFB.if_not (notLongL hz) ?_)))
    have m1 : (max (a : Int) (xs.size : Int)).toNat = xs.size := by omega
    have cut : (fun zs : Array Value => zs.extract 0 ((a : Int)).toNat ++ ys ++ zs.extract (max (a : Int) (xs.size : Int)).toNat zs.size) = fun zs => zs.extract 0 a ++ ys ++ zs.extract xs.size zs.size := by
      rw [m1, Int.toNat_natCast]
    show wpAny _ _ (updateSeq l (fun zs : Array Value => zs.extract 0 ((a : Int)).toNat ++ ys ++ zs.extract (max (a : Int) (xs.size : Int)).toNat zs.size) >>= _) _ _ s
    rw [cut]
    refine wpAny_bind (wpAny_updateSeq (hz := Nat.le_trans (Nat.le_add_right _ _) hz) (_hz' := big) e rfl (wpAny_bind (wpAny_letGo ?_)))
    exact wpAny_pure ⟨.none, rfl, wpAny_pure k⟩)))))
/-- at a row of the program -/
def gTail (to : TE) (tl th : TO) : TG := fun v σ H Q => to σ H fun o H1 => tl σ H1 fun lo H2 => th σ H2 fun hi H3 =>
  ∃ p b xs ys a, o = .ref p ∧ v = .ref b ∧ lo = some a ∧ hi = none ∧ 0 ≤ a ∧ a ≤ ((xs.length : Nat) : Int) ∧ p ≠ b ∧ H3 p = some (.lst xs) ∧ H3 b = some (.lst ys) ∧ xs.length + ys.length ≤ sizeLine ∧ Q σ (upd H3 p (.lst (xs.take a.toNat ++ ys)))
theorem pg_tail {X : Cx} {o : Expr} {lo hi : Option Expr} {pos p2 : Pos} {to : TE} {tl th : TO} (ho : PE X o to) (hl : PO X lo tl) (hu : PO X hi th)
    (ha : ∀ v, assign (.Subscript o (.Slice lo hi none p2) pos) X.env v = (do
      let ov ← holding [v] (eval o X.env); let iv ← holding [v, ov] (eval (.Slice lo hi none p2) X.env)
      standAt pos; holding [v, ov, iv] (setItem ov iv v)
      release [iv, v, ov] []) := by intro _; rfl) : PG X (.Subscript o (.Slice lo hi none p2) pos) (gTail to tl th) := by
  refine ⟨fun pins s σ H v u Q I r h => ?_⟩; rw [ha]
  refine wpAny_bind (wpAny_holding (thn (ho.run pins s σ H _ I h) fun ov s1 ⟨x, H1, I1, r1, q1⟩ => wpAny_bind (wpAny_holding ?_)))
  refine wpAny_Slice (thn (hl.run pins s1 σ H1 _ I1 q1) fun vl s2 ⟨l, H2, I2, pl, q2⟩ => thn (hu.run pins s2 σ H2 _ I2 q2) fun vu s3 ⟨m, H3, I3, pu, q3⟩ => ?_)
  rw [evalPart_none]
  refine wpAny_pure (wpAny_bind ?_); obtain ⟨p, b, xs, ys, a, rfl, rfl, rfl, rfl, a0, a1, pb, hp, hb, hz, q⟩ := q3
  cases r1
  cases r
  have I4 := I3.kept (h' := s3.heap.push { cls := .type "slice", data := .fields #[vl, vu, .none] }) (t' := s3.toks) fun _ _ g => Heap.get?_push_of_some _ g
  obtain ⟨k, rfl⟩ := Int.eq_ofNat_of_zero_le a0
  obtain ⟨z1, is1, n1, v1, g1, e1⟩ := I4.lstM hp
  obtain ⟨z2, is2, n2, v2, g2, e2⟩ := I4.lstM hb
  refine wpAny_standAt (wpAny_bind (wpAny_holding ?_))
  have ki : k ≤ is1.length := by omega
  refine tail_store (a := k) e1 e2 pb (Heap.IsSliceOf.new ..) pl pu (by rw [List.size_toArray]; exact ki) (by rw [List.size_toArray, List.size_toArray]; omega) ?_
  have I5 := I4.lset (f := fun zs => zs.extract 0 k ++ is2.toArray ++ zs.extract is1.toArray.size zs.size) (ys := xs.take k ++ ys) (its' := is1.take k ++ is2) (t' := s3.toks) hp e1 (tail_cut is1 is2 k) (Vals.append (v1.take _) v2) (by rw [List.length_append, List.length_take]; omega)
  exact wpAny_release ⟨σ, _, I5, q⟩
end
end My

set_option maxRecDepth 100000
set_option maxHeartbeats 400000
namespace K21
open PySem PySem.Spec PyProof.Rows L2 GxR Gd TL My
section
variable {P : Program} {w : World} {K : PySem.W.Frag} {mg : Str → Option Value} {base : Heap} {C : Addr}
theorem wh_eq (t i : Int) : wh t t (.int i) = decide (i = t) := by
  show (decide (t ≤ i) && decide (i ≤ t)) = decide (i = t)
  by_cases h : i = t
  · subst h
    simp
  · have : ¬ (t ≤ i ∧ i ≤ t) := by omega
    rw [decide_eq_false h]
    by_cases a : t ≤ i
    · rw [decide_eq_false (by omega : ¬ i ≤ t), Bool.and_false]
    · rw [decide_eq_false a, Bool.false_and]
/-- that a thing is the number of the lock -/
theorem this_step {H : Hp} {x : Sn} {v lv : V} {X : TS} {R : Ends} {σ : L2.St} (vk : Vk H v) (hl : LkAt H lv x.t x.o) (h3 : σ[3]? = some (some v)) (h4 : σ[4]? = some (some lv)) (k : X R (σ.set 5 (some (.bl (x.o.isSome && wh x.t x.t v)))) H) :
    tSeq (tAsg (tAndV (tCB (rIsi K) (tCons (tVar 3) (tCons (tC (.ty "int")) tNil))) (tAndV (tNotV (tCB (rIsi K) (tCons (tVar 3) (tCons (tC (.ty "bool")) tNil)))) (tAndV (tOp (fun x y H Q => y = V.non ∧ Q (V.bl !decide (x = V.non)) H) (tVar 4) (tC .non)) (tOp rEq (tVar 3) (tOp (rIxT K) (tVar 4) (tC (.int 0))))))) (gName 5)) X R σ H := by
  have no : wh x.t x.t v = false → X R (σ.set 5 (some (.bl false))) H := fun e => by
    rw [e, Bool.and_false] at k
    exact k
  cases vk with
  | int i =>
    refine ⟨_, h3, _, _, _, _, true, rfl, .ty "int", .base (.int _), (by rfl), _, rfl, iteT ?_⟩
    refine ⟨_, h3, _, _, _, _, false, rfl, .ty "bool", .base (.int _), (by rfl), _, rfl, _, rfl, ?_⟩
    refine iteS rfl ?_
    refine ⟨_, h4, rfl, _, rfl, ?_⟩
    cases q : x.o with
    | none =>
      rw [q] at hl k
      obtain rfl : lv = .non := hl
      exact iteN rfl k
    | some y =>
      rw [q] at hl k
      obtain ⟨u, rfl, hu⟩ := hl
      have i0 : atI [V.int x.t, .str y] 0 = some (.int x.t) := rfl
      refine iteS rfl ?_
      refine ⟨_, h3, _, h4, u, _, _, _, rfl, rfl, SqT.of hu, i0, rfl, ?_⟩
      have e : decide (V.int i = V.int x.t) = ((some y).isSome && wh x.t x.t (.int i)) := by
        rw [wh_eq]
        show decide (V.int i = V.int x.t) = decide (i = x.t)
        by_cases h : i = x.t
        · rw [decide_eq_true h, decide_eq_true (congrArg V.int h)]
        · rw [decide_eq_false h, decide_eq_false fun z => h (V.int.inj z)]
      rw [e]
      exact k
  | bl b =>
    refine ⟨_, h3, _, _, _, _, true, rfl, .ty "int", .base (.bl _), (by rfl), _, rfl, iteT ?_⟩
    refine ⟨_, h3, _, _, _, _, true, rfl, .ty "bool", .base (.bl _), (by rfl), _, rfl, _, rfl, ?_⟩
    exact no rfl
  | non => exact ⟨_, h3, _, _, _, _, false, rfl, .ty "int", .base .non, (by rfl), _, rfl, iteF (no rfl)⟩
  | str z h g => exact ⟨_, h3, _, _, _, _, false, rfl, .ty "int", .base (.str _), (by rfl), _, rfl, iteF (no rfl)⟩
  | lst l i h => exact ⟨_, h3, _, _, _, _, false, rfl, .ty "int", .base (.lst h), (by rfl), _, rfl, iteF (no rfl)⟩
abbrev s_law_done : Stmt := top 15
theorem sc_law_done : FnScope ["_law_row", "_law_deed_here", "_law_word", "_law_thing", "_law_lock", "_law_this", "_law_opened"] ["_law_row", "_law_deed_here"] (defScope s_law_done) := ⟨rfl, rfl, rfl, by decide +kernel, rfl, by decide +kernel, by decide +kernel⟩
def spDone : Sp := fun vs H Q _ => ∃ ρ d w v x B, vs = [.ref ρ, .ref d] ∧ RwAt H ρ x ∧ SnOk B x ∧ DdAt H d w v ∧
  ∀ r H', (∀ y o, y ≠ ρ → H y = some o → H' y = some o) → H r = none → OcAt H' (stp w v x).1 r → RwAt H' ρ (stp w v x).2 → Q (.ref r) H'
theorem ok_done {f : Addr} {fd : FuncData} (F : Fun K "_law_done" "_law_done" s_law_done f fd) (T : Txt mg) : FnOk P w K mg base CX0 1 f fd ["_law_row", "_law_deed_here"] spDone := by
  refine F.ok sc_law_done (fun vs H Q E h => ?_) (fun cdv A outer s H vs Q E hr h => ?_)
  · obtain ⟨ρ, d, w, v, x, B, rfl, _⟩ := h
    rfl
  · obtain ⟨ρ, d, w, v, x, B, rfl, ⟨lv, hρ, hl⟩, ok, ⟨hd, vk, nt⟩, k⟩ := h
    refine ⟨_, pss_cons (ps_asg (pv 1) (pg_tup (by rfl) (pgs_cons (pg_name (i := 2) sc_law_done.nd rfl (Or.inl rfl)) (pgs_cons (pg_name (i := 3) sc_law_done.nd rfl (Or.inl rfl)) pgs_nil))))
      (pss_cons (ps_set (i := 4) sc_law_done.nd rfl (Or.inl rfl) (pe_ix ix_list (pv 0) pe_int (fun _ _ => rfl)))
      (pss_cons (ps_if (pt_cmpR op_eq (pv 2) pe_str (nomark _)) (pss_cons (ps_if (pt_cmpR op_notN (pv 4) pe_non (nomark _)) (pss_one (ps_ret (pe_tup (pa_cons pe_str (pa_cons (pe_ix ix_tup (pv 4) pe_int (fun _ _ => rfl)) pa_nil))))) pss_nil)
          (pss_cons (ps_asg (pe_op op_add (pe_ix ix_list (pv 0) pe_int (fun _ _ => rfl)) pe_int) (pg_sub (pv 0) pe_int set_list))
          (pss_cons (ps_asg (pe_lst (pa_cons (pe_tup (pa_cons (pe_ix ix_list (pv 0) pe_int (fun _ _ => rfl)) (pa_cons (pv 3) pa_nil))) (pa_cons pe_bl pa_nil))) (pg_tail (pv 0) (po_some pe_int) po_none))
          (pss_one (ps_ret (pe_tup (pa_cons pe_str (pa_cons (pe_ix ix_list (pv 0) pe_int (fun _ _ => rfl)) pa_nil)))))))) pss_nil)
      (pss_cons (ps_set (i := 5) sc_law_done.nd rfl (Or.inl rfl) (pe_and (pe_callB call_isi (by rfl) T.isinstance_ (by decide +kernel) (pa_cons (pv 3) (pa_cons (pe_bltn (v := .ty "int") (by rfl) T.int_ (by decide +kernel) rfl) pa_nil))) (pe_and (pe_not (pe_callB call_isi (by rfl) T.isinstance_ (by decide +kernel) (pa_cons (pv 3) (pa_cons (pe_bltn (v := .ty "bool") (by rfl) T.bool_ (by decide +kernel) rfl) pa_nil)))) (pe_and (pe_cmpR op_notN (pv 4) pe_non (nomark _)) (pe_one (pe_cmpR op_eq (pv 3) (pe_ix ix_tup (pv 4) pe_int (fun _ _ => rfl)) (nomark _)))))))
      (pss_cons (ps_if (pt_cmpR op_eq (pv 2) pe_str (nomark _)) (pss_cons (ps_set (i := 6) sc_law_done.nd rfl (Or.inl rfl) (pe_and (pv 5) (pe_one (pe_not (pe_ix ix_list (pv 0) pe_int (fun _ _ => rfl))))))
          (pss_cons (ps_asg (pe_or (pe_ix ix_list (pv 0) pe_int (fun _ _ => rfl)) (pe_one (pv 5))) (pg_sub (pv 0) pe_int set_list))
          (pss_one (ps_ret (pe_tup (pa_cons pe_str (pa_cons (pv 6) pa_nil))))))) pss_nil)
      (pss_cons (ps_if (pt_cmpR op_isN (pv 4) pe_non (nomark _)) (pss_one (ps_ret (pe_tup (pa_cons pe_str (pa_cons pe_non pa_nil))))) pss_nil)
      (pss_cons (ps_if (PW.pt (pw_or (PW.pt (pw_and (pt_cmpR op_eq (pv 2) pe_str (nomark _)) (pw_and1 (pt_not (pt_val (pv 5)))))) (pw_or1 (PW.pt (pw_and (pt_cmpR op_eq (pv 2) pe_str (nomark _)) (pw_and1 (pt_not (pt_val (pe_ix ix_list (pv 0) pe_int (fun _ _ => rfl)))))))))) (pss_one (ps_ret (pe_tup (pa_cons pe_str (pa_cons (pe_ix ix_tup (pv 4) pe_int (fun _ _ => rfl)) pa_nil))))) pss_nil)
      (pss_cons (ps_asg (pe_lst (pa_cons pe_non (pa_cons pe_bl pa_nil))) (pg_tail (pv 0) (po_some pe_int) po_none))
      (pss_one (ps_ret (pe_tup (pa_cons pe_str (pa_cons pe_non pa_nil)))))))))))), ?_⟩
    have j0 : atI [V.int x.t, lv, .bl x.p] 0 = some (.int x.t) := rfl
    have j1 : atI [V.int x.t, lv, .bl x.p] 1 = some lv := rfl
    have j2 : atI [V.int x.t, lv, .bl x.p] 2 = some (.bl x.p) := rfl
    have s0 : ixN 3 0 = some 0 := rfl
    have s2 : ixN 3 2 = some 2 := rfl
    have two : 2 ≤ sizeLine := by decide
    -- what is told of a row that stays
    have tell : ∀ {u : Addr} {o : Oc}, H u = none → o = (stp w v x).1 → x = (stp w v x).2 → Q (.ref u) (upd H u (.tup [.str o.tag, o.val])) := by
      intro u o nu e1 e2
      have s2 : Same H (upd H u (.tup [.str o.tag, o.val])) := same_new nu
      exact k u _ (fun y o _ h => s2 _ _ h) nu (e1 ▸ upd_same) (e2 ▸ ⟨lv, s2 _ _ hρ, hl.up fun x ys h => s2 _ _ h⟩)
    refine ⟨_, rfl, d, _, rfl, SqT.of hd, rfl, _, _, rfl, _, _, rfl, rfl, ?_⟩
    refine ⟨_, rfl, ρ, _, _, _, rfl, rfl, SqL.of hρ, j1, ?_⟩
    refine ⟨_, rfl, rfl, _, rfl, ?_⟩
    have ho : lv = .non ↔ x.o = none := by
      cases q : x.o with
      | none =>
        rw [q] at hl
        exact ⟨fun _ => rfl, fun _ => hl⟩
      | some y =>
        rw [q] at hl
        obtain ⟨u, e, _⟩ := hl
        exact ⟨fun z => (by rw [e] at z; cases z), fun z => (by cases z)⟩
    -- a lock that is taken away
    have free : stp w v x = (.nul, ⟨x.t, none, false⟩) → ∀ l r, H l = none → upd (upd H l (.lst [.non, .bl false])) ρ (.lst ([V.int x.t, lv, .bl x.p].take (1 : Int).toNat ++ [.non, .bl false])) r = none →
        Q (.ref r) (upd (upd (upd H l (.lst [.non, .bl false])) ρ (.lst ([V.int x.t, lv, .bl x.p].take (1 : Int).toNat ++ [.non, .bl false]))) r (.tup [.str "told", .non])) := by
      intro es l r nl nr
      have nρr : ρ ≠ r := ne_of_none upd_same nr
      refine k r _ (fun y o ny h => ?_) ?_ (by rw [es]; exact upd_same) (by rw [es]; exact ⟨.non, by rw [upd_ne nρr, upd_same]; rfl, rfl⟩)
      · have h2 : upd (upd H l (.lst [.non, .bl false])) ρ (.lst ([V.int x.t, lv, .bl x.p].take (1 : Int).toNat ++ [.non, .bl false])) y = some o := by rw [upd_ne ny, upd_ne (ne_of_none h nl)]; exact h
        rw [upd_ne (ne_of_none h2 nr)]
        exact h2
      · rw [upd_ne nρr.symm] at nr
        exact (same_new (o := .lst [.non, .bl false]) nl).free nr
    cases w with
    | lock =>
      obtain ⟨z, rfl, hz⟩ := nt rfl
      refine iteS (by decide +kernel) ?_
      refine ⟨_, rfl, rfl, _, rfl, ite2 (fun c => ?_) (fun c => ?_)⟩
      · cases q : x.o with
        | none =>
          rw [ho.mpr q] at c
          cases c
        | some y =>
          rw [q] at hl
          obtain ⟨u, rfl, hu⟩ := id hl
          have es : stp .lock (.str z) x = (.shut y, x) := by unfold stp; rw [q]
          have i1 : atI [V.int x.t, .str y] 1 = some (.str y) := rfl
          refine ⟨_, rfl, u, _, _, _, rfl, rfl, SqT.of hu, i1, two, fun r nr => ?_⟩
          exact tell (o := .shut y) nr (by rw [es]) (by rw [es])
      · have hn : x.o = none := ho.mp (by simpa using c)
        have es : stp .lock (.str z) x = (.num (x.t + 1), ⟨x.t + 1, some z, false⟩) := by unfold stp; rw [hn]
        refine ⟨_, rfl, ρ, _, _, _, rfl, rfl, SqL.of hρ, j0, _, _, rfl, rfl, _, rfl, ρ, [V.int x.t, lv, .bl x.p], _, _, rfl, rfl, hρ, s0, ?_⟩
        have e1 : upd H ρ (.lst ([V.int x.t, lv, .bl x.p].set 0 (.int (x.t + 1)))) ρ = some (.lst [V.int (x.t + 1), lv, .bl x.p]) := upd_same
        have j0' : atI [V.int (x.t + 1), lv, .bl x.p] 0 = some (.int (x.t + 1)) := rfl
        refine ⟨_, rfl, ρ, _, _, _, rfl, rfl, SqL.of e1, j0', _, rfl, two, fun u nu => ?_⟩
        have nρu : ρ ≠ u := ne_of_none e1 nu
        refine ⟨two, fun l nl => ?_⟩
        have e2 := (upd_ne (o := .tup [.int (x.t + 1), .str z]) (H := upd H ρ (.lst ([V.int x.t, lv, .bl x.p].set 0 (.int (x.t + 1))))) nρu).trans e1
        have nρl : ρ ≠ l := ne_of_none e2 nl
        have e3 := (upd_ne (o := .lst [.ref u, .bl false]) (H := upd (upd H ρ (.lst ([V.int x.t, lv, .bl x.p].set 0 (.int (x.t + 1))))) u (.tup [.int (x.t + 1), .str z])) nρl).trans e2
        refine ⟨_, rfl, _, rfl, ρ, l, _, _, 1, rfl, rfl, rfl, rfl, by decide, (by show (1 : Int) ≤ ((3 : Nat) : Int); decide), nρl, e3, upd_same, (by show 3 + 2 ≤ sizeLine; decide), ?_⟩
        refine ⟨_, rfl, ρ, _, _, _, rfl, rfl, SqL.of upd_same, rfl, two, fun r nr => ?_⟩
        have nρr : ρ ≠ r := ne_of_none upd_same nr
        have nul : u ≠ l := ne_of_none upd_same nl
        have eu : upd (upd (upd (upd H ρ (.lst ([V.int x.t, lv, .bl x.p].set 0 (.int (x.t + 1))))) u (.tup [.int (x.t + 1), .str z])) l (.lst [.ref u, .bl false])) ρ (.lst ([V.int (x.t + 1), lv, .bl x.p].take (1 : Int).toNat ++ [.ref u, .bl false])) u = some (.tup [.int (x.t + 1), .str z]) := by
          rw [upd_ne nρu.symm, upd_ne nul, upd_same]
        have nur : u ≠ r := ne_of_none eu nr
        refine k r _ (fun y o ny h => ?_) ?_ (by rw [es]; exact upd_same) (by rw [es]; exact ⟨.ref u, by rw [upd_ne nρr, upd_same]; rfl, u, rfl, by rw [upd_ne nur]; exact eu⟩)
        · have h1 : upd H ρ (.lst ([V.int x.t, lv, .bl x.p].set 0 (.int (x.t + 1)))) y = some o := by rw [upd_ne ny]; exact h
          have h2 := (upd_ne (o := .tup [.int (x.t + 1), .str z]) (H := upd H ρ (.lst ([V.int x.t, lv, .bl x.p].set 0 (.int (x.t + 1))))) (ne_of_none h1 nu)).trans h1
          have h3 := (upd_ne (o := .lst [.ref u, .bl false]) (H := upd (upd H ρ (.lst ([V.int x.t, lv, .bl x.p].set 0 (.int (x.t + 1))))) u (.tup [.int (x.t + 1), .str z])) (ne_of_none h2 nl)).trans h2
          have h4 := (upd_ne (o := .lst ([V.int (x.t + 1), lv, .bl x.p].take (1 : Int).toNat ++ [.ref u, .bl false])) (H := upd (upd (upd H ρ (.lst ([V.int x.t, lv, .bl x.p].set 0 (.int (x.t + 1))))) u (.tup [.int (x.t + 1), .str z])) l (.lst [.ref u, .bl false])) ny).trans h3
          rw [upd_ne (ne_of_none h4 nr)]
          exact h4
        · rw [upd_ne nρr.symm] at nr
          have nlr : l ≠ r := ne_of_none upd_same nr
          rw [upd_ne nlr.symm, upd_ne nur.symm, upd_ne nρr.symm] at nr
          exact nr
    | opens =>
      refine iteN (by decide +kernel) ?_
      refine this_step vk hl rfl rfl ?_
      refine ⟨_, rfl, rfl, _, rfl, iteS (by decide +kernel) ?_⟩
      have e0 : stp .opens v x = (.bl ((x.o.isSome && wh x.t x.t v) && !x.p), ⟨x.t, x.o, x.p || (x.o.isSome && wh x.t x.t v)⟩) := rfl
      generalize (x.o.isSome && wh x.t x.t v) = b at e0 ⊢
      have did : ∀ (c p' : Bool), stp .opens v x = (.bl c, ⟨x.t, x.o, p'⟩) → ∀ r, upd H ρ (.lst [.int x.t, lv, .bl p']) r = none → Q (.ref r) (upd (upd H ρ (.lst [.int x.t, lv, .bl p'])) r (.tup [.str "told", .bl c])) := by
        intro c p' e r nr
        have nρr : ρ ≠ r := ne_of_none upd_same nr
        have kk : ∀ y o, y ≠ ρ → H y = some o → upd (upd H ρ (.lst [.int x.t, lv, .bl p'])) r (.tup [.str "told", .bl c]) y = some o := fun y o ny h => by
          have h2 : upd H ρ (.lst [.int x.t, lv, .bl p']) y = some o := by rw [upd_ne ny]; exact h
          rw [upd_ne (ne_of_none h2 nr)]
          exact h2
        exact k r _ kk (by rw [upd_ne nρr.symm] at nr; exact nr) (by rw [e]; exact upd_same) (by rw [e]; exact ⟨lv, by rw [upd_ne nρr, upd_same], hl.up fun x ys h => kk _ _ (ne_of h hρ (by simp)) h⟩)
      cases b with
      | false =>
        refine ⟨_, rfl, false, rfl, iteF ?_⟩
        cases hp : x.p with
        | false =>
          rw [hp] at e0 j2 hρ
          refine ⟨_, rfl, ρ, _, _, _, rfl, rfl, SqL.of hρ, j2, false, rfl, iteF ?_⟩
          refine ⟨_, rfl, _, rfl, ρ, [.int x.t, lv, .bl false], _, _, rfl, rfl, hρ, s2, ?_⟩
          exact ⟨_, rfl, two, fun r nr => did false false e0 r nr⟩
        | true =>
          rw [hp] at e0 j2 hρ
          refine ⟨_, rfl, ρ, _, _, _, rfl, rfl, SqL.of hρ, j2, true, rfl, iteT ?_⟩
          refine ⟨_, rfl, ρ, [.int x.t, lv, .bl true], _, _, rfl, rfl, hρ, s2, ?_⟩
          exact ⟨_, rfl, two, fun r nr => did false true e0 r nr⟩
      | true =>
        cases hp : x.p with
        | false =>
          rw [hp] at e0 j2 hρ
          refine ⟨_, rfl, true, rfl, iteT ⟨_, rfl, ρ, _, _, _, rfl, rfl, SqL.of hρ, j2, false, rfl, ?_⟩⟩
          refine ⟨_, rfl, ρ, _, _, _, rfl, rfl, SqL.of hρ, j2, false, rfl, iteF ?_⟩
          refine ⟨_, rfl, _, rfl, ρ, [.int x.t, lv, .bl false], _, _, rfl, rfl, hρ, s2, ?_⟩
          exact ⟨_, rfl, two, fun r nr => did true true e0 r nr⟩
        | true =>
          rw [hp] at e0 j2 hρ
          refine ⟨_, rfl, true, rfl, iteT ⟨_, rfl, ρ, _, _, _, rfl, rfl, SqL.of hρ, j2, true, rfl, ?_⟩⟩
          refine ⟨_, rfl, ρ, _, _, _, rfl, rfl, SqL.of hρ, j2, true, rfl, iteT ?_⟩
          refine ⟨_, rfl, ρ, [.int x.t, lv, .bl true], _, _, rfl, rfl, hρ, s2, ?_⟩
          exact ⟨_, rfl, two, fun r nr => did false true e0 r nr⟩
    | ended =>
      refine iteN (by decide +kernel) ?_
      refine this_step vk hl rfl rfl ?_
      refine ⟨_, rfl, rfl, _, rfl, iteN (by decide +kernel) ?_⟩
      refine ⟨_, rfl, rfl, _, rfl, ite2 (fun c => ?_) (fun c => ?_)⟩
      · have hn := ho.mp (of_decide_eq_true c)
        have es : stp .ended v x = (.nsh, x) := by unfold stp; rw [hn]
        exact ⟨two, fun r nr => tell (o := .nsh) nr (by rw [es]) (by rw [es])⟩
      · obtain ⟨y, hy⟩ : ∃ y, x.o = some y := by
          cases q : x.o with
          | none => exact absurd (decide_eq_true (ho.mpr q)) c
          | some y => exact ⟨y, rfl⟩
        have hl' := hl
        rw [hy] at hl'
        obtain ⟨u, rfl, hu⟩ := hl'
        have i0 : atI [V.int x.t, .str y] 0 = some (.int x.t) := rfl
        refine ⟨_, rfl, rfl, _, rfl, iteS (by decide +kernel) ?_⟩
        have e0 : (x.o.isSome && wh x.t x.t v) = wh x.t x.t v := by rw [hy]; rfl
        rw [e0]
        cases hw : wh x.t x.t v with
        | false =>
          have es : stp .ended v x = (.nor x.t, x) := by unfold stp; rw [hy]; show (if wh x.t x.t v = true then _ else _) = _; rw [if_neg (by rw [hw]; exact Bool.false_ne_true)]
          refine ⟨_, rfl, false, rfl, iteT (iteT ?_)⟩
          exact ⟨_, rfl, u, _, _, _, rfl, rfl, SqT.of hu, i0, two, fun r nr => tell (o := .nor x.t) nr (by rw [es]) (by rw [es])⟩
        | true =>
          have es : stp .ended v x = (.nul, ⟨x.t, none, false⟩) := by unfold stp; rw [hy]; show (if wh x.t x.t v = true then _ else _) = _; rw [if_pos hw]
          refine ⟨_, rfl, true, rfl, iteF ?_⟩
          refine ⟨_, rfl, rfl, _, rfl, iteN (by decide +kernel) (iteF ?_)⟩
          refine ⟨two, fun l nl => ?_⟩
          exact ⟨_, rfl, _, rfl, ρ, l, _, _, 1, rfl, rfl, rfl, rfl, by decide, (by show (1 : Int) ≤ ((3 : Nat) : Int); decide), ne_of_none hρ nl, (by rw [upd_ne (ne_of_none hρ nl)]; exact hρ), upd_same, (by show 3 + 2 ≤ sizeLine; decide), two, fun r nr => free es l r nl nr⟩
    | unlock =>
      refine iteN (by decide +kernel) ?_
      refine this_step vk hl rfl rfl ?_
      refine ⟨_, rfl, rfl, _, rfl, iteN (by decide +kernel) ?_⟩
      refine ⟨_, rfl, rfl, _, rfl, ite2 (fun c => ?_) (fun c => ?_)⟩
      · have hn := ho.mp (of_decide_eq_true c)
        have es : stp .unlock v x = (.nsh, x) := by unfold stp; rw [hn]
        exact ⟨two, fun r nr => tell (o := .nsh) nr (by rw [es]) (by rw [es])⟩
      · obtain ⟨y, hy⟩ : ∃ y, x.o = some y := by
          cases q : x.o with
          | none => exact absurd (decide_eq_true (ho.mpr q)) c
          | some y => exact ⟨y, rfl⟩
        have hl' := hl
        rw [hy] at hl'
        obtain ⟨u, rfl, hu⟩ := hl'
        have i0 : atI [V.int x.t, .str y] 0 = some (.int x.t) := rfl
        refine ⟨_, rfl, rfl, _, rfl, iteN (by decide +kernel) ?_⟩
        refine ⟨_, rfl, rfl, _, rfl, iteS (by decide +kernel) ?_⟩
        refine ⟨_, rfl, ρ, _, _, _, rfl, rfl, SqL.of hρ, j2, x.p, rfl, ?_⟩
        by_cases hw : x.p = true
        · have es : stp .unlock v x = (.nul, ⟨x.t, none, false⟩) := by unfold stp; rw [hy]; show (if x.p = true then _ else _) = _; rw [if_pos hw]
          refine iteN (by rw [hw]; rfl) ?_
          refine ⟨two, fun l nl => ?_⟩
          exact ⟨_, rfl, _, rfl, ρ, l, _, _, 1, rfl, rfl, rfl, rfl, by decide, (by show (1 : Int) ≤ ((3 : Nat) : Int); decide), ne_of_none hρ nl, (by rw [upd_ne (ne_of_none hρ nl)]; exact hρ), upd_same, (by show 3 + 2 ≤ sizeLine; decide), two, fun r nr => free es l r nl nr⟩
        · have es : stp .unlock v x = (.nor x.t, x) := by unfold stp; rw [hy]; show (if x.p = true then _ else _) = _; rw [if_neg hw]
          refine iteS (by rw [Bool.eq_false_iff.mpr hw]; rfl) ?_
          exact ⟨_, rfl, u, _, _, _, rfl, rfl, SqT.of hu, i0, two, fun r nr => tell (o := .nor x.t) nr (by rw [es]) (by rw [es])⟩
end
end K21

set_option maxRecDepth 100000
set_option maxHeartbeats 400000
namespace K21
open PySem PySem.Spec PyProof.Rows L2 GxR Gd TL My
section
variable {P : Program} {w : World} {K : PySem.W.Frag} {mg : Str → Option Value} {base : Heap} {C : Addr}
theorem bx3 {b ρ : Addr} {n : Int} {H : Hp} {x : Sn} (hb : Bx b n H) (h : RwAt H ρ x) : ρ ≠ b := by
  rintro rfl
  obtain ⟨x1, y, z, e, _⟩ := hb
  obtain ⟨lv, e2, h1⟩ := h
  rw [e] at e2
  injection e2 with e2
  injection e2 with e2
  injection e2 with e3 e4
  injection e4 with e4 e5
  injection e5 with e5 e6
  cases e5
theorem kb_rw {b ρ : Addr} {n : Int} {H H' : Hp} {x : Sn} (k : KB b H H') (hb : Bx b n H) (h : RwAt H ρ x) : RwAt H' ρ x := by
  have nb := bx3 hb h
  obtain ⟨x1, y, z, e, _⟩ := hb
  obtain ⟨lv, e2, h1⟩ := h
  exact ⟨lv, k _ _ nb e2, h1.up fun x ys h => k _ _ (ne_of h e (by simp)) h⟩
abbrev s_law_deed : Stmt := top 16
theorem sc_law_deed : FnScope ["_law_box_here", "_law_names_here", "_law_row", "_law_word", "_law_way", "_law_some"] ["_law_box_here", "_law_names_here", "_law_row"] (defScope s_law_deed) := ⟨rfl, rfl, rfl, by decide +kernel, rfl, by decide +kernel, by decide +kernel⟩
def spDeed : Sp := fun vs H Q _ => ∃ (b a ρ : Addr) (n : Int) (ns : List Str) (x : Sn) (B : Int), vs = [.ref b, .ref a, .ref ρ] ∧ Bx b n H ∧ n ≤ 90000 ∧ a ≠ b ∧ H a = some (.lst (ns.map V.str)) ∧ ns.length = 4 ∧ (∀ z ∈ ns, Nm z) ∧ RwAt H ρ x ∧ SnOk B x ∧ B ≤ 900 ∧
  ∀ d H' w v, KB b H H' → Bx b (n + 10) H' → H d = none → DdAt H' d w v → Q (.ref d) H'
theorem ok_deed {f fT : Addr} {fd fdT : FuncData} (F : Fun K "_law_deed" "_law_deed" s_law_deed f fd) (T : Txt mg)
    (Nlaw_take : Fn K mg "_law_take" sTake ["_law_box_here", "_law_many"] fT fdT) (Glaw_take : FnOk P w K mg base CX0 1 fT fdT ["_law_box_here", "_law_many"] spTake) :
    FnOk P w K mg base CX0 2 f fd ["_law_box_here", "_law_names_here", "_law_row"] spDeed := by
  refine F.ok sc_law_deed (fun vs H Q E h => ?_) (fun cdv A outer s H vs Q E hr h => ?_)
  · obtain ⟨b, a, ρ, n, ns, x, B, rfl, _⟩ := h
    rfl
  · obtain ⟨b, a, ρ, n, ns, x, B, rfl, hb, hn, nab, ha, l4, hnm, hρ, ok, hB, k⟩ := h
    refine ⟨_, pss_cons (ps_set (i := 3) sc_law_deed.nd rfl (Or.inl rfl) (pe_ix ix_list (pe_lst (pa_cons pe_str (pa_cons pe_str (pa_cons pe_str (pa_cons pe_str (pa_cons pe_str (pa_cons pe_str pa_nil))))))) (pe_call Glaw_take (hr.mono (by decide)) (by rfl) Nlaw_take.g Nlaw_take.kp Nlaw_take.b .nil pass0 (pa_cons (pv 0) (pa_cons pe_int pa_nil))) (fun _ _ => rfl)))
      (pss_cons (ps_set (i := 4) sc_law_deed.nd rfl (Or.inl rfl) (pe_call Glaw_take (hr.mono (by decide)) (by rfl) Nlaw_take.g Nlaw_take.kp Nlaw_take.b .nil pass0 (pa_cons (pv 0) (pa_cons pe_int pa_nil))))
      (pss_cons (ps_set (i := 5) sc_law_deed.nd rfl (Or.inl rfl) (pe_lst (pa_cons (pe_op op_add (pe_ix ix_list (pv 2) pe_int (fun _ _ => rfl)) pe_int) (pa_cons (pe_op op_sub (pe_ix ix_list (pv 2) pe_int (fun _ _ => rfl)) pe_int) (pa_cons pe_int (pa_cons pe_int (pa_cons (pe_call Glaw_take (hr.mono (by decide)) (by rfl) Nlaw_take.g Nlaw_take.kp Nlaw_take.b .nil pass0 (pa_cons (pv 0) (pa_cons pe_int pa_nil))) (pa_cons pe_bl (pa_cons (pe_callTy call_str_int (by rfl) T.str_ (by decide +kernel) (pa_cons (pe_ix ix_list (pv 2) pe_int (fun _ _ => rfl)) pa_nil)) (pa_cons pe_non (pa_cons (pe_lst (pa_cons (pe_ix ix_list (pv 2) pe_int (fun _ _ => rfl)) pa_nil)) (pa_cons (pe_un un_neg (pe_ix ix_list (pv 2) pe_int (fun _ _ => rfl))) (pa_cons (pe_op op_sub (pe_op op_pow pe_int pe_int) pe_int) pa_nil)))))))))))))
      (pss_cons (ps_if (pt_cmpR op_eq (pv 3) pe_str (nomark _)) (pss_one (ps_ret (pe_tup (pa_cons (pv 3) (pa_cons (pe_ix ix_list (pv 1) (pe_call Glaw_take (hr.mono (by decide)) (by rfl) Nlaw_take.g Nlaw_take.kp Nlaw_take.b .nil pass0 (pa_cons (pv 0) (pa_cons pe_int pa_nil))) (fun _ _ => rfl)) pa_nil))))) pss_nil)
      (pss_one (ps_ret (pe_tup (pa_cons (pv 3) (pa_cons (pe_ifExp (pt_cmpR op_eq (pe_call Glaw_take (hr.mono (by decide)) (by rfl) Nlaw_take.g Nlaw_take.kp Nlaw_take.b .nil pass0 (pa_cons (pv 0) (pa_cons pe_int pa_nil))) pe_int (nomark _)) (pe_ix ix_list (pe_op op_cat (pv 5) (pe_lst (pa_cons (pe_ix ix_list (pv 2) pe_int (fun _ _ => rfl)) pa_nil))) (pv 4) (fun _ _ => rfl)) (pe_ix ix_list (pv 2) pe_int (fun _ _ => rfl))) pa_nil)))))))), ?_⟩
    have t0 := ok.t0
    have t1 := ok.t1
    have six : (6 : Nat) ≤ sizeLine := by decide
    have two : (2 : Nat) ≤ sizeLine := by decide
    refine ⟨six, fun L1 n1 => ?_⟩
    have k1 : KB b H (upd H L1 (.lst [.str "lock", .str "lock", .str "opens", .str "opens", .str "ended", .str "unlock"])) := KB.alloc n1
    have b1 := hb.alloc (o := .lst [.str "lock", .str "lock", .str "opens", .str "opens", .str "ended", .str "unlock"]) n1
    have e1 : upd H L1 (.lst [.str "lock", .str "lock", .str "opens", .str "opens", .str "ended", .str "unlock"]) L1 = some (.lst [.str "lock", .str "lock", .str "opens", .str "opens", .str "ended", .str "unlock"]) := upd_same
    have nb1 := hb.fresh n1
    generalize upd H L1 (.lst [.str "lock", .str "lock", .str "opens", .str "opens", .str "ended", .str "unlock"]) = H1 at k1 b1 e1 ⊢
    refine ⟨_, rfl, b, 6, n, rfl, b1, by omega, by decide, by decide, fun d1 H2 p0 p1 off2 b2 => ?_⟩
    obtain ⟨vw, hvw, evw⟩ := atI_ex (xs := [V.str "lock", .str "lock", .str "opens", .str "opens", .str "ended", .str "unlock"]) p0 p1
    obtain ⟨w, rfl⟩ : ∃ w : Wk, vw = .str w.name := by
      simp only [List.mem_cons, List.not_mem_nil, or_false] at hvw
      rcases hvw with rfl | rfl | rfl | rfl | rfl | rfl
      · exact ⟨.lock, rfl⟩
      · exact ⟨.lock, rfl⟩
      · exact ⟨.opens, rfl⟩
      · exact ⟨.opens, rfl⟩
      · exact ⟨.ended, rfl⟩
      · exact ⟨.unlock, rfl⟩
    have k2 : KB b H H2 := k1.trans (KB.off off2)
    refine ⟨L1, _, _, _, rfl, rfl, SqL.of ((off2 L1 nb1).trans e1), evw, ?_⟩
    clear off2 e1 k1 b1 evw hvw
    refine ⟨_, rfl, b, 12, _, rfl, b2, by omega, by decide, by decide, fun way H3 q0 q1 off3 b3 => ?_⟩
    have k3 : KB b H H3 := k2.trans (KB.off off3)
    clear off3 k2 b2
    have nρb := bx3 hb hρ
    have hρ3 := kb_rw k3 hb hρ
    obtain ⟨lv, eρ, _⟩ := hρ3
    have j0 : atI [V.int x.t, lv, .bl x.p] 0 = some (.int x.t) := rfl
    refine ⟨_, rfl, ρ, _, _, _, rfl, rfl, SqL.of eρ, j0, _, _, rfl, rfl, ?_⟩
    refine ⟨_, rfl, ρ, _, _, _, rfl, rfl, SqL.of eρ, j0, _, _, rfl, rfl, ?_⟩
    refine ⟨_, rfl, b, 9, _, rfl, b3, by omega, by decide, by decide, fun d3 H4 g0 g1 off4 b4 => ?_⟩
    have eρ4 := (off4 ρ nρb).trans eρ
    have k4 := k3.trans (KB.off off4)
    clear off4 k3 b3 eρ
    refine ⟨_, rfl, ρ, _, _, _, rfl, rfl, SqL.of eρ4, j0, ?_⟩
    refine ⟨x.t, rfl, Nat.lt_of_le_of_lt (Nat.log2_le_self _) (by omega), ?_⟩
    refine ⟨_, rfl, ρ, _, _, _, rfl, rfl, SqL.of eρ4, j0, (by show 1 ≤ sizeLine; decide), fun l nl => ?_⟩
    have k5 := k4.trans (KB.alloc (o := .lst [.int x.t]) nl)
    have el : upd H4 l (.lst [.int x.t]) l = some (.lst [.int x.t]) := upd_same
    have b5 := b4.alloc (o := .lst [.int x.t]) nl
    have nlb := b4.fresh nl
    have eρ5 : upd H4 l (.lst [.int x.t]) ρ = some (.lst [.int x.t, lv, .bl x.p]) := by rw [upd_ne (ne_of_none eρ4 nl)]; exact eρ4
    generalize upd H4 l (.lst [.int x.t]) = H5 at k5 el b5 eρ5 ⊢
    refine ⟨_, rfl, ρ, _, _, _, rfl, rfl, SqL.of eρ5, j0, _, rfl, ?_⟩
    refine ⟨_, _, rfl, rfl, ⟨by decide, by decide, by decide⟩, _, _, rfl, rfl, (by show 11 ≤ sizeLine; decide), fun L2 n2 => ?_⟩
    clear k4 b4 eρ4
    show tSeq _ _ _ _ (upd H5 L2 (.lst [V.int (x.t + 1), V.int (x.t - 1), V.int 0, V.int 1, V.int d3, V.bl true, V.str (toString x.t), V.non, V.ref l, V.int (-x.t), V.int (10 ^ (30 : Int).toNat - 1)]))
    have e6 : upd H5 L2 (.lst [V.int (x.t + 1), V.int (x.t - 1), V.int 0, V.int 1, V.int d3, V.bl true, V.str (toString x.t), V.non, V.ref l, V.int (-x.t), V.int (10 ^ (30 : Int).toNat - 1)]) L2 = some (.lst [V.int (x.t + 1), V.int (x.t - 1), V.int 0, V.int 1, V.int d3, V.bl true, V.str (toString x.t), V.non, V.ref l, V.int (-x.t), V.int (10 ^ (30 : Int).toNat - 1)]) := upd_same
    have hv : ∀ v ∈ ([V.int (x.t + 1), V.int (x.t - 1), V.int 0, V.int 1, V.int d3, V.bl true, V.str (toString x.t), V.non, V.ref l, V.int (-x.t), V.int (10 ^ (30 : Int).toNat - 1)] ++ [V.int x.t]), (∃ i, v = .int i) ∨ v = .bl true ∨ v = .str (toString x.t) ∨ v = .non ∨ v = .ref l := by
      intro v hv
      simp only [List.mem_append, List.mem_cons, List.not_mem_nil, or_false] at hv
      rcases hv with (rfl | rfl | rfl | rfl | rfl | rfl | rfl | rfl | rfl | rfl | rfl) | rfl
      all_goals first | exact .inl ⟨_, rfl⟩ | exact .inr (.inl rfl) | exact .inr (.inr (.inl rfl)) | exact .inr (.inr (.inr (.inl rfl))) | exact .inr (.inr (.inr (.inr rfl)))
    have lx : ([V.int (x.t + 1), V.int (x.t - 1), V.int 0, V.int 1, V.int d3, V.bl true, V.str (toString x.t), V.non, V.ref l, V.int (-x.t), V.int (10 ^ (30 : Int).toNat - 1)] ++ [V.int x.t]).length = 12 := rfl
    generalize [V.int (x.t + 1), V.int (x.t - 1), V.int 0, V.int 1, V.int d3, V.bl true, V.str (toString x.t), V.non, V.ref l, V.int (-x.t), V.int (10 ^ (30 : Int).toNat - 1)] = xs at e6 hv lx ⊢
    have k6 := k5.trans (KB.alloc (o := .lst xs) n2)
    have el6 : upd H5 L2 (.lst xs) l = some (.lst [.int x.t]) := by rw [upd_ne (ne_of_none el n2)]; exact el
    have b6 := b5.alloc (o := .lst xs) n2
    have nLb := b5.fresh n2
    have eρ6 : upd H5 L2 (.lst xs) ρ = some (.lst [.int x.t, lv, .bl x.p]) := by rw [upd_ne (ne_of_none eρ5 n2)]; exact eρ5
    generalize upd H5 L2 (.lst xs) = H6 at k6 el6 b6 eρ6 e6 ⊢
    clear k5 el b5 eρ5
    have new : ∀ {p : Addr} {H9 : Hp} {m : Int}, KB b H H9 → Bx b m H9 → H9 p = none → H p = none := fun {p H9 m} kb bx np => by
      cases q : H p with
      | none => rfl
      | some o =>
        have := kb p o (bx.fresh np) q
        rw [np] at this
        cases this
    -- what is left: the tuple
    have fin : ∀ (H12 : Hp) (v : V), KB b H H12 → Bx b (n + 10) H12 → (w = .lock → ∃ z, v = .str z ∧ Nm z) → Vk H12 v → ∀ t, H12 t = none → Q (.ref t) (upd H12 t (.tup [.str w.name, v])) := by
      intro H12 v k12 b12 hnote hv t nt
      exact k t _ w v (k12.trans (KB.alloc nt)) (b12.alloc nt) (new k12 b12 nt) ⟨upd_same, hv.up fun y i h => by rw [upd_ne (ne_of_none h nt)]; exact h, hnote⟩
    refine ⟨_, rfl, rfl, _, rfl, ?_⟩
    by_cases c : w = .lock
    · subst c
      refine iteS (by decide +kernel) ?_
      refine ⟨_, rfl, _, rfl, _, rfl, b, 4, _, rfl, b6, by omega, by decide, by decide, fun d5 H7 m0 m1 off7 b7 => ?_⟩
      have k7 := k6.trans (KB.off off7)
      obtain ⟨vz, hvz, evz⟩ := atI_ex (xs := ns.map V.str) m0 (by rw [List.length_map, l4]; exact m1)
      obtain ⟨z, hz, rfl⟩ := List.mem_map.mp hvz
      have nz := hnm z hz
      exact ⟨a, _, _, _, rfl, rfl, SqL.of (k7 _ _ nab ha), evz, two, fun t nt => fin H7 (.str z) k7 (b7.mono (by omega)) (fun _ => ⟨z, rfl, nz⟩) (.str z (by have := nz.2; omega) nz.1) t nt⟩
    · refine iteN ?_ ?_
      · cases w with
        | lock => exact absurd rfl c
        | opens => decide +kernel
        | ended => decide +kernel
        | unlock => decide +kernel
      · refine ⟨_, rfl, _, rfl, b, 2, _, rfl, b6, by omega, by decide, by decide, fun d5 H7 m0 m1 off7 b7 => ?_⟩
        have k7 := k6.trans (KB.off off7)
        have eρ7 := (off7 ρ nρb).trans eρ6
        refine ⟨rfl, _, rfl, ite2 (fun c2 => ?_) (fun c2 => ?_)⟩
        · refine ⟨_, rfl, _, rfl, ρ, _, _, _, rfl, rfl, SqL.of eρ7, j0, (by show 1 ≤ sizeLine; decide), fun l2 nl2 => ?_⟩
          have e7 := (off7 L2 nLb).trans e6
          have nlb' : l ≠ b := nlb
          have el7 := (off7 l nlb').trans el6
          have e8 : upd H7 l2 (.lst [V.int x.t]) L2 = some (.lst xs) := by rw [upd_ne (ne_of_none e7 nl2)]; exact e7
          have el8 : upd H7 l2 (.lst [V.int x.t]) l = some (.lst [V.int x.t]) := by rw [upd_ne (ne_of_none el7 nl2)]; exact el7
          refine ⟨L2, l2, xs, _, rfl, rfl, e8, upd_same, ?_, fun p np => ?_⟩
          · rw [List.length_append] at lx
            rw [lx]
            decide
          have el9 : upd (upd H7 l2 (.lst [V.int x.t])) p (.lst (xs ++ [V.int x.t])) l = some (.lst [V.int x.t]) := by rw [upd_ne (ne_of_none el8 np)]; exact el8
          obtain ⟨vo, hvo, evo⟩ := atI_ex (xs := xs ++ [V.int x.t]) q0 (by rw [lx]; exact q1)
          have k8 := k7.trans (KB.alloc (o := .lst [V.int x.t]) nl2)
          have b8 := b7.alloc (o := .lst [V.int x.t]) nl2
          have k9 := k8.trans (KB.alloc (o := .lst (xs ++ [V.int x.t])) np)
          have b9 := (b8.alloc (o := .lst (xs ++ [V.int x.t])) np).mono (by omega : _ ≤ n + 10)
          refine ⟨_, rfl, p, _, _, _, rfl, rfl, SqL.of upd_same, evo, two, fun t nt => fin _ vo k9 b9 (fun z => absurd z c) ?_ t nt⟩
          rcases hv vo hvo with ⟨i, rfl⟩ | rfl | rfl | rfl | rfl
          · exact .int _
          · exact .bl _
          · exact .str _ (Nat.le_trans (text_int (by omega)) (by decide)) (good_of _)
          · exact .non
          · exact .lst l _ el9
        · exact ⟨_, rfl, ρ, _, _, _, rfl, rfl, SqL.of eρ7, j0, two, fun t nt => fin H7 (.int x.t) k7 (b7.mono (by omega)) (fun z => absurd z c) (.int _) t nt⟩
end
end K21

set_option maxRecDepth 100000
set_option maxHeartbeats 400000
namespace K21
open PySem PySem.Spec PyProof.Rows L2 GxR Gd TL My
theorem paired_mono {α β : Type} {F G : α → β → Prop} (h : ∀ a b, F a b → G a b) : ∀ {xs : List α} {ys : List β}, Paired F xs ys → Paired G xs ys
  | _, _, .nil => .nil
  | _, _, .cons a r => .cons (h _ _ a) (paired_mono h r)
structure Pr where
  c : Addr
  ρ : Addr
  x : Sn
def rowD (x : Sn) : PyData := .list [.int x.t, lkD x.t x.o, .bool x.p]
theorem RwAt.dp {K : PySem.W.Frag} {H : Hp} {t : Addr} {x : Sn} (h : RwAt H t x) : Dp K H (.ref t) (rowD x) := by
  obtain ⟨lv, e, h1⟩ := h
  exact .lst (SqL.of e) (.cons (.int _) (.cons h1.dp (.cons (.bl _) .nil)))
theorem row_sb {B : Int} {x : Sn} (h : SnOk B x) (b : B ≤ 1000) : Sb (rowD x) 2 1000 := by
  have t0 := h.t0
  have t1 := h.t1
  refine (sb_list (k := 1) (m := 300) (ds := [.int x.t, lkD x.t x.o, .bool x.p]) fun d hd => ?_).mono (by decide) (by simp)
  simp only [List.mem_cons, List.not_mem_nil, or_false] at hd
  rcases hd with rfl | rfl | rfl
  · exact (sb_int (by omega)).mono (by decide) (by decide)
  · exact sb_lk h b
  · exact (sb_bool _).mono (by decide) (by decide)
theorem RwAt.up {H H' : Hp} {t : Addr} {x : Sn} (h : RwAt H t x) (ht : ∀ o, H t = some o → H' t = some o) (k : ∀ x ys, H x = some (.tup ys) → H' x = some (.tup ys)) : RwAt H' t x := by
  obtain ⟨lv, e, a⟩ := h
  exact ⟨lv, ht _ e, a.up k⟩
theorem rows_dp {K : PySem.W.Frag} {H : Hp} : ∀ {ts : List Addr} {ps : List Pr}, Paired (fun t (p : Pr) => RwAt H t p.x) ts ps → DpAll K H (ts.map V.ref) (ps.map fun p => rowD p.x)
  | _, _, .nil => .nil
  | _, _, .cons a r => .cons a.dp (rows_dp r)
theorem rows_of {H : Hp} : ∀ {ps : List Pr}, (∀ p ∈ ps, RwAt H p.ρ p.x) → Paired (fun t (p : Pr) => RwAt H t p.x) (ps.map (·.ρ)) ps
  | [], _ => .nil
  | p :: r, h => .cons (h p List.mem_cons_self) (rows_of fun q hq => h q (List.mem_cons_of_mem _ hq))
def rowsD (ps : List Pr) : PyData := .list (ps.map fun p => rowD p.x)
structure Ok (C : Addr) (B : Int) (H : Hp) (p : Pr) : Prop where
  c_ : HoAt C H p.c p.x
  r_ : RwAt H p.ρ p.x
  k_ : SnOk B p.x
section
variable {P : Program} {w : World} {K : PySem.W.Frag} {mg : Str → Option Value} {base : Heap} {C : Addr}
abbrev s_law_same : Stmt := top 17
theorem sc_law_same : FnScope ["_law_keepers", "_law_rows", "_law_told", "_law_keeper"] ["_law_keepers", "_law_rows"] (defScope s_law_same) := ⟨rfl, rfl, rfl, by decide +kernel, rfl, by decide +kernel, by decide +kernel⟩
def spSame (C : Addr) : Sp := fun vs H Q _ => ∃ (kl rl : Addr) (ps : List Pr) (B : Int), vs = [.ref kl, .ref rl] ∧ H kl = some (.lst (ps.map fun p => .ref p.c)) ∧ H rl = some (.lst (ps.map fun p => .ref p.ρ)) ∧ (∀ p ∈ ps, Ok C B H p) ∧ B ≤ 900 ∧ ps.length ≤ 6 ∧ ∀ H', Same H H' → Q (.bl true) H'
theorem ok_same {f f1 f2 f3 : Addr} {fd fd1 fd2 fd3 : FuncData} (F : Fun K "_law_same" "_law_same" s_law_same f fd) (T : Txt mg) (TC : KeeT K C)
    (Mtimes : Me K C "times" "Keeper.times" s_times ["self"] f1 fd1) (Gtimes : FnOk P w K mg base CX0 1 f1 fd1 ["self"] (spTimes C))
    (Mlocked : Me K C "locked" "Keeper.locked" s_locked ["self"] f2 fd2) (Glocked : FnOk P w K mg base CX0 1 f2 fd2 ["self"] (spLocked C))
    (Mis_open : Me K C "is_open" "Keeper.is_open" s_is_open ["self"] f3 fd3) (Gis_open : FnOk P w K mg base CX0 1 f3 fd3 ["self"] (spIsOpen C)) :
    GOk P w K mg base CX0 2 f fd ["_law_keepers", "_law_rows"] (spSame C) := by
  refine gok F sc_law_same (fun vs H Q E h => ?_) (fun cdv A outer s H vs Q E gd hr h => ?_)
  · obtain ⟨kl, rl, ps, B, rfl, _⟩ := h
    rfl
  · obtain ⟨kl, rl, ps, B, rfl, hk, hR, ok, hB, l6, k⟩ := h
    refine ⟨_, pss_cons (ps_setLc (i := 2) (own := [("_law_keeper", 3)]) (g := gName 3) (tt := tYes) rfl sc_law_same.nd rfl rfl (sw_true rfl rfl rfl (by decide +kernel)) (pi_list (pv 0)) (blkOk_by (own := [("_law_keeper", 3)]) (N := ["_law_keepers", "_law_rows", "_law_told", "_law_keeper"]) (sc := defScope s_law_same) (by decide +kernel)) (fun _ _ _ _ _ => (pg_name (i := 3) sc_law_same.nd rfl (Or.inl rfl))) (fun _ _ _ _ _ => pts_nil) (fun _ _ _ _ _ => (pe_lst (pa_cons (pe_meth0 (pv 3) TC.cl Mtimes.m Gtimes (hr.mono (by decide)) Mtimes.b .nil pass0) (pa_cons (pe_meth0 (pv 3) TC.cl Mlocked.m Glocked (hr.mono (by decide)) Mlocked.b .nil pass0) (pa_cons (pe_meth0 (pv 3) TC.cl Mis_open.m Gis_open (hr.mono (by decide)) Mis_open.b .nil pass0) pa_nil))))))
      (pss_one (ps_ret (pe_cmpR op_eq (pe_callB (call_repr gd hr) (by rfl) T.repr_ (by decide +kernel) (pa_cons (pv 2) pa_nil)) (pe_callB (call_repr gd hr) (by rfl) T.repr_ (by decide +kernel) (pa_cons (pv 1) pa_nil)) (nomark _)))), ?_⟩
    refine ⟨_, rfl, kl, rfl, ⟨_, SqL.of hk⟩, fun D hD => lc_it (walk_list (K := K) (xs := ps.map fun p => V.ref p.c)) (fun i H' => ∃ ts : List Addr, H' D = some (.lst (ts.map V.ref)) ∧ ts.length = i ∧ Paired (fun t (p : Pr) => t ≠ D ∧ RwAt H' t p.x) ts (ps.take i) ∧ ∀ x o, x ≠ D → H x = some o → H' x = some o)
      ⟨[], upd_same, rfl, .nil, fun x o nx e => by rw [upd_ne nx]; exact e⟩ ?_ ?_ ?_⟩
    · rintro i H' _ ⟨_, _, _, _, q⟩
      exact SqL.of (q _ _ (ne_of_none hk hD) hk)
    · rintro i y H2 H3 hi ⟨ts, b1, b2, b3, b4⟩ ⟨rfl, hy⟩
      obtain ⟨p, hp, rfl⟩ : ∃ p, ps[i]? = some p ∧ y = .ref p.c := by
        rw [List.getElem?_map] at hy
        cases q : ps[i]? with
        | none => rw [q] at hy; cases hy
        | some e => rw [q] at hy; exact ⟨e, rfl, (Option.some.inj hy).symm⟩
      have mp := List.mem_of_getElem? hp
      obtain ⟨⟨dx, ec⟩, _, _⟩ := ok p mp
      have ec3 := b4 _ _ (ne_of_none ec hD) ec
      have hi' : i < 6 := by
        have := (List.getElem?_eq_some_iff.mp hp).1
        omega
      refine ⟨rfl, lcY ?_⟩
      -- the row, however the lock is told
      have three : 3 ≤ sizeLine := by decide
      have row : ∀ (H4 : Hp) (lv : V) (t : Addr), Same H3 H4 → LkAt H4 lv p.x.t p.x.o → H4 t = none → ∃ acc, upd H4 t (.lst [.int p.x.t, lv, .bl p.x.p]) D = some (.lst acc) ∧ acc.length < sizeLine ∧ ∃ ts : List Addr, upd (upd H4 t (.lst [.int p.x.t, lv, .bl p.x.p])) D (.lst (acc ++ [.ref t])) D = some (.lst (ts.map V.ref)) ∧ ts.length = i + 1 ∧
          Paired (fun t' (p' : Pr) => t' ≠ D ∧ RwAt (upd (upd H4 t (.lst [.int p.x.t, lv, .bl p.x.p])) D (.lst (acc ++ [.ref t]))) t' p'.x) ts (ps.take (i + 1)) ∧ ∀ x o, x ≠ D → H x = some o → upd (upd H4 t (.lst [.int p.x.t, lv, .bl p.x.p])) D (.lst (acc ++ [.ref t])) x = some o := by
        intro H4 lv t s4 hl ht
        have b1' := s4 _ _ b1
        have nDt : D ≠ t := ne_of_none b1' ht
        have tp : ∀ x ys, H4 x = some (.tup ys) → upd (upd H4 t (.lst [.int p.x.t, lv, .bl p.x.p])) D (.lst (ts.map V.ref ++ [.ref t])) x = some (.tup ys) := fun x ys h => by
          rw [upd_ne (ne_of h b1' (by simp)), upd_ne (ne_of_none h ht)]
          exact h
        refine ⟨_, by rw [upd_ne nDt]; exact b1', ?_, ts ++ [t], ?_, ?_, ?_, ?_⟩
        · rw [List.length_map, b2]
          exact lt_line i (by omega)
        · rw [upd_same, List.map_append]
          rfl
        · rw [List.length_append, b2]
          rfl
        · have et : ps.take (i + 1) = ps.take i ++ [p] := by
            rw [List.take_succ, hp]
            rfl
          rw [et]
          refine Paired.snoc (paired_mono (fun u f hu => ⟨hu.1, hu.2.up (fun o ho => by rw [upd_ne hu.1, upd_ne (ne_of_none (s4 _ _ ho) ht)]; exact s4 _ _ ho) fun x ys h => tp x ys (s4 _ _ h)⟩) b3) ⟨nDt.symm, lv, by rw [upd_ne nDt.symm, upd_same], hl.up tp⟩
        · intro x o nx h
          have h3 := s4 _ _ (b4 x o nx h)
          rw [upd_ne nx, upd_ne (ne_of_none h3 ht)]
          exact h3
      have no : ∀ {m : Str}, (m == "_times") = false → (m == "_to") = false → (m == "_opened") = false → (kf p.x.t (toV p.x.o) p.x.p).lookup m = none := fun a b c => kf_no _ _ _ a b c
      refine ⟨_, rfl, p.c, dx, _, rfl, ec3, no (by decide +kernel) (by decide +kernel) (by decide +kernel), p.c, dx, p.x.t, toV p.x.o, p.x.p, rfl, ec3, _, rfl, p.c, dx, _, rfl, ec3, no (by decide +kernel) (by decide +kernel) (by decide +kernel), p.c, dx, p.x.t, toV p.x.o, p.x.p, rfl, ec3, fun hn => ?_, fun hn u nu => ?_⟩
      · exact ⟨_, rfl, p.c, dx, _, rfl, ec3, no (by decide +kernel) (by decide +kernel) (by decide +kernel), p.c, dx, p.x.t, toV p.x.o, p.x.p, rfl, ec3, three, fun t ht => row H3 .non t (Same.refl H3) (by rw [toV_non hn]; rfl) ht⟩
      · have s4 : Same H3 (upd H3 u (.tup [.int p.x.t, toV p.x.o])) := same_new nu
        obtain ⟨z, hz⟩ := toV_some hn
        exact ⟨_, rfl, p.c, dx, _, rfl, s4 _ _ ec3, no (by decide +kernel) (by decide +kernel) (by decide +kernel), p.c, dx, p.x.t, toV p.x.o, p.x.p, rfl, s4 _ _ ec3, three, fun t ht => row _ (.ref u) t s4 (by rw [hz]; exact ⟨u, rfl, upd_same⟩) ht⟩
    · rintro H2 ⟨ts, b1, b2, b3, b4⟩
      rw [List.length_map, List.take_of_length_le (Nat.le_refl _)] at b3
      have s2 : Same H H2 := fun x o e => b4 x o (ne_of_none e hD) e
      have sb : Sb (rowsD ps) 3 10000 := (sb_list (k := 2) (m := 1000) (ds := ps.map fun (p : Pr) => rowD p.x) (fun d hd => by
        obtain ⟨p, hp, rfl⟩ := List.mem_map.mp hd
        exact row_sb (ok p hp).k_ (by omega))).mono (k' := 3) (m' := 10000) (Nat.le_refl _) (by rw [List.length_map]; omega)
      obtain ⟨m1, m2, m3⟩ := sb.rep (by decide) (by decide)
      have p2 := rows_dp (K := K) (rows_of (H := H2) (ps := ps) fun p hp => (ok p hp).r_.up (fun o h => s2 _ _ h) (fun x ys h => s2 _ _ h))
      rw [List.map_map] at p2
      have d2 : Dp K H2 (.ref rl) (rowsD ps) := .lst (SqL.of (s2 _ _ hR)) p2
      have p3 : Paired (fun t (p : Pr) => RwAt H2 t p.x) ts ps := paired_mono (fun u f h => h.2) b3
      have d1 : Dp K H2 (.ref D) (rowsD ps) := .lst (SqL.of b1) (rows_dp p3)
      clear p2 p3 b3
      generalize rowsD ps = dd at m1 m2 m3 d1 d2
      refine ⟨_, rfl, _, dd, rfl, d1, m1, m2, m3, ?_⟩
      refine ⟨_, rfl, _, dd, rfl, d2, m1, m2, m3, rfl, ?_⟩
      show Q (.bl (decide (_ = _))) _
      rw [decide_eq_true rfl]
      exact k _ s2
end
end K21

set_option maxRecDepth 100000
set_option maxHeartbeats 400000
namespace K21
open PySem PySem.Spec PyProof.Rows L2 GxR Gd TL My
structure Wo (C : Addr) (B : Int) (H0 H : Hp) (kl rl na : Addr) (ns : List Str) (ps : List Pr) : Prop where
  k_ : H kl = some (.lst (ps.map fun p => .ref p.c))
  r_ : H rl = some (.lst (ps.map fun p => .ref p.ρ))
  n_ : H na = some (.lst (ns.map V.str))
  n4 : ns.length = 4
  nm : ∀ z ∈ ns, Nm z
  ok : ∀ (j : Nat) (p : Pr), ps[j]? = some p → Ok C B H p
  nd : ∀ (j k : Nat) (p q : Pr), ps[j]? = some p → ps[k]? = some q → j ≠ k → p.c ≠ q.c ∧ p.ρ ≠ q.ρ
  l2 : 2 ≤ ps.length
  l6 : ps.length ≤ 6
  ne : kl ≠ rl
  same : Same H0 H
  z : H0 kl = none ∧ H0 rl = none ∧ H0 na = none ∧ ∀ (j : Nat) (p : Pr), ps[j]? = some p → H0 p.c = none ∧ H0 p.ρ = none
/-- what a row isn't -/
theorem rw_ne {H : Hp} {ρ y : Addr} {x : Sn} {xs : List V} (h : RwAt H ρ x) (hy : H y = some (.lst xs)) (hx : ∀ s, xs[2]? ≠ some (.bl s)) : y ≠ ρ := by
  rintro rfl
  obtain ⟨lv, e, _⟩ := h
  rw [hy] at e
  injection e with e
  injection e with e
  rw [e] at hx
  exact hx _ rfl
section
variable {C : Addr} {B : Int} {H0 H H' : Hp} {kl rl na b : Addr} {ns : List Str} {ps : List Pr} {n : Int}
theorem refs2 {f : Pr → Addr} (s : Bool) : (ps.map fun p => V.ref (f p))[2]? ≠ some (.bl s) := by
  rw [List.getElem?_map]
  cases ps[2]? <;> simp
theorem strs2 (s : Bool) : (ns.map V.str)[2]? ≠ some (.bl s) := by
  rw [List.getElem?_map]
  cases ns[2]? <;> simp
theorem Wo.go (h : Wo C B H0 H kl rl na ns ps) (s : Same H H') : Wo C B H0 H' kl rl na ns ps :=
  ⟨s _ _ h.k_, s _ _ h.r_, s _ _ h.n_, h.n4, h.nm, fun j p hp => let ⟨⟨dx, a⟩, b, c⟩ := h.ok j p hp; ⟨⟨dx, s _ _ a⟩, b.up (fun o h => s _ _ h) (fun x ys h => s _ _ h), c⟩, h.nd, h.l2, h.l6, h.ne, h.same.trans s, h.z⟩
theorem Wo.bne (h : Wo C B H0 H kl rl na ns ps) (hb : Bx b n H) : kl ≠ b ∧ rl ≠ b ∧ na ≠ b ∧ ∀ (j : Nat) (p : Pr), ps[j]? = some p → p.c ≠ b ∧ p.ρ ≠ b := by
  obtain ⟨x, y, z, e, r⟩ := id hb
  have two : ∀ {a : Addr} {xs : List V}, H a = some (.lst xs) → (∀ s, xs[0]? ≠ some (.int s)) → a ≠ b := fun ha hx z => by
    rw [z, e] at ha
    injection ha with ha
    injection ha with ha
    rw [← ha] at hx
    exact hx _ rfl
  refine ⟨two h.k_ fun s => ?_, two h.r_ fun s => ?_, two h.n_ fun s => ?_, fun j p hp => ⟨?_, bx3 hb (h.ok j p hp).r_⟩⟩
  · rw [List.getElem?_map]
    cases ps[0]? <;> simp
  · rw [List.getElem?_map]
    cases ps[0]? <;> simp
  · rw [List.getElem?_map]
    cases ns[0]? <;> simp
  · obtain ⟨dx, a⟩ := (h.ok j p hp).c_
    exact ne_of a e (by simp)
theorem Wo.off (h : Wo C B H0 H kl rl na ns ps) (hb : Bx b n H) (zb : H0 b = none) (k : KB b H H') : Wo C B H0 H' kl rl na ns ps := by
  obtain ⟨b1, b2, b3, b4⟩ := h.bne hb
  obtain ⟨x1, y, z', q, r⟩ := hb
  have kt : ∀ x ys, H x = some (.tup ys) → H' x = some (.tup ys) := fun x ys e => k _ _ (ne_of e q (by simp)) e
  exact ⟨k _ _ b1 h.k_, k _ _ b2 h.r_, k _ _ b3 h.n_, h.n4, h.nm, fun j p hp => let ⟨⟨dx, a⟩, b, c⟩ := h.ok j p hp; ⟨⟨dx, k _ _ (b4 j p hp).1 a⟩, b.up (fun o h => k _ _ (b4 j p hp).2 h) kt, c⟩, h.nd, h.l2, h.l6, h.ne, fun y o e => k y o (ne_of_none e zb) (h.same y o e), h.z⟩
theorem map_set {β : Type} {f : Pr → β} {i : Nat} {p p' : Pr} (hp : ps[i]? = some p) (e : f p' = f p) : (ps.set i p').map f = ps.map f := by
  rw [List.map_set, e]
  refine List.ext_getElem? fun j => ?_
  by_cases hj : i = j
  · subst hj
    have hi := (List.getElem?_eq_some_iff.mp hp).1
    rw [List.getElem?_set_self (by rw [List.length_map]; exact hi), List.getElem?_map, hp]
    rfl
  · rw [List.getElem?_set_ne hj]
theorem get_set {i j : Nat} {p p' q : Pr} (hp : ps[i]? = some p) (h : (ps.set i p')[j]? = some q) : (j = i ∧ q = p') ∨ (j ≠ i ∧ ps[j]? = some q) := by
  have hi := (List.getElem?_eq_some_iff.mp hp).1
  by_cases e : i = j
  · subst e
    rw [List.getElem?_set_self hi] at h
    exact .inl ⟨rfl, (Option.some.inj h).symm⟩
  · rw [List.getElem?_set_ne e] at h
    exact .inr ⟨fun z => e z.symm, h⟩
/-- a deed of one of them -/
theorem SnOk.mono {B B' : Int} {x : Sn} (h : SnOk B x) (b : B ≤ B') : SnOk B' x := ⟨h.nm, h.t0, Int.le_trans h.t1 b, h.sh⟩
theorem Wo.step {B' : Int} (hB : B ≤ B') {i : Nat} {p : Pr} {x' : Sn} (h : Wo C B H0 H kl rl na ns ps) (hb : Bx b n H) (zb : H0 b = none) (hp : ps[i]? = some p) (k : ∀ y o, y ≠ b → y ≠ p.c → y ≠ p.ρ → H y = some o → H' y = some o) (o : Ok C B' H' ⟨p.c, p.ρ, x'⟩) :
    Wo C B' H0 H' kl rl na ns (ps.set i ⟨p.c, p.ρ, x'⟩) := by
  obtain ⟨b1, b2, b3, b4⟩ := h.bne hb
  obtain ⟨x1, y, z', q, r⟩ := hb
  obtain ⟨⟨dx, ec⟩, hρ, _⟩ := h.ok i p hp
  have kt : ∀ x ys, H x = some (.tup ys) → H' x = some (.tup ys) := fun x ys e => k _ _ (ne_of e q (by simp)) (ne_of e ec (by simp)) (by obtain ⟨_, er, _⟩ := hρ; exact ne_of e er (by simp)) e
  have kl' : ∀ {a : Addr} {xs : List V}, a ≠ b → H a = some (.lst xs) → (∀ s, xs[2]? ≠ some (.bl s)) → H' a = some (.lst xs) := fun nb ha hx => k _ _ nb (ne_of ha ec (by simp)) (rw_ne hρ ha hx) ha
  have zp := h.z.2.2.2 i p hp
  refine ⟨?_, ?_, kl' b3 h.n_ strs2, h.n4, h.nm, ?_, ?_, by rw [List.length_set]; exact h.l2, by rw [List.length_set]; exact h.l6, h.ne, fun y o e => k y o (ne_of_none e zb) (ne_of_none e zp.1) (ne_of_none e zp.2) (h.same y o e), h.z.1, h.z.2.1, h.z.2.2.1, ?_⟩
  · rw [map_set (f := fun p => V.ref p.c) (p' := ⟨p.c, p.ρ, x'⟩) hp rfl]
    exact kl' b1 h.k_ refs2
  · rw [map_set (f := fun p => V.ref p.ρ) (p' := ⟨p.c, p.ρ, x'⟩) hp rfl]
    exact kl' b2 h.r_ refs2
  · intro j w hj
    rcases get_set hp hj with ⟨_, rfl⟩ | ⟨nj, hj⟩
    · exact o
    · have nn := h.nd j i w p hj hp nj
      obtain ⟨⟨dx2, a⟩, bb, c⟩ := h.ok j w hj
      have e1 : w.c ≠ p.ρ := by obtain ⟨_, er, _⟩ := hρ; exact ne_of a er (by simp)
      have e2 : w.ρ ≠ p.c := by obtain ⟨_, er, _⟩ := bb; exact ne_of er ec (by simp)
      exact ⟨⟨dx2, k _ _ (b4 j w hj).1 nn.1 e1 a⟩, bb.up (fun o h => k _ _ (b4 j w hj).2 e2 nn.2 h) kt, c.mono hB⟩
  · intro j k' w v hj hk njk
    rcases get_set hp hj with ⟨ej, rfl⟩ | ⟨nj, hj⟩ <;> rcases get_set hp hk with ⟨ek, rfl⟩ | ⟨nk, hk⟩
    · exact absurd (ej.trans ek.symm) njk
    · exact h.nd i k' p v hp hk (fun z => nk z.symm)
    · exact h.nd j i w p hj hp nj
    · exact h.nd j k' w v hj hk njk
  · intro j w hj
    rcases get_set hp hj with ⟨_, rfl⟩ | ⟨_, hj⟩
    · exact zp
    · exact h.z.2.2.2 j w hj
/-- one more of them -/
theorem Wo.push {q : Pr} (h : Wo C B H0 H kl rl na ns ps) (l5 : ps.length < 6) (k : ∀ y o, y ≠ kl → y ≠ rl → H y = some o → H' y = some o) (e1 : H' kl = some (.lst ((ps ++ [q]).map fun p => .ref p.c))) (e2 : H' rl = some (.lst ((ps ++ [q]).map fun p => .ref p.ρ)))
    (o : Ok C B H' q) (n1 : H q.c = none) (n2 : H q.ρ = none) : Wo C B H0 H' kl rl na ns (ps ++ [q]) := by
  have kt : ∀ x ys, H x = some (.tup ys) → H' x = some (.tup ys) := fun x ys e => k _ _ (ne_of e h.k_ (by simp)) (ne_of e h.r_ (by simp)) e
  have gt : ∀ {j : Nat} {w : Pr}, (ps ++ [q])[j]? = some w → (j = ps.length ∧ w = q) ∨ (j < ps.length ∧ ps[j]? = some w) := fun {j w} hj => by
    rcases Nat.lt_trichotomy j ps.length with c | c | c
    · rw [List.getElem?_append_left c] at hj
      exact .inr ⟨c, hj⟩
    · subst c
      rw [List.getElem?_append_right (Nat.le_refl _), Nat.sub_self] at hj
      exact .inl ⟨rfl, (Option.some.inj hj).symm⟩
    · rw [List.getElem?_append_right (by omega)] at hj
      rw [List.getElem?_eq_none (by simp; omega)] at hj
      cases hj
  have old : ∀ {j : Nat} {w : Pr}, ps[j]? = some w → H w.c ≠ none ∧ H w.ρ ≠ none := fun {j w} hj => by
    obtain ⟨⟨dx2, a⟩, ⟨_, er, _⟩, _⟩ := h.ok j w hj
    exact ⟨by rw [a]; simp, by rw [er]; simp⟩
  refine ⟨e1, e2, k _ _ ?_ ?_ h.n_, h.n4, h.nm, ?_, ?_, by rw [List.length_append]; have := h.l2; simp; omega, by rw [List.length_append]; simp; omega, h.ne, fun y o e => k y o (ne_of_none e h.z.1) (ne_of_none e h.z.2.1) (h.same y o e), h.z.1, h.z.2.1, h.z.2.2.1, ?_⟩
  · intro z
    have a := h.n_
    rw [z, h.k_] at a
    injection a with a
    injection a with a
    have := h.l2
    cases hps : ps with
    | nil => rw [hps] at this; simp at this
    | cons p r =>
      cases hns : ns with
      | nil => rw [hps, hns] at a; simp at a
      | cons y t => rw [hps, hns] at a; simp at a
  · intro z
    have a := h.n_
    rw [z, h.r_] at a
    injection a with a
    injection a with a
    have := h.l2
    cases hps : ps with
    | nil => rw [hps] at this; simp at this
    | cons p r =>
      cases hns : ns with
      | nil => rw [hps, hns] at a; simp at a
      | cons y t => rw [hps, hns] at a; simp at a
  · intro j w hj
    rcases gt hj with ⟨_, rfl⟩ | ⟨_, hj⟩
    · exact o
    · obtain ⟨⟨dx2, a⟩, bb, c⟩ := h.ok j w hj
      exact ⟨⟨dx2, k _ _ (ne_of a h.k_ (by simp)) (ne_of a h.r_ (by simp)) a⟩, bb.up (fun o ho => k _ _ (rw_ne bb h.k_ refs2).symm (rw_ne bb h.r_ refs2).symm ho) kt, c⟩
  · intro j k' w v hj hk njk
    have nn : ∀ {u : Addr}, H u ≠ none → u ≠ q.c ∧ u ≠ q.ρ := fun hu => ⟨fun z => hu (z ▸ n1), fun z => hu (z ▸ n2)⟩
    rcases gt hj with ⟨ej, wq⟩ | ⟨lj, hj'⟩ <;> rcases gt hk with ⟨ek, vq⟩ | ⟨lk, hk'⟩
    · exact absurd (ej.trans ek.symm) njk
    · rw [wq]
      exact ⟨(nn (old hk').1).1.symm, (nn (old hk').2).2.symm⟩
    · rw [vq]
      exact ⟨(nn (old hj').1).1, (nn (old hj').2).2⟩
    · exact h.nd j k' w v hj' hk' njk
  · intro j w hj
    rcases gt hj with ⟨_, rfl⟩ | ⟨_, hj⟩
    · exact ⟨h.same.free n1, h.same.free n2⟩
    · exact h.z.2.2.2 j w hj
theorem Wo.mono {B' : Int} (h : Wo C B H0 H kl rl na ns ps) (b : B ≤ B') : Wo C B' H0 H kl rl na ns ps := ⟨h.k_, h.r_, h.n_, h.n4, h.nm, fun j p hp => ⟨(h.ok j p hp).c_, (h.ok j p hp).r_, (h.ok j p hp).k_.mono b⟩, h.nd, h.l2, h.l6, h.ne, h.same, h.z⟩
theorem Wo.mem (h : Wo C B H0 H kl rl na ns ps) : ∀ p ∈ ps, Ok C B H p := fun p hp => by
  obtain ⟨j, hj, rfl⟩ := List.getElem_of_mem hp
  exact h.ok j _ (List.getElem?_eq_getElem hj)
end
end K21

set_option maxRecDepth 100000
set_option maxHeartbeats 800000
namespace K21
open PySem PySem.Spec PyProof.Rows L2 GxR Gd TL My
theorem HoAt.up {C c : Addr} {H H' : Hp} {x : Sn} (h : HoAt C H c x) (hc : ∀ o, H c = some o → H' c = some o) : HoAt C H' c x := by
  obtain ⟨dx, e⟩ := h
  exact ⟨dx, hc _ e⟩
section
variable {P : Program} {w : World} {K : PySem.W.Frag} {mg : Str → Option Value} {base : Heap} {C : Addr}
abbrev s_law : Stmt := top 18
theorem sc_law : FnScope ["_law_script", "_law_box_here", "_law_names_here", "_law_keepers", "_law_rows", "_law_k", "_law_at", "_law_turn", "_law_deed_here", "_law_found"] ["_law_script"] (defScope s_law) := ⟨rfl, rfl, rfl, by decide +kernel, rfl, by decide +kernel, by decide +kernel⟩
def spLaw (K : PySem.W.Frag) : Sp := fun vs H Q _ => ∃ (a : Addr) (ns : List Int), vs = [.ref a] ∧ SqL K H a (ns.map V.int) ∧ SmAt H ∧ ns.length ≤ 63 ∧ ∀ H', Q (.bl true) H'
theorem ok_law {f fI f1 f2 f3 f4 f5 f6 f7 f8 f9 : Addr} {fd fdI fd1 fd2 fd3 fd4 fd5 fd6 fd7 fd8 fd9 : FuncData} (F : Fun K "law" "law" s_law f fd) (T : Txt mg) (TC : KeeT K C) (gKeeper : mg "Keeper" = some (.ref C)) (MKeeper : Mk K C fI)
    (GKeeper : FnOk P w K mg base CX0 1 fI fdI ["self"] (spInit C)) (bKeeper : Binds K fdI ["self"] [])
    (Glaw_cell : FnOk P w K mg base CX0 1 f1 fd1 ["_law_script", "_law_k"] (spCell K)) (Nlaw_cell : Fn K mg "_law_cell" sCell ["_law_script", "_law_k"] f1 fd1)
    (Glaw_box : FnOk P w K mg base CX0 1 f2 fd2 ["_law_cell_here"] spBox) (Nlaw_box : Fn K mg "_law_box" sBox ["_law_cell_here"] f2 fd2)
    (Glaw_take : FnOk P w K mg base CX0 1 f3 fd3 ["_law_box_here", "_law_many"] spTake) (Nlaw_take : Fn K mg "_law_take" sTake ["_law_box_here", "_law_many"] f3 fd3)
    (Glaw_names : FnOk P w K mg base CX0 2 f4 fd4 ["_law_box_here", "_law_many"] spNames) (Nlaw_names : Fn K mg "_law_names" s_law_names ["_law_box_here", "_law_many"] f4 fd4)
    (Glaw_deed : FnOk P w K mg base CX0 2 f5 fd5 ["_law_box_here", "_law_names_here", "_law_row"] spDeed) (Nlaw_deed : Fn K mg "_law_deed" s_law_deed ["_law_box_here", "_law_names_here", "_law_row"] f5 fd5)
    (Glaw_said : FnOk P w K mg base CX0 5 f6 fd6 ["_law_keeper", "_law_deed_here"] (spSaid C)) (Nlaw_said : Fn K mg "_law_said" s_law_said ["_law_keeper", "_law_deed_here"] f6 fd6)
    (Glaw_done : FnOk P w K mg base CX0 1 f7 fd7 ["_law_row", "_law_deed_here"] spDone) (Nlaw_done : Fn K mg "_law_done" s_law_done ["_law_row", "_law_deed_here"] f7 fd7)
    (Glaw_same : GOk P w K mg base CX0 2 f8 fd8 ["_law_keepers", "_law_rows"] (spSame C)) (Nlaw_same : Fn K mg "_law_same" s_law_same ["_law_keepers", "_law_rows"] f8 fd8)
    (Mtwin : Me K C "twin" "Keeper.twin" s_twin ["self"] f9 fd9) (Gtwin : FnOk P w K mg base CX0 3 f9 fd9 ["self"] (spTwin C)) :
    GOk P w K mg base CX0 7 f fd ["_law_script"] (spLaw K) := by
  refine gok F sc_law (fun vs H Q E h => ?_) (fun cdv A outer s H vs Q E gd hr h => ?_)
  · obtain ⟨a, ns, rfl, _⟩ := h
    rfl
  · obtain ⟨a, ns, rfl, hS, sm, hl, k⟩ := h
    refine ⟨_, pss_cons (ps_set (i := 1) sc_law.nd rfl (Or.inl rfl) (pe_call Glaw_box (hr.mono (by decide)) (by rfl) Nlaw_box.g Nlaw_box.kp Nlaw_box.b .nil pass0 (pa_cons (pe_call Glaw_cell (hr.mono (by decide)) (by rfl) Nlaw_cell.g Nlaw_cell.kp Nlaw_cell.b .nil pass0 (pa_cons (pv 0) (pa_cons pe_int pa_nil))) pa_nil)))
      (pss_cons (ps_set (i := 2) sc_law.nd rfl (Or.inl rfl) (pe_call Glaw_names (hr.mono (by decide)) (by rfl) Nlaw_names.g Nlaw_names.kp Nlaw_names.b .nil pass0 (pa_cons (pv 1) (pa_cons pe_int pa_nil))))
      (pss_cons (ps_set (i := 3) sc_law.nd rfl (Or.inl rfl) (pe_lst (pa_cons (pe_make0 MKeeper GKeeper (hr.mono (by decide)) (by rfl) gKeeper bKeeper .nil pass0) (pa_cons (pe_make0 MKeeper GKeeper (hr.mono (by decide)) (by rfl) gKeeper bKeeper .nil pass0) pa_nil))))
      (pss_cons (ps_set (i := 4) sc_law.nd rfl (Or.inl rfl) (pe_lst (pa_cons (pe_lst (pa_cons pe_int (pa_cons pe_non (pa_cons pe_bl pa_nil)))) (pa_cons (pe_lst (pa_cons pe_int (pa_cons pe_non (pa_cons pe_bl pa_nil)))) pa_nil))))
      (pss_cons (ps_for PassesOwn.never rfl (pi_range2 (by rfl) T.range_ (pa_cons pe_int (pa_cons (pe_callB (call_max2 rfl) (by rfl) T.max_ (by decide +kernel) (pa_cons pe_int (pa_cons (pe_callB (call_min2 rfl) (by rfl) T.min_ (by decide +kernel) (pa_cons (pe_callB call_len_seq (by rfl) T.len_ PySem.boot_len (pa_cons (pv 0) pa_nil)) (pa_cons pe_int pa_nil))) pa_nil))) pa_nil))) (pg_name (i := 5) sc_law.nd rfl (Or.inl rfl)) (pss_cons (ps_set (i := 1) sc_law.nd rfl (Or.inl rfl) (pe_call Glaw_box (hr.mono (by decide)) (by rfl) Nlaw_box.g Nlaw_box.kp Nlaw_box.b .nil pass0 (pa_cons (pe_call Glaw_cell (hr.mono (by decide)) (by rfl) Nlaw_cell.g Nlaw_cell.kp Nlaw_cell.b .nil pass0 (pa_cons (pv 0) (pa_cons (pv 5) pa_nil))) pa_nil)))
          (pss_cons (ps_set (i := 6) sc_law.nd rfl (Or.inl rfl) (pe_call Glaw_take (hr.mono (by decide)) (by rfl) Nlaw_take.g Nlaw_take.kp Nlaw_take.b .nil pass0 (pa_cons (pv 1) (pa_cons (pe_callB call_len_seq (by rfl) T.len_ PySem.boot_len (pa_cons (pv 3) pa_nil)) pa_nil))))
          (pss_cons (ps_for PassesOwn.never rfl (pi_range1 (by rfl) T.range_ (pa_cons (pe_op op_add pe_int (pe_call Glaw_take (hr.mono (by decide)) (by rfl) Nlaw_take.g Nlaw_take.kp Nlaw_take.b .nil pass0 (pa_cons (pv 1) (pa_cons pe_int pa_nil)))) pa_nil)) (pg_name (i := 7) sc_law.nd rfl (Or.inl rfl)) (pss_cons (ps_set (i := 8) sc_law.nd rfl (Or.inl rfl) (pe_call Glaw_deed (hr.mono (by decide)) (by rfl) Nlaw_deed.g Nlaw_deed.kp Nlaw_deed.b .nil pass0 (pa_cons (pv 1) (pa_cons (pv 2) (pa_cons (pe_ix ix_list (pv 4) (pv 6) (fun _ _ => rfl)) pa_nil)))))
              (pss_cons (ps_set (i := 9) sc_law.nd rfl (Or.inl rfl) (pe_call Glaw_said (hr.mono (by decide)) (by rfl) Nlaw_said.g Nlaw_said.kp Nlaw_said.b .nil pass0 (pa_cons (pe_ix ix_list (pv 3) (pv 6) (fun _ _ => rfl)) (pa_cons (pv 8) pa_nil))))
              (pss_one (ps_if (PW.pt (pw_or (pt_cmpR op_ne (pe_callB (call_repr gd hr) (by rfl) T.repr_ (by decide +kernel) (pa_cons (pv 9) pa_nil)) (pe_callB (call_repr gd hr) (by rfl) T.repr_ (by decide +kernel) (pa_cons (pe_call Glaw_done (hr.mono (by decide)) (by rfl) Nlaw_done.g Nlaw_done.kp Nlaw_done.b .nil pass0 (pa_cons (pe_ix ix_list (pv 4) (pv 6) (fun _ _ => rfl)) (pa_cons (pv 8) pa_nil))) pa_nil)) (nomark _)) (pw_or1 (pt_not (pt_val (pe_gcall gd Glaw_same (hr.mono (by decide)) (by rfl) Nlaw_same.g Nlaw_same.kp Nlaw_same.b .nil pass0 (pa_cons (pv 3) (pa_cons (pv 4) pa_nil)))))))) (pss_one (ps_ret pe_bl)) pss_nil)))))
          (pss_cons (ps_if (PW.pt (pw_and (pt_cmpR op_eq (pe_call Glaw_take (hr.mono (by decide)) (by rfl) Nlaw_take.g Nlaw_take.kp Nlaw_take.b .nil pass0 (pa_cons (pv 1) (pa_cons pe_int pa_nil))) pe_int (nomark _)) (pw_and1 (pt_cmpR op_lt (pe_callB call_len_seq (by rfl) T.len_ PySem.boot_len (pa_cons (pv 3) pa_nil)) pe_int (nomark _))))) (pss_cons (ps_expr (pe_bm PySem.F.plainAttrs_list PySem.F.slot_list_append PySem.F.type_list_append mt_append (pv 3) (pa_cons (pe_meth0 (pe_ix ix_list (pv 3) (pv 6) (fun _ _ => rfl)) TC.cl Mtwin.m Gtwin (hr.mono (by decide)) Mtwin.b .nil pass0) pa_nil)))
              (pss_one (ps_expr (pe_bm PySem.F.plainAttrs_list PySem.F.slot_list_append PySem.F.type_list_append mt_append (pv 4) (pa_cons (pe_callTy call_list_of (by rfl) T.list_ (by decide +kernel) (pa_cons (pe_ix ix_list (pv 4) (pv 6) (fun _ _ => rfl)) pa_nil)) pa_nil))))) pss_nil)
          (pss_one (ps_if (pt_not (pt_val (pe_gcall gd Glaw_same (hr.mono (by decide)) (by rfl) Nlaw_same.g Nlaw_same.kp Nlaw_same.b .nil pass0 (pa_cons (pv 3) (pa_cons (pv 4) pa_nil))))) (pss_one (ps_ret pe_bl)) pss_nil)))))))
      (pss_one (ps_ret pe_bl)))))), ?_⟩
    refine ⟨_, rfl, a, ns, 0, rfl, hS, fun cell => ?_⟩
    refine ⟨cell, rfl, fun b1 H1 nb1 off1 hb1 => ?_⟩
    have s1 : Same H H1 := fun y o e => (off1 y (ne_of_none e nb1)).trans e
    refine ⟨_, rfl, b1, 4, 0, rfl, hb1, by omega, by omega, fun nms na H2 k2 hb2 zna ena l4 hnm => ?_⟩
    have s2 : Same H H2 := fun y o e => k2 y o (ne_of_none e nb1) (s1 y o e)
    have zna' : H na = none := s1.free zna
    intro c0 dy0 nc0 nd0 _
    refine ⟨c0, dy0, rfl, upd_same, fun H3 off3 e3 => ⟨rfl, ?_⟩⟩
    have s3 : Same H2 H3 := fun y o e => by
      have n1 := ne_of_none e nc0
      rw [off3 y n1, upd_ne n1, upd_ne (ne_of_none e nd0)]
      exact e
    intro c1 dy1 nc1 nd1 _
    refine ⟨c1, dy1, rfl, upd_same, fun H4 off4 e4 => ⟨rfl, (by show 2 ≤ sizeLine; decide), fun kl nkl => ?_⟩⟩
    have s4 : Same H3 H4 := fun y o e => by
      have n1 := ne_of_none e nc1
      rw [off4 y n1, upd_ne n1, upd_ne (ne_of_none e nd1)]
      exact e
    have s5 : Same H4 (upd H4 kl (.lst [.ref c0, .ref c1])) := same_new nkl
    have e5 : upd H4 kl (.lst [.ref c0, .ref c1]) kl = some (.lst [.ref c0, .ref c1]) := upd_same
    generalize upd H4 kl (.lst [.ref c0, .ref c1]) = H5 at s5 e5 ⊢
    refine ⟨(by show 3 ≤ sizeLine; decide), fun r0 nr0 => ?_⟩
    have s6 : Same H5 (upd H5 r0 (.lst [.int 0, .non, .bl false])) := same_new nr0
    have e6 : upd H5 r0 (.lst [.int 0, .non, .bl false]) r0 = some (.lst [.int 0, .non, .bl false]) := upd_same
    generalize upd H5 r0 (.lst [.int 0, .non, .bl false]) = H6 at s6 e6 ⊢
    refine ⟨(by show 3 ≤ sizeLine; decide), fun r1 nr1 => ?_⟩
    have s7 : Same H6 (upd H6 r1 (.lst [.int 0, .non, .bl false])) := same_new nr1
    have e7 : upd H6 r1 (.lst [.int 0, .non, .bl false]) r1 = some (.lst [.int 0, .non, .bl false]) := upd_same
    generalize upd H6 r1 (.lst [.int 0, .non, .bl false]) = H7 at s7 e7 ⊢
    refine ⟨(by show 2 ≤ sizeLine; decide), fun rl nrl => ?_⟩
    have s8 : Same H7 (upd H7 rl (.lst [.ref r0, .ref r1])) := same_new nrl
    have e8 : upd H7 rl (.lst [.ref r0, .ref r1]) rl = some (.lst [.ref r0, .ref r1]) := upd_same
    generalize upd H7 rl (.lst [.ref r0, .ref r1]) = H8 at s8 e8 ⊢
    have s78 := s7.trans s8
    have s68 := s6.trans s78
    have s58 := s5.trans s68
    have s48 := s4.trans s58
    have s23 := s2.trans s3
    have s24 := s23.trans s4
    have s25 := s24.trans s5
    have s26 := s25.trans s6
    have s27 := s26.trans s7
    have wo : Wo C 0 H H8 kl rl na nms [⟨c0, r0, ⟨0, none, false⟩⟩, ⟨c1, r1, ⟨0, none, false⟩⟩] := by
      refine ⟨s68 _ _ e5, e8, s48 _ _ (s3 _ _ ena), l4, hnm, ?_, ?_, by simp, by simp, ne_of_none (s7 _ _ (s6 _ _ e5)) nrl, s23.trans s48, s24.free nkl, s27.free nrl, zna', ?_⟩
      · intro j p hp
        match j, hp with
        | 0, hp =>
          obtain rfl := (Option.some.inj hp).symm
          exact ⟨⟨dy0, s48 _ _ e3⟩, ⟨.non, s78 _ _ e6, rfl⟩, ⟨fun z h => (by cases h), by show (0 : Int) ≤ 0; decide, by show (0 : Int) ≤ 0; decide, fun _ => rfl⟩⟩
        | 1, hp =>
          obtain rfl := (Option.some.inj hp).symm
          exact ⟨⟨dy1, s58 _ _ e4⟩, ⟨.non, s8 _ _ e7, rfl⟩, ⟨fun z h => (by cases h), by show (0 : Int) ≤ 0; decide, by show (0 : Int) ≤ 0; decide, fun _ => rfl⟩⟩
        | j + 2, hp => simp at hp
      · have d1 : c0 ≠ c1 := ne_of_none e3 nc1
        have d2 : r0 ≠ r1 := ne_of_none e6 nr1
        intro j k' p q hp hq njk
        match j, k', hp, hq, njk with
        | 0, 0, _, _, n => exact absurd rfl n
        | 1, 1, _, _, n => exact absurd rfl n
        | 0, 1, hp, hq, _ =>
          obtain rfl := (Option.some.inj hp).symm
          obtain rfl := (Option.some.inj hq).symm
          exact ⟨d1, d2⟩
        | 1, 0, hp, hq, _ =>
          obtain rfl := (Option.some.inj hp).symm
          obtain rfl := (Option.some.inj hq).symm
          exact ⟨d1.symm, d2.symm⟩
        | j + 2, _, hp, _, _ => simp at hp
        | 0, k + 2, _, hq, _ => simp at hq
        | 1, k + 2, _, hq, _ => simp at hq
      · intro j p hp
        match j, hp with
        | 0, hp =>
          obtain rfl := (Option.some.inj hp).symm
          exact ⟨s2.free nc0, s25.free nr0⟩
        | 1, hp =>
          obtain rfl := (Option.some.inj hp).symm
          exact ⟨s23.free nc1, s26.free nr1⟩
        | j + 2, hp => simp at hp
    clear s1 s2 s3 s4 s5 s6 s7 s8 s78 s68 s58 s48 s23 s24 s25 s26 s27 e3 e4 e5 e6 e7 e8 off3 off4 nc0 nc1 nd0 nd1 nkl nrl nr0 nr1 ena k2 zna zna' hb2 off1 hb1
    have hlen : (ns.map V.int).length = ns.length := List.length_map ..
    refine ⟨_, rfl, a, _, rfl, .inl (wo.same.seq hS), _, _, rfl, _, _, rfl, ?_⟩
    obtain ⟨N, hN, N3, N41⟩ : ∃ N : Nat, (if (if (41 : Int) < (((ns.map V.int).length : Nat) : Int) then (41 : Int) else (((ns.map V.int).length : Nat) : Int)) > 3 then (if (41 : Int) < (((ns.map V.int).length : Nat) : Int) then (41 : Int) else (((ns.map V.int).length : Nat) : Int)) else 3) = (N : Int) ∧ 3 ≤ N ∧ N ≤ 41 := by
      rw [hlen]
      refine ⟨max 3 (min 41 ns.length), ?_, by omega, by omega⟩
      split <;> split <;> omega
    rw [hN]
    refine ⟨_, _, rfl, ⟨by decide, by decide, by omega, by omega⟩, ?_⟩
    have eN : ((N : Int) - 1).toNat = N - 1 := by omega
    rw [eN]
    refine for_range (lo := 1) (n := N - 1) (fun i σ H' => ∃ (v1 v5 v6 v7 v8 v9 : Option V) (ps : List Pr), σ = [some (.ref a), v1, some (.ref na), some (.ref kl), some (.ref rl), v5, v6, v7, v8, v9] ∧ Wo C (4 * i : Nat) H H' kl rl na nms ps) ⟨_, _, _, _, _, _, _, rfl, wo⟩ ?_ ?_
    · clear wo
      rintro i σ H1 hi ⟨v1, v5, v6, v7, v8, v9, ps, rfl, wo⟩
      refine ⟨_, rfl, _, rfl, a, ns, 1 + i, ?_, wo.same.seq hS, fun cell => ?_⟩
      · show [V.ref a, V.int (1 + (i : Int))] = [V.ref a, V.int ((1 + i : Nat) : Int)]
        rw [show (1 + (i : Int)) = ((1 + i : Nat) : Int) by push_cast; rfl]
      refine ⟨cell, rfl, fun b H2 nb off hb => ?_⟩
      have zb : H b = none := wo.same.free nb
      have wo2 := wo.go (H' := H2) fun x o e => (off x (ne_of_none e nb)).trans e
      clear wo off nb
      have lp2 := wo2.l2
      have lp6 := wo2.l6
      refine ⟨_, rfl, _, rfl, kl, _, rfl, .inl (SqL.of wo2.k_), b, _, 0, rfl, hb, by omega, by rw [List.length_map]; omega, dec9000 (by rw [List.length_map]; omega) (by rw [List.length_map]; omega), fun at_ H3 a0 a1 off3 hb3 => ?_⟩
      have wo3 := wo2.off hb zb (KB.off off3)
      rw [List.length_map] at a1
      obtain ⟨m, rfl⟩ := Int.eq_ofNat_of_zero_le a0
      have hm : m < ps.length := by omega
      generalize hL : ps.length = L at hm lp2 lp6
      clear wo2 hb off3 a0 a1
      refine ⟨_, rfl, b, 4, _, rfl, hb3, by omega, by decide, by decide, fun D0 H4 d0 d1 off4 hb4 => ?_⟩
      have wo4 := wo3.off hb3 zb (KB.off off4)
      obtain ⟨D, rfl⟩ := Int.eq_ofNat_of_zero_le d0
      have eD : ((1 : Int) + (D : Int)).toNat = 1 + D := by omega
      clear wo3 hb3 off4
      refine ⟨_, _, rfl, rfl, _, rfl, by omega, by omega, ?_⟩
      rw [eD]
      refine for_range (lo := 0) (n := 1 + D) (fun j σ H' => ∃ (v7 v8 v9 : Option V) (ps : List Pr), σ = [some (.ref a), some (.ref b), some (.ref na), some (.ref kl), some (.ref rl), some (.int (1 + (i : Int))), some (.int (m : Nat)), v7, v8, v9] ∧
        Wo C (4 * i + j : Nat) H H' kl rl na nms ps ∧ ps.length = L ∧ Bx b (2 + 10 * j) H') ⟨_, _, _, ps, rfl, wo4, hL, hb4.mono (by omega)⟩ ?_ ?_
      · clear wo4 hb4 hL ps
        rintro j σ H4 hj ⟨v7, v8, v9, ps, rfl, wo, hL, hb⟩
        obtain ⟨p, hp⟩ : ∃ p, ps[m]? = some p := ⟨_, List.getElem?_eq_getElem (by omega : m < ps.length)⟩
        have ek : atI (ps.map fun p => V.ref p.c) ((m : Nat) : Int) = some (.ref p.c) := atI_nat (by rw [List.getElem?_map, hp]; rfl)
        have er : atI (ps.map fun p => V.ref p.ρ) ((m : Nat) : Int) = some (.ref p.ρ) := atI_nat (by rw [List.getElem?_map, hp]; rfl)
        obtain ⟨o1, o2, o3⟩ := wo.ok m p hp
        have hi' : i < N - 1 := hi
        have hj' : j < 1 + D := hj
        have hB : ((4 * i + j : Nat) : Int) + 1 ≤ 900 := by omega
        obtain ⟨nbk, nbr, nbn, nbp⟩ := wo.bne hb
        obtain ⟨npc, npr⟩ := nbp m p hp
        refine ⟨_, rfl, _, rfl, _, rfl, _, rfl, rl, _, _, _, rfl, rfl, SqL.of wo.r_, er, b, na, p.ρ, _, nms, p.x, _, rfl, hb, by omega, nbn, wo.n_, wo.n4, wo.nm, o2, o3, by omega, fun d H5 w v k5 hb5 zd dd => ?_⟩
        have wo5 := wo.off hb zb k5
        obtain ⟨p1, p2, _⟩ := wo5.ok m p hp
        have npcρ : p.c ≠ p.ρ := by
          obtain ⟨_, e1⟩ := p1
          obtain ⟨_, e2, _⟩ := p2
          exact ne_of e1 e2 (by simp)
        refine ⟨_, rfl, _, rfl, kl, _, _, _, rfl, rfl, SqL.of wo5.k_, ek, _, rfl, p.c, d, w, v, p.x, _, rfl, p1, o3, dd, fun r H6 k6 zr oc ho => ?_⟩
        have kc : ∀ {y : Addr} {o : HO}, H5 y = some o → (∀ C' dx fs, o ≠ .ins C' dx fs) → H6 y = some o := fun h no => k6 _ _ (by obtain ⟨_, e1⟩ := p1; exact ne_of h e1 (no _ _ _)) h
        have p26 : RwAt H6 p.ρ p.x := p2.up (fun o h => k6 _ _ npcρ.symm h) fun x ys h => kc h (by simp)
        have r6 : H6 rl = some (.lst (ps.map fun p => V.ref p.ρ)) := kc wo5.r_ (by simp)
        have dd6 : DdAt H6 d w v := ⟨kc dd.at_ (by simp), dd.vk.up fun y i h => kc h (by simp), dd.nt⟩
        obtain ⟨f1, f2⟩ : Dp K H6 (.ref r) (.tuple [.str (stp w v p.x).1.tag, (stp w v p.x).1.dat]) ∧ Sb (.tuple [.str (stp w v p.x).1.tag, (stp w v p.x).1.dat]) 2 700 := ⟨Oc.dp oc, oc_sb o3 (by omega) dd.nt⟩
        obtain ⟨m1, m2, m3⟩ := f2.rep (by decide) (by decide)
        refine ⟨_, rfl, _, _, rfl, f1, m1, m2, m3, _, rfl, _, rfl, rl, _, _, _, rfl, rfl, SqL.of r6, er, _, rfl, p.ρ, d, w, v, p.x, _, rfl, p26, o3, dd6, fun r2 H7 k7 zr2 oc2 rw2 => ?_⟩
        have eρ6 : ∃ lv, H6 p.ρ = some (.lst [.int p.x.t, lv, .bl p.x.p]) := let ⟨lv, e, _⟩ := p26; ⟨lv, e⟩
        obtain ⟨lv6, eρ6⟩ := eρ6
        have ho7 : HoAt C H7 p.c (stp w v p.x).2 := ho.up fun o h => k7 _ _ npcρ h
        have ks7 : ∀ y o, y ≠ b → y ≠ p.c → y ≠ p.ρ → H4 y = some o → H7 y = some o := fun y o n1 n2 n3 h => k7 y o n3 (k6 y o n2 (k5 y o n1 h))
        have wo7 := wo.step (B' := ((4 * i + (j + 1) : Nat) : Int)) (by omega) (x' := (stp w v p.x).2) hb zb hp ks7 ⟨ho7, rw2, (stp_ok o3 dd.nt).mono (by omega)⟩
        have eb7 : Bx b (2 + 10 * (j + 1 : Nat)) H7 := by
          obtain ⟨x1, y1, z1, q, r⟩ := hb5
          have nb5 := bx3 ⟨x1, y1, z1, q, r⟩ p2
          obtain ⟨_, e1⟩ := p1
          exact Bx.mono ⟨x1, y1, z1, k7 _ _ nb5.symm (k6 _ _ (ne_of q e1 (by simp)) q), r⟩ (by push_cast; omega)
        refine ⟨_, _, rfl, Oc.dp oc2, m1, m2, m3, rfl, _, rfl, iteNS rfl ?_⟩
        refine ⟨_, rfl, _, rfl, kl, rl, _, _, rfl, wo7.k_, wo7.r_, wo7.mem, by omega, wo7.l6, fun H9 s9 => ⟨_, rfl, iteF ?_⟩⟩
        refine ⟨_, _, _, _, rfl, wo7.go s9, by rw [List.length_set]; exact hL, ?_⟩
        obtain ⟨x1, y1, z1, q, r⟩ := eb7
        exact ⟨x1, y1, z1, s9 _ _ q, r⟩
      · rintro σ H4 ⟨v7, v8, v9, ps, rfl, wo, hL, hb⟩
        refine ⟨_, rfl, b, 4, _, rfl, hb, by omega, by decide, by decide, fun T0 H5 t0 t1 off5 hb5 => ?_⟩
        have wo5 := (wo.off hb zb (KB.off off5)).mono (B' := ((4 * (i + 1) : Nat) : Int)) (by omega)
        refine ⟨rfl, _, rfl, ite2 (fun c1 => ?_) (fun c1 => iteF ?_)⟩
        · refine ⟨_, rfl, kl, _, rfl, .inl (SqL.of wo5.k_), _, _, rfl, rfl, _, rfl, ite2 (fun c2 => ?_) (fun c2 => ?_)⟩
          · have l5 : ps.length < 6 := by
              have := of_decide_eq_true c2
              rw [List.length_map] at this
              omega
            obtain ⟨p, hp⟩ : ∃ p, ps[m]? = some p := ⟨_, List.getElem?_eq_getElem (by omega : m < ps.length)⟩
            have ek : atI (ps.map fun p => V.ref p.c) ((m : Nat) : Int) = some (.ref p.c) := atI_nat (by rw [List.getElem?_map, hp]; rfl)
            have er : atI (ps.map fun p => V.ref p.ρ) ((m : Nat) : Int) = some (.ref p.ρ) := atI_nat (by rw [List.getElem?_map, hp]; rfl)
            obtain ⟨⟨dx, hc⟩, o2, o3⟩ := wo5.ok m p hp
            refine ⟨_, rfl, .inl ⟨rfl, _, SqL.of wo5.k_⟩, _, rfl, _, rfl, kl, _, _, _, rfl, rfl, SqL.of wo5.k_, ek, p.c, dx, _, rfl, hc, kf_no _ _ _ (by decide +kernel) (by decide +kernel) (by decide +kernel), p.c, dx, _, _, _, rfl, hc, fun x dy H6 nx s6 ex => ?_⟩
            have wo6 := wo5.go s6
            refine ⟨kl, _, _, rfl, rfl, wo6.k_, (by rw [List.length_map]; exact Nat.lt_of_lt_of_le l5 (by decide)), ?_⟩
            have nek := wo.ne
            have r7 : upd H6 kl (.lst ((ps.map fun p => V.ref p.c) ++ [.ref x])) rl = some (.lst (ps.map fun p => V.ref p.ρ)) := by rw [upd_ne nek.symm]; exact wo6.r_
            obtain ⟨_, ⟨lv, hρ, b1⟩, _⟩ := wo6.ok m p hp
            have nρk : p.ρ ≠ kl := (rw_ne ⟨lv, hρ, b1⟩ wo6.k_ refs2).symm
            have nρr : p.ρ ≠ rl := (rw_ne ⟨lv, hρ, b1⟩ wo6.r_ refs2).symm
            have ρ7 : upd H6 kl (.lst ((ps.map fun p => V.ref p.c) ++ [.ref x])) p.ρ = some (.lst [.int p.x.t, lv, .bl p.x.p]) := by rw [upd_ne nρk]; exact hρ
            refine ⟨_, rfl, .inl ⟨rfl, _, SqL.of r7⟩, _, rfl, _, rfl, rl, _, _, _, rfl, rfl, SqL.of r7, er, p.ρ, _, rfl, .inl (SqL.of ρ7), fun l nl => ?_⟩
            have rl8 : upd (upd H6 kl (.lst ((ps.map fun p => V.ref p.c) ++ [.ref x]))) l (.lst [.int p.x.t, lv, .bl p.x.p]) rl = some (.lst (ps.map fun p => V.ref p.ρ)) := by rw [upd_ne (ne_of_none r7 nl)]; exact r7
            refine ⟨rl, _, _, rfl, rfl, rl8, (by rw [List.length_map]; exact Nat.lt_of_lt_of_le l5 (by decide)), ?_⟩
            have z6 : H6 l = none := by
              by_cases q : l = kl
              · rw [q, upd_same] at nl
                cases nl
              · rw [upd_ne q] at nl
                exact nl
            have nxk : x ≠ kl := (ne_of ex wo6.k_ (by simp))
            have nxr : x ≠ rl := (ne_of ex wo6.r_ (by simp))
            have nxl : x ≠ l := ne_of_none ex z6
            have nlr : l ≠ rl := (ne_of_none wo6.r_ z6).symm
            have nlk : kl ≠ l := ne_of_none wo6.k_ z6
            have kk : ∀ y o, y ≠ kl → y ≠ rl → H5 y = some o → upd (upd (upd H6 kl (.lst ((ps.map fun p => V.ref p.c) ++ [.ref x]))) l (.lst [.int p.x.t, lv, .bl p.x.p])) rl (.lst ((ps.map fun p => V.ref p.ρ) ++ [.ref l])) y = some o := fun y o n1 n2 h => by
              rw [upd_ne n2, upd_ne (ne_of_none (s6 _ _ h) z6), upd_ne n1]
              exact s6 _ _ h
            have kt6 : ∀ y ys, H6 y = some (.tup ys) → upd (upd (upd H6 kl (.lst ((ps.map fun p => V.ref p.c) ++ [.ref x]))) l (.lst [.int p.x.t, lv, .bl p.x.p])) rl (.lst ((ps.map fun p => V.ref p.ρ) ++ [.ref l])) y = some (.tup ys) := fun y ys h => by
              rw [upd_ne (ne_of h wo6.r_ (by simp)), upd_ne (ne_of_none h z6), upd_ne (ne_of h wo6.k_ (by simp))]
              exact h
            have wo8 := wo5.push (q := ⟨x, l, p.x⟩) (H' := upd (upd (upd H6 kl (.lst ((ps.map fun p => V.ref p.c) ++ [.ref x]))) l (.lst [.int p.x.t, lv, .bl p.x.p])) rl (.lst ((ps.map fun p => V.ref p.ρ) ++ [.ref l]))) l5 kk
              (by rw [upd_ne nek, upd_ne nlk, upd_same, List.map_append]; rfl) (by rw [upd_same, List.map_append]; rfl)
              ⟨⟨dy, by show upd _ rl _ x = _; rw [upd_ne nxr, upd_ne nxl, upd_ne nxk]; exact ex⟩, ⟨lv, by show upd _ rl _ l = _; rw [upd_ne nlr, upd_same], b1.up kt6⟩, o3⟩ nx (s6.free z6)
            exact ⟨_, rfl, _, rfl, kl, rl, _, _, rfl, wo8.k_, wo8.r_, wo8.mem, by omega, wo8.l6, fun H9 s9 => ⟨_, rfl, iteF ⟨_, _, _, _, _, _, _, rfl, wo8.go s9⟩⟩⟩
          · exact ⟨_, rfl, _, rfl, kl, rl, _, _, rfl, wo5.k_, wo5.r_, wo5.mem, by omega, wo5.l6, fun H9 s9 => ⟨_, rfl, iteF ⟨_, _, _, _, _, _, _, rfl, wo5.go s9⟩⟩⟩
        · exact ⟨_, rfl, _, rfl, kl, rl, _, _, rfl, wo5.k_, wo5.r_, wo5.mem, by omega, wo5.l6, fun H9 s9 => ⟨_, rfl, iteF ⟨_, _, _, _, _, _, _, rfl, wo5.go s9⟩⟩⟩
    · rintro σ H1 ⟨v1, v5, v6, v7, v8, v9, ps, rfl, wo⟩
      exact k H1
end
end K21

set_option maxRecDepth 100000
set_option maxHeartbeats 4000000
namespace K21
open PySem PySem.Spec PyProof.Rows L2 GxR Gd TL My
theorem all_mk {l : PySem.W.OpenLaw}  {w : World} {K : PySem.W.Frag} {h : Heap} {mg : Str → Option Value} {fa C CH CN CR CS f1 f2 f3 f4 f5 f6 f7 f8 f9 f10 f11 f12 f13 f14 f15 f16 f17 f18 f19 f20 f21 f22 f23 f24 f25  : Addr} 
    (X : K.In h) (G : h.Ns mainGlobals mg) (hfa : mg "law" = some (.ref fa)) 
     {nmCH qCH : Str} {NCH : Addr} {bsCH : List Value} {snCH : List Str} {subCH : List Value} {abCH : Bool} {colCH : Option Bool} {ddCH : Option Addr} {m0CH m1CH m2CH m3CH m5CH : Option Value} {nmCN qCN : Str} {NCN : Addr} {bsCN : List Value} {snCN : List Str} {subCN : List Value} {abCN : Bool} {colCN : Option Bool} {ddCN : Option Addr} {m0CN m1CN m2CN m3CN m5CN : Option Value} {nmCR qCR : Str} {NCR : Addr} {bsCR : List Value} {snCR : List Str} {subCR : List Value} {abCR : Bool} {colCR : Option Bool} {ddCR : Option Addr} {m0CR m1CR m2CR m3CR m5CR : Option Value} {od1 an1 : Option Addr} {sl1 : Array (Option Value)} {oc1 kV1 dc1 pm1 cd1 ct1 : Value} {od2 an2 : Option Addr} {sl2 : Array (Option Value)} {oc2 kV2 dc2 pm2 cd2 ct2 : Value} {od3 an3 : Option Addr} {sl3 : Array (Option Value)} {oc3 kV3 dc3 pm3 cd3 ct3 : Value} {od4 an4 : Option Addr} {sl4 : Array (Option Value)} {oc4 kV4 dc4 pm4 cd4 ct4 : Value} {od5 an5 : Option Addr} {sl5 : Array (Option Value)} {oc5 kV5 dc5 pm5 cd5 ct5 : Value} {od6 an6 : Option Addr} {sl6 : Array (Option Value)} {oc6 kV6 dc6 pm6 cd6 ct6 : Value} {od7 an7 : Option Addr} {sl7 : Array (Option Value)} {oc7 kV7 dc7 pm7 cd7 ct7 : Value} {od8 an8 : Option Addr} {sl8 : Array (Option Value)} {oc8 kV8 dc8 pm8 cd8 ct8 : Value} {od9 an9 : Option Addr} {sl9 : Array (Option Value)} {oc9 kV9 dc9 pm9 cd9 ct9 : Value} {od10 an10 : Option Addr} {sl10 : Array (Option Value)} {oc10 kV10 dc10 pm10 cd10 ct10 : Value} {od11 an11 : Option Addr} {sl11 : Array (Option Value)} {oc11 kV11 dc11 pm11 cd11 ct11 : Value} {od12 an12 : Option Addr} {sl12 : Array (Option Value)} {oc12 kV12 dc12 pm12 cd12 ct12 : Value} {od13 an13 : Option Addr} {sl13 : Array (Option Value)} {oc13 kV13 dc13 pm13 cd13 ct13 : Value} {od14 an14 : Option Addr} {sl14 : Array (Option Value)} {oc14 kV14 dc14 pm14 cd14 ct14 : Value} {od15 an15 : Option Addr} {sl15 : Array (Option Value)} {oc15 kV15 dc15 pm15 cd15 ct15 : Value} {od16 an16 : Option Addr} {sl16 : Array (Option Value)} {oc16 kV16 dc16 pm16 cd16 ct16 : Value} {od17 an17 : Option Addr} {sl17 : Array (Option Value)} {oc17 kV17 dc17 pm17 cd17 ct17 : Value} {od18 an18 : Option Addr} {sl18 : Array (Option Value)} {oc18 kV18 dc18 pm18 cd18 ct18 : Value} {od19 an19 : Option Addr} {sl19 : Array (Option Value)} {oc19 kV19 dc19 pm19 cd19 ct19 : Value} {od20 an20 : Option Addr} {sl20 : Array (Option Value)} {oc20 kV20 dc20 pm20 cd20 ct20 : Value} {od21 an21 : Option Addr} {sl21 : Array (Option Value)} {oc21 kV21 dc21 pm21 cd21 ct21 : Value} {od22 an22 : Option Addr} {sl22 : Array (Option Value)} {oc22 kV22 dc22 pm22 cd22 ct22 : Value} {od23 an23 : Option Addr} {sl23 : Array (Option Value)} {oc23 kV23 dc23 pm23 cd23 ct23 : Value} {od24 an24 : Option Addr} {sl24 : Array (Option Value)} {oc24 kV24 dc24 pm24 cd24 ct24 : Value} {od25 an25 : Option Addr} {sl25 : Array (Option Value)} {oc25 kV25 dc25 pm25 cd25 ct25 : Value}
    (aC : PySem.W.nsIn K mainGlobals "Keeper" = some (some (.ref C))) (pgC : PySem.W.plainGet K C Str.empty = true) (hdC : PySem.W.hasDictIn K C = true) (poC : PySem.W.plainOver K C = true) (saC : PySem.W.findIn K (.ref C) "__setattr__" = some (some (.builtin "object.__setattr__"))) (mkC : PySem.W.makesIn K C = true) (kcC : PySem.W.keepIn K (.ref C) = true) (n0C : PySem.W.findIn K (.ref C) "_times" = some none) (n1C : PySem.W.findIn K (.ref C) "_to" = some none) (n2C : PySem.W.findIn K (.ref C) "_opened" = some none) (aCH : PySem.W.nsIn K mainGlobals "Shut" = some (some (.ref CH))) (xlCH : K.lookup CH = some (excClassObj nmCH qCH CH NCH bsCH [.ref CS, .type "ValueError", .type "Exception", .type "BaseException", .type "object"] true snCH subCH abCH colCH ddCH m0CH m1CH m2CH m3CH m5CH "ValueError.__new__")) (saCH : PySem.W.findIn K (.ref CH) "__setattr__" = some (some (.builtin "object.__setattr__"))) (gaCH : PySem.W.findIn K (.ref CH) "__getattribute__" = some (some (.builtin "BaseException.__getattribute__"))) (ggCH : PySem.W.findIn K (.ref CH) "__getattr__" = some none) (kcCH : PySem.W.keepIn K (.ref CH) = true) (exCH : PySem.W.subIn K (.ref CH) (.type "BaseException") = some true) (tyCH : PySem.W.typeIn K (.ref CH) = some (.type "type")) (hdCH : PySem.W.hasDictIn K CH = true) (icCH : PySem.W.isClsIn K CH = true) (coCH : PySem.W.findIn K (.ref CH) "__class__" = some (some (.builtin "object.__class__"))) (moCH : PySem.W.mroIn K CH (.type "object") = some true) (n0CH : PySem.W.findIn K (.ref CH) "found" = some none) (aCN : PySem.W.nsIn K mainGlobals "NotShut" = some (some (.ref CN))) (xlCN : K.lookup CN = some (excClassObj nmCN qCN CN NCN bsCN [.ref CS, .type "ValueError", .type "Exception", .type "BaseException", .type "object"] true snCN subCN abCN colCN ddCN m0CN m1CN m2CN m3CN m5CN "ValueError.__new__")) (saCN : PySem.W.findIn K (.ref CN) "__setattr__" = some (some (.builtin "object.__setattr__"))) (gaCN : PySem.W.findIn K (.ref CN) "__getattribute__" = some (some (.builtin "BaseException.__getattribute__"))) (ggCN : PySem.W.findIn K (.ref CN) "__getattr__" = some none) (kcCN : PySem.W.keepIn K (.ref CN) = true) (exCN : PySem.W.subIn K (.ref CN) (.type "BaseException") = some true) (tyCN : PySem.W.typeIn K (.ref CN) = some (.type "type")) (hdCN : PySem.W.hasDictIn K CN = true) (icCN : PySem.W.isClsIn K CN = true) (coCN : PySem.W.findIn K (.ref CN) "__class__" = some (some (.builtin "object.__class__"))) (moCN : PySem.W.mroIn K CN (.type "object") = some true) (n0CN : PySem.W.findIn K (.ref CN) "found" = some none) (aCR : PySem.W.nsIn K mainGlobals "NoRight" = some (some (.ref CR))) (xlCR : K.lookup CR = some (excClassObj nmCR qCR CR NCR bsCR [.ref CS, .type "ValueError", .type "Exception", .type "BaseException", .type "object"] true snCR subCR abCR colCR ddCR m0CR m1CR m2CR m3CR m5CR "ValueError.__new__")) (saCR : PySem.W.findIn K (.ref CR) "__setattr__" = some (some (.builtin "object.__setattr__"))) (gaCR : PySem.W.findIn K (.ref CR) "__getattribute__" = some (some (.builtin "BaseException.__getattribute__"))) (ggCR : PySem.W.findIn K (.ref CR) "__getattr__" = some none) (kcCR : PySem.W.keepIn K (.ref CR) = true) (exCR : PySem.W.subIn K (.ref CR) (.type "BaseException") = some true) (tyCR : PySem.W.typeIn K (.ref CR) = some (.type "type")) (hdCR : PySem.W.hasDictIn K CR = true) (icCR : PySem.W.isClsIn K CR = true) (coCR : PySem.W.findIn K (.ref CR) "__class__" = some (some (.builtin "object.__class__"))) (moCR : PySem.W.mroIn K CR (.type "object") = some true) (n0CR : PySem.W.findIn K (.ref CR) "found" = some none) (a1 : PySem.W.findIn K (.ref CS) "__init__" = some (some (.ref f1))) (i1 : PySem.W.isFn K (.ref f1) = true) (l1 : K.lookup f1 = some ⟨oc1, od1, .func (PySem.W.fnOf "__init__" "StaffError.__init__" (defArgs sSE) (defBody sSE) (defScope sSE) .none kV1 dc1 pm1 an1 cd1 ct1), sl1⟩) (c1 : PySem.W.codeIn K cd1 "StaffError.__init__" = true) (k1 : PySem.W.keepIn K (.ref f1) = true) (a2 : PySem.W.findIn K (.ref CH) "__init__" = some (some (.ref f2))) (i2 : PySem.W.isFn K (.ref f2) = true) (l2 : K.lookup f2 = some ⟨oc2, od2, .func (PySem.W.fnOf "__init__" "Shut.__init__" (defArgs sShut) (defBody sShut) (defScope sShut) .none kV2 dc2 pm2 an2 cd2 ct2), sl2⟩) (c2 : PySem.W.codeIn K cd2 "Shut.__init__" = true) (k2 : PySem.W.keepIn K (.ref f2) = true) (a3 : PySem.W.findIn K (.ref CN) "__init__" = some (some (.ref f3))) (i3 : PySem.W.isFn K (.ref f3) = true) (l3 : K.lookup f3 = some ⟨oc3, od3, .func (PySem.W.fnOf "__init__" "NotShut.__init__" (defArgs sNotShut) (defBody sNotShut) (defScope sNotShut) .none kV3 dc3 pm3 an3 cd3 ct3), sl3⟩) (c3 : PySem.W.codeIn K cd3 "NotShut.__init__" = true) (k3 : PySem.W.keepIn K (.ref f3) = true) (a4 : PySem.W.findIn K (.ref CR) "__init__" = some (some (.ref f4))) (i4 : PySem.W.isFn K (.ref f4) = true) (l4 : K.lookup f4 = some ⟨oc4, od4, .func (PySem.W.fnOf "__init__" "NoRight.__init__" (defArgs sNoRight) (defBody sNoRight) (defScope sNoRight) .none kV4 dc4 pm4 an4 cd4 ct4), sl4⟩) (c4 : PySem.W.codeIn K cd4 "NoRight.__init__" = true) (k4 : PySem.W.keepIn K (.ref f4) = true) (a5 : PySem.W.nsIn K mainGlobals "is_whole" = some (some (.ref f5))) (l5 : K.lookup f5 = some ⟨oc5, od5, .func (PySem.W.fnOf "is_whole" "is_whole" (defArgs sWhole) (defBody sWhole) (defScope sWhole) .none kV5 dc5 pm5 an5 cd5 ct5), sl5⟩) (c5 : PySem.W.codeIn K cd5 "is_whole" = true) (k5 : PySem.W.keepIn K (.ref f5) = true) (a6 : PySem.W.findIn K (.ref C) "__init__" = some (some (.ref f6))) (i6 : PySem.W.isFn K (.ref f6) = true) (l6 : K.lookup f6 = some ⟨oc6, od6, .func (PySem.W.fnOf "__init__" "Keeper.__init__" (defArgs s_init) (defBody s_init) (defScope s_init) .none kV6 dc6 pm6 an6 cd6 ct6), sl6⟩) (c6 : PySem.W.codeIn K cd6 "Keeper.__init__" = true) (k6 : PySem.W.keepIn K (.ref f6) = true) (a7 : PySem.W.findIn K (.ref C) "lock" = some (some (.ref f7))) (i7 : PySem.W.isFn K (.ref f7) = true) (l7 : K.lookup f7 = some ⟨oc7, od7, .func (PySem.W.fnOf "lock" "Keeper.lock" (defArgs s_lock) (defBody s_lock) (defScope s_lock) .none kV7 dc7 pm7 an7 cd7 ct7), sl7⟩) (c7 : PySem.W.codeIn K cd7 "Keeper.lock" = true) (k7 : PySem.W.keepIn K (.ref f7) = true) (a8 : PySem.W.findIn K (.ref C) "locked" = some (some (.ref f8))) (i8 : PySem.W.isFn K (.ref f8) = true) (l8 : K.lookup f8 = some ⟨oc8, od8, .func (PySem.W.fnOf "locked" "Keeper.locked" (defArgs s_locked) (defBody s_locked) (defScope s_locked) .none kV8 dc8 pm8 an8 cd8 ct8), sl8⟩) (c8 : PySem.W.codeIn K cd8 "Keeper.locked" = true) (k8 : PySem.W.keepIn K (.ref f8) = true) (a9 : PySem.W.findIn K (.ref C) "_is_locked_by" = some (some (.ref f9))) (i9 : PySem.W.isFn K (.ref f9) = true) (l9 : K.lookup f9 = some ⟨oc9, od9, .func (PySem.W.fnOf "_is_locked_by" "Keeper._is_locked_by" (defArgs s_is_locked_by) (defBody s_is_locked_by) (defScope s_is_locked_by) .none kV9 dc9 pm9 an9 cd9 ct9), sl9⟩) (c9 : PySem.W.codeIn K cd9 "Keeper._is_locked_by" = true) (k9 : PySem.W.keepIn K (.ref f9) = true) (a10 : PySem.W.findIn K (.ref C) "_free" = some (some (.ref f10))) (i10 : PySem.W.isFn K (.ref f10) = true) (l10 : K.lookup f10 = some ⟨oc10, od10, .func (PySem.W.fnOf "_free" "Keeper._free" (defArgs s_free) (defBody s_free) (defScope s_free) .none kV10 dc10 pm10 an10 cd10 ct10), sl10⟩) (c10 : PySem.W.codeIn K cd10 "Keeper._free" = true) (k10 : PySem.W.keepIn K (.ref f10) = true) (a11 : PySem.W.findIn K (.ref C) "opens" = some (some (.ref f11))) (i11 : PySem.W.isFn K (.ref f11) = true) (l11 : K.lookup f11 = some ⟨oc11, od11, .func (PySem.W.fnOf "opens" "Keeper.opens" (defArgs s_opens) (defBody s_opens) (defScope s_opens) .none kV11 dc11 pm11 an11 cd11 ct11), sl11⟩) (c11 : PySem.W.codeIn K cd11 "Keeper.opens" = true) (k11 : PySem.W.keepIn K (.ref f11) = true) (a12 : PySem.W.findIn K (.ref C) "is_open" = some (some (.ref f12))) (i12 : PySem.W.isFn K (.ref f12) = true) (l12 : K.lookup f12 = some ⟨oc12, od12, .func (PySem.W.fnOf "is_open" "Keeper.is_open" (defArgs s_is_open) (defBody s_is_open) (defScope s_is_open) .none kV12 dc12 pm12 an12 cd12 ct12), sl12⟩) (c12 : PySem.W.codeIn K cd12 "Keeper.is_open" = true) (k12 : PySem.W.keepIn K (.ref f12) = true) (a13 : PySem.W.findIn K (.ref C) "unlock" = some (some (.ref f13))) (i13 : PySem.W.isFn K (.ref f13) = true) (l13 : K.lookup f13 = some ⟨oc13, od13, .func (PySem.W.fnOf "unlock" "Keeper.unlock" (defArgs s_unlock) (defBody s_unlock) (defScope s_unlock) .none kV13 dc13 pm13 an13 cd13 ct13), sl13⟩) (c13 : PySem.W.codeIn K cd13 "Keeper.unlock" = true) (k13 : PySem.W.keepIn K (.ref f13) = true) (a14 : PySem.W.findIn K (.ref C) "ended" = some (some (.ref f14))) (i14 : PySem.W.isFn K (.ref f14) = true) (l14 : K.lookup f14 = some ⟨oc14, od14, .func (PySem.W.fnOf "ended" "Keeper.ended" (defArgs s_ended) (defBody s_ended) (defScope s_ended) .none kV14 dc14 pm14 an14 cd14 ct14), sl14⟩) (c14 : PySem.W.codeIn K cd14 "Keeper.ended" = true) (k14 : PySem.W.keepIn K (.ref f14) = true) (a15 : PySem.W.findIn K (.ref C) "times" = some (some (.ref f15))) (i15 : PySem.W.isFn K (.ref f15) = true) (l15 : K.lookup f15 = some ⟨oc15, od15, .func (PySem.W.fnOf "times" "Keeper.times" (defArgs s_times) (defBody s_times) (defScope s_times) .none kV15 dc15 pm15 an15 cd15 ct15), sl15⟩) (c15 : PySem.W.codeIn K cd15 "Keeper.times" = true) (k15 : PySem.W.keepIn K (.ref f15) = true) (a16 : PySem.W.findIn K (.ref C) "twin" = some (some (.ref f16))) (i16 : PySem.W.isFn K (.ref f16) = true) (l16 : K.lookup f16 = some ⟨oc16, od16, .func (PySem.W.fnOf "twin" "Keeper.twin" (defArgs s_twin) (defBody s_twin) (defScope s_twin) .none kV16 dc16 pm16 an16 cd16 ct16), sl16⟩) (c16 : PySem.W.codeIn K cd16 "Keeper.twin" = true) (k16 : PySem.W.keepIn K (.ref f16) = true) (a17 : PySem.W.nsIn K mainGlobals "_law_cell" = some (some (.ref f17))) (l17 : K.lookup f17 = some ⟨oc17, od17, .func (PySem.W.fnOf "_law_cell" "_law_cell" (defArgs sCell) (defBody sCell) (defScope sCell) .none kV17 dc17 pm17 an17 cd17 ct17), sl17⟩) (c17 : PySem.W.codeIn K cd17 "_law_cell" = true) (k17 : PySem.W.keepIn K (.ref f17) = true) (a18 : PySem.W.nsIn K mainGlobals "_law_box" = some (some (.ref f18))) (l18 : K.lookup f18 = some ⟨oc18, od18, .func (PySem.W.fnOf "_law_box" "_law_box" (defArgs sBox) (defBody sBox) (defScope sBox) .none kV18 dc18 pm18 an18 cd18 ct18), sl18⟩) (c18 : PySem.W.codeIn K cd18 "_law_box" = true) (k18 : PySem.W.keepIn K (.ref f18) = true) (a19 : PySem.W.nsIn K mainGlobals "_law_take" = some (some (.ref f19))) (l19 : K.lookup f19 = some ⟨oc19, od19, .func (PySem.W.fnOf "_law_take" "_law_take" (defArgs sTake) (defBody sTake) (defScope sTake) .none kV19 dc19 pm19 an19 cd19 ct19), sl19⟩) (c19 : PySem.W.codeIn K cd19 "_law_take" = true) (k19 : PySem.W.keepIn K (.ref f19) = true) (a20 : PySem.W.nsIn K mainGlobals "_law_names" = some (some (.ref f20))) (l20 : K.lookup f20 = some ⟨oc20, od20, .func (PySem.W.fnOf "_law_names" "_law_names" (defArgs s_law_names) (defBody s_law_names) (defScope s_law_names) .none kV20 dc20 pm20 an20 cd20 ct20), sl20⟩) (c20 : PySem.W.codeIn K cd20 "_law_names" = true) (k20 : PySem.W.keepIn K (.ref f20) = true) (a21 : PySem.W.nsIn K mainGlobals "_law_deed" = some (some (.ref f21))) (l21 : K.lookup f21 = some ⟨oc21, od21, .func (PySem.W.fnOf "_law_deed" "_law_deed" (defArgs s_law_deed) (defBody s_law_deed) (defScope s_law_deed) .none kV21 dc21 pm21 an21 cd21 ct21), sl21⟩) (c21 : PySem.W.codeIn K cd21 "_law_deed" = true) (k21 : PySem.W.keepIn K (.ref f21) = true) (a22 : PySem.W.nsIn K mainGlobals "_law_said" = some (some (.ref f22))) (l22 : K.lookup f22 = some ⟨oc22, od22, .func (PySem.W.fnOf "_law_said" "_law_said" (defArgs s_law_said) (defBody s_law_said) (defScope s_law_said) .none kV22 dc22 pm22 an22 cd22 ct22), sl22⟩) (c22 : PySem.W.codeIn K cd22 "_law_said" = true) (k22 : PySem.W.keepIn K (.ref f22) = true) (a23 : PySem.W.nsIn K mainGlobals "_law_done" = some (some (.ref f23))) (l23 : K.lookup f23 = some ⟨oc23, od23, .func (PySem.W.fnOf "_law_done" "_law_done" (defArgs s_law_done) (defBody s_law_done) (defScope s_law_done) .none kV23 dc23 pm23 an23 cd23 ct23), sl23⟩) (c23 : PySem.W.codeIn K cd23 "_law_done" = true) (k23 : PySem.W.keepIn K (.ref f23) = true) (a24 : PySem.W.nsIn K mainGlobals "_law_same" = some (some (.ref f24))) (l24 : K.lookup f24 = some ⟨oc24, od24, .func (PySem.W.fnOf "_law_same" "_law_same" (defArgs s_law_same) (defBody s_law_same) (defScope s_law_same) .none kV24 dc24 pm24 an24 cd24 ct24), sl24⟩) (c24 : PySem.W.codeIn K cd24 "_law_same" = true) (k24 : PySem.W.keepIn K (.ref f24) = true) (a25 : PySem.W.nsIn K mainGlobals "law" = some (some (.ref f25))) (l25 : K.lookup f25 = some ⟨oc25, od25, .func (PySem.W.fnOf "law" "law" (defArgs s_law) (defBody s_law) (defScope s_law) .none kV25 dc25 pm25 an25 cd25 ct25), sl25⟩) (c25 : PySem.W.codeIn K cd25 "law" = true) (k25 : PySem.W.keepIn K (.ref f25) = true) (z0 : PySem.W.nsIn K mainGlobals "isinstance" = some none) (z1 : PySem.W.nsIn K mainGlobals "int" = some none) (z2 : PySem.W.nsIn K mainGlobals "bool" = some none) (z3 : PySem.W.nsIn K mainGlobals "str" = some none) (z4 : PySem.W.nsIn K mainGlobals "len" = some none) (z5 : PySem.W.nsIn K mainGlobals "all" = some none) (z6 : PySem.W.nsIn K mainGlobals "max" = some none) (z7 : PySem.W.nsIn K mainGlobals "min" = some none) (z8 : PySem.W.nsIn K mainGlobals "range" = some none) (z9 : PySem.W.nsIn K mainGlobals "repr" = some none) (z10 : PySem.W.nsIn K mainGlobals "list" = some none) (z11 : PySem.W.nsIn K mainGlobals "tuple" = some none) (z12 : PySem.W.nsIn K mainGlobals "enumerate" = some none) (z13 : PySem.W.nsIn K mainGlobals "sorted" = some none) (z14 : PySem.W.nsIn K mainGlobals "dict" = some none) (z15 : PySem.W.nsIn K mainGlobals "ValueError" = some none) (aCS : PySem.W.nsIn K mainGlobals "StaffError" = some (some (.ref CS))) (gaCS : PySem.W.specialIn K (.ref CS) "__getattribute__" = some (some (.builtin "type.__getattribute__"))) (rdCS : PySem.W.readsIn K CS (.type "type") = true) (atCS : PySem.W.findCls K (.ref CS) (.type "type") "__init__" = some (.val (.ref f1))) (vi : PySem.W.findCls K (.type "ValueError") (.type "type") "__init__" = some (.val (.builtin "ValueError.__init__"))) (xNH : PySem.W.exmOne K (.ref CN) (.ref CH) = some false) (xRH : PySem.W.exmOne K (.ref CR) (.ref CH) = some false) (xRN : PySem.W.exmOne K (.ref CR) (.ref CN) = some false) (cg : PySem.W.specialIn K (.builtin "object.__class__") "__get__" = some (some (.builtin "getset_descriptor.__get__"))) (ct : PySem.W.takesIn K (.builtin "object.__class__") = some true) (smN : K.lookup sysModules = none) :
    GLawS l w K CX0 7 63 "_law_script" mg fa := by
  have e := hfa.symm.trans (PySem.W.mg_of X G a25)
  cases e
  have T : Txt mg := ⟨PySem.W.mg_none_of X G z0, PySem.W.mg_none_of X G z1, PySem.W.mg_none_of X G z2, PySem.W.mg_none_of X G z3, PySem.W.mg_none_of X G z4, PySem.W.mg_none_of X G z5, PySem.W.mg_none_of X G z6, PySem.W.mg_none_of X G z7, PySem.W.mg_none_of X G z8, PySem.W.mg_none_of X G z9, PySem.W.mg_none_of X G z10, PySem.W.mg_none_of X G z11, PySem.W.mg_none_of X G z12, PySem.W.mg_none_of X G z13, PySem.W.mg_none_of X G z14⟩
  have seCH : PySem.W.subIn K (.ref CH) (.ref CH) = some true := My.sub_self (by unfold PySem.W.clsIn; rw [xlCH] <;> rfl) rfl
  have seCN : PySem.W.subIn K (.ref CN) (.ref CN) = some true := My.sub_self (by unfold PySem.W.clsIn; rw [xlCN] <;> rfl) rfl
  have seCR : PySem.W.subIn K (.ref CR) (.ref CR) = some true := My.sub_self (by unfold PySem.W.clsIn; rw [xlCR] <;> rfl) rfl
  have F1 := fun_mk (st := sSE) l1 c1 k1
  have b1 := F1.binds (ps := ["self", "text"]) fun _ _ _ _ _ _ us hl => match us, hl with | [_, _], _ => rfl
  have F2 := fun_mk (st := sShut) l2 c2 k2
  have b2 := F2.binds (ps := ["self", "found"]) fun _ _ _ _ _ _ us hl => match us, hl with | [_, _], _ => rfl
  have F3 := fun_mk (st := sNotShut) l3 c3 k3
  have b3 := F3.binds (ps := ["self", "found"]) fun _ _ _ _ _ _ us hl => match us, hl with | [_, _], _ => rfl
  have F4 := fun_mk (st := sNoRight) l4 c4 k4
  have b4 := F4.binds (ps := ["self", "found"]) fun _ _ _ _ _ _ us hl => match us, hl with | [_, _], _ => rfl
  have F5 := fun_mk (st := sWhole) l5 c5 k5
  have b5 := F5.binds (ps := ["thing", "low", "high"]) fun _ _ _ _ _ _ us hl => match us, hl with | [_, _, _], _ => rfl
  have F6 := fun_mk (st := s_init) l6 c6 k6
  have b6 := F6.binds (ps := ["self"]) fun _ _ _ _ _ _ us hl => match us, hl with | [_], _ => rfl
  have F7 := fun_mk (st := s_lock) l7 c7 k7
  have b7 := F7.binds (ps := ["self", "to"]) fun _ _ _ _ _ _ us hl => match us, hl with | [_, _], _ => rfl
  have F8 := fun_mk (st := s_locked) l8 c8 k8
  have b8 := F8.binds (ps := ["self"]) fun _ _ _ _ _ _ us hl => match us, hl with | [_], _ => rfl
  have F9 := fun_mk (st := s_is_locked_by) l9 c9 k9
  have b9 := F9.binds (ps := ["self", "number"]) fun _ _ _ _ _ _ us hl => match us, hl with | [_, _], _ => rfl
  have F10 := fun_mk (st := s_free) l10 c10 k10
  have b10 := F10.binds (ps := ["self"]) fun _ _ _ _ _ _ us hl => match us, hl with | [_], _ => rfl
  have F11 := fun_mk (st := s_opens) l11 c11 k11
  have b11 := F11.binds (ps := ["self", "number"]) fun _ _ _ _ _ _ us hl => match us, hl with | [_, _], _ => rfl
  have F12 := fun_mk (st := s_is_open) l12 c12 k12
  have b12 := F12.binds (ps := ["self"]) fun _ _ _ _ _ _ us hl => match us, hl with | [_], _ => rfl
  have F13 := fun_mk (st := s_unlock) l13 c13 k13
  have b13 := F13.binds (ps := ["self"]) fun _ _ _ _ _ _ us hl => match us, hl with | [_], _ => rfl
  have F14 := fun_mk (st := s_ended) l14 c14 k14
  have b14 := F14.binds (ps := ["self", "number"]) fun _ _ _ _ _ _ us hl => match us, hl with | [_, _], _ => rfl
  have F15 := fun_mk (st := s_times) l15 c15 k15
  have b15 := F15.binds (ps := ["self"]) fun _ _ _ _ _ _ us hl => match us, hl with | [_], _ => rfl
  have F16 := fun_mk (st := s_twin) l16 c16 k16
  have b16 := F16.binds (ps := ["self"]) fun _ _ _ _ _ _ us hl => match us, hl with | [_], _ => rfl
  have F17 := fun_mk (st := sCell) l17 c17 k17
  have b17 := F17.binds (ps := ["_law_script", "_law_k"]) fun _ _ _ _ _ _ us hl => match us, hl with | [_, _], _ => rfl
  have F18 := fun_mk (st := sBox) l18 c18 k18
  have b18 := F18.binds (ps := ["_law_cell_here"]) fun _ _ _ _ _ _ us hl => match us, hl with | [_], _ => rfl
  have F19 := fun_mk (st := sTake) l19 c19 k19
  have b19 := F19.binds (ps := ["_law_box_here", "_law_many"]) fun _ _ _ _ _ _ us hl => match us, hl with | [_, _], _ => rfl
  have F20 := fun_mk (st := s_law_names) l20 c20 k20
  have b20 := F20.binds (ps := ["_law_box_here", "_law_many"]) fun _ _ _ _ _ _ us hl => match us, hl with | [_, _], _ => rfl
  have F21 := fun_mk (st := s_law_deed) l21 c21 k21
  have b21 := F21.binds (ps := ["_law_box_here", "_law_names_here", "_law_row"]) fun _ _ _ _ _ _ us hl => match us, hl with | [_, _, _], _ => rfl
  have F22 := fun_mk (st := s_law_said) l22 c22 k22
  have b22 := F22.binds (ps := ["_law_keeper", "_law_deed_here"]) fun _ _ _ _ _ _ us hl => match us, hl with | [_, _], _ => rfl
  have F23 := fun_mk (st := s_law_done) l23 c23 k23
  have b23 := F23.binds (ps := ["_law_row", "_law_deed_here"]) fun _ _ _ _ _ _ us hl => match us, hl with | [_, _], _ => rfl
  have F24 := fun_mk (st := s_law_same) l24 c24 k24
  have b24 := F24.binds (ps := ["_law_keepers", "_law_rows"]) fun _ _ _ _ _ _ us hl => match us, hl with | [_, _], _ => rfl
  have F25 := fun_mk (st := s_law) l25 c25 k25
  have TC : KeeT K C := ⟨⟨pgC, hdC, poC, saC⟩, n0C, n1C, n2C⟩
  have ES : SeT K mg CS f1 _ sSE := ⟨PySem.W.mg_none_of X G z15, vi, PySem.W.mg_of X G aCS, ⟨gaCS, rdCS, atCS⟩, k1, F1, b1⟩
  have EH : ExC K mg "Shut" "Shut.__init__" sShut CH f2 _ := ⟨PySem.W.mg_of X G aCH, F2, b2, ⟨⟨nmCH, qCH, NCH, bsCH, _, snCH, subCH, abCH, colCH, ddCH, m0CH, m1CH, m2CH, m3CH, m5CH, xlCH, rfl⟩, saCH, exCH, tyCH, kcCH⟩, a2, (beq_iff_eq.mp i2), n0CH, PySem.W.exm_ref exCH hdCH tyCH seCH, ⟨gaCH, ggCH, exCH, hdCH⟩, ⟨icCH, gaCH, ggCH, exCH, coCH, cg, ct, moCH⟩⟩
  have EN : ExC K mg "NotShut" "NotShut.__init__" sNotShut CN f3 _ := ⟨PySem.W.mg_of X G aCN, F3, b3, ⟨⟨nmCN, qCN, NCN, bsCN, _, snCN, subCN, abCN, colCN, ddCN, m0CN, m1CN, m2CN, m3CN, m5CN, xlCN, rfl⟩, saCN, exCN, tyCN, kcCN⟩, a3, (beq_iff_eq.mp i3), n0CN, PySem.W.exm_ref exCN hdCN tyCN seCN, ⟨gaCN, ggCN, exCN, hdCN⟩, ⟨icCN, gaCN, ggCN, exCN, coCN, cg, ct, moCN⟩⟩
  have ER : ExC K mg "NoRight" "NoRight.__init__" sNoRight CR f4 _ := ⟨PySem.W.mg_of X G aCR, F4, b4, ⟨⟨nmCR, qCR, NCR, bsCR, _, snCR, subCR, abCR, colCR, ddCR, m0CR, m1CR, m2CR, m3CR, m5CR, xlCR, rfl⟩, saCR, exCR, tyCR, kcCR⟩, a4, (beq_iff_eq.mp i4), n0CR, PySem.W.exm_ref exCR hdCR tyCR seCR, ⟨gaCR, ggCR, exCR, hdCR⟩, ⟨icCR, gaCR, ggCR, exCR, coCR, cg, ct, moCR⟩⟩
  refine ⟨PySem.W.fnOf "law" "law" (defArgs s_law) (defBody s_law) (defScope s_law) .none kV25 dc25 pm25 an25 cd25 ct25, spLaw K, smN, fun s v => .of_eq rfl, ?_, ?_⟩
  · intro H a ns hn sm hS
    exact ⟨a, ns, rfl, hS, sm, hn, fun _ => rfl⟩
  · intro base kb nb
    have gis_whole : FnOk l.prog w K mg base CX0 _ f5 _ _ _ := ok_whole F5 T
    have gKeeper : FnOk l.prog w K mg base CX0 _ f6 _ _ _ := ok_init F6 TC
    have glock : FnOk l.prog w K mg base (CX l.prog w) _ f7 _ _ _ := ok_lock F7 T TC ES EH
    have glocked : FnOk l.prog w K mg base CX0 _ f8 _ _ _ := ok_locked F8 TC
    have gis_locked_by : FnOk l.prog w K mg base CX0 _ f9 _ _ _ := ok_by F9 TC ⟨F5, PySem.W.mg_of X G a5, b5⟩ gis_whole
    have gfree : FnOk l.prog w K mg base CX0 _ f10 _ _ _ := ok_free F10 TC
    have gopens : FnOk l.prog w K mg base (CX l.prog w) _ f11 _ _ _ := ok_opens F11 TC ⟨F9, ⟨a9, i9, k9⟩, b9⟩ gis_locked_by
    have gis_open : FnOk l.prog w K mg base CX0 _ f12 _ _ _ := ok_is_open F12 TC
    have gunlock : FnOk l.prog w K mg base (CX l.prog w) _ f13 _ _ _ := ok_unlock F13 TC ES EN ER ⟨F10, ⟨a10, i10, k10⟩, b10⟩ gfree
    have gended : FnOk l.prog w K mg base (CX l.prog w) _ f14 _ _ _ := ok_ended F14 TC ES EN ER ⟨F9, ⟨a9, i9, k9⟩, b9⟩ gis_locked_by ⟨F10, ⟨a10, i10, k10⟩, b10⟩ gfree
    have gtimes : FnOk l.prog w K mg base CX0 _ f15 _ _ _ := ok_times F15 TC
    have gtwin : FnOk l.prog w K mg base CX0 _ f16 _ _ _ := ok_twin F16 TC (PySem.W.mg_of X G aC) ⟨mkC, a6, i6, kcC⟩ gKeeper b6
    have glaw_cell : FnOk l.prog w K mg base CX0 _ f17 _ _ _ := ok_cell F17 T
    have glaw_box : FnOk l.prog w K mg base CX0 _ f18 _ _ _ := ok_box F18 T
    have glaw_take : FnOk l.prog w K mg base CX0 _ f19 _ _ _ := ok_take F19
    have glaw_names : FnOk l.prog w K mg base CX0 _ f20 _ _ _ := ok_names F20 T ⟨F19, PySem.W.mg_of X G a19, b19⟩ glaw_take
    have glaw_deed : FnOk l.prog w K mg base CX0 _ f21 _ _ _ := ok_deed F21 T ⟨F19, PySem.W.mg_of X G a19, b19⟩ glaw_take
    have glaw_said : FnOk l.prog w K mg base CX0 _ f22 _ _ _ := ok_said F22 T TC ES EH EN ER xNH xRH xRN ⟨F7, ⟨a7, i7, k7⟩, b7⟩ glock ⟨F11, ⟨a11, i11, k11⟩, b11⟩ gopens ⟨F14, ⟨a14, i14, k14⟩, b14⟩ gended ⟨F13, ⟨a13, i13, k13⟩, b13⟩ gunlock
    have glaw_done : FnOk l.prog w K mg base CX0 _ f23 _ _ _ := ok_done F23 T
    have glaw_same : GOk l.prog w K mg base CX0 _ f24 _ _ _ := ok_same F24 T TC ⟨F15, ⟨a15, i15, k15⟩, b15⟩ gtimes ⟨F8, ⟨a8, i8, k8⟩, b8⟩ glocked ⟨F12, ⟨a12, i12, k12⟩, b12⟩ gis_open
    exact ok_law F25 T TC (PySem.W.mg_of X G aC) ⟨mkC, a6, i6, kcC⟩ gKeeper b6 glaw_cell ⟨F17, PySem.W.mg_of X G a17, b17⟩ glaw_box ⟨F18, PySem.W.mg_of X G a18, b18⟩ glaw_take ⟨F19, PySem.W.mg_of X G a19, b19⟩ glaw_names ⟨F20, PySem.W.mg_of X G a20, b20⟩ glaw_deed ⟨F21, PySem.W.mg_of X G a21, b21⟩ glaw_said ⟨F22, PySem.W.mg_of X G a22, b22⟩ glaw_done ⟨F23, PySem.W.mg_of X G a23, b23⟩ glaw_same ⟨F24, PySem.W.mg_of X G a24, b24⟩ ⟨F16, ⟨a16, i16, k16⟩, b16⟩ gtwin
end K21

open PySem PySem.W PyProof.Rows in
set_option maxRecDepth 100000 in
set_option maxHeartbeats 0 in
theorem PySem.Challenge.cw_onestaff_k21_locks_of_staffs_holds : PySem.Challenge.rw_onestaff_k21_locks_of_staffs.Holds := by
  w_on; o_law; k_head; (case hw => w_witness2)
  k_fill
  refine Gd.walk_s (no := by first | rfl | decide +kernel) (l := PySem.Challenge.rw_onestaff_k21_locks_of_staffs) (n := 63) (k := 7) (x := "_law_script") (CX := fun _ => L2.CX0) rfl (by decide) rfl ⟨rfl, by decide, by decide⟩ (fun w h Y => PySem.W.kIn_of Y) ?F (fun _ _ _ _ _ z => z)
  case F =>
    intro w mg fa h Y KX G hmg 
    refine' K21.all_mk KX G hmg  ?QaC ?QpgC ?QhdC ?QpoC ?QsaC ?QmkC ?QkcC ?Qn0C ?Qn1C ?Qn2C ?QaCH ?QxlCH ?QsaCH ?QgaCH ?QggCH ?QkcCH ?QexCH ?QtyCH ?QhdCH ?QicCH ?QcoCH ?QmoCH ?Qn0CH ?QaCN ?QxlCN ?QsaCN ?QgaCN ?QggCN ?QkcCN ?QexCN ?QtyCN ?QhdCN ?QicCN ?QcoCN ?QmoCN ?Qn0CN ?QaCR ?QxlCR ?QsaCR ?QgaCR ?QggCR ?QkcCR ?QexCR ?QtyCR ?QhdCR ?QicCR ?QcoCR ?QmoCR ?Qn0CR ?Qa1 ?Qi1 ?Ql1 ?Qc1 ?Qk1 ?Qa2 ?Qi2 ?Ql2 ?Qc2 ?Qk2 ?Qa3 ?Qi3 ?Ql3 ?Qc3 ?Qk3 ?Qa4 ?Qi4 ?Ql4 ?Qc4 ?Qk4 ?Qa5 ?Ql5 ?Qc5 ?Qk5 ?Qa6 ?Qi6 ?Ql6 ?Qc6 ?Qk6 ?Qa7 ?Qi7 ?Ql7 ?Qc7 ?Qk7 ?Qa8 ?Qi8 ?Ql8 ?Qc8 ?Qk8 ?Qa9 ?Qi9 ?Ql9 ?Qc9 ?Qk9 ?Qa10 ?Qi10 ?Ql10 ?Qc10 ?Qk10 ?Qa11 ?Qi11 ?Ql11 ?Qc11 ?Qk11 ?Qa12 ?Qi12 ?Ql12 ?Qc12 ?Qk12 ?Qa13 ?Qi13 ?Ql13 ?Qc13 ?Qk13 ?Qa14 ?Qi14 ?Ql14 ?Qc14 ?Qk14 ?Qa15 ?Qi15 ?Ql15 ?Qc15 ?Qk15 ?Qa16 ?Qi16 ?Ql16 ?Qc16 ?Qk16 ?Qa17 ?Ql17 ?Qc17 ?Qk17 ?Qa18 ?Ql18 ?Qc18 ?Qk18 ?Qa19 ?Ql19 ?Qc19 ?Qk19 ?Qa20 ?Ql20 ?Qc20 ?Qk20 ?Qa21 ?Ql21 ?Qc21 ?Qk21 ?Qa22 ?Ql22 ?Qc22 ?Qk22 ?Qa23 ?Ql23 ?Qc23 ?Qk23 ?Qa24 ?Ql24 ?Qc24 ?Qk24 ?Qa25 ?Ql25 ?Qc25 ?Qk25 ?Qz0 ?Qz1 ?Qz2 ?Qz3 ?Qz4 ?Qz5 ?Qz6 ?Qz7 ?Qz8 ?Qz9 ?Qz10 ?Qz11 ?Qz12 ?Qz13 ?Qz14 ?Qz15 ?QaCS ?QgaCS ?QrdCS ?QatCS ?Qvi ?QxNH ?QxRH ?QxRN ?Qcg ?Qct ?QsmN
    (case QaC => k_is)
    (case QpgC => k_is)
    (case QhdC => k_is)
    (case QpoC => k_is)
    (case QsaC => k_is)
    (case QmkC => k_is)
    (case QkcC => k_is)
    (case Qn0C => k_is)
    (case Qn1C => k_is)
    (case Qn2C => k_is)
    (case QaCH => k_is)
    (case QxlCH => k_is)
    (case QsaCH => k_is)
    (case QgaCH => k_is)
    (case QggCH => k_is)
    (case QkcCH => k_is)
    (case QexCH => k_is)
    (case QtyCH => k_is)
    (case QhdCH => k_is)
    (case QicCH => k_is)
    (case QcoCH => k_is)
    (case QmoCH => k_is)
    (case Qn0CH => k_is)
    (case QaCN => k_is)
    (case QxlCN => k_is)
    (case QsaCN => k_is)
    (case QgaCN => k_is)
    (case QggCN => k_is)
    (case QkcCN => k_is)
    (case QexCN => k_is)
    (case QtyCN => k_is)
    (case QhdCN => k_is)
    (case QicCN => k_is)
    (case QcoCN => k_is)
    (case QmoCN => k_is)
    (case Qn0CN => k_is)
    (case QaCR => k_is)
    (case QxlCR => k_is)
    (case QsaCR => k_is)
    (case QgaCR => k_is)
    (case QggCR => k_is)
    (case QkcCR => k_is)
    (case QexCR => k_is)
    (case QtyCR => k_is)
    (case QhdCR => k_is)
    (case QicCR => k_is)
    (case QcoCR => k_is)
    (case QmoCR => k_is)
    (case Qn0CR => k_is)
    (case Qa1 => k_is)
    (case Qi1 => k_is)
    (case Ql1 => k_is)
    (case Qc1 => k_is)
    (case Qk1 => k_is)
    (case Qa2 => k_is)
    (case Qi2 => k_is)
    (case Ql2 => k_is)
    (case Qc2 => k_is)
    (case Qk2 => k_is)
    (case Qa3 => k_is)
    (case Qi3 => k_is)
    (case Ql3 => k_is)
    (case Qc3 => k_is)
    (case Qk3 => k_is)
    (case Qa4 => k_is)
    (case Qi4 => k_is)
    (case Ql4 => k_is)
    (case Qc4 => k_is)
    (case Qk4 => k_is)
    (case Qa5 => k_is)
    (case Ql5 => k_is)
    (case Qc5 => k_is)
    (case Qk5 => k_is)
    (case Qa6 => k_is)
    (case Qi6 => k_is)
    (case Ql6 => k_is)
    (case Qc6 => k_is)
    (case Qk6 => k_is)
    (case Qa7 => k_is)
    (case Qi7 => k_is)
    (case Ql7 => k_is)
    (case Qc7 => k_is)
    (case Qk7 => k_is)
    (case Qa8 => k_is)
    (case Qi8 => k_is)
    (case Ql8 => k_is)
    (case Qc8 => k_is)
    (case Qk8 => k_is)
    (case Qa9 => k_is)
    (case Qi9 => k_is)
    (case Ql9 => k_is)
    (case Qc9 => k_is)
    (case Qk9 => k_is)
    (case Qa10 => k_is)
    (case Qi10 => k_is)
    (case Ql10 => k_is)
    (case Qc10 => k_is)
    (case Qk10 => k_is)
    (case Qa11 => k_is)
    (case Qi11 => k_is)
    (case Ql11 => k_is)
    (case Qc11 => k_is)
    (case Qk11 => k_is)
    (case Qa12 => k_is)
    (case Qi12 => k_is)
    (case Ql12 => k_is)
    (case Qc12 => k_is)
    (case Qk12 => k_is)
    (case Qa13 => k_is)
    (case Qi13 => k_is)
    (case Ql13 => k_is)
    (case Qc13 => k_is)
    (case Qk13 => k_is)
    (case Qa14 => k_is)
    (case Qi14 => k_is)
    (case Ql14 => k_is)
    (case Qc14 => k_is)
    (case Qk14 => k_is)
    (case Qa15 => k_is)
    (case Qi15 => k_is)
    (case Ql15 => k_is)
    (case Qc15 => k_is)
    (case Qk15 => k_is)
    (case Qa16 => k_is)
    (case Qi16 => k_is)
    (case Ql16 => k_is)
    (case Qc16 => k_is)
    (case Qk16 => k_is)
    (case Qa17 => k_is)
    (case Ql17 => k_is)
    (case Qc17 => k_is)
    (case Qk17 => k_is)
    (case Qa18 => k_is)
    (case Ql18 => k_is)
    (case Qc18 => k_is)
    (case Qk18 => k_is)
    (case Qa19 => k_is)
    (case Ql19 => k_is)
    (case Qc19 => k_is)
    (case Qk19 => k_is)
    (case Qa20 => k_is)
    (case Ql20 => k_is)
    (case Qc20 => k_is)
    (case Qk20 => k_is)
    (case Qa21 => k_is)
    (case Ql21 => k_is)
    (case Qc21 => k_is)
    (case Qk21 => k_is)
    (case Qa22 => k_is)
    (case Ql22 => k_is)
    (case Qc22 => k_is)
    (case Qk22 => k_is)
    (case Qa23 => k_is)
    (case Ql23 => k_is)
    (case Qc23 => k_is)
    (case Qk23 => k_is)
    (case Qa24 => k_is)
    (case Ql24 => k_is)
    (case Qc24 => k_is)
    (case Qk24 => k_is)
    (case Qa25 => k_is)
    (case Ql25 => k_is)
    (case Qc25 => k_is)
    (case Qk25 => k_is)
    (case Qz0 => k_is)
    (case Qz1 => k_is)
    (case Qz2 => k_is)
    (case Qz3 => k_is)
    (case Qz4 => k_is)
    (case Qz5 => k_is)
    (case Qz6 => k_is)
    (case Qz7 => k_is)
    (case Qz8 => k_is)
    (case Qz9 => k_is)
    (case Qz10 => k_is)
    (case Qz11 => k_is)
    (case Qz12 => k_is)
    (case Qz13 => k_is)
    (case Qz14 => k_is)
    (case Qz15 => k_is)
    (case QaCS => k_is)
    (case QgaCS => k_is)
    (case QrdCS => k_is)
    (case QatCS => k_is)
    (case Qvi => k_is)
    (case QxNH => first | kit_is | kernel_rfl | k_is)
    (case QxRH => first | kit_is | kernel_rfl | k_is)
    (case QxRN => first | kit_is | kernel_rfl | k_is)
    (case Qcg => k_is)
    (case Qct => k_is)
    (case QsmN => first | rfl | kernel_rfl)

