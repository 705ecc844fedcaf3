import PyProof.Rows.All
import Wide.All
import OpenK.AllK
import Wide.FinOn
import PyProof.EqAt
import PyProof.EqKinds
import PyProof.TupleCall
import HandS.Base
import HandS.Call
import HandS.List
import HandS.Comp
import HandS.Ends
import HandS.Text
import HandS.Exc
import HandS.Words
import HandS.WordsList
import HandS.Iter
import HandS.Dict
import HandS.Wide
import HandS.IsInst
import HandS.AnyAll
import HandS.EndBits
import HandS.EndTab
import HandS.TryMany
import HandS.ExcOwn
import HandS.WordsExc
import HandS.ExcInit
import HandS.ExcField
import HandS.ExcIs
import KE.KExcIs
import KE.KIsAll
import PyProof.Rows.RegFStrParts
import PyProof.Rows.ReprShort
import HandS.Style
import HandS.Walk
import PySem.Challenge.RW_onestaff_k23_whole_one_right
set_option Elab.async false
set_option linter.all false
set_option maxRecDepth 100000
set_option maxHeartbeats 4000000
/-! Defs that show lists and tuples: they run where no display is under way. -/
namespace Gd
open PySem PySem.Spec PyProof.Rows L2

/-- a def's promise, kept wherever no display is under way -/
structure GOk (P : Program) (w : World) (K : PySem.W.Frag) (mg : Str → Option Value) (base : Heap) (CX : CXT) (k : Nat) (f : Addr) (fd : FuncData) (ps : List Str) (sp : Sp) : Prop where
  size : ∀ vs H Q E, sp vs H Q E → vs.length = ps.length
  go : ∀ (A : Around) (out : List Env) (s : Shared) (H : Hp) (ar : Args) (us : List Value) (vs : List V) (Q : VK) (E : XK), A.guards = some [] →
    Room k A → Env0 P w K mg base A out s H → BindsTo s fd ar (ps.zip us) → Vals vs us → sp vs H Q E →
    codeAny (model P w) A (.call (.ref f) ar) (CR CX out P w H s Q E) s

section
variable {P : Program} {w : World} {K : PySem.W.Frag} {mg : Str → Option Value} {base : Heap}

/-- by its body -/
theorem gok_body {CX : CXT} {k : Nat} {x qual : Str} {st : Stmt} {f : Addr} {fd : FuncData} {N ps : List Str} {sp : Sp} (F : Fun K x qual st f fd) (S : FnScope N ps (defScope st))
    (size : ∀ vs H Q E, sp vs H Q E → vs.length = ps.length)
    (body : ∀ (cd : Value) (A : Around) (out : List Env) (s : Shared) (H : Hp) (vs : List V) (Q : VK) (E : XK), A.guards = some [] →
      Room k (A.deeper (envOfC qual (defScope st) s.heap.objs.size f cd)) → sp vs H Q E →
      ∃ t, PSs (cxOf CX P w K mg base N qual (defScope st) f cd A out s H E) (defBody st) t ∧ t { nx := fun _ H' => Q .non H', rt := Q } (start N vs) H) :
    GOk P w K mg base CX (k + 1) f fd ps sp := by
  obtain ⟨oc, od, kV, doc, pm, an, cd, ct, osl, rfl, lk, hcd⟩ := F.ex
  refine ⟨size, fun A out s H ar us vs Q E gd hr e0 hb r hsp => ?_⟩
  have hl := size _ _ _ _ hsp
  have KX : K.In s.heap := e0.mod.kin.keeps fun b o z => (e0.bs b o z).1
  have kinds : ∀ y ∈ ps.zip us, (defScope st).names.lookup y.1 = some .local ∨
      ((defScope st).names.lookup y.1 = some .cell ∧ ((cellsFrom (s.heap.objs.size + 1) (defScope st).names []).lookup y.1).isSome = true) := by
    rintro ⟨n, v⟩ hy
    have hm := (List.of_mem_zip hy).1
    cases S.par n hm with
    | inl q => exact .inl q
    | inr q => exact .inr ⟨q, PySem.W.cellsFrom_some _ _ _ (.inl q)⟩
  have Z := PySem.W.codeRec_of KX hcd
  refine codeAny_call_function hr.depth (KX _ _ lk) rfl S.co S.gen rfl Z (hb _ _ _ _ ?_)
  refine wpAny_newFunctionEnv_cells S.kind kinds fun env he s1 ic => ?_
  subst he
  have lim : s.heap.NoLimit := e0.mod.nolimit.keeps fun b o z => (e0.bs b o z).1
  refine ⟨lim.keeps ic.toInCall.keep, codeAny_func ?_⟩
  obtain ⟨t, ht, hq⟩ := body cd A out s H vs Q E gd (hr.deeper _) hsp
  have I := inv_start (CX := CX) (E := E) S hr.hd e0 hl r ic
  refine wpAny_mono (ht.run [] s1 (start N vs) H _ I hq) ?_ (fun _ _ z => z)
  intro fl s' hs
  cases fl with
  | brk => obtain ⟨_, _, _, q⟩ := hs; exact q.elim
  | cont => obtain ⟨_, _, _, q⟩ := hs; exact q.elim
  | next =>
    obtain ⟨σ', H', J, q⟩ := hs
    exact ⟨V.non, H', J.os, J.bare, J.base, J.hok, rfl, q⟩
  | ret u =>
    obtain ⟨v, σ', H', J, rv, q⟩ := hs
    exact ⟨v, H', J.os, J.bare, J.base, J.hok, rv, q⟩
/-- the same where nothing is raised -/
theorem gok {k : Nat} {x qual : Str} {st : Stmt} {f : Addr} {fd : FuncData} {N ps : List Str} {sp : Sp} (F : Fun K x qual st f fd) (S : FnScope N ps (defScope st))
    (size : ∀ vs H Q E, sp vs H Q E → vs.length = ps.length)
    (body : ∀ (cd : Value) (A : Around) (out : List Env) (s : Shared) (H : Hp) (vs : List V) (Q : VK) (E : XK), A.guards = some [] →
      Room k (A.deeper (envOfC qual (defScope st) s.heap.objs.size f cd)) → sp vs H Q E →
      ∃ t, PSs (cxOf CX0 P w K mg base N qual (defScope st) f cd A out s H E).nox (defBody st) t ∧ t { nx := fun _ H' => Q .non H', rt := Q } (start N vs) H) :
    GOk P w K mg base CX0 (k + 1) f fd ps sp := by
  refine gok_body F S size fun cd A out s H vs Q E gd hr q => ?_
  obtain ⟨t, h, z⟩ := body cd A out s H vs Q E gd hr q
  exact ⟨t, h.nox, z⟩
theorem GOk.mono {CX : CXT} {j k : Nat} {f : Addr} {fd : FuncData} {ps : List Str} {sp : Sp} (F : GOk P w K mg base CX j f fd ps sp) (h : j ≤ k) : GOk P w K mg base CX k f fd ps sp :=
  ⟨F.size, fun A out s H ar us vs Q E gd hr => F.go A out s H ar us vs Q E gd (hr.mono h)⟩
theorem gok_of {CX : CXT} {k : Nat} {f : Addr} {fd : FuncData} {ps : List Str} {sp : Sp} (F : FnOk P w K mg base CX k f fd ps sp) : GOk P w K mg base CX k f fd ps sp :=
  ⟨F.len, fun A out s H ar us vs Q E _ hr => F.run A out s H ar us vs Q E hr⟩
end

section
variable {X : Cx} {CX : CXT} {k : Nat} {f : Addr} {fd : FuncData} {ps : List Str} {sp : Sp} {dvs : List V} {ds : List Value} {E : XK} {x : Str} {p pos : Pos} {e : Expr} {es : List Expr} {t : TA}
/-- f(e, ..), f such a def, from a body of such a def -/
theorem pe_gcall (gd : X.A.guards = some []) (F : GOk X.prog X.w X.K X.mg X.base CX k f fd ps sp) (hr : Room k X.A) (hg : Gl X x) (hm : X.mg x = some (.ref f)) (hk : PySem.W.keepIn X.K (.ref f) = true)
    (hb : Binds X.K fd ps ds) (hd : Vals dvs ds) (hx : Passes CX X E) (ha : PA X (e :: es) t) (hdb : (x == ("__debug__" : Str)) = false := by decide)
    (he : starEach (e :: es) X.env = (false, eval e X.env) :: starEach es X.env := by rfl) (hpl : (backTo pos (starEach es X.env)).any (·.1) = false := by rfl) :
    PE X (.Call (.Name x p) (e :: es) [] pos) (tCall sp dvs E t) := by
  refine ⟨fun pins s σ H Q I h => wpAny_Call_Name_kw (ld_glob I hg hm ?_ hdb)⟩
  have A1 := ha.run pos pins s σ H _ I h
  refine PySem.W.callWith_K (h₀ := X.base) I.ok.mod.kin hk (thn A1 ?_) he hpl
  rintro us s1 ⟨vs, H1, I1, r, q⟩
  refine ⟨I1.kIn, ?_⟩
  have both := r.append hd
  have hl : (us ++ ds).length = ps.length := (both.length).symm.trans (F.size _ _ _ _ q)
  have run1 := F.go X.A X.stack s1 H1 ⟨us, []⟩ (us ++ ds) (vs ++ dvs) Q E gd hr I1.env0 (hb s1 us I1.kIn hl) both q
  refine wpAny_call (codeAny_mono run1 ?_)
  intro res s' hq
  match res, hq with
  | .error e, hq => exact hx pins σ H1 s1 e s' I1 hq
  | .ok (.ret u), hq => exact I1.after hq
  | .ok .next, hq => exact hq.elim
  | .ok .brk, hq => exact hq.elim
  | .ok .cont, hq => exact hq.elim

/-! ### repr of data -/
mutual
theorem dp_noDict {K : PySem.W.Frag} {H : Hp} : ∀ {v : V} {d : PyData}, Dp K H v d → d.hasDict = false
  | _, _, .non => by simp only [PyData.hasDict]
  | _, _, .bl _ => by simp only [PyData.hasDict]
  | _, _, .int _ => by simp only [PyData.hasDict]
  | _, _, .str _ => by simp only [PyData.hasDict]
  | _, _, .lst _ h => by simp only [PyData.hasDict]; exact dpAll_noDict h
  | _, _, .tup _ h => by simp only [PyData.hasDict]; exact dpAll_noDict h
theorem dpAll_noDict {K : PySem.W.Frag} {H : Hp} : ∀ {vs : List V} {ds : List PyData}, DpAll K H vs ds → PyData.hasDictAll ds = false
  | _, _, .nil => by simp only [PyData.hasDictAll]
  | _, _, .cons h t => by simp only [PyData.hasDictAll, dp_noDict h, dpAll_noDict t, Bool.or_self]
end
/-- repr(v), v some data d -/
def rRepr (K : PySem.W.Frag) : List V → Hp → VK → Prop := fun xs H Q => ∃ v d, xs = [v] ∧ Dp K H v d ∧ d.showable = true ∧ d.depth ≤ 100 ∧ d.shown.length ≤ sizeLine ∧ Q (.str d.shown) H
theorem call_repr (gd : X.A.guards = some []) (hr : Room k X.A) : CallR X (.builtin "repr") (rRepr X.K) := by
  intro pins s σ H xs us Q I r h
  obtain ⟨v, d, rfl, dp, hs, hdep, hsz, q⟩ := h
  cases r with
  | cons rv rn =>
    cases rn
    have hun := hr.un
    cases dp with
    | non =>
      cases rv
      refine PySem.P.repr_of_none ⟨.str _, H, I.tok _, ⟨_, rfl⟩, ?_⟩
      simpa only [PyData.shown] using q
    | bl b =>
      cases rv
      refine PySem.P.repr_of_bool ⟨.str _, H, I.tok _, ⟨_, rfl⟩, ?_⟩
      simpa only [PyData.shown] using q
    | int i =>
      obtain ⟨t, rfl⟩ := rv
      refine PySem.P.repr_of_int (by simpa [PyData.showable] using hs) ⟨.str _, H, I.tok _, ⟨_, rfl⟩, ?_⟩
      simpa only [PyData.shown] using q
    | str z =>
      obtain ⟨t, rfl⟩ := rv
      refine PySem.P.repr_of_str ⟨.str _, H, I.tok _, ⟨_, rfl⟩, ?_⟩ (by simpa only [PyData.shown] using hsz)
      simpa only [PyData.shown] using q
    | lst hl ha =>
      cases rv
      obtain ⟨as, rd⟩ := Dp.reads I _ _ _ (.lst hl ha) rfl
      refine repr_of_reads' rd hs (PyData.noDict_hsm (dp_noDict (.lst hl ha))) gd (by omega) (fun _ _ z => z) (fun h' u tk hk => ?_) hsz
      exact ⟨.str _, H, I.kept hk, ⟨_, rfl⟩, q⟩
    | tup hl ha =>
      cases rv
      obtain ⟨as, rd⟩ := Dp.reads I _ _ _ (.tup hl ha) rfl
      refine repr_of_reads' rd hs (PyData.noDict_hsm (dp_noDict (.tup hl ha))) gd (by omega) (fun _ _ z => z) (fun h' u tk hk => ?_) hsz
      exact ⟨.str _, H, I.kept hk, ⟨_, rfl⟩, q⟩
end
end Gd

set_option maxRecDepth 100000
set_option maxHeartbeats 4000000
/-! The end of a law whose own def shows data: no display is under way at its call. -/
namespace Gd
open PySem PySem.Spec PyProof.Rows L2 GxR

/-- the script's own object -/
def scriptO (vs : List Value) : Obj := { cls := .type "list", data := .seq vs.toArray }
def tabO : Obj := { cls := .none, data := .fields #[] }
open Classical in
/-- what is tracked at the law's call: the script (where the written part hasn't it), the tables -/
noncomputable def h0 (K : PySem.W.Frag) (a : Addr) (vs : List Value) (ns : List Int) (T : List Addr) : Hp := fun b =>
  if b = a ∧ K.lookup a = none then some (.frz (scriptO vs) (.lst (ns.map V.int))) else if b ∈ T then some (.tbl #[]) else none

theorem h0_inv {K : PySem.W.Frag} {a b : Addr} {vs : List Value} {ns : List Int} {T : List Addr} {u : HO} (h : h0 K a vs ns T b = some u) :
    (b = a ∧ K.lookup a = none ∧ u = .frz (scriptO vs) (.lst (ns.map V.int))) ∨ (b ∈ T ∧ u = .tbl #[]) := by
  unfold h0 at h
  by_cases c1 : b = a ∧ K.lookup a = none
  · rw [if_pos c1] at h
    exact .inl ⟨c1.1, c1.2, (Option.some.inj h).symm⟩
  · rw [if_neg c1] at h
    by_cases c2 : b ∈ T
    · rw [if_pos c2] at h
      exact .inr ⟨c2, (Option.some.inj h).symm⟩
    · rw [if_neg c2] at h
      cases h

section
variable {P : Program} {w : World} {K : PySem.W.Frag} {mg mb : Str → Option Value} {CX : CXT} {k : Nat} {fa a : Addr} {cs : List (Addr × Addr)} {fd : FuncData} {x : Str} {sp : Sp} {s1 : Shared} {vs : List Value} {ns : List Int}
theorem law_gcall (KX : K.In s1.heap) (nsG : s1.heap.Ns mainGlobals mg) (nsB : s1.heap.Ns builtinsNs mb) (isB : ∀ x : Str, x ≠ "__name__" → mb x = bootBuiltins x) (lim : s1.heap.NoLimit) (gens : s1.gens = #[])
    (tabs : ∀ p ∈ cs, s1.heap.get? p.2 = some tabO) (tabK : ∀ p ∈ cs, K.lookup p.2 = none) (codes : ∀ p ∈ cs, PySem.W.CodeHd s1.heap p.1 p.2)
    (bmain : ∃ (bm : Addr) (ob : Obj), mg "__builtins__" = some (.ref bm) ∧ bm ≠ builtinsNs ∧ s1.heap.get? bm = some ob ∧ ob.cls = .type "module" ∧ ob.dict = some builtinsNs ∧ ob.data = .plain)
    (ha : s1.heap.get? a = some (scriptO vs)) (hi : IntsAre vs ns) (hl : ns.length ≤ sizeLine) (hr : Room k callerA)
    (F : ∀ base : Heap, K.In base → base.Ns mainGlobals mg → (∀ p ∈ cs, TabB base mg p.1 p.2) → GOk P w K mg base CX k fa fd [x] sp)
    (hbind : ∀ (s : Shared) (u : Value), BindsTo s fd ⟨[u], []⟩ [(x, u)])
    (hsp : ∀ H : Hp, (∀ p ∈ cs, H p.2 = some (.tbl #[])) → SqL K H a (ns.map V.int) → sp [.ref a] H (fun v _ => v = .bl true) fun _ _ _ => False)
    (hCX : ∀ H e s', CX [] H s1 (fun _ _ _ => False) e s' → False) :
    codeAny (model P w) callerA (.call (.ref fa) ⟨[.ref a], []⟩) (fun r s' => r = .ok (.ret (.bool true)) ∧ OldK s1.heap s'.heap ∧ s'.os = s1.os ∧ AllBare s'.gens) s1 := by
  have rv := vals_ints hi
  have hlen := hi.length
  let T := cs.map Prod.snd
  have inT : ∀ p ∈ cs, p.2 ∈ T := fun p hp => List.mem_map.mpr ⟨p, hp, rfl⟩
  have ofT : ∀ b ∈ T, s1.heap.get? b = some tabO ∧ K.lookup b = none := by
    intro b hb
    obtain ⟨p, hp, rfl⟩ := List.mem_map.mp hb
    exact ⟨tabs p hp, tabK p hp⟩
  have neT : a ∉ T := fun z => by
    have q := (ofT a z).1
    rw [ha] at q
    cases q
  let H := h0 K a vs ns T
  -- a tracked object is the script or a table
  have seen : ∀ {b : Addr} {o : Obj}, s1.heap.get? b = some o → (∀ us n, o.data ≠ .seq us n) → o.data ≠ .fields #[] → H b = none := by
    intro b o e n1 n2
    cases q : H b with
    | none => rfl
    | some u =>
      exfalso
      rcases h0_inv q with ⟨rfl, _, _⟩ | ⟨hb, _⟩
      · rw [ha] at e
        cases e
        exact n1 _ _ rfl
      · rw [(ofT b hb).1] at e
        cases e
        exact n2 rfl
  have keepHid : ∀ {b : Addr} {o : Obj}, s1.heap.get? b = some o → H b = none → (hidT s1.heap H).get? b = some o := fun e n => hidT_get e n
  have dictHid : ∀ {b : Addr} {o : Obj} {es : Array DictEntry} {ep : Nat}, s1.heap.get? b = some o → o.data = .dict es ep → (hidT s1.heap H).get? b = some o := by
    intro b o es ep e d
    refine keepHid e (seen e (fun us n z => ?_) fun z => ?_) <;> (rw [d] at z; cases z)
  have nsHid : ∀ {b : Addr} {m : Str → Option Value}, s1.heap.Ns b m → (hidT s1.heap H).Ns b m := by
    rintro b m ⟨o, es, ep, e, d, rest⟩
    exact ⟨o, es, ep, dictHid e d, d, rest⟩
  have KH : K.In (hidT s1.heap H) := by
    intro b o e
    refine keepHid (KX b o e) ?_
    cases q : H b with
    | none => rfl
    | some u =>
      exfalso
      rcases h0_inv q with ⟨rfl, z, _⟩ | ⟨hb, _⟩
      · rw [z] at e
        cases e
      · rw [(ofT b hb).2] at e
        cases e
  have limH : (hidT s1.heap H).NoLimit := by
    obtain ⟨mc, h1, h2⟩ := lim
    exact ⟨mc, nsHid h1, h2⟩
  have M : L2.Mod K mg (hidT s1.heap H) := ⟨KH, nsHid nsG, ⟨mb, nsHid nsB, isB⟩, limH⟩
  have TB : ∀ p ∈ cs, TabB (hidT s1.heap H) mg p.1 p.2 := by
    intro p hp
    have tp := tabs p hp
    refine ⟨?_, ?_, ?_⟩
    · obtain ⟨o, us, file, tf, flags, tg, inF, text, tt, e1, r1, r2, r3, rest⟩ := codes p hp
      refine ⟨o, us, file, tf, flags, tg, inF, text, tt, keepHid e1 (seen e1 (fun vs n z => ?_) fun z => ?_), r1, r2, r3, rest⟩
      · rw [r2] at z
        cases z
      · rw [r2] at z
        cases z
        simp at r3
    · obtain ⟨bm, ob, b1, b2, b3, b4, b5, b6⟩ := bmain
      have g1 : bm ≠ mainGlobals := by
        rintro rfl
        obtain ⟨o, es, ep, e, d, _⟩ := nsG
        rw [b3] at e
        cases e
        rw [b6] at d
        cases d
      have g2 : bm ≠ p.2 := by
        rintro rfl
        rw [tp] at b3
        cases b3
        cases b6
      refine ⟨bm, ob, b1, b2, g1, g2, keepHid b3 (seen b3 (fun vs n z => ?_) fun z => ?_), b4, b5, b6⟩ <;> (rw [b6] at z; cases z)
    · intro z
      obtain ⟨o, es, ep, e, d, _⟩ := nsG
      rw [z, tp] at e
      cases e
      cases d
  have hH : ∀ p ∈ cs, H p.2 = some (.tbl #[]) := by
    intro p hp
    have n1 : ¬ (p.2 = a ∧ K.lookup a = none) := fun z => neT (z.1 ▸ inT p hp)
    exact (if_neg n1).trans (if_pos (inT p hp))
  have hS : SqL K H a (ns.map V.int) := by
    cases q : K.lookup a with
    | none => exact .inl (.inr ⟨scriptO vs, if_pos ⟨rfl, q⟩⟩)
    | some o =>
      have e := KX a o q
      rw [ha] at e
      cases e
      exact .inr ⟨_, vs.toArray, _, q, rfl, rfl, rfl, by rw [List.size_toArray, hlen]; exact hl, by simpa using rv⟩
  have hok : HOk P w H s1.heap := by
    intro b u q
    rcases h0_inv q with ⟨rfl, _, rfl⟩ | ⟨hb, rfl⟩
    · exact ⟨ha, by rw [List.length_map]; exact hl, vs, _, rv, ha⟩
    · exact (ofT b hb).1
  have e0 : Env0 P w K mg (hidT s1.heap H) callerA [] s1 H :=
    ⟨rfl, M, fun b o e => of_hidT e, Nat.le_of_eq (hidT_size _ _), trivial, (fun b hb => by cases (show b ∈ ([] : List Addr) from hb)), hok, .of_eq gens⟩
  have run := (F _ KH (nsHid nsG) TB).go callerA [] s1 H ⟨[.ref a], []⟩ [.ref a] [.ref a] (fun v _ => v = .bl true) (fun _ _ _ => False) rfl hr e0 (hbind s1 (.ref a)) (.cons rfl .nil) (hsp H hH hS)
  refine codeAny_mono run ?_
  intro r s' h
  match r, h with
  | .error e, h => exact (hCX H e s' h).elim
  | .ok .next, h => exact h.elim
  | .ok .brk, h => exact h.elim
  | .ok .cont, h => exact h.elim
  | .ok (.ret u), h =>
    obtain ⟨v, H', os, bare, un, hok', r', q⟩ := h
    obtain rfl : v = .bl true := q
    obtain rfl : u = Value.bool true := r'
    have plain : ∀ b o, b ∉ T → s1.heap.get? b = some o → s'.heap.get? b = some o := by
      intro b o nb e
      cases q : H b with
      | none => exact un.keep b o e q (fun z => by cases (show b ∈ ([] : List Addr) from z)) (by simp)
      | some y =>
        rcases h0_inv q with ⟨rfl, _, rfl⟩ | ⟨hb, _⟩
        · obtain ⟨e2, _⟩ := hok' b _ (un.frzs b _ _ q)
          rw [ha] at e
          cases e
          exact e2
        · exact absurd hb nb
    have grown : ∀ p ∈ cs, ∃ more : Array Value, s'.heap.get? p.2 = some { cls := .none, data := .fields more } := by
      intro p hp
      obtain ⟨more, z⟩ := un.tbls p.2 #[] (hH p hp)
      exact ⟨_, hok' p.2 _ z⟩
    refine ⟨rfl, ⟨fun b o e => ?_, fun b o e => ?_⟩, os, bare⟩ <;> by_cases hb : b ∈ T
    · obtain ⟨p, hp, rfl⟩ := List.mem_map.mp hb
      obtain ⟨more, hm⟩ := grown p hp
      rw [tabs p hp] at e
      cases e
      exact .inr (.inl ⟨((codes p hp).tab (tabs p hp)).isCodeTable, rfl, #[], more, rfl, by rw [Array.empty_append]; exact hm⟩)
    · exact .inl (plain b o hb e)
    · obtain ⟨p, hp, rfl⟩ := List.mem_map.mp hb
      obtain ⟨more, hm⟩ := grown p hp
      exact ⟨_, hm⟩
    · exact ⟨o, plain b o hb e⟩
end

/-- the tables of the text's own defs are empty behind the top -/
def Empt (q : Program) (K : PySem.W.Frag) (h : Heap) : Prop := ∀ (x : Str) (f c t : Addr) (o : Obj) (fd : FuncData) (e : Value) (dd : Option Addr) (us : Array Value) (sl : Array (Option Value)),
  ((PyProof.Rows.recsOf q).any fun r => r.name == x) = true → PySem.W.nsIn K mainGlobals x = some (some (.ref f)) → K.lookup f = some o → o.data = .func fd → fd.code = .ref c →
  K.lookup c = some ⟨e, dd, .fields us, sl⟩ → us[11]? = some (.ref t) → PySem.W.CodeHd h c t ∧ h.get? t = some tabO
/-- what is to be known of the law at the head's heap -/
def GLaw (l : PySem.W.OpenLaw) (w : World) (K : PySem.W.Frag) (CX : CXT) (k n : Nat) (x : Str) (mg : Str → Option Value) (fa : Addr) (h : Heap) : Prop :=
  ∃ (fd : FuncData) (cs : List (Addr × Addr)) (sp : Sp), (∀ p ∈ cs, h.get? p.2 = some tabO) ∧ (∀ p ∈ cs, K.lookup p.2 = none) ∧ (∀ p ∈ cs, PySem.W.CodeHd h p.1 p.2) ∧
    (∀ (s : Shared) (u : Value), BindsTo s fd ⟨[u], []⟩ [(x, u)]) ∧
    (∀ (H : Hp) (a : Addr) (ns : List Int), ns.length ≤ n → (∀ z ∈ ns, Builtin.Int.intBits z ≤ 1048576) → (∀ p ∈ cs, H p.2 = some (.tbl #[])) → SqL K H a (ns.map V.int) →
      sp [.ref a] H (fun v _ => v = .bl true) fun _ _ _ => False) ∧
    ∀ base : Heap, K.In base → base.Ns mainGlobals mg → (∀ p ∈ cs, TabB base mg p.1 p.2) → GOk l.prog w K mg base CX k fa fd [x] sp
theorem walk_g {l : PySem.W.OpenLaw} {n k : Nat} {q : Program} {loose : List Str} {XP : (Str → Option Value) → Heap → Prop} {YP : World → Heap → Prop} {d : DefRec} {K : Params → PySem.W.Frag} {CX : World → CXT} {x : Str}
    (hn : l.most = some n) (small : n ≤ sizeLine) (hdf : d.params.defaults = []) (hr : Room k callerA) (hY : ∀ (w : World) (h : Heap), YP w h → (K w.params).In h)
    (F : ∀ (w : World) (mg : Str → Option Value) (fa : Addr) (h : Heap), YP w h → (K w.params).In h → h.Ns mainGlobals mg → mg d.name = some (.ref fa) → Empt q (K w.params) h → GLaw l w (K w.params) (CX w) k n x mg fa h)
    (hCX : ∀ (w : World) (H : Hp) (s : Shared) (e : Value) (s' : Shared), CX w [] H s (fun _ _ _ => False) e s' → False) :
    PySem.W.WalkO q loose XP YP l.row.toRowW d [] (fun f vs => PySem.call f vs) := by
  refine Att.attach_callB hn hdf ?_
  intro w sA s1 mg mb fa o pm cd doc a vs ns G Y ho hd hcd hmg hobj hints hlen hbits hg
  have KX := hY w _ Y
  have em : Empt q (K w.params) s1.heap := by
    intro x f c t o1 fd1 e dd us sl hx k1 k2 k3 k4 k5 k6
    obtain ⟨r, hr1, hr2⟩ := List.any_eq_true.mp hx
    have hn1 : r.name = x := beq_iff_eq.mp hr2
    obtain ⟨a1, o2, fd2, c2, t2, y1, y2, y3, y4, y5, y6⟩ := G.T.tab r hr1
    have z1 := PySem.W.mg_of KX G.T.g k1
    rw [hn1, z1] at y1
    cases y1
    have z2 := KX _ _ k2
    rw [z2] at y2
    cases y2
    rw [k3] at y3
    cases y3
    rw [k4] at y4
    cases y4
    have y6b := y6
    obtain ⟨⟨oc, vc, e1, e2, e3, e4⟩, hP⟩ := y6b
    have z5 := KX _ _ k5
    rw [z5] at e1
    cases e1
    cases e3
    rw [k6] at e4
    cases e4
    exact ⟨PySem.W.CodeHd.of y5 y6, hP⟩
  obtain ⟨fd, cs, sp, t1, t2, t3, hb, hsp, hF⟩ := F w mg fa _ Y KX G.T.g hmg em
  exact law_gcall KX G.T.g G.T.b G.T.builtins G.T.nolimit hg t1 t2 t3 G.T.bmain hobj hints (Nat.le_trans hlen small) hr hF hb (fun H a1 a2 => hsp H a ns hlen hbits a1 a2) (fun H e s' => hCX w H s1 e s')
end Gd

set_option maxRecDepth 100000
set_option maxHeartbeats 4000000
/-! Things, boxes, texts: what the laws share, over no program. -/
namespace My
open PySem PySem.Spec PyProof.Rows L2 GxR Gd TL
/-! ### things -/
def Good (z : Str) : Prop := ∀ c ∈ z.cps.toList, c < 1114112
inductive Th (H : Hp) : V → Prop
  | non : Th H .non
  | bl (b : Bool) : Th H (.bl b)
  | int (i : Int) : Th H (.int i)
  | str (z : Str) (h : z.length ≤ 1000000) (g : Good z) : Th H (.str z)
  | lst (a : Addr) (xs : List V) (h : H a = some (.lst xs)) : Th H (.ref a)
  | tup (a : Addr) (xs : List V) (h : H a = some (.tup xs)) : Th H (.ref a)
  | dic (a : Addr) {kvs : List (Key × V)} (h : H a = some (.dK kvs)) : Th H (.ref a)
def lc (c : Nat) : Bool := decide (97 ≤ c) && decide (c ≤ 122)
def nm : V → Bool
  | .str z => decide (1 ≤ z.length) && decide (z.length ≤ 6) && z.cps.toList.all lc
  | _ => false
def wh (lo hi : Int) : V → Bool
  | .int i => decide (lo ≤ i) && decide (i ≤ hi)
  | _ => false
/-- its kind -/
theorem Th.ty {K : PySem.W.Frag} {H : Hp} {v : V} (h : Th H v) : ∃ t, TyX K H v (.type t) ∧
    ((∃ i, v = .int i ∧ t = "int") ∨ (∃ b, v = .bl b ∧ t = "bool") ∨ (∃ z, v = .str z ∧ (z.length ≤ 1000000 ∧ Good z) ∧ t = "str") ∨
     ((∀ i, v ≠ .int i) ∧ (∀ b, v ≠ .bl b) ∧ (∀ z, v ≠ .str z) ∧ (t = "NoneType" ∨ t = "list" ∨ t = "tuple" ∨ t = "dict"))) := by
  cases h with
  | non => exact ⟨_, .base .non, .inr (.inr (.inr ⟨by simp, by simp, by simp, .inl rfl⟩))⟩
  | bl b => exact ⟨_, .base (.bl b), .inr (.inl ⟨b, rfl, rfl⟩)⟩
  | int i => exact ⟨_, .base (.int i), .inl ⟨i, rfl, rfl⟩⟩
  | str z h g => exact ⟨_, .base (.str z), .inr (.inr (.inl ⟨z, rfl, ⟨h, g⟩, rfl⟩))⟩
  | lst a xs h => exact ⟨_, .base (.lst h), .inr (.inr (.inr ⟨by simp, by simp, by simp, .inr (.inl rfl)⟩))⟩
  | tup a xs h => exact ⟨_, .base (.tup h), .inr (.inr (.inr ⟨by simp, by simp, by simp, .inr (.inr (.inl rfl))⟩))⟩
  | dic a h => exact ⟨_, .base (.dK h), .inr (.inr (.inr ⟨by simp, by simp, by simp, .inr (.inr (.inr rfl))⟩))⟩
/-- all but the table stays -/
structure KT (P : Addr) (H H' : Hp) : Prop where
  keep : ∀ c o, c ≠ P → H c = some o → H' c = some o
  tab : TabG H' P
theorem TabG.at {H : Hp} {P : Addr} (t : TabG H P) : ∃ ps, H P = some (.tbl ps) := let ⟨ps, h, _⟩ := t; ⟨ps, h⟩
theorem ne_tab {H : Hp} {P a : Addr} {o : HO} (t : TabG H P) (h : H a = some o) (n : ∀ ps, o ≠ .tbl ps) : a ≠ P := by
  rintro rfl
  obtain ⟨ps, e⟩ := TabG.at t
  rw [h] at e
  exact n ps (Option.some.inj e)
theorem KT.refl {P : Addr} {H : Hp} (t : TabG H P) : KT P H H := ⟨fun _ _ _ h => h, t⟩
theorem KT.trans {P : Addr} {H H1 H2 : Hp} (a : KT P H H1) (b : KT P H1 H2) : KT P H H2 := ⟨fun c o n h => b.keep c o n (a.keep c o n h), b.tab⟩
theorem KT.of {P : Addr} {H H' : Hp} (t : Tabbed P H H') : KT P H H' := ⟨fun c o n h => by rw [t.2 c n]; exact h, t.1⟩
theorem KT.alloc {P p : Addr} {H : Hp} {o : HO} (t : TabG H P) (n : H p = none) : KT P H (upd H p o) := by
  obtain ⟨ps, e, ht⟩ := t
  refine ⟨fun c q _ h => by rw [upd_ne (ne_of_none h n)]; exact h, ps, by rw [upd_ne (ne_of_none e n)]; exact e, ht⟩
theorem Th.kt {P : Addr} {H H' : Hp} (t : TabG H P) (k : KT P H H') {v : V} (h : Th H v) : Th H' v := by
  cases h with
  | non => exact .non
  | bl b => exact .bl b
  | int i => exact .int i
  | str z h g => exact .str z h g
  | lst a xs h => exact .lst a xs (k.keep _ _ (ne_tab t h (by simp)) h)
  | tup a xs h => exact .tup a xs (k.keep _ _ (ne_tab t h (by simp)) h)
  | dic a h => exact .dic a (k.keep _ _ (ne_tab t h (by simp)) h)

theorem elt_between {prog : Program} {w : World} {scope : Scope} {x a b : Str} {j1 j2 : Nat} {p1 p2 p3 p4 : Pos} (hk : scope.kind = .function) (hl : scope.names.lookup x = some .local)
    (hd : (x == ("__debug__" : Str)) = false := by decide) :
    EltP prog w scope x (.Compare (.Constant (.str a) j1 p1) [.LtE, .LtE] [.Name x p2, .Constant (.str b) j2 p3] p4) (fun c => !decide ([c] < a.cps.toList) && !decide (b.cps.toList < [c])) := by
  intro cenv A' E' c t s2 m2 hs hn hm
  refine Compare_chain ?_ (by with_unfolding_all rfl)
  refine Calls.Constant_str (chain_link ?_)
  refine wpAny_Name (wpAny_loadName_local (by rw [hs]; exact hk) (show cenv.scope.names.lookup x = some .local by rw [hs]; exact hl) hn hm ?_) hd
  refine PySem.P.le_str ?_
  refine wpAny_truthy_bool ?_
  cases q : decide ([c] < a.cps.toList) with
  | true =>
    refine ite_ff ⟨?_, keeps_tok _ _⟩
    have q' : decide ((⟨#[c]⟩ : Str).cps.toList < a.cps.toList) = true := q
    simp [q']
  | false =>
    refine ite_tt (chain_last ?_)
    refine Calls.Constant_str ?_
    refine PySem.P.le_str ⟨?_, keeps_tok _ _⟩
    have q2 : ¬ [c] < a.cps.toList := of_decide_eq_false q
    simp [List.not_lt.mp q2]
def genSc : Scope := { kind := ScopeKind.function, names := [(Str.ofString ".0", NameKind.local), (Str.ofString "sign", NameKind.local)], isGenerator := true, isCoroutine := false }
theorem no_free : ∀ y ∈ genSc.names, y.2 ≠ NameKind.free := by decide +kernel
theorem one_lt (c d : Nat) : [c] < [d] ↔ c < d := by
  rw [List.cons_lt_cons_iff]
  constructor
  · rintro (h | ⟨_, h⟩)
    · exact h
    · exact absurd h (List.not_lt_nil _)
  · exact .inl
theorem lc_eq (c : Nat) : (!decide ([c] < [97]) && !decide ([122] < [c])) = lc c := by
  unfold lc
  rw [Bool.eq_iff_iff]
  simp only [Bool.and_eq_true, Bool.not_eq_true', decide_eq_false_iff_not, decide_eq_true_eq, one_lt]
  omega
/-! ### the box -/
def Bx (b : Addr) (n : Int) (H : Hp) : Prop := ∃ x y z : Int, H b = some (.lst [.int x, .int y, .int z]) ∧ 0 ≤ x ∧ 0 ≤ y ∧ y < 2147483629 ∧ 0 ≤ z ∧ z ≤ n
theorem Bx.same {b : Addr} {n : Int} {H H' : Hp} (h : Bx b n H) (e : H' b = H b) : Bx b n H' := by
  obtain ⟨x, y, z, h1, r⟩ := h
  exact ⟨x, y, z, e.trans h1, r⟩
theorem Bx.mono {b : Addr} {n m : Int} {H : Hp} (h : Bx b n H) (e : n ≤ m) : Bx b m H := by
  obtain ⟨x, y, z, h1, h2, h3, h4, h5, h6⟩ := h
  exact ⟨x, y, z, h1, h2, h3, h4, h5, by omega⟩
theorem i0 (a b c : V) : atI [a, b, c] 0 = some a := rfl
theorem i1 (a b c : V) : atI [a, b, c] 1 = some b := rfl
theorem i2 (a b c : V) : atI [a, b, c] 2 = some c := rfl
theorem j0 : ixN 3 0 = some 0 := rfl
theorem j2 : ixN 3 2 = some 2 := rfl
/-! ### lists and texts -/
theorem atI_ex {α : Type} {xs : List α} {d : Int} (h0 : 0 ≤ d) (h1 : d < xs.length) : ∃ v, v ∈ xs ∧ atI xs d = some v := by
  obtain ⟨j, rfl⟩ := Int.eq_ofNat_of_zero_le h0
  have hj : j < xs.length := by omega
  exact ⟨xs[j], List.getElem_mem hj, atI_nat (List.getElem?_eq_getElem hj)⟩
theorem joinL_len (S : List Nat) : ∀ ps : List (List Nat), (joinL S ps).length ≤ (ps.map List.length).sum + ps.length * S.length
  | [] => by simp [joinL]
  | [p] => by simp [joinL]
  | p :: q :: r => by
    have ih := joinL_len S (q :: r)
    have e : joinL S (p :: q :: r) = p ++ (S ++ joinL S (q :: r)) := rfl
    rw [e, List.length_append, List.length_append, List.map_cons, List.sum_cons, List.length_cons, Nat.succ_mul]
    omega
theorem tl_len (z : Str) : (tl z).length = z.length := by
  show z.cps.toList.length = z.cps.size
  simp
theorem join_len (y : Str) (ps : List Str) : (Txt.join y ps).length ≤ (ps.map (·.length)).sum + ps.length * y.length := by
  have h := joinL_len (tl y) (ps.map tl)
  rw [← tl_len, join_eq, tl_join]
  have e : (ps.map tl).map List.length = ps.map (·.length) := by
    rw [List.map_map]
    exact List.map_congr_left fun z _ => tl_len z
  rw [e, List.length_map, tl_len] at h
  exact h
theorem sum_ones (ps : List Str) (h : ∀ z ∈ ps, z.length ≤ 1) : (ps.map (·.length)).sum ≤ ps.length := by
  induction ps with
  | nil => simp
  | cons a r ih =>
    have h1 := h a List.mem_cons_self
    have h2 := ih fun z hz => h z (List.mem_cons_of_mem _ hz)
    simp only [List.map_cons, List.sum_cons, List.length_cons]
    omega
theorem lcY {A : TE} {σ : L2.St} {H : Hp} {G : VK} {B : Hp → Prop} (h : A σ H G) : tYes σ H (fun b H3 => if b = true then A σ H3 G else B H3) := by
  show if true = true then A σ H G else B H
  exact iteT h
theorem good_app {a b : Str} (h : Good a) (k : Good b) : Good (a ++ b) := fun c hc => by
  have e : (a ++ b).cps.toList = a.cps.toList ++ b.cps.toList := tl_append a b
  rw [e] at hc
  exact (List.mem_append.mp hc).elim (h c) (k c)
theorem good_cut {a : Str} (h : Good a) (lo hi : Option Int) : Good (cutS a lo hi) := fun c hc => by
  unfold cutS at hc
  exact h c (List.mem_of_mem_drop (List.mem_of_mem_take (by simpa using hc)))
theorem good_joinL {S : List Nat} (hS : ∀ c ∈ S, c < 1114112) : ∀ ps : List (List Nat), (∀ p ∈ ps, ∀ c ∈ p, c < 1114112) → ∀ c ∈ joinL S ps, c < 1114112
  | [], _, c, h => by simp [joinL] at h
  | [p], hp, c, h => hp p List.mem_cons_self c (by simpa [joinL] using h)
  | p :: q :: r, hp, c, h => by
    have e : joinL S (p :: q :: r) = p ++ (S ++ joinL S (q :: r)) := rfl
    rw [e, List.mem_append, List.mem_append] at h
    rcases h with h | h | h
    · exact hp p List.mem_cons_self c h
    · exact hS c h
    · exact good_joinL hS (q :: r) (fun z hz => hp z (List.mem_cons_of_mem _ hz)) c h
theorem good_join {y : Str} {ps : List Str} (hy : Good y) (h : ∀ z ∈ ps, Good z) : Good (Txt.join y ps) := fun c hc => by
  have e : (Txt.join y ps).cps.toList = joinL (tl y) (ps.map tl) := by rw [join_eq]; exact tl_join y ps
  rw [e] at hc
  refine good_joinL hy _ (fun p hp => ?_) c hc
  obtain ⟨z, hz, rfl⟩ := List.mem_map.mp hp
  exact h z hz
theorem good_of (x : String) : Good (Str.ofString x) := fun c hc => by
  have e : (Str.ofString x).cps.toList = x.toList.map Char.toNat := by
    rw [Str.ofString_eq_toList]
  rw [e] at hc
  obtain ⟨d, _, rfl⟩ := List.mem_map.mp hc
  have := d.valid
  unfold UInt32.isValidChar Nat.isValidChar at this
  show d.val.toNat < 1114112
  omega
theorem good_one {z : Str} {c : Nat} (h : Good z) (hc : c ∈ z.cps.toList) : Good ⟨#[c]⟩ := fun d hd => by
  have e : d = c := by simpa using hd
  rw [e]
  exact h c hc
/-- all but the box stays -/
def KB (b : Addr) (H H' : Hp) : Prop := ∀ c o, c ≠ b → H c = some o → H' c = some o
theorem KB.refl (b : Addr) (H : Hp) : KB b H H := fun _ _ _ h => h
theorem KB.trans {b : Addr} {H H1 H2 : Hp} (a : KB b H H1) (c : KB b H1 H2) : KB b H H2 := fun x o n h => c x o n (a x o n h)
theorem KB.off {b : Addr} {H H' : Hp} (h : ∀ a, a ≠ b → H' a = H a) : KB b H H' := fun c o n e => (h c n).trans e
theorem KB.alloc {b p : Addr} {H : Hp} {o : HO} (n : H p = none) : KB b H (upd H p o) := fun c u _ h => by rw [upd_ne (ne_of_none h n)]; exact h
theorem Bx.alloc {b p : Addr} {n : Int} {H : Hp} {o : HO} (h : Bx b n H) (f : H p = none) : Bx b n (upd H p o) := by
  obtain ⟨x, y, z, h1, r⟩ := h
  exact ⟨x, y, z, by rw [upd_ne (ne_of_none h1 f)]; exact h1, r⟩
theorem Bx.put {b p : Addr} {n : Int} {H : Hp} {o : HO} (h : Bx b n H) (f : p ≠ b) : Bx b n (upd H p o) := by
  obtain ⟨x, y, z, h1, r⟩ := h
  exact ⟨x, y, z, by rw [upd_ne f.symm]; exact h1, r⟩
/-- a comprehension over a text's signs -/
theorem lc_text {z : Str} {g : TG} {tt : TT} {te : TE} {vs : List Nat} {σ : L2.St} {H1 : Hp} {D : Addr} {Qd : Hp → Prop} (Pv : Nat → Hp → Prop) (h0 : Pv 0 (upd H1 D (.lst [])))
    (hs : ∀ i c H, z.cps.toList[i]? = some c → Pv i H → g (.str ⟨#[c]⟩) (wipe σ vs) H fun σ2 H2 => wipe σ2 vs = wipe σ vs ∧ tt σ2 H2 fun b H3 =>
      if b = true then te σ2 H3 fun y H4 => ∃ acc, H4 D = some (.lst acc) ∧ acc.length < sizeLine ∧ Pv (i + 1) (upd H4 D (.lst (acc ++ [y]))) else Pv (i + 1) H3) (hd : ∀ H, Pv z.length H → Qd H) :
    ∃ W : Nat → Nat → Hp → Prop, (∃ m, W 0 m (upd H1 D (.lst []))) ∧ ∀ i m H, W i m H →
      ((Its z).stop i H ∧ Qd H) ∨ ((Its z).go i H ∧ ∃ Nx : Hp → Prop, (∀ H', Nx H' → ∃ m', m' < m ∧ W (i + 1) m' H') ∧ ∀ x H', (Its z).yld i H x H' → g x (wipe σ vs) H' fun σ2 H2 => wipe σ2 vs = wipe σ vs ∧ tt σ2 H2 fun b H3 =>
        if b = true then te σ2 H3 fun y H4 => ∃ acc, H4 D = some (.lst acc) ∧ acc.length < sizeLine ∧ Nx (upd H4 D (.lst (acc ++ [y]))) else Nx H3) := by
  refine ⟨fun i m H => i + m = z.cps.size ∧ Pv i H, ⟨z.cps.size, by simp, h0⟩, fun i m H hW => ?_⟩
  obtain ⟨e, p⟩ := hW
  cases m with
  | zero =>
    have ei : i = z.cps.size := e
    subst ei
    exact .inl ⟨Nat.le_refl _, hd H p⟩
  | succ m =>
    refine .inr ⟨show i < z.cps.size by omega, Pv (i + 1), fun H' q => ⟨m, Nat.lt_succ_self m, by omega, q⟩, ?_⟩
    rintro x H' ⟨rfl, c, hc, rfl⟩
    exact hs i c _ (by rw [← hc]; simp) p
def badOf (l : List Nat) : List V := (l.filter fun c => !lc c).map fun c => V.str ⟨#[c]⟩
theorem bad_data {K : PySem.W.Frag} {H : Hp} : ∀ l : List Nat, DpAll K H (l.map fun c => V.str ⟨#[c]⟩) (l.map fun c => PyData.str ⟨#[c]⟩)
  | [] => .nil
  | c :: r => .cons (.str _) (bad_data r)
theorem one_ok {c : Nat} (h : c < 1114112) : PyData.strOk ⟨#[c]⟩ = true := by
  simp [PyData.strOk, h]
theorem bad_shaped : ∀ l : List Nat, (∀ c ∈ l, c < 1114112) → PyData.canLayAll0 (l.map fun c => PyData.str ⟨#[c]⟩) = true
  | [], _ => by simp [PyData.canLayAll0]
  | c :: r, h => by
    simp only [List.map_cons, PyData.canLayAll0, PyData.canLay0, Bool.and_eq_true]
    exact ⟨one_ok (h c List.mem_cons_self), bad_shaped r fun d hd => h d (List.mem_cons_of_mem _ hd)⟩
theorem bad_depth : ∀ l : List Nat, PyData.depthAll (l.map fun c => PyData.str ⟨#[c]⟩) = 0
  | [] => by simp [PyData.depthAll]
  | c :: r => by
    simp only [List.map_cons, PyData.depthAll, PyData.depth, bad_depth r]
    rfl
theorem letters_mem (c : Nat) : decide (c ∈ (Str.ofString "abcdefghijklmnopqrstuvwxyz").cps.toList) = lc c := by
  have e : (Str.ofString "abcdefghijklmnopqrstuvwxyz").cps.toList = (List.range 26).map (· + 97) := by decide +kernel
  rw [e]
  unfold lc
  rw [Bool.eq_iff_iff]
  simp only [decide_eq_true_eq, List.mem_map, List.mem_range, Bool.and_eq_true]
  constructor
  · rintro ⟨a, h, rfl⟩
    omega
  · intro h
    exact ⟨c - 97, by omega, by omega⟩
/-- a fresh place is no box -/
theorem Bx.fresh {b p : Addr} {n : Int} {H : Hp} (h : Bx b n H) (f : H p = none) : p ≠ b := by
  rintro rfl
  obtain ⟨x, y, z, e, _⟩ := h
  rw [f] at e
  cases e
theorem dec9000 {m : Int} (h0 : 0 < m) (h : m ≤ 10 ^ 30) : m.natAbs.log2 < 9000 := by
  have h1 : m.natAbs ≤ 10 ^ 30 := by omega
  have h2 : m.natAbs < 2 ^ 100 := Nat.lt_of_le_of_lt h1 (by decide)
  have h3 := (Nat.log2_lt (by omega)).mpr h2
  omega
theorem log1900 {m : Int} (h : m.natAbs ≤ 10 ^ 31) : m.natAbs.log2 < 1900 := by
  by_cases h0 : m.natAbs = 0
  · rw [h0]
    decide
  · have h2 : m.natAbs < 2 ^ 110 := Nat.lt_of_le_of_lt h (by decide)
    have h3 := (Nat.log2_lt h0).mpr h2
    omega
/-- a place in a list of the script stays -/
theorem seq_kt {K : PySem.W.Frag} {P a : Addr} {H H' : Hp} {xs : List V} (t : TabG H P) (k : KT P H H') (h : SqL K H a xs) : SqL K H' a xs := by
  rcases h with (h | ⟨o, h⟩) | h
  · exact .inl (.inl (k.keep _ _ (ne_tab t h (by simp)) h))
  · exact .inl (.inr ⟨o, k.keep _ _ (ne_tab t h (by simp)) h⟩)
  · exact .inr h
/-- what a row of steps with the box does to all else -/
theorem KT.box {P b : Addr} {H H' H1 : Hp} (t : TabG H P) (f : H b = none) (e : ∀ a, a ≠ b → H1 a = H a) (k : KB b H1 H') : KT P H H' := by
  obtain ⟨ps, ht, tr⟩ := t
  have nb : P ≠ b := ne_of_none ht f
  exact ⟨fun c o _ h => k c o (ne_of_none h f) ((e c (ne_of_none h f)).trans h), ps, k P _ nb ((e P nb).trans ht), tr⟩
theorem two_bools (a b : Bool) : (PyData.list [.bool a, .bool b]).shown.length ≤ sizeLine := by
  cases a <;> cases b <;> decide +kernel
end My

set_option maxRecDepth 100000
set_option maxHeartbeats 4000000
namespace K23
open PySem PySem.Spec PyProof.Rows L2 GxR Gd TL My
/-! ### the text -/
def top (i : Nat) : Stmt := PySem.Challenge.pw_onestaff_k23_whole_one_right.main.body.getD i (.Pass ⟨0, 0, 0, 0⟩)
abbrev sWhole : Stmt := top 8
abbrev sCell : Stmt := top 13
abbrev sBox : Stmt := top 14
abbrev sTake : Stmt := top 15
structure Txt (mg : Str → Option Value) : Prop where
  isinstance_ : mg "isinstance" = none
  int_ : mg "int" = none
  bool_ : mg "bool" = none
  str_ : mg "str" = none
  len_ : mg "len" = none
  all_ : mg "all" = none
  max_ : mg "max" = none
  min_ : mg "min" = none
  range_ : mg "range" = none
  repr_ : mg "repr" = none
  list_ : mg "list" = none
  tuple_ : mg "tuple" = none
  enumerate_ : mg "enumerate" = none
  sorted_ : mg "sorted" = none
  dict_ : mg "dict" = none
structure Fn (K : PySem.W.Frag) (mg : Str → Option Value) (x : Str) (st : Stmt) (ps : List Str) (f : Addr) (fd : FuncData) : Prop where
  fn : Fun K x x st f fd
  g : mg x = some (.ref f)
  b : Binds K fd ps []
theorem Fn.kp {K : PySem.W.Frag} {mg : Str → Option Value} {x : Str} {st : Stmt} {ps : List Str} {f : Addr} {fd : FuncData} (h : Fn K mg x st ps f fd) : PySem.W.keepIn K (.ref f) = true := h.fn.kp
section
variable {P : Program} {w : World} {K : PySem.W.Frag} {mg : Str → Option Value} {base : Heap}
def spWhole : Sp := fun vs H Q _ => ∃ (v : V) (lo hi : Int), vs = [v, .int lo, .int hi] ∧ Th H v ∧ Q (.bl (wh lo hi v)) H
theorem scWhole : FnScope ["thing", "low", "high"] ["thing", "low", "high"] (defScope sWhole) := ⟨rfl, rfl, rfl, by decide +kernel, rfl, by decide +kernel, by decide +kernel⟩
theorem ok_whole {f : Addr} {fd : FuncData} (F : Fun K "is_whole" "is_whole" sWhole f fd) (T : Txt mg) : FnOk P w K mg base CX0 1 f fd ["thing", "low", "high"] spWhole := by
  refine F.ok scWhole (fun vs H Q E h => ?_) (fun cdv A outer s H vs Q E hr h => ?_)
  · obtain ⟨v, lo, hi, rfl, _⟩ := h
    rfl
  · obtain ⟨v, lo, hi, rfl, th, k⟩ := h
    obtain ⟨t, ty, cs⟩ := th.ty (K := K)
    refine ⟨_, pss_cons (ps_if (PW.pt (pw_or (pt_not (pt_val (pe_callB call_isi (by rfl) T.isinstance_ (by decide +kernel) (pa_cons (pv 0) (pa_cons (pe_bltn (v := .ty "int") (by rfl) T.int_ (by decide +kernel) rfl) pa_nil)))))
        (pw_or1 (pt_val (pe_callB call_isi (by rfl) T.isinstance_ (by decide +kernel) (pa_cons (pv 0) (pa_cons (pe_bltn (v := .ty "bool") (by rfl) T.bool_ (by decide +kernel) rfl) pa_nil)))))))
        (pss_one (ps_ret pe_bl)) pss_nil)
      (pss_one (ps_ret (pe_chain op_le op_le (pv 1) (pv 0) (pv 2)))), ?_⟩
    rcases cs with ⟨i, rfl, rfl⟩ | ⟨b, rfl, rfl⟩ | ⟨z, rfl, _, rfl⟩ | ⟨n1, n2, n3, ht⟩
    · refine ⟨_, rfl, _, _, _, _, true, rfl, .ty "int", ty, (by rfl), _, rfl, iteF ?_⟩
      refine ⟨_, rfl, _, _, _, _, false, rfl, .ty "bool", ty, (by rfl), _, rfl, iteF ?_⟩
      refine ⟨_, rfl, _, rfl, _, _, rfl, rfl, _, rfl, ?_⟩
      refine ite2 (fun c => ?_) (fun c => ?_)
      · refine ⟨_, rfl, _, _, rfl, rfl, ?_⟩
        have e : (decide (i ≤ hi)) = wh lo hi (.int i) := by simp [wh, of_decide_eq_true c]
        show Q (.bl (decide (i ≤ hi))) H
        rw [e]; exact k
      · have e : false = wh lo hi (.int i) := by simp at c; simp [wh]; omega
        rw [e]; exact k
    · refine ⟨_, rfl, _, _, _, _, true, rfl, .ty "int", ty, (by rfl), _, rfl, iteF ?_⟩
      refine ⟨_, rfl, _, _, _, _, true, rfl, .ty "bool", ty, (by rfl), _, rfl, iteT ?_⟩
      exact k
    · refine ⟨_, rfl, _, _, _, _, false, rfl, .ty "int", ty, (by rfl), _, rfl, iteT (iteT ?_)⟩
      exact k
    · have e : wh lo hi v = false := by
        cases v with
        | int i => exact absurd rfl (n1 i)
        | _ => rfl
      rw [e] at k
      rcases ht with rfl | rfl | rfl | rfl
      · exact ⟨_, rfl, _, _, _, _, false, rfl, .ty "int", ty, (by rfl), _, rfl, iteT (iteT k)⟩
      · exact ⟨_, rfl, _, _, _, _, false, rfl, .ty "int", ty, (by rfl), _, rfl, iteT (iteT k)⟩
      · exact ⟨_, rfl, _, _, _, _, false, rfl, .ty "int", ty, (by rfl), _, rfl, iteT (iteT k)⟩
      · exact ⟨_, rfl, _, _, _, _, false, rfl, .ty "int", ty, (by rfl), _, rfl, iteT (iteT k)⟩

def spCell (K : PySem.W.Frag) : Sp := fun vs H Q _ => ∃ (l : Addr) (ns : List Int) (j : Nat), vs = [.ref l, .int (j : Int)] ∧ SqL K H l (ns.map V.int) ∧ ∀ i : Int, Q (.int i) H
theorem scCell : FnScope ["_law_script", "_law_k"] ["_law_script", "_law_k"] (defScope sCell) := ⟨rfl, rfl, rfl, by decide +kernel, rfl, by decide +kernel, by decide +kernel⟩
theorem ok_cell {f : Addr} {fd : FuncData} (F : Fun K "_law_cell" "_law_cell" sCell f fd) (T : Txt mg) : FnOk P w K mg base CX0 1 f fd ["_law_script", "_law_k"] (spCell K) := by
  refine F.ok scCell (fun vs H Q E h => ?_) (fun cdv A outer s H vs Q E hr h => ?_)
  · obtain ⟨l, ns, j, rfl, _⟩ := h
    rfl
  · obtain ⟨l, ns, j, rfl, hS, k⟩ := h
    refine ⟨_, pss_cons (ps_if (pt_cmpR op_lt (pv 1) (pe_callB call_len_seq (by rfl) T.len_ PySem.boot_len (pa_cons (pv 0) pa_nil)) (nomark _)) (pss_one (ps_ret (pe_ix ix_list (pv 0) (pv 1) (fun _ _ => rfl)))) pss_nil)
      (pss_one (ps_ret (pe_op op_add (pe_op op_mul pe_int (pv 1)) pe_int))), ?_⟩
    refine ⟨_, rfl, _, rfl, l, _, rfl, .inl hS, _, _, rfl, rfl, _, rfl, ite2 (fun c => ?_) (fun c => ?_)⟩
    · have c1 : (j : Int) < ((ns.map V.int).length : Nat) := of_decide_eq_true c
      have c2 : j < ns.length := by rw [List.length_map] at c1; omega
      refine ⟨_, rfl, _, rfl, l, _, _, _, rfl, rfl, hS, atI_nat (v := .int ns[j]) ?_, k _⟩
      rw [List.getElem?_map, List.getElem?_eq_getElem c2]
      rfl
    · exact ⟨_, rfl, _, _, rfl, rfl, .inl ⟨by decide, by decide⟩, _, _, rfl, rfl, k _⟩
def spBox : Sp := fun vs H Q _ => ∃ c : Int, vs = [.int c] ∧ ∀ b H', H b = none → (∀ a, a ≠ b → H' a = H a) → Bx b 0 H' → Q (.ref b) H'
theorem scBox : FnScope ["_law_cell_here"] ["_law_cell_here"] (defScope sBox) := ⟨rfl, rfl, rfl, by decide +kernel, rfl, by decide +kernel, by decide +kernel⟩
theorem ok_box {f : Addr} {fd : FuncData} (F : Fun K "_law_box" "_law_box" sBox f fd) (T : Txt mg) : FnOk P w K mg base CX0 1 f fd ["_law_cell_here"] spBox := by
  refine F.ok scBox (fun vs H Q E h => ?_) (fun cdv A outer s H vs Q E hr h => ?_)
  · obtain ⟨c, rfl, _⟩ := h
    rfl
  · obtain ⟨c, rfl, k⟩ := h
    refine ⟨_, pss_one (ps_ret (pe_lst (pa_cons (pe_callB (call_max2 rfl) (by rfl) T.max_ (by decide +kernel) (pa_cons pe_int (pa_cons (pe_op op_sub (pv 0) (pe_op op_pow pe_int pe_int)) pa_nil))) (pa_cons (pe_op op_mod (pv 0) pe_int) (pa_cons pe_int pa_nil))))), ?_⟩
    refine ⟨_, rfl, _, _, rfl, rfl, ⟨by decide, by decide, by decide⟩, _, _, rfl, rfl, _, _, rfl, ?_⟩
    refine ⟨_, rfl, _, _, rfl, rfl, (by show (0 : Int) < 2147483629; decide), ?_⟩
    refine ⟨(by show 3 ≤ sizeLine; decide), fun b hb => ?_⟩
    refine k b _ hb (fun a na => upd_ne na) ⟨_, _, 0, upd_same, ?_, ?_, ?_, Int.le_refl _, Int.le_refl _⟩
    · split <;> omega
    · exact Int.emod_nonneg _ (by decide)
    · exact Int.emod_lt_of_pos _ (by decide)
def spTake : Sp := fun vs H Q _ => ∃ (b : Addr) (many n : Int), vs = [.ref b, .int many] ∧ Bx b n H ∧ n ≤ 100000 ∧ 0 < many ∧ many.natAbs.log2 < 9000 ∧
  ∀ d H', 0 ≤ d → d < many → (∀ a, a ≠ b → H' a = H a) → Bx b (n + 1) H' → Q (.int d) H'
theorem scTake : FnScope ["_law_box_here", "_law_many", "_law_digit", "_law_number"] ["_law_box_here", "_law_many"] (defScope sTake) := ⟨rfl, rfl, rfl, by decide +kernel, rfl, by decide +kernel, by decide +kernel⟩
theorem ok_take {f : Addr} {fd : FuncData} (F : Fun K "_law_take" "_law_take" sTake f fd) : FnOk P w K mg base CX0 1 f fd ["_law_box_here", "_law_many"] spTake := by
  refine F.ok scTake (fun vs H Q E h => ?_) (fun cdv A outer s H vs Q E hr h => ?_)
  · obtain ⟨b, many, n, rfl, _⟩ := h
    rfl
  · obtain ⟨b, many, n, rfl, ⟨x, y, z, hb, x0, y0, y1, z0, zn⟩, hn, m0, ml, k⟩ := h
    refine ⟨_, pss_cons (ps_if (pt_cmpR op_gt (pe_ix ix_list (pv 0) pe_int (fun _ _ => rfl)) pe_int (nomark _))
        (pss_cons (ps_set (i := 2) scTake.nd rfl (Or.inl rfl) (pe_op op_mod (pe_ix ix_list (pv 0) pe_int (fun _ _ => rfl)) (pv 1)))
        (pss_cons (ps_asg (pe_op op_fdivW (pe_ix ix_list (pv 0) pe_int (fun _ _ => rfl)) (pv 1)) (pg_sub (pv 0) pe_int set_list))
        (pss_one (ps_ret (pv 2))))) pss_nil)
      (pss_cons (ps_asg (pe_op op_add (pe_ix ix_list (pv 0) pe_int (fun _ _ => rfl)) pe_int) (pg_sub (pv 0) pe_int set_list))
      (pss_cons (ps_set (i := 3) scTake.nd rfl (Or.inl rfl) (pe_op op_mod (pe_op op_pow (pe_op op_add (pe_op op_add (pe_ix ix_list (pv 0) pe_int (fun _ _ => rfl)) (pe_op op_mul pe_int (pe_ix ix_list (pv 0) pe_int (fun _ _ => rfl)))) pe_int) pe_int) pe_int))
      (pss_cons (ps_set (i := 3) scTake.nd rfl (Or.inl rfl) (pe_op op_mod (pe_op op_pow (pe_op op_add (pv 3) (pe_op op_mul pe_int (pe_ix ix_list (pv 0) pe_int (fun _ _ => rfl)))) pe_int) pe_int))
      (pss_one (ps_ret (pe_op op_mod (pe_op op_fdiv (pv 3) pe_int) (pv 1))))))), ?_⟩
    have hL : SqL K H b [.int x, .int y, .int z] := SqL.of hb
    refine ⟨_, rfl, b, _, _, _, rfl, rfl, hL, i0 _ _ _, _, _, rfl, rfl, _, rfl, ite2 (fun c => ?_) (fun c => ?_)⟩
    · refine ⟨_, rfl, b, _, _, _, rfl, rfl, hL, i0 _ _ _, _, rfl, _, _, rfl, rfl, m0, ?_⟩
      refine ⟨_, rfl, b, _, _, _, rfl, rfl, hL, i0 _ _ _, _, rfl, _, _, rfl, rfl, ⟨m0, ml⟩, ?_⟩
      refine ⟨_, rfl, b, _, _, _, rfl, rfl, hb, j0, ?_⟩
      refine ⟨_, rfl, ?_⟩
      exact k _ _ (Int.emod_nonneg _ (by omega)) (Int.emod_lt_of_pos _ m0) (fun a na => upd_ne na) ⟨_, _, _, upd_same, Int.ediv_nonneg x0 (by omega), y0, y1, z0, by omega⟩
    · refine ⟨_, rfl, b, _, _, _, rfl, rfl, hL, i2 _ _ _, _, _, rfl, rfl, ?_⟩
      refine ⟨_, rfl, b, _, _, _, rfl, rfl, hb, j2, ?_⟩
      have h1 : upd H b (.lst ([V.int x, .int y, .int z].set 2 (.int (z + 1)))) b = some (.lst [.int x, .int y, .int (z + 1)]) := upd_same
      have hL1 : SqL K (upd H b (.lst ([V.int x, .int y, .int z].set 2 (.int (z + 1))))) b [.int x, .int y, .int (z + 1)] := SqL.of h1
      refine ⟨_, rfl, b, _, _, _, rfl, rfl, hL1, i1 _ _ _, _, rfl, b, _, _, _, rfl, rfl, hL1, i2 _ _ _, _, _, rfl, rfl, .inl ⟨by decide, by decide⟩, _, _, rfl, rfl, _, _, rfl, rfl,
        _, _, rfl, rfl, ⟨by decide, by decide, ?_⟩, _, _, rfl, rfl, (by show (0 : Int) < 2147483647; decide), ?_⟩
      · omega
      refine ⟨_, rfl, _, rfl, b, _, _, _, rfl, rfl, hL1, i2 _ _ _, _, _, rfl, rfl, .inl ⟨by decide, by decide⟩, _, _, rfl, rfl,
        _, _, rfl, rfl, ⟨by decide, by decide, ?_⟩, _, _, rfl, rfl, (by show (0 : Int) < 2147483629; decide), ?_⟩
      · have g0 := Int.emod_nonneg ((y + 6700417 * (z + 1) + 271) ^ (5 : Int).toNat) (show (2147483647 : Int) ≠ 0 by decide)
        have g1 := Int.emod_lt_of_pos ((y + 6700417 * (z + 1) + 271) ^ (5 : Int).toNat) (show (0 : Int) < 2147483647 by decide)
        generalize (y + 6700417 * (z + 1) + 271) ^ (5 : Int).toNat % 2147483647 = q at g0 g1 ⊢
        omega
      refine ⟨_, rfl, _, _, rfl, rfl, ⟨by decide, by decide⟩, _, rfl, _, _, rfl, rfl, m0, ?_⟩
      exact k _ _ (Int.emod_nonneg _ (by omega)) (Int.emod_lt_of_pos _ m0) (fun a na => upd_ne na) ⟨_, _, _, h1, x0, y0, y1, by omega, by omega⟩
end
end K23


set_option maxRecDepth 100000
set_option maxHeartbeats 1000000
/-! Refusals: a try with clauses, named or not, in any order; a class's def called by the class; isinstance of what was caught. -/
namespace My
open PySem PySem.Spec PyProof.Rows L2 GxR
/-! ### a try with clauses, named or not -/
abbrev Cl := Value × Option Nat × (Addr → Value → Option Addr → TS)
/-- what follows is the same by two ways: I holds there -/
theorem cutR {A : Prop} {G : Hp → Prop} (I : Hp → Prop) (main : (∀ H, I H → G H) → A) (last : ∀ H, I H → G H) : A := main last
def endsOff (i : Nat) (D : Ends) : Ends :=
  { nx := fun τ G => D.nx (τ.set i none) G, rt := D.rt, bk := fun τ G => D.bk (τ.set i none) G, ct := fun τ G => D.ct (τ.set i none) G }
def suiteOf (i : Option Nat) (t : TS) (a : Addr) (D : Ends) (σ : L2.St) (H : Hp) : Prop :=
  match i with
  | none => t D σ H
  | some i => t (endsOff i D) (σ.set i (some (.ref a))) H
/-- what the clauses wish, one behind the other -/
def wCl (K : PySem.W.Frag) (Wout : WX) (D : Ends) : List Cl → WX
  | [] => Wout
  | p :: l => fun cls d σ H => ∃ b, PySem.W.exmOne K cls p.1 = some b ∧
      (b = true → ∀ a, H a = none → suiteOf p.2.1 (p.2.2 a cls d) a D σ H) ∧ (b = false → wCl K Wout D l cls d σ H)
def SuiteOk (X : Cx) (ss : List Stmt) (ts : Addr → Value → Option Addr → TS) : Prop :=
  ∀ (a : Addr) (oe : Obj) (cls : Value) (d : Option Addr) (pn : List (Addr × Obj)), Zc cls d oe → (∃ fv, oe.data = .fields fv) → PSs (X.suite a ((a, oe) :: pn)) ss (ts a cls d)
inductive Clauses (X : Cx) : List ExceptHandler → List Cl → Prop
  | nil : Clauses X [] []
  | plain {x : Str} {c : Value} {ts : Addr → Value → Option Addr → TS} {st : Stmt} {ss : List Stmt} {p q : Pos} {hds : List ExceptHandler} {l : List Cl}
      (hc : Names X x c) (hsu : SuiteOk X (st :: ss) ts) (r : Clauses X hds l) : Clauses X (.ExceptHandler (some (.Name x p)) none (st :: ss) q :: hds) ((c, none, ts) :: l)
  | named {x n : Str} {i : Nat} {c : Value} {ts : Addr → Value → Option Addr → TS} {st : Stmt} {ss : List Stmt} {p q : Pos} {hds : List ExceptHandler} {l : List Cl}
      (hc : Names X x c) (hi : X.N[i]? = some n) (hn : X.env.kindOf n = some .local) (hsu : SuiteOk X (st :: ss) ts) (r : Clauses X hds l) :
      Clauses X (.ExceptHandler (some (.Name x p)) (some n) (st :: ss) q :: hds) ((c, some i, ts) :: l)
/-- an exception in hand -/
structure InHand (X : Cx) (pins : List (Addr × Obj)) (σ : L2.St) (H : Hp) (cls : Value) (d : Option Addr) (a : Addr) (B : Heap) (sI s : Shared) : Prop where
  inv : Inv X pins σ H sI
  grd : ∀ b o, sI.heap.get? b = some o → b ∉ frs X.stack → B.get? b = some o
  up : sI.heap.UpToSlots s.heap
  fly : HandSPX.FlyingZ B (X.env :: X.outer) a (Zc cls d) s.heap
  new : H a = none
  os : s.os = sI.os
  ag : AllBare s.gens
section
variable {X : Cx} {pins : List (Addr × Obj)} {σ : L2.St} {H : Hp} {cls : Value} {d : Option Addr} {a : Addr} {B : Heap} {sI s : Shared}
theorem InHand.now (h : InHand X pins σ H cls d a B sI s) : Inv X pins σ H s := h.inv.landed h.grd h.fly.1 h.up h.os h.ag
theorem InHand.move (h : InHand X pins σ H cls d a B sI s) {g : Heap} (f : HandSPX.FlyingZ B (X.env :: X.outer) a (Zc cls d) g) (u : s.heap.UpToSlots g) :
    InHand X pins σ H cls d a B sI { s with heap := g } := ⟨h.inv, h.grd, h.up.trans u, f, h.new, h.os, h.ag⟩
theorem InHand.seen (h : InHand X pins σ H cls d a B sI s) (hf : X.env.frame = some X.env.locals) :
    ∃ oe fv, s.heap.get? a = some oe ∧ Zc cls d oe ∧ oe.data = .fields fv ∧ a ≠ X.env.locals ∧ a ∉ X.fs := by
  obtain ⟨oe, fv, e1, e2, e3⟩ := h.fly.there
  have off : a ∉ frs (X.env :: X.outer) := by
    intro m
    obtain ⟨_, o2, e4, no⟩ := h.fly.2.2.1.mem m
    rw [e1] at e4
    obtain rfl := Option.some.inj e4
    exact no _ e3
  refine ⟨oe, fv, e1, e2, e3, fun z => off ?_, fun z => off ?_⟩
  · rw [z]
    exact List.mem_filterMap.mpr ⟨X.env, by simp, hf⟩
  · obtain ⟨v, hv, q⟩ := List.mem_filterMap.mp z
    exact List.mem_filterMap.mpr ⟨v, by simp [hv], q⟩
/-- the suite of a clause behind the try's own end -/
theorem InHand.leave (ok : X.Ok) {oe : Obj} {D : Ends} {f : Flow} {s2 : Shared} (h : SP (X.suite a ((a, oe) :: (X.pn ++ pins))) [] D f s2) : SP X pins D f s2 := by
  cases f with
  | ret u => obtain ⟨v, τ, G, J, r, q⟩ := h; exact ⟨v, τ, G, J.unsuite ok, r, q⟩
  | next => obtain ⟨τ, G, J, q⟩ := h; exact ⟨τ, G, J.unsuite ok, q⟩
  | brk => obtain ⟨τ, G, J, q⟩ := h; exact ⟨τ, G, J.unsuite ok, q⟩
  | cont => obtain ⟨τ, G, J, q⟩ := h; exact ⟨τ, G, J.unsuite ok, q⟩
/-- no clause took it -/
theorem InHand.out (hs : X.stack = X.env :: X.outer) (hf : X.env.frame = some X.env.locals) {Wout : WX} (tk : Takes X Wout) (h : InHand X pins σ H cls d a B sI s) (w : Wout cls d σ H) {Q : Flow → Shared → Prop} :
    wpAny (model X.prog X.w) X.A (handleBy (.ref a) X.env []) Q X.xe s := by
  have fly := h.fly
  refine wpAny_handleBy_nil ?_
  obtain ⟨_, _, _, oe, fv, T, _, _, e1, _, e2, e3, _⟩ := id h.fly
  unfold PySem.passOn
  refine wpAny_bind (wpAny_field e1 e2 e3 ?_)
  rw [if_neg (by simp)]
  have last : wpAny (model X.prog X.w) X.A (setFlight (.ref a) X.env.frame) (fun _ z => wpAny (model X.prog X.w) X.A (throw (.ref a) : Sem Flow) Q X.xe z) X.xe s := by
    rw [hf]
    refine HandSPX.setFlight_upZ fly fun g held up => wpAny_throw (tk _ _ ⟨a, B, sI, pins, σ, H, cls, d, rfl, h.inv, h.grd, h.up.trans up, .inr (.inr ?_), h.new, h.os, h.ag, w⟩)
    rw [hs]
    exact held
  first
    | exact wpAny_bind last
    | exact wpAny_bind (wpAny_pure (wpAny_bind last))
/-- the class that a clause names, told -/
theorem InHand.named (h : InHand X pins σ H cls d a B sI s) (hf : X.env.frame = some X.env.locals) {x : Str} {c : Value} {p : Pos} (hc : Names X x c) {Q : Value → Shared → Prop} {E : Value → Shared → Prop} (q : Q c s) :
    wpAny (model X.prog X.w) (X.A.mark (some (.ref a))) (eval (.Name x p) X.env) Q E s := by
  obtain ⟨oe, fv, e1, _, e3, n1, n2⟩ := h.seen hf
  have S := h.now.suite e1 e3 h.new n1 n2
  obtain ⟨hg, hd, hm | ⟨hm, hv, hn⟩⟩ := hc
  · exact ld_glob (X := X.suite a ((a, oe) :: (X.pn ++ pins))) S hg hm q hd
  · exact ld_blt (X := X.suite a ((a, oe) :: (X.pn ++ pins))) S hg hm hv q hn hd
theorem InHand.through (hs : X.stack = X.env :: X.outer) (hf : X.env.frame = some X.env.locals) (hN : X.N.Nodup) {Wout : WX} (tk : Takes X Wout) {D : Ends} {hds : List ExceptHandler} {l : List Cl}
    (ck : Clauses X hds l) : ∀ {s : Shared}, InHand X pins σ H cls d a B sI s → wCl X.K Wout D l cls d σ H → wpAny (model X.prog X.w) X.A (handleBy (.ref a) X.env hds) (SP X pins D) X.xe s := by
  induction ck with
  | nil => exact fun h w => h.out hs hf tk w
  | @plain x c ts st ss p q hds l hc hsu r ih =>
    rintro s h ⟨b, hb, yes, no⟩
    have fly := h.fly
    obtain ⟨oe, fv, e1, e2, _⟩ := h.seen hf
    have own : PySem.W.Looks (model X.prog X.w) s.heap (typeOf (.ref a)) cls := fun _ _ _ z k q => wpAny_typeOf_ref (k _ _ e1) (by rw [e2.1]; exact q)
    refine wpAny_handleBy_cons (codeAny_handlers_test (h.named hf hc ((PySem.W.exm_one h.now.kIn own hb).here ?_))) (fun z => by cases z)
    cases b with
    | false => exact ih h (no rfl)
    | true =>
      refine codeAny_handlers_suite (HandSPX.lands_againZ fly fun g f2 u2 => ?_)
      have h2 := h.move f2 u2
      obtain ⟨oe2, fv2, i1, i2, i3, i4, i5⟩ := h2.seen hf
      exact wpAny_mono ((hsu a oe2 cls d (X.pn ++ pins) i2 ⟨_, i3⟩).run [] _ _ _ _ (h2.now.suite i1 i3 h.new i4 i5) (yes rfl a h.new)) (fun f z y => InHand.leave h.inv.ok y) fun _ _ z => z.elim
  | @named x n i c ts st ss p q hds l hc hi hn hsu r ih =>
    rintro s h ⟨b, hb, yes, no⟩
    have fly := h.fly
    obtain ⟨oe, fv, e1, e2, _⟩ := h.seen hf
    have own : PySem.W.Looks (model X.prog X.w) s.heap (typeOf (.ref a)) cls := fun _ _ _ z k q => wpAny_typeOf_ref (k _ _ e1) (by rw [e2.1]; exact q)
    refine wpAny_handleBy_cons (codeAny_handlers_test (h.named hf hc ((PySem.W.exm_one h.now.kIn own hb).here ?_))) (fun z => by cases z)
    cases b with
    | false => exact ih h (no rfl)
    | true =>
      refine codeAny_handlers_suite_as (HandSPX.lands_againZ fly fun g f2 u2 => ?_)
      have h2 := h.move f2 u2
      obtain ⟨oe2, fv2, i1, i2, i3, i4, i5⟩ := h2.seen hf
      refine store_ok (X := X.suite a ((a, oe2) :: (X.pn ++ pins))) (v := .ref a) (h2.now.suite i1 i3 h.new i4 i5) hN hi (.inl hn) rfl (fun z J => ?_) (.inr hn)
      refine wpAny_mono ((hsu a oe2 cls d (X.pn ++ pins) i2 ⟨_, i3⟩).run [] z _ _ _ J (yes rfl a h.new)) (fun f y k => ?_) fun _ _ z => z.elim
      have k' := InHand.leave h.inv.ok k
      cases f with
      | next => obtain ⟨τ, G, J2, q2⟩ := k'; exact gone_ok J2 hN hi hn fun _ J3 => ⟨_, _, J3, q2⟩
      | brk => obtain ⟨τ, G, J2, q2⟩ := k'; exact gone_ok J2 hN hi hn fun _ J3 => ⟨_, _, J3, q2⟩
      | cont => obtain ⟨τ, G, J2, q2⟩ := k'; exact gone_ok J2 hN hi hn fun _ J3 => ⟨_, _, J3, q2⟩
      | ret u => obtain ⟨v, τ, G, J2, r2, q2⟩ := k'; exact gone_ok J2 hN hi hn fun _ J3 => ⟨_, _, _, J3, r2, q2⟩
end
/-- try: body, any clauses -/
theorem ps_try_cl {X : Cx} {body : List Stmt} {hd : ExceptHandler} {hds : List ExceptHandler} {l : List Cl} {pos : Pos} {tb : WX → TS} {Wout : WX} (hs : X.stack = X.env :: X.outer) (hf : X.env.frame = some X.env.locals) (hN : X.N.Nodup)
    (tk : Takes X Wout) (ck : Clauses X (hd :: hds) l)
    (hb : ∀ (W : WX) (pn : List (Addr × Obj)) (xe : Value → Shared → Prop), Takes (X.tr pn xe) W → PassesOwn (model X.prog X.w) X.A X.env xe → PSs (X.tr pn xe) body (tb W)) :
    PS X (.Try body (hd :: hds) [] [] pos) (fun D σ H => tb (wCl X.K Wout D l) D σ H) := by
  refine ⟨fun pins s σ H D I h => wpAny_Try_except ?_⟩
  have ok := I.ok
  have fr : X.A.frames = some (X.env :: X.outer) := by rw [ok.frames, hs]
  let xe : Value → Shared → Prop := fun e z => wpAny (model X.prog X.w) X.A (noteFrame e X.env) (fun _ z2 => wpAny (model X.prog X.w) X.A (setFlight e none)
    (fun _ z3 => wpAny (model X.prog X.w) X.A (handleBy e X.env (hd :: hds)) (SP X pins D) X.xe z3) X.xe z2) X.xe z
  have take : Takes (X.tr (X.pn ++ pins) xe) (wCl X.K Wout D l) := by
    rintro _ z ⟨a, B, sI, pn, τ, G, cls, d, rfl, J, grd, up, sky, new, os, ag, w⟩
    rw [show (X.tr (X.pn ++ pins) xe).stack = X.env :: X.outer from hs] at sky
    refine Sky.land Zc.steady fr hf sky fun g fly u => ?_
    exact InHand.through hs hf hN tk ck (s := { z with heap := g }) ⟨J.ofTry ok, grd, up.trans u, fly, new, os, ag⟩ w
  refine wpAny_mono ((hb _ _ xe take PassesOwn.looking).run [] s σ H D (I.toTry _) h) (fun f z k => ?_) fun _ _ z => z
  cases f with
  | next => obtain ⟨τ, G, J, q⟩ := k; exact wpAny_execs_nil ⟨τ, G, J.ofTry ok, q⟩
  | brk => obtain ⟨τ, G, J, q⟩ := k; exact ⟨τ, G, J.ofTry ok, q⟩
  | cont => obtain ⟨τ, G, J, q⟩ := k; exact ⟨τ, G, J.ofTry ok, q⟩
  | ret u => obtain ⟨v, τ, G, J, r, q⟩ := k; exact ⟨v, τ, G, J.ofTry ok, r, q⟩
/-! ### C.m(e, ..), C a class of the program -/
/-- what the written part says of a def f that a class at C tells by its name -/
structure ClsDef (K : PySem.W.Frag) (C f : Addr) (n : Str) : Prop where
  ga : PySem.W.specialIn K (.ref C) "__getattribute__" = some (some (.builtin "type.__getattribute__"))
  rd : PySem.W.readsIn K C (.type "type") = true
  at_ : PySem.W.findCls K (.ref C) (.type "type") n = some (.val (.ref f))
section
variable {X : Cx} {CX : CXT} {k : Nat} {C f : Addr} {fd : FuncData} {ps : List Str} {sp : Sp} {dvs : List V} {ds : List Value} {E : XK} {x n : Str} {p1 p2 pos : Pos} {e : Expr} {es : List Expr} {t : TA}
theorem pe_ccall {pl : Sem Bool} (T : ClsDef X.K C f n) (F : FnOk X.prog X.w X.K X.mg X.base CX k f fd ps sp) (hr : Room k X.A) (hg : Gl X x) (hm : X.mg x = some (.ref C)) (hk : PySem.W.keepIn X.K (.ref f) = true)
    (hb : Binds X.K fd ps ds) (hd : Vals dvs ds) (hx : Passes CX X E) (ha : PA X (e :: es) t) (hdb : (x == ("__debug__" : Str)) = false := by decide)
    (hc : eval (.Call (.Attribute (.Name x p1) n p2) (e :: es) [] pos) X.env = (do
      let ov ← eval (.Name x p1) X.env
      standAt p2.atName
      let (f, first) ← holding [ov] (getMethod ov n pl)
      callWith pos f first (backTo pos (starEach (e :: es) X.env)) (backToKw pos (keywordEach [] X.env))) := by rfl)
    (he : starEach (e :: es) X.env = (false, eval e X.env) :: starEach es X.env := by rfl) (hpl : (backTo pos (starEach es X.env)).any (·.1) = false := by rfl) :
    PE X (.Call (.Attribute (.Name x p1) n p2) (e :: es) [] pos) (tCall sp dvs E t) := by
  refine ⟨fun pins s σ H Q I h => PySem.W.methodCall_KW (ld_glob I hg hm ?_ hdb) hc⟩
  refine PySem.W.method_cls I.kIn T.ga (PySem.W.cls_value I.kIn T.rd T.at_ rfl ?_)
  refine PySem.W.callWith_K (h₀ := X.base) I.ok.mod.kin hk (thn (ha.run pos pins _ σ H _ (I.tok _) h) ?_) he hpl
  rintro us s1 ⟨vs, H1, I1, r, q⟩
  refine ⟨I1.kIn, ?_⟩
  have both := r.append hd
  have len : (us ++ ds).length = ps.length := (both.length).symm.trans (F.len _ _ _ _ q)
  refine wpAny_call (codeAny_mono (F.run X.A X.stack s1 H1 ⟨us, []⟩ (us ++ ds) (vs ++ dvs) Q E hr I1.env0 (hb s1 us I1.kIn len) both q) ?_)
  intro res z hz
  match res, hz with
  | .ok (.ret u), hz => exact I1.after hz
  | .error e, hz => exact hx pins σ H1 s1 e z I1 hz
  | .ok .next, hz => exact hz.elim
  | .ok .brk, hz => exact hz.elim
  | .ok .cont, hz => exact hz.elim
end
/-! ### o.m(e, ..) in a try's body -/
section
variable {X : Cx} {CX : CXT} {k : Nat} {C f : Addr} {fd : FuncData} {ps : List Str} {sp : Sp} {E : L2.St → XK} {m : Str} {pos apos : Pos} {e o : Expr} {es : List Expr} {ta : TE} {t : TA}
def tMethX (C : Addr) (m : Str) (sp : Sp) (E : L2.St → XK) (ta : TE) (t : TA) : TE := fun σ H Q => ta σ H fun x G => ∃ a dx fs, x = .ref a ∧ G a = some (.ins C dx fs) ∧ fs.lookup m = none ∧
  t σ G fun vs G2 => sp (x :: vs) G2 Q (E σ)
theorem pe_methX {pl : Sem Bool} (he : PE X o ta) (c : Cls X.K C) (hm : Meth X.K C m f) (F : FnOk X.prog X.w X.K X.mg X.base CX k f fd ps sp) (hr : Room k X.A) (hb : Binds X.K fd ps []) (hx : ∀ σ, PassesAt CX X σ (E σ)) (ha : PA X (e :: es) t)
    (hst : starEach (e :: es) X.env = (false, eval e X.env) :: starEach es X.env := by rfl) (hpl : (backTo pos (starEach es X.env)).any (·.1) = false := by rfl)
    (ht : eval (.Call (.Attribute o m apos) (e :: es) [] pos) X.env = (do
      let ov ← eval o X.env
      standAt apos.atName
      let (f, first) ← holding [ov] (getMethod ov m pl)
      callWith pos f first (backTo pos (starEach (e :: es) X.env)) (backToKw pos (keywordEach [] X.env))) := by rfl) :
    PE X (.Call (.Attribute o m apos) (e :: es) [] pos) (tMethX C m sp E ta t) := by
  refine ⟨fun pins s σ H Q I h => PySem.W.methodCall_KW (pl := pl) (thn (he.run pins s σ H _ I h) ?_) ht⟩
  rintro u z ⟨x, G, J, rx, a, dx, fs, rfl, ea, l, q⟩
  obtain rfl : u = Value.ref a := rx
  refine getmeth_ok J ea c hm l (PySem.W.callWith_K (first := [.ref a]) (h₀ := X.base) I.ok.mod.kin hm.kp (thn (ha.run pos pins z σ G _ J q) ?_) hst hpl)
  rintro us y ⟨vs, G2, J2, r, q2⟩
  exact ⟨J2.kIn, run_fnS (us := .ref a :: us) (vs := .ref a :: vs) F hr hb (hx σ) J2 (.cons rfl r) q2⟩
end
/-! ### the family: an __init__ over another class's, one field -/
/-- StaffError.__init__(self, text) and the like -/
def spUp (K : PySem.W.Frag) : Sp := fun vs H Q _ => ∃ (a C : Addr) (z : Str), vs = [.ref a, .str z] ∧ OexC K C ∧ H a = some (exo a C none) ∧ Q .non H
/-- C.__init__(self, x), its one field f -/
def spOne (K : PySem.W.Frag) (C : Addr) (f : Str) : Sp := fun vs H Q _ => ∃ (a : Addr) (v : V), vs = [.ref a, v] ∧ H a = some (exo a C none) ∧
  ∀ dx, H dx = none → dx ≠ a → Q .non (upd (upd H dx (exd dx [(f, v)])) a (exo a C (some dx)))
/-- what is left of a made exception: its dict alone -/
theorem made_eq {H : Hp} {a d C : Addr} {fs : List (Str × V)} (n : H a = none) (ne : d ≠ a) :
    upd (del (upd (upd (upd H a (exo a C none)) d (exd d fs)) a (exo a C (some d))) a) d (.xd fs) = upd H d (.xd fs) := by
  funext b
  by_cases hd : b = d
  · rw [hd, upd_same, upd_same]
  · rw [upd_ne hd, upd_ne hd]
    by_cases ha : b = a
    · rw [ha, del_same, n]
    · rw [del_ne ha, upd_ne ha, upd_ne hd, upd_ne ha]
/-- raise C(x): what is to be shown -/
theorem made_one {K : PySem.W.Frag} {C : Addr} {f : Str} {v : V} {H : Hp} {W : Value → Option Addr → Hp → Prop} (k : ∀ d, H d = none → W (.ref C) (some d) (upd H d (.xd [(f, v)]))) :
    ([v] : List V).length ≤ 1000 ∧ ∀ a, H a = none → spOne K C f (.ref a :: ([v] ++ [])) (upd H a (exo a C none))
      (fun u H2 => u = .non ∧ ∃ (d : Addr) (fs : List (Str × V)), H2 a = some (exo a C (some d)) ∧ H2 d = some (exd d fs) ∧ H d = none ∧ W (.ref C) (some d) (upd (del H2 a) d (.xd fs))) (fun _ _ _ => False) := by
  refine ⟨by simp, fun a n => ⟨a, v, rfl, upd_same, fun dx hdx ne => ⟨rfl, dx, [(f, v)], upd_same, ?_, ?_, ?_⟩⟩⟩
  · rw [upd_ne ne, upd_same]
  · rw [upd_ne ne] at hdx
    exact hdx
  · rw [made_eq n ne]
    rw [upd_ne ne] at hdx
    exact k dx hdx
/-- a class is its own -/
theorem sub_self {K : PySem.W.Frag} {C : Addr} {cd : ClassData} {r : List Value} (h : PySem.W.clsIn K C = some cd) (e : cd.mro = .ref C :: r) : PySem.W.subIn K (.ref C) (.ref C) = some true := by
  show PySem.W.mroIn K C (.ref C) = some true
  unfold PySem.W.mroIn
  rw [h]
  simp [e]
/-! ### isinstance of what was caught -/
structure CauC (K : PySem.W.Frag) (D : Addr) : Prop where
  cl : (PySem.W.clsIn K D).isSome = true
  ga : PySem.W.findIn K (.ref D) "__getattribute__" = some (some (.builtin "BaseException.__getattribute__"))
  gg : PySem.W.findIn K (.ref D) "__getattr__" = some none
  sub : PySem.W.subIn K (.ref D) (.type "BaseException") = some true
  co : PySem.W.findIn K (.ref D) "__class__" = some (some (.builtin "object.__class__"))
  cg : PySem.W.specialIn K (.builtin "object.__class__") "__get__" = some (some (.builtin "getset_descriptor.__get__"))
  ct : PySem.W.takesIn K (.builtin "object.__class__") = some true
  mo : PySem.W.mroIn K D (.type "object") = some true
/-- isinstance(e, c), e what the suite holds (cls its class, d its dict) -/
def rIsD (K : PySem.W.Frag) (D a : Addr) (cls : Value) (d : Option Addr) : List V → Hp → VK → Prop := fun xs H Q => ∃ (c : V) (cv : Value) (b : Bool) (dd : Addr) (fs : List (Str × V)),
  xs = [.ref a, c] ∧ (∀ u, RelV c u → u = cv) ∧ PySem.W.kitOne K (.ref D) cv = some b ∧ cls = .ref D ∧ d = some dd ∧ H dd = some (.xd fs) ∧ Q (.bl b) H
theorem call_isD {X : Cx} {a D : Addr} {cls : Value} {d : Option Addr} {oe : Obj} {pn : List (Addr × Obj)} (T : CauC X.K D) (hz : Zc cls d oe) (hf : ∃ fv, oe.data = .fields fv) :
    CallR (X.suite a ((a, oe) :: pn)) (.builtin "isinstance") (rIsD X.K D a cls d) := by
  rintro pins s σ H xs us Q I r ⟨c, cv, b, dd, fs, rfl, hcv, e, rfl, rfl, ed, q⟩
  cases r with
  | cons rx rr =>
    cases rr with
    | cons rt rr =>
      cases rr
      cases rx
      obtain rfl := hcv _ rt
      obtain ⟨hget, _⟩ := I.pin (a, oe) (by simp)
      obtain ⟨fv, hv⟩ := hf
      have hx : ObjOk X.prog X.w H s.heap dd (.xd fs) := I.hok dd _ ed
      obtain ⟨mA, hns, _⟩ := hx
      obtain ⟨od, ho, _⟩ := lookIn_ns hns
      have J : PySem.W.InstAt s.heap a oe D (some od) := ⟨hget, hz.1, by unfold PySem.W.notCls; rw [hv] <;> rfl, by rw [hz.2]; exact ho⟩
      exact PySem.W.kia_one (PySem.W.kitx_exc T.cl T.ga T.gg T.sub T.co T.cg T.ct T.mo) I.kIn J e (fun z => nomatch z) fun tk => ⟨.bl b, H, I.tok _, rfl, q⟩
/-- a call of a def that may raise, where it does not -/
theorem pass_no {X : Cx} : Passes (L2.CX X.prog X.w) X E0 := fun _ _ _ _ _ _ _ ⟨_, _, _, _, _, _, _, _, _, _, _, _, z⟩ => z.elim
theorem takes_never {X : Cx} : Takes X (fun _ _ _ _ => False) := fun _ _ ⟨_, _, _, _, _, _, _, _, _, _, _, _, _, _, _, _, z⟩ => z.elim
end My

set_option maxRecDepth 100000
set_option maxHeartbeats 400000
/-! Several refusals of one family: what the written part says of each. -/
namespace My
open PySem PySem.Spec PyProof.Rows L2 GxR Gd TL
/-- the class above them -/
structure SeT (K : PySem.W.Frag) (mg : Str → Option Value) (CS fS : Addr) (fdS : FuncData) (st : Stmt) : Prop where
  ve : mg "ValueError" = none
  vi : PySem.W.findCls K (.type "ValueError") (.type "type") "__init__" = some (.val (.builtin "ValueError.__init__"))
  g : mg "StaffError" = some (.ref CS)
  c : ClsDef K CS fS "__init__"
  k : PySem.W.keepIn K (.ref fS) = true
  F : Fun K "__init__" "StaffError.__init__" st fS fdS
  b : Binds K fdS ["self", "text"] []
/-- one of them -/
structure ExC (K : PySem.W.Frag) (mg : Str → Option Value) (x q : Str) (st : Stmt) (C f : Addr) (fd : FuncData) : Prop where
  g : mg x = some (.ref C)
  F : Fun K "__init__" q st f fd
  b : Binds K fd ["self", "found"] []
  o : OexC K C
  i : PySem.W.findIn K (.ref C) "__init__" = some (some (.ref f))
  t : PySem.W.typeIn K (.ref f) = some (.type "function")
  n : PySem.W.findIn K (.ref C) "found" = some none
  e : PySem.W.exmOne K (.ref C) (.ref C) = some true
  x : XfC K C
  u : CauC K C
section
variable {X : Cx} {CX : CXT} {k : Nat} {C f : Addr} {fd : FuncData} {ps : List Str} {sp : Sp} {E : L2.St → XK} {m : Str} {pos apos : Pos} {o : Expr} {ta : TE}
def tMethX0 (C : Addr) (m : Str) (sp : Sp) (E : L2.St → XK) (ta : TE) : TE := fun σ H Q => ta σ H fun x G => ∃ a dx fs, x = .ref a ∧ G a = some (.ins C dx fs) ∧ fs.lookup m = none ∧ sp [x] G Q (E σ)
/-- o.m() in a try's body -/
theorem pe_methX0 {pl : Sem Bool} (he : PE X o ta) (c : Cls X.K C) (hm : Meth X.K C m f) (F : FnOk X.prog X.w X.K X.mg X.base CX k f fd ps sp) (hr : Room k X.A) (hb : Binds X.K fd ps []) (hx : ∀ σ, PassesAt CX X σ (E σ))
    (ht : eval (.Call (.Attribute o m apos) [] [] pos) X.env = (do
      let who ← eval o X.env
      standAt apos.atName
      let (g, ahead) ← holding [who] (getMethod who m pl)
      callWith pos g ahead (backTo pos (starEach [] X.env)) (backToKw pos (keywordEach [] X.env))) := by rfl) :
    PE X (.Call (.Attribute o m apos) [] [] pos) (tMethX0 C m sp E ta) := by
  refine ⟨fun pins s σ H Q I h => PySem.W.methodCall_KW (pl := pl) (thn (he.run pins s σ H _ I h) ?_) ht⟩
  rintro u z ⟨x, G, J, rx, a, dx, fs, rfl, ea, l, q⟩
  obtain rfl := show u = Value.ref a from rx
  refine getmeth_ok J ea c hm l ?_
  exact PySem.W.callWith_K0 (first := [.ref a]) J.kIn hm.kp (run_fnS (us := [.ref a]) (vs := [.ref a]) F hr hb (hx σ) J (.cons rfl .nil) q)
end
end My

set_option maxRecDepth 100000
set_option maxHeartbeats 4000000
/-! Data in the heap, kept by steps that change a box, a table. -/
namespace My
open PySem PySem.Spec PyProof.Rows L2 GxR Gd TL
/-- all but tables stays -/
def Nt (H H' : Hp) : Prop := ∀ c o, (∀ ps, o ≠ .tbl ps) → H c = some o → H' c = some o
theorem Nt.refl (H : Hp) : Nt H H := fun _ _ _ h => h
theorem Nt.trans {H H1 H2 : Hp} (a : Nt H H1) (b : Nt H1 H2) : Nt H H2 := fun c o n h => b c o n (a c o n h)
theorem KT.nt {P : Addr} {H H' : Hp} (t : TabG H P) (k : KT P H H') : Nt H H' := fun c o n h => k.keep c o (ne_tab t h n) h
theorem Nt.alloc {H : Hp} {p : Addr} {o : HO} (n : H p = none) : Nt H (upd H p o) := fun c u _ h => by rw [upd_ne (ne_of_none h n)]; exact h
/-- the heap but the box -/
def hide (b : Addr) (H : Hp) : Hp := fun c => if c = b then none else H c
theorem hide_ne {b c : Addr} {H : Hp} (h : c ≠ b) : hide b H c = H c := if_neg h
theorem hide_some {b c : Addr} {H : Hp} {o : HO} (h : hide b H c = some o) : c ≠ b ∧ H c = some o := by
  unfold hide at h
  by_cases q : c = b
  · rw [if_pos q] at h
    cases h
  · rw [if_neg q] at h
    exact ⟨q, h⟩
theorem KB.nt {b : Addr} {H H' : Hp} (k : KB b H H') : Nt (hide b H) (hide b H') := fun c o _ h => by
  obtain ⟨n, h⟩ := hide_some h
  rw [hide_ne n]
  exact k c o n h
theorem hide_nt (b : Addr) (H : Hp) : Nt (hide b H) H := fun c o _ h => (hide_some h).2
theorem Nt.seq {K : PySem.W.Frag} {H H' : Hp} {a : Addr} {xs : List V} (e : Nt H H') (h : SqL K H a xs) : SqL K H' a xs := by
  rcases h with (h | ⟨o, h⟩) | h
  · exact .inl (.inl (e _ _ (by simp) h))
  · exact .inl (.inr ⟨o, e _ _ (by simp) h⟩)
  · exact .inr h
theorem Nt.seqT {K : PySem.W.Frag} {H H' : Hp} {a : Addr} {xs : List V} (e : Nt H H') (h : SqT K H a xs) : SqT K H' a xs := by
  rcases h with (h | ⟨o, h⟩) | h
  · exact .inl (.inl (e _ _ (by simp) h))
  · exact .inl (.inr ⟨o, e _ _ (by simp) h⟩)
  · exact .inr h
section
variable {K : PySem.W.Frag} {H H' : Hp}
mutual
theorem dp_nt (e : Nt H H') : ∀ {v : V} {d : PyData}, Dp K H v d → Dp K H' v d
  | _, _, .non => .non
  | _, _, .bl b => .bl b
  | _, _, .int i => .int i
  | _, _, .str z => .str z
  | _, _, .lst h a => .lst (e.seq h) (dpAll_nt e a)
  | _, _, .tup h a => .tup (e.seqT h) (dpAll_nt e a)
theorem dpAll_nt (e : Nt H H') : ∀ {vs : List V} {ds : List PyData}, DpAll K H vs ds → DpAll K H' vs ds
  | _, _, .nil => .nil
  | _, _, .cons h t => .cons (dp_nt e h) (dpAll_nt e t)
end
theorem dp_list {v : V} {ds : List PyData} (h : Dp K H v (.list ds)) : ∃ a xs, v = .ref a ∧ SqL K H a xs ∧ DpAll K H xs ds := by
  cases h with
  | lst h a => exact ⟨_, _, rfl, h, a⟩
theorem dp_tuple {v : V} {ds : List PyData} (h : Dp K H v (.tuple ds)) : ∃ a xs, v = .ref a ∧ SqT K H a xs ∧ DpAll K H xs ds := by
  cases h with
  | tup h a => exact ⟨_, _, rfl, h, a⟩
theorem dp_str {v : V} {z : Str} (h : Dp K H v (.str z)) : v = .str z := by
  cases h
  rfl
theorem dp_int {v : V} {i : Int} (h : Dp K H v (.int i)) : v = .int i := by
  cases h
  rfl
theorem dp_none {v : V} (h : Dp K H v .none) : v = .non := by
  cases h
  rfl
theorem dpAll_len : ∀ {xs : List V} {ds : List PyData}, DpAll K H xs ds → xs.length = ds.length
  | _, _, .nil => rfl
  | _, _, .cons _ t => congrArg (· + 1) (dpAll_len t)
theorem dpAll_get : ∀ {xs : List V} {ds : List PyData}, DpAll K H xs ds → ∀ {i : Nat} {x : V}, xs[i]? = some x → ∃ d, ds[i]? = some d ∧ Dp K H x d
  | _, _, .nil, _, _, h => by simp at h
  | _, _, .cons a _, 0, _, h => by simp at h; subst h; exact ⟨_, rfl, a⟩
  | _, _, .cons _ t, i + 1, x, h => by
    obtain ⟨d, h1, h2⟩ := dpAll_get t (i := i) (x := x) (by simpa using h)
    exact ⟨d, by simpa using h1, h2⟩
theorem dpAll_at : ∀ {xs : List V} {ds : List PyData}, DpAll K H xs ds → ∀ {i : Nat} {d : PyData}, ds[i]? = some d → ∃ x, xs[i]? = some x ∧ Dp K H x d
  | _, _, .nil, _, _, h => by simp at h
  | _, _, .cons a _, 0, _, h => by simp at h; subst h; exact ⟨_, rfl, a⟩
  | _, _, .cons _ t, i + 1, d, h => by
    obtain ⟨x, h1, h2⟩ := dpAll_at t (i := i) (d := d) (by simpa using h)
    exact ⟨x, by simpa using h1, h2⟩
theorem dpAll_app : ∀ {xs ys : List V} {ds es : List PyData}, DpAll K H xs ds → DpAll K H ys es → DpAll K H (xs ++ ys) (ds ++ es)
  | _, _, _, _, .nil, h => h
  | _, _, _, _, .cons a t, h => .cons a (dpAll_app t h)
theorem dp_two {v : V} {c d : PyData} (h : Dp K H v (.tuple [c, d])) : ∃ a x y, v = .ref a ∧ SqT K H a [x, y] ∧ Dp K H x c ∧ Dp K H y d := by
  obtain ⟨a, xs, rfl, h1, h2⟩ := dp_tuple h
  cases h2 with
  | cons p t =>
    cases t with
    | cons q t =>
      cases t
      exact ⟨a, _, _, rfl, h1, p, q⟩
theorem dp_three {v : V} {c d e : PyData} (h : Dp K H v (.tuple [c, d, e])) : ∃ a x y z, v = .ref a ∧ SqT K H a [x, y, z] ∧ Dp K H x c ∧ Dp K H y d ∧ Dp K H z e := by
  obtain ⟨a, xs, rfl, h1, h2⟩ := dp_tuple h
  cases h2 with
  | cons p t =>
    cases t with
    | cons q t =>
      cases t with
      | cons r t =>
        cases t
        exact ⟨a, _, _, _, rfl, h1, p, q, r⟩
theorem dp_four {v : V} {c d e f : PyData} (h : Dp K H v (.list [c, d, e, f])) : ∃ a x y z u, v = .ref a ∧ SqL K H a [x, y, z, u] ∧ Dp K H x c ∧ Dp K H y d ∧ Dp K H z e ∧ Dp K H u f := by
  obtain ⟨a, xs, rfl, h1, h2⟩ := dp_list h
  cases h2 with
  | cons p t =>
    cases t with
    | cons q t =>
      cases t with
      | cons r t =>
        cases t with
        | cons s t =>
          cases t
          exact ⟨a, _, _, _, _, rfl, h1, p, q, r, s⟩
end
/-! ### names that are good, worlds of lines -/
def NameOk (z : Str) : Prop := 1 ≤ z.length ∧ z.length ≤ 6 ∧ z.cps.toList.all lc = true
theorem NameOk.good {z : Str} (h : NameOk z) : Good z := fun c hc => by
  have := List.all_eq_true.mp h.2.2 c hc
  unfold lc at this
  simp at this
  omega
theorem NameOk.nm {z : Str} (h : NameOk z) : nm (.str z) = true := by
  obtain ⟨h1, h2, h3⟩ := h
  simp [My.nm, h1, h2, h3]
theorem NameOk.th {z : Str} {H : Hp} (h : NameOk z) : Th H (.str z) := .str z (by have := h.2.1; omega) h.good
structure Wd where
  ps : List (Str × Int)
  st : List (Str × Int)
  lo : List (Int × Int × Int)
  sp : Str
def longsOk (top : Int) : Int → List (Int × Int × Int) → Prop
  | _, [] => True
  | low, (f, l, h) :: r => low ≤ f ∧ f + 2 ≤ l ∧ l ≤ top ∧ 0 ≤ h ∧ h ≤ 1 ∧ longsOk top l r
structure Wd.Ok (w : Wd) : Prop where
  p2 : 2 ≤ w.ps.length
  p6 : w.ps.length ≤ 6
  nm : ∀ p ∈ w.ps, NameOk p.1 ∧ 1 ≤ p.2 ∧ p.2 ≤ 3
  nd : (w.ps.map (·.1)).Nodup
  sl : w.st.length + 1 = w.ps.length
  st : ∀ p ∈ w.st, (p.1 = "staff" ∨ p.1 = "ticket") ∧ 0 ≤ p.2 ∧ p.2 ≤ 1
  ll : w.lo.length ≤ 2
  lo : longsOk (w.ps.length - 1 : Nat) 0 w.lo
  sn : NameOk w.sp
  s0 : w.sp ∉ w.ps.map (·.1)
def dP (p : Str × Int) : PyData := .tuple [.str p.1, .int p.2]
def dL (p : Int × Int × Int) : PyData := .tuple [.int p.1, .int p.2.1, .int p.2.2]
def Wd.data (w : Wd) : PyData := .list [.list (w.ps.map dP), .list (w.st.map dP), .list (w.lo.map dL), .str w.sp]
end My

set_option maxRecDepth 100000
set_option maxHeartbeats 400000
/-! small data: what repr asks of them -/
namespace My
open PySem PySem.Spec PyProof.Rows L2 GxR Gd TL
structure Sm (d : PyData) (k m : Nat) : Prop where
  lay : d.canLay0 = true
  dep : d.depth ≤ k
  wt : d.weight ≤ m
  ish : d.intsShort 13 = true
  sh : d.showable = true
theorem Sm.rep {d : PyData} {k m : Nat} (h : Sm d k m) (hk : k ≤ 64) (hm : m ≤ 2 ^ 20) : d.showable = true ∧ d.depth ≤ 100 ∧ d.shown.length ≤ sizeLine := by
  refine ⟨h.sh, Nat.le_trans h.dep (by omega), Nat.le_trans (shown_le13 ?_ h.ish) (by rw [sizeLine_eq]; decide)⟩
  unfold PyData.layable0
  rw [Bool.and_eq_true, Bool.and_eq_true, decide_eq_true_eq, decide_eq_true_eq]
  exact ⟨⟨h.lay, Nat.le_trans h.dep hk⟩, Nat.le_trans h.wt hm⟩
theorem Sm.mono {d : PyData} {k m k' m' : Nat} (h : Sm d k m) (hk : k ≤ k') (hm : m ≤ m') : Sm d k' m' := ⟨h.lay, Nat.le_trans h.dep hk, Nat.le_trans h.wt hm, h.ish, h.sh⟩
theorem sm_none : Sm .none 0 0 := ⟨rfl, Nat.le_refl 0, Nat.le_refl 0, rfl, rfl⟩
theorem sm_bool (b : Bool) : Sm (.bool b) 0 0 := ⟨rfl, Nat.le_refl 0, Nat.le_refl 0, rfl, rfl⟩
theorem sm_int {i : Int} (h : i.natAbs ≤ 1000) : Sm (.int i) 0 20 := by
  have hl : i.natAbs.log2 ≤ 10 := by
    by_cases z : i.natAbs = 0
    · rw [z]; decide
    · have : i.natAbs.log2 < 11 := (Nat.log2_lt z).mpr (by omega)
      omega
  refine ⟨rfl, Nat.le_refl 0, ?_, ?_, ?_⟩
  · unfold PyData.weight
    split
    · omega
    · omega
  · exact intsShort_of_noneOrIn (lo := -2000) (hi := 2000) (by decide) (by decide) (.int i) (by simp [noneOrIn]; omega)
  · unfold PyData.showable
    rw [decide_eq_true_eq]
    omega
theorem sm_str {z : Str} (g : Good z) (h : z.length ≤ 6) : Sm (.str z) 0 6 := by
  refine ⟨?_, Nat.le_refl 0, h, rfl, rfl⟩
  unfold PyData.canLay0
  unfold PyData.strOk
  rw [Array.all_eq_true_iff_forall_mem]
  intro c hc
  exact decide_eq_true (g c (Array.mem_toList_iff.mpr hc))
theorem sm_all {k m : Nat} : ∀ {ds : List PyData}, (∀ d ∈ ds, Sm d k m) → PyData.canLayAll0 ds = true ∧ PyData.depthAll ds ≤ k ∧ PyData.weightAll ds ≤ ds.length * (m + 1) ∧ PyData.intsShortAll 13 ds = true ∧ PyData.showableAll ds = true
  | [], _ => ⟨rfl, Nat.zero_le _, Nat.zero_le _, rfl, rfl⟩
  | d :: r, h => by
    obtain ⟨a1, a2, a3, a4, a5⟩ := sm_all (ds := r) fun x hx => h x (List.mem_cons_of_mem _ hx)
    have b := h d List.mem_cons_self
    refine ⟨?_, ?_, ?_, ?_, ?_⟩
    · unfold PyData.canLayAll0; rw [b.lay, a1]; rfl
    · unfold PyData.depthAll; exact Nat.max_le.mpr ⟨b.dep, a2⟩
    · unfold PyData.weightAll
      have := b.wt
      rw [List.length_cons, Nat.succ_mul]
      omega
    · unfold PyData.intsShortAll; rw [b.ish, a4]; rfl
    · unfold PyData.showableAll; rw [b.sh, a5]; rfl
theorem sm_list {k m : Nat} {ds : List PyData} (h : ∀ d ∈ ds, Sm d k m) : Sm (.list ds) (k + 1) (ds.length * (m + 1)) := by
  obtain ⟨a1, a2, a3, a4, a5⟩ := sm_all h
  exact ⟨by unfold PyData.canLay0; exact a1, by unfold PyData.depth; omega, by unfold PyData.weight; exact a3, by unfold PyData.intsShort; exact a4, by unfold PyData.showable; exact a5⟩
theorem sm_tuple {k m : Nat} {ds : List PyData} (h : ∀ d ∈ ds, Sm d k m) : Sm (.tuple ds) (k + 1) (ds.length * (m + 1)) := by
  obtain ⟨a1, a2, a3, a4, a5⟩ := sm_all h
  exact ⟨by unfold PyData.canLay0; exact a1, by unfold PyData.depth; omega, by unfold PyData.weight; exact a3, by unfold PyData.intsShort; exact a4, by unfold PyData.showable; exact a5⟩
theorem sm_dP {p : Str × Int} (g : Good p.1) (h : p.1.length ≤ 6) (hr : p.2.natAbs ≤ 1000) : Sm (dP p) 1 42 :=
  sm_tuple (k := 0) (m := 20) (ds := [.str p.1, .int p.2]) fun d hd => by
    simp only [List.mem_cons, List.not_mem_nil, or_false] at hd
    rcases hd with rfl | rfl
    · exact (sm_str g h).mono (Nat.le_refl 0) (by decide)
    · exact sm_int hr
theorem sm_names {a b : Str} (ha : NameOk a) (hb : NameOk b) : Sm (.tuple [.str a, .str b]) 1 14 :=
  sm_tuple (k := 0) (m := 6) (ds := [.str a, .str b]) fun d hd => by
    simp only [List.mem_cons, List.not_mem_nil, or_false] at hd
    rcases hd with rfl | rfl
    · exact sm_str ha.good ha.2.1
    · exact sm_str hb.good hb.2.1
end My

set_option maxRecDepth 100000
set_option maxHeartbeats 400000
/-! data with longer texts and numbers: what repr asks of them -/
namespace My
open PySem PySem.Spec PyProof.Rows L2 GxR Gd TL
structure Sb (d : PyData) (k m : Nat) : Prop where
  lv : d.leavesShort 40 = true
  dep : d.depth ≤ k
  wt : d.weight ≤ m
  sh : d.showable = true
theorem Sb.rep {d : PyData} {k m : Nat} (h : Sb d k m) (hk : k ≤ 100) (hm : m ≤ 390000) : d.showable = true ∧ d.depth ≤ 100 ∧ d.shown.length ≤ sizeLine := by
  refine ⟨h.sh, Nat.le_trans h.dep hk, ?_⟩
  have h1 := PyData.shown_le 40 (by decide) d h.lv
  have h2 := h.wt
  refine Nat.le_trans h1 (Nat.le_trans (m := 42 * 390000 + 40) (by omega) (by rw [sizeLine_eq]; decide))
theorem Sb.mono {d : PyData} {k m k' m' : Nat} (h : Sb d k m) (hk : k ≤ k') (hm : m ≤ m') : Sb d k' m' := ⟨h.lv, Nat.le_trans h.dep hk, Nat.le_trans h.wt hm, h.sh⟩
theorem sb_none : Sb .none 0 0 := ⟨rfl, Nat.le_refl 0, Nat.le_refl 0, rfl⟩
theorem sb_bool (b : Bool) : Sb (.bool b) 0 0 := ⟨rfl, Nat.le_refl 0, Nat.le_refl 0, rfl⟩
theorem text_int {i : Int} (h : i.natAbs < 10 ^ 31) : (Str.ofString (toString i)).length ≤ 32 := by
  have e := int_text_length_le10 (k := 31) (by decide) h
  rw [PySem.ofString_length]
  exact e
theorem sb_int {i : Int} (h : i.natAbs < 10 ^ 31) : Sb (.int i) 0 110 := by
  have hl : i.natAbs.log2 ≤ 109 := by
    by_cases z : i.natAbs = 0
    · rw [z]; decide
    · have : i.natAbs.log2 < 110 := (Nat.log2_lt z).mpr (Nat.lt_of_lt_of_le h (by decide))
      omega
  refine ⟨?_, Nat.le_refl 0, ?_, ?_⟩
  · unfold PyData.leavesShort
    rw [decide_eq_true_eq]
    exact Nat.le_trans (text_int h) (by decide)
  · unfold PyData.weight
    split <;> omega
  · unfold PyData.showable
    rw [decide_eq_true_eq]
    omega
theorem sb_str {z : Str} {m : Nat} (g : Good z) (h : z.length ≤ m) : Sb (.str z) 0 m := by
  refine ⟨?_, Nat.le_refl 0, h, rfl⟩
  unfold PyData.leavesShort
  rw [List.all_eq_true]
  intro c hc
  have := g c hc
  rw [decide_eq_true_eq]
  exact Nat.lt_trans this (by decide)
theorem sb_all {k m : Nat} : ∀ {ds : List PyData}, (∀ d ∈ ds, Sb d k m) → PyData.leavesShortAll 40 ds = true ∧ PyData.depthAll ds ≤ k ∧ PyData.weightAll ds ≤ ds.length * (m + 1) ∧ PyData.showableAll ds = true
  | [], _ => ⟨rfl, Nat.zero_le _, Nat.zero_le _, rfl⟩
  | d :: r, h => by
    obtain ⟨a1, a2, a3, a4⟩ := sb_all (ds := r) fun x hx => h x (List.mem_cons_of_mem _ hx)
    have b := h d List.mem_cons_self
    refine ⟨?_, ?_, ?_, ?_⟩
    · unfold PyData.leavesShortAll; rw [b.lv, a1]; rfl
    · unfold PyData.depthAll; exact Nat.max_le.mpr ⟨b.dep, a2⟩
    · unfold PyData.weightAll
      have := b.wt
      rw [List.length_cons, Nat.succ_mul]
      omega
    · unfold PyData.showableAll; rw [b.sh, a4]; rfl
theorem sb_list {k m : Nat} {ds : List PyData} (h : ∀ d ∈ ds, Sb d k m) : Sb (.list ds) (k + 1) (ds.length * (m + 1)) := by
  obtain ⟨a1, a2, a3, a4⟩ := sb_all h
  exact ⟨by unfold PyData.leavesShort; exact a1, by unfold PyData.depth; omega, by unfold PyData.weight; exact a3, by unfold PyData.showable; exact a4⟩
theorem sb_tuple {k m : Nat} {ds : List PyData} (h : ∀ d ∈ ds, Sb d k m) : Sb (.tuple ds) (k + 1) (ds.length * (m + 1)) := by
  obtain ⟨a1, a2, a3, a4⟩ := sb_all h
  exact ⟨by unfold PyData.leavesShort; exact a1, by unfold PyData.depth; omega, by unfold PyData.weight; exact a3, by unfold PyData.showable; exact a4⟩
theorem good_int (i : Int) : Good (Str.ofString (toString i)) := good_of _
end My

set_option maxRecDepth 100000
set_option maxHeartbeats 400000
namespace K23
open PySem PySem.Spec PyProof.Rows L2 GxR Gd TL My
/-- a method of the class -/
structure Me (K : PySem.W.Frag) (C : Addr) (m qual : Str) (st : Stmt) (ps : List Str) (f : Addr) (fd : FuncData) : Prop where
  fn : Fun K m qual st f fd
  m : Meth K C m f
  b : Binds K fd ps []
/-! ### the refusals -/
abbrev sSE : Stmt := inClass (top 2) 0
theorem scSE : FnScope ["self", "text"] ["self", "text"] (defScope sSE) := ⟨rfl, rfl, rfl, by decide +kernel, rfl, by decide +kernel, by decide +kernel⟩
abbrev sNoNumber : Stmt := inClass (top 3) 0
theorem scNoNumber : FnScope ["self", "found"] ["self", "found"] (defScope sNoNumber) := ⟨rfl, rfl, rfl, by decide +kernel, rfl, by decide +kernel, by decide +kernel⟩
abbrev sShut : Stmt := inClass (top 4) 0
theorem scShut : FnScope ["self", "found"] ["self", "found"] (defScope sShut) := ⟨rfl, rfl, rfl, by decide +kernel, rfl, by decide +kernel, by decide +kernel⟩
abbrev sNoRight : Stmt := inClass (top 5) 0
theorem scNoRight : FnScope ["self", "found"] ["self", "found"] (defScope sNoRight) := ⟨rfl, rfl, rfl, by decide +kernel, rfl, by decide +kernel, by decide +kernel⟩
abbrev sNotShut : Stmt := inClass (top 6) 0
theorem scNotShut : FnScope ["self", "found"] ["self", "found"] (defScope sNotShut) := ⟨rfl, rfl, rfl, by decide +kernel, rfl, by decide +kernel, by decide +kernel⟩
section
variable {P : Program} {w : World} {K : PySem.W.Frag} {mg : Str → Option Value} {base : Heap} {CS fS C fN : Addr} {fdS fdN : FuncData}
theorem ok_SE (T : SeT K mg CS fS fdS sSE) {CX : CXT} : FnOk P w K mg base CX0 1 fS fdS ["self", "text"] (spUp K) := by
  refine T.F.ok scSE (fun vs H Q E h => ?_) (fun cdv A outer s H vs Q E hr h => ?_)
  · obtain ⟨a, C, z, rfl, _⟩ := h
    rfl
  · obtain ⟨a, C, z, rfl, o, e, k⟩ := h
    refine ⟨_, pss_one (ps_expr (pe_veinit (by rfl) T.ve T.vi (pa_cons (pv 0) (pa_cons (pv 1) pa_nil)))), ?_⟩
    exact ⟨_, rfl, _, rfl, a, C, _, rfl, by simp, o, e, k⟩
theorem ok_NoNumber (S : SeT K mg CS fS fdS sSE) (T : ExC K mg "NoNumber" "NoNumber.__init__" sNoNumber C fN fdN) : FnOk P w K mg base CX0 2 fN fdN ["self", "found"] (spOne K C "found") := by
  refine T.F.ok scNoNumber (fun vs H Q E h => ?_) (fun cdv A outer s H vs Q E hr h => ?_)
  · obtain ⟨a, v, rfl, _⟩ := h
    rfl
  · obtain ⟨a, v, rfl, e, k⟩ := h
    refine ⟨_, pss_cons (ps_expr (pe_ccall S.c (ok_SE (CX := CX0) S) hr (by rfl) S.g S.k S.b .nil pass0 (pa_cons (pv 0) (pa_cons pe_str pa_nil))))
      (pss_one (ps_ost (pv 0) (pv 1))), ?_⟩
    refine ⟨_, rfl, a, C, _, rfl, T.o, e, ?_⟩
    exact ⟨_, rfl, _, rfl, a, C, rfl, T.o, T.n, .inl ⟨e, fun dx h1 h2 => k dx h1 h2⟩⟩
theorem ok_Shut (S : SeT K mg CS fS fdS sSE) (T : ExC K mg "Shut" "Shut.__init__" sShut C fN fdN) : FnOk P w K mg base CX0 2 fN fdN ["self", "found"] (spOne K C "found") := by
  refine T.F.ok scShut (fun vs H Q E h => ?_) (fun cdv A outer s H vs Q E hr h => ?_)
  · obtain ⟨a, v, rfl, _⟩ := h
    rfl
  · obtain ⟨a, v, rfl, e, k⟩ := h
    refine ⟨_, pss_cons (ps_expr (pe_ccall S.c (ok_SE (CX := CX0) S) hr (by rfl) S.g S.k S.b .nil pass0 (pa_cons (pv 0) (pa_cons pe_str pa_nil))))
      (pss_one (ps_ost (pv 0) (pv 1))), ?_⟩
    refine ⟨_, rfl, a, C, _, rfl, T.o, e, ?_⟩
    exact ⟨_, rfl, _, rfl, a, C, rfl, T.o, T.n, .inl ⟨e, fun dx h1 h2 => k dx h1 h2⟩⟩
theorem ok_NoRight (S : SeT K mg CS fS fdS sSE) (T : ExC K mg "NoRight" "NoRight.__init__" sNoRight C fN fdN) : FnOk P w K mg base CX0 2 fN fdN ["self", "found"] (spOne K C "found") := by
  refine T.F.ok scNoRight (fun vs H Q E h => ?_) (fun cdv A outer s H vs Q E hr h => ?_)
  · obtain ⟨a, v, rfl, _⟩ := h
    rfl
  · obtain ⟨a, v, rfl, e, k⟩ := h
    refine ⟨_, pss_cons (ps_expr (pe_ccall S.c (ok_SE (CX := CX0) S) hr (by rfl) S.g S.k S.b .nil pass0 (pa_cons (pv 0) (pa_cons pe_str pa_nil))))
      (pss_one (ps_ost (pv 0) (pv 1))), ?_⟩
    refine ⟨_, rfl, a, C, _, rfl, T.o, e, ?_⟩
    exact ⟨_, rfl, _, rfl, a, C, rfl, T.o, T.n, .inl ⟨e, fun dx h1 h2 => k dx h1 h2⟩⟩
theorem ok_NotShut (S : SeT K mg CS fS fdS sSE) (T : ExC K mg "NotShut" "NotShut.__init__" sNotShut C fN fdN) : FnOk P w K mg base CX0 2 fN fdN ["self", "found"] (spOne K C "found") := by
  refine T.F.ok scNotShut (fun vs H Q E h => ?_) (fun cdv A outer s H vs Q E hr h => ?_)
  · obtain ⟨a, v, rfl, _⟩ := h
    rfl
  · obtain ⟨a, v, rfl, e, k⟩ := h
    refine ⟨_, pss_cons (ps_expr (pe_ccall S.c (ok_SE (CX := CX0) S) hr (by rfl) S.g S.k S.b .nil pass0 (pa_cons (pv 0) (pa_cons pe_str pa_nil))))
      (pss_one (ps_ost (pv 0) (pv 1))), ?_⟩
    refine ⟨_, rfl, a, C, _, rfl, T.o, e, ?_⟩
    exact ⟨_, rfl, _, rfl, a, C, rfl, T.o, T.n, .inl ⟨e, fun dx h1 h2 => k dx h1 h2⟩⟩
end
/-! ### a keeper of a staff's lock -/
theorem to_ : ¬ (("_times" : Str) = "_to") := by decide +kernel
theorem tp_ : ¬ (("_times" : Str) = "_opened") := by decide +kernel
theorem op_ : ¬ (("_to" : Str) = "_opened") := by decide +kernel
def kf (t : Int) (o : V) (p : Bool) : List (Str × V) := [("_times", .int t), ("_to", o), ("_opened", .bl p)]
theorem kf_times (t : Int) (o : V) (p : Bool) : (kf t o p).lookup ("_times" : Str) = some (.int t) := by
  unfold kf
  simp [List.lookup]
theorem kf_to (t : Int) (o : V) (p : Bool) : (kf t o p).lookup ("_to" : Str) = some o := by
  have : (("_to" : Str) == "_times") = false := by decide +kernel
  unfold kf
  simp [List.lookup, this]
theorem kf_opened (t : Int) (o : V) (p : Bool) : (kf t o p).lookup ("_opened" : Str) = some (.bl p) := by
  have h1 : (("_opened" : Str) == "_times") = false := by decide +kernel
  have h2 : (("_opened" : Str) == "_to") = false := by decide +kernel
  unfold kf
  simp [List.lookup, h1, h2]
theorem kf_no (t : Int) (o : V) (p : Bool) {m : Str} (h1 : (m == "_times") = false) (h2 : (m == "_to") = false) (h3 : (m == "_opened") = false) : (kf t o p).lookup m = none := by
  unfold kf
  simp [List.lookup, h1, h2, h3]
theorem kf_put_times (t t' : Int) (o : V) (p : Bool) : putF "_times" (.int t') (kf t o p) = kf t' o p := by
  unfold kf
  simp [putF]
theorem kf_put_to (t : Int) (o o' : V) (p : Bool) : putF "_to" o' (kf t o p) = kf t o' p := by
  unfold kf
  simp [putF, to_]
theorem kf_put_opened (t : Int) (o : V) (p p' : Bool) : putF "_opened" (.bl p') (kf t o p) = kf t o p' := by
  unfold kf
  simp [putF, tp_, op_]
theorem kf_len (t : Int) (o : V) (p : Bool) : (kf t o p).length < 1000 := by
  show 3 < 1000
  decide
structure KeeT (K : PySem.W.Frag) (C : Addr) : Prop where
  cl : Cls K C
  nt : NoAttr K C "_times"
  no : NoAttr K C "_to"
  np : NoAttr K C "_opened"
section
variable {P : Program} {w : World} {K : PySem.W.Frag} {mg : Str → Option Value} {base : Heap} {C CS fS CH fH CN fN CR fR : Addr} {fdS fdH fdN fdR : FuncData}
abbrev s_init : Stmt := inClass (top 10) 0
theorem sc_init : FnScope ["self"] ["self"] (defScope s_init) := ⟨rfl, rfl, rfl, by decide +kernel, rfl, by decide +kernel, by decide +kernel⟩
def spInit (C : Addr) : Sp := fun vs H Q _ => ∃ c dx, vs = [.ref c] ∧ H c = some (.ins C dx []) ∧ ∀ H', (∀ x, x ≠ c → H' x = H x) → H' c = some (.ins C dx (kf 0 .non false)) → Q .non H'
theorem ok_init {f : Addr} {fd : FuncData} (F : Fun K "__init__" "Keeper.__init__" s_init f fd) (TC : KeeT K C) : FnOk P w K mg base CX0 1 f fd ["self"] (spInit C) := by
  refine F.ok sc_init (fun vs H Q E h => ?_) (fun cdv A outer s H vs Q E hr h => ?_)
  · obtain ⟨c, dx, rfl, _⟩ := h
    rfl
  · obtain ⟨c, dx, rfl, e, k⟩ := h
    refine ⟨_, pss_cons (ps_fld (pv 0) pe_int rfl)
      (pss_cons (ps_fld (pv 0) pe_non rfl)
      (pss_one (ps_fld (pv 0) pe_bl rfl))), ?_⟩
    refine ⟨_, rfl, c, C, dx, _, rfl, e, TC.cl, TC.nt, (by decide), ?_⟩
    refine ⟨_, rfl, c, C, dx, _, rfl, upd_same, TC.cl, TC.no, (by show 1 < 1000; decide), ?_⟩
    refine ⟨_, rfl, c, C, dx, _, rfl, upd_same, TC.cl, TC.np, (by simp [putF, to_]), ?_⟩
    refine k _ (fun x nx => by rw [upd_ne nx, upd_ne nx, upd_ne nx]) ?_
    rw [upd_same]
    simp [putF, kf, to_, tp_, op_]
abbrev s_lock : Stmt := inClass (top 10) 1
theorem sc_lock : FnScope ["self", "to"] ["self", "to"] (defScope s_lock) := ⟨rfl, rfl, rfl, by decide +kernel, rfl, by decide +kernel, by decide +kernel⟩
def spLock (C CH : Addr) : Sp := fun vs H Q E => ∃ c dx t o p v, vs = [.ref c, v] ∧ H c = some (.ins C dx (kf t o p)) ∧
  (o = .non → Q (.int (t + 1)) (upd H c (.ins C dx (kf (t + 1) v p)))) ∧ (o ≠ .non → ∀ d, H d = none → E (.ref CH) (some d) (upd H d (.xd [("found", o)])))
theorem ok_lock {f : Addr} {fd : FuncData} (F : Fun K "lock" "Keeper.lock" s_lock f fd) (T : Txt mg) (TC : KeeT K C) (ES : SeT K mg CS fS fdS sSE) (EShut : ExC K mg "Shut" "Shut.__init__" sShut CH fH fdH) :
    FnOk P w K mg base (CX P w) 4 f fd ["self", "to"] (spLock C CH) := by
  refine F.okX sc_lock (fun vs H Q E h => ?_) (fun cdv A outer s H vs Q E hr h => ?_)
  · obtain ⟨c, dx, t, o, p, v, rfl, _⟩ := h
    rfl
  · obtain ⟨c, dx, t, o, p, v, rfl, e, k1, k2⟩ := h
    refine ⟨_, pss_cons (ps_if (pt_cmpR op_notN (pe_fld (pv 0) rfl) pe_non (nomark _)) (pss_one (ps_raise rfl (takes_of rfl rfl rfl rfl) (pmk_oex EShut.o EShut.i EShut.t (ok_Shut ES EShut) (hr.mono (by decide)) EShut.b .nil pass0 (by rfl) EShut.g (pa_cons (pe_fld (pv 0) rfl) pa_nil)))) pss_nil)
      (pss_cons (ps_fldaug (pv 0) pe_int in_add)
      (pss_cons (ps_fld (pv 0) (pv 1) rfl)
      (pss_one (ps_ret (pe_fld (pv 0) rfl))))), ?_⟩
    refine ⟨_, rfl, c, C, dx, _, _, rfl, e, TC.cl, TC.no, kf_to t o p, rfl, _, rfl, ite2 (fun q => ?_) (fun q => ?_)⟩
    · exact ⟨_, rfl, c, C, dx, _, _, rfl, e, TC.cl, TC.no, kf_to t o p, made_one (k2 (by simpa using q))⟩
    · have q : o = .non := by simpa using q
      refine ⟨_, rfl, c, C, dx, _, _, rfl, e, TC.cl, TC.nt, kf_times t o p, _, _, rfl, rfl, _, _, e, kf_len _ _ _, ?_⟩
      rw [kf_put_times]
      refine ⟨_, rfl, _, rfl, c, C, dx, _, rfl, upd_same, TC.cl, TC.no, kf_len _ _ _, ?_⟩
      rw [kf_put_to, upd_upd]
      exact ⟨_, rfl, c, C, dx, _, _, rfl, upd_same, TC.cl, TC.nt, kf_times _ _ _, k1 q⟩
abbrev s_locked : Stmt := inClass (top 10) 2
theorem sc_locked : FnScope ["self"] ["self"] (defScope s_locked) := ⟨rfl, rfl, rfl, by decide +kernel, rfl, by decide +kernel, by decide +kernel⟩
def spLocked (C : Addr) : Sp := fun vs H Q _ => ∃ c dx t o p, vs = [.ref c] ∧ H c = some (.ins C dx (kf t o p)) ∧ (o = .non → Q .non H) ∧ (o ≠ .non → ∀ u, H u = none → Q (.ref u) (upd H u (.tup [.int t, o])))
theorem ok_locked {f : Addr} {fd : FuncData} (F : Fun K "locked" "Keeper.locked" s_locked f fd) (TC : KeeT K C) : FnOk P w K mg base CX0 1 f fd ["self"] (spLocked C) := by
  refine F.ok sc_locked (fun vs H Q E h => ?_) (fun cdv A outer s H vs Q E hr h => ?_)
  · obtain ⟨c, dx, t, o, p, rfl, _⟩ := h
    rfl
  · obtain ⟨c, dx, t, o, p, rfl, e, k1, k2⟩ := h
    refine ⟨_, pss_one (ps_ret (pe_ifExp (pt_cmpR op_isN (pe_fld (pv 0) rfl) pe_non (nomark _)) pe_non (pe_tup (pa_cons (pe_fld (pv 0) rfl) (pa_cons (pe_fld (pv 0) rfl) pa_nil))))), ?_⟩
    refine ⟨_, rfl, c, C, dx, _, _, rfl, e, TC.cl, TC.no, kf_to t o p, rfl, _, rfl, ite2 (fun q => ?_) (fun q => ?_)⟩
    · exact k1 (of_decide_eq_true q)
    · have q' : o ≠ .non := fun z => q (decide_eq_true z)
      refine ⟨_, rfl, c, C, dx, _, _, rfl, e, TC.cl, TC.nt, kf_times t o p, _, rfl, c, C, dx, _, _, rfl, e, TC.cl, TC.no, kf_to t o p, (by show 2 ≤ sizeLine; decide), fun u nu => k2 q' u nu⟩
abbrev s_is_open : Stmt := inClass (top 10) 4
theorem sc_is_open : FnScope ["self"] ["self"] (defScope s_is_open) := ⟨rfl, rfl, rfl, by decide +kernel, rfl, by decide +kernel, by decide +kernel⟩
def spIsOpen (C : Addr) : Sp := fun vs H Q _ => ∃ c dx t o p, vs = [.ref c] ∧ H c = some (.ins C dx (kf t o p)) ∧ Q (.bl p) H
theorem ok_is_open {f : Addr} {fd : FuncData} (F : Fun K "is_open" "Keeper.is_open" s_is_open f fd) (TC : KeeT K C) : FnOk P w K mg base CX0 1 f fd ["self"] (spIsOpen C) := by
  refine F.ok sc_is_open (fun vs H Q E h => ?_) (fun cdv A outer s H vs Q E hr h => ?_)
  · obtain ⟨c, dx, t, o, p, rfl, _⟩ := h
    rfl
  · obtain ⟨c, dx, t, o, p, rfl, e, k⟩ := h
    refine ⟨_, pss_one (ps_ret (pe_fld (pv 0) rfl)), ?_⟩
    exact ⟨_, rfl, c, C, dx, _, _, rfl, e, TC.cl, TC.np, kf_opened t o p, k⟩
abbrev s_times : Stmt := inClass (top 10) 9
theorem sc_times : FnScope ["self"] ["self"] (defScope s_times) := ⟨rfl, rfl, rfl, by decide +kernel, rfl, by decide +kernel, by decide +kernel⟩
def spTimes (C : Addr) : Sp := fun vs H Q _ => ∃ c dx t o p, vs = [.ref c] ∧ H c = some (.ins C dx (kf t o p)) ∧ Q (.int t) H
theorem ok_times {f : Addr} {fd : FuncData} (F : Fun K "times" "Keeper.times" s_times f fd) (TC : KeeT K C) : FnOk P w K mg base CX0 1 f fd ["self"] (spTimes C) := by
  refine F.ok sc_times (fun vs H Q E h => ?_) (fun cdv A outer s H vs Q E hr h => ?_)
  · obtain ⟨c, dx, t, o, p, rfl, _⟩ := h
    rfl
  · obtain ⟨c, dx, t, o, p, rfl, e, k⟩ := h
    refine ⟨_, pss_one (ps_ret (pe_fld (pv 0) rfl)), ?_⟩
    exact ⟨_, rfl, c, C, dx, _, _, rfl, e, TC.cl, TC.nt, kf_times t o p, k⟩
abbrev s_is_locked_by : Stmt := inClass (top 10) 7
theorem sc_is_locked_by : FnScope ["self", "number"] ["self", "number"] (defScope s_is_locked_by) := ⟨rfl, rfl, rfl, by decide +kernel, rfl, by decide +kernel, by decide +kernel⟩
def lby (t : Int) (o v : V) : Bool := !decide (o = .non) && wh t t v
def spBy (C : Addr) : Sp := fun vs H Q _ => ∃ c dx t o p v, vs = [.ref c, v] ∧ H c = some (.ins C dx (kf t o p)) ∧ Th H v ∧ Q (.bl (lby t o v)) H
theorem ok_by {f fW : Addr} {fd fdW : FuncData} (F : Fun K "_is_locked_by" "Keeper._is_locked_by" s_is_locked_by f fd) (TC : KeeT K C)
    (Nis_whole : Fn K mg "is_whole" sWhole ["thing", "low", "high"] fW fdW) (Gis_whole : FnOk P w K mg base CX0 1 fW fdW ["thing", "low", "high"] spWhole) : FnOk P w K mg base CX0 2 f fd ["self", "number"] (spBy C) := by
  refine F.ok sc_is_locked_by (fun vs H Q E h => ?_) (fun cdv A outer s H vs Q E hr h => ?_)
  · obtain ⟨c, dx, t, o, p, v, rfl, _⟩ := h
    rfl
  · obtain ⟨c, dx, t, o, p, v, rfl, e, th, k⟩ := h
    refine ⟨_, pss_one (ps_ret (pe_and (pe_cmpR op_notN (pe_fld (pv 0) rfl) pe_non (nomark _)) (pe_one (pe_call Gis_whole (hr.mono (by decide)) (by rfl) Nis_whole.g Nis_whole.kp Nis_whole.b .nil pass0 (pa_cons (pv 1) (pa_cons (pe_fld (pv 0) rfl) (pa_cons (pe_fld (pv 0) rfl) pa_nil))))))), ?_⟩
    refine ⟨_, rfl, c, C, dx, _, _, rfl, e, TC.cl, TC.no, kf_to t o p, rfl, _, rfl, ?_⟩
    refine ite2 (fun q => ?_) (fun q => ?_)
    · refine ⟨_, rfl, _, rfl, c, C, dx, _, _, rfl, e, TC.cl, TC.nt, kf_times t o p, _, rfl, c, C, dx, _, _, rfl, e, TC.cl, TC.nt, kf_times t o p, v, t, t, rfl, th, ?_⟩
      have lb : lby t o v = wh t t v := by unfold lby; rw [q]; rfl
      rw [← lb]
      exact k
    · have lb : lby t o v = false := by unfold lby; rw [Bool.eq_false_iff.mpr q]; rfl
      rw [lb] at k
      exact k
abbrev s_free : Stmt := inClass (top 10) 8
theorem sc_free : FnScope ["self"] ["self"] (defScope s_free) := ⟨rfl, rfl, rfl, by decide +kernel, rfl, by decide +kernel, by decide +kernel⟩
def spFree (C : Addr) : Sp := fun vs H Q _ => ∃ c dx t o p, vs = [.ref c] ∧ H c = some (.ins C dx (kf t o p)) ∧ Q .non (upd H c (.ins C dx (kf t .non false)))
theorem ok_free {f : Addr} {fd : FuncData} (F : Fun K "_free" "Keeper._free" s_free f fd) (TC : KeeT K C) : FnOk P w K mg base CX0 1 f fd ["self"] (spFree C) := by
  refine F.ok sc_free (fun vs H Q E h => ?_) (fun cdv A outer s H vs Q E hr h => ?_)
  · obtain ⟨c, dx, t, o, p, rfl, _⟩ := h
    rfl
  · obtain ⟨c, dx, t, o, p, rfl, e, k⟩ := h
    refine ⟨_, pss_cons (ps_fld (pv 0) pe_non rfl)
      (pss_one (ps_fld (pv 0) pe_bl rfl)), ?_⟩
    refine ⟨_, rfl, c, C, dx, _, rfl, e, TC.cl, TC.no, kf_len _ _ _, ?_⟩
    rw [kf_put_to]
    refine ⟨_, rfl, c, C, dx, _, rfl, upd_same, TC.cl, TC.np, kf_len _ _ _, ?_⟩
    rw [kf_put_opened, upd_upd]
    exact k
abbrev s_opens : Stmt := inClass (top 10) 3
theorem sc_opens : FnScope ["self", "number"] ["self", "number"] (defScope s_opens) := ⟨rfl, rfl, rfl, by decide +kernel, rfl, by decide +kernel, by decide +kernel⟩
def spOpens (C : Addr) : Sp := fun vs H Q _ => ∃ c dx t o p v, vs = [.ref c, v] ∧ H c = some (.ins C dx (kf t o p)) ∧ Th H v ∧
  ((!p && lby t o v) = false → Q (.bl false) H) ∧ ((!p && lby t o v) = true → Q (.bl true) (upd H c (.ins C dx (kf t o true))))
theorem ok_opens {f fB : Addr} {fd fdB : FuncData} (F : Fun K "opens" "Keeper.opens" s_opens f fd) (TC : KeeT K C)
    (Mis_locked_by : Me K C "_is_locked_by" "Keeper._is_locked_by" s_is_locked_by ["self", "number"] fB fdB) (Gis_locked_by : FnOk P w K mg base CX0 2 fB fdB ["self", "number"] (spBy C)) :
    FnOk P w K mg base (CX P w) 3 f fd ["self", "number"] (spOpens C) := by
  refine F.okX sc_opens (fun vs H Q E h => ?_) (fun cdv A outer s H vs Q E hr h => ?_)
  · obtain ⟨c, dx, t, o, p, v, rfl, _⟩ := h
    rfl
  · obtain ⟨c, dx, t, o, p, v, rfl, e, th, k1, k2⟩ := h
    refine ⟨_, pss_cons (ps_if (PW.pt (pw_or (pt_val (pe_fld (pv 0) rfl)) (pw_or1 (pt_not (pt_val (pe_meth (pv 0) TC.cl Mis_locked_by.m Gis_locked_by (hr.mono (by decide)) Mis_locked_by.b .nil pass0 (pa_cons (pv 1) pa_nil))))))) (pss_one (ps_ret pe_bl)) pss_nil)
      (pss_cons (ps_fld (pv 0) pe_bl rfl)
      (pss_one (ps_ret pe_bl))), ?_⟩
    refine ⟨_, rfl, c, C, dx, _, _, rfl, e, TC.cl, TC.np, kf_opened t o p, ?_⟩
    cases p with
    | true =>
      refine ⟨_, rfl, iteT ?_⟩
      exact k1 rfl
    | false =>
      refine ⟨_, rfl, iteF ?_⟩
      refine ⟨_, rfl, c, dx, _, rfl, e, kf_no _ _ _ (by decide +kernel) (by decide +kernel) (by decide +kernel), _, rfl, c, dx, t, o, false, v, rfl, e, th, ?_⟩
      cases hb : lby t o v with
      | false =>
        refine ⟨_, rfl, iteT ?_⟩
        exact k1 (by rw [hb]; rfl)
      | true =>
        refine ⟨_, rfl, iteF ?_⟩
        refine ⟨_, rfl, c, C, dx, _, rfl, e, TC.cl, TC.np, kf_len _ _ _, ?_⟩
        rw [kf_put_opened]
        exact k2 (by rw [hb]; rfl)
abbrev s_unlock : Stmt := inClass (top 10) 5
theorem sc_unlock : FnScope ["self"] ["self"] (defScope s_unlock) := ⟨rfl, rfl, rfl, by decide +kernel, rfl, by decide +kernel, by decide +kernel⟩
def spUnlock (C CN CR : Addr) : Sp := fun vs H Q E => ∃ c dx t o p, vs = [.ref c] ∧ H c = some (.ins C dx (kf t o p)) ∧
  (o ≠ .non → p = true → Q .non (upd H c (.ins C dx (kf t .non false)))) ∧ (o = .non → ∀ d, H d = none → E (.ref CN) (some d) (upd H d (.xd [("found", .non)]))) ∧
  (o ≠ .non → p = false → ∀ d, H d = none → E (.ref CR) (some d) (upd H d (.xd [("found", .int t)])))
theorem ok_unlock {f fF : Addr} {fd fdF : FuncData} (F : Fun K "unlock" "Keeper.unlock" s_unlock f fd) (TC : KeeT K C) (ES : SeT K mg CS fS fdS sSE) (ENotShut : ExC K mg "NotShut" "NotShut.__init__" sNotShut CN fN fdN) (ENoRight : ExC K mg "NoRight" "NoRight.__init__" sNoRight CR fR fdR)
    (Mfree : Me K C "_free" "Keeper._free" s_free ["self"] fF fdF) (Gfree : FnOk P w K mg base CX0 1 fF fdF ["self"] (spFree C)) :
    FnOk P w K mg base (CX P w) 4 f fd ["self"] (spUnlock C CN CR) := by
  refine F.okX sc_unlock (fun vs H Q E h => ?_) (fun cdv A outer s H vs Q E hr h => ?_)
  · obtain ⟨c, dx, t, o, p, rfl, _⟩ := h
    rfl
  · obtain ⟨c, dx, t, o, p, rfl, e, k1, k2, k3⟩ := h
    refine ⟨_, pss_cons (ps_if (pt_cmpR op_isN (pe_fld (pv 0) rfl) pe_non (nomark _)) (pss_one (ps_raise rfl (takes_of rfl rfl rfl rfl) (pmk_oex ENotShut.o ENotShut.i ENotShut.t (ok_NotShut ES ENotShut) (hr.mono (by decide)) ENotShut.b .nil pass0 (by rfl) ENotShut.g (pa_cons pe_non pa_nil)))) pss_nil)
      (pss_cons (ps_if (pt_not (pt_val (pe_fld (pv 0) rfl))) (pss_one (ps_raise rfl (takes_of rfl rfl rfl rfl) (pmk_oex ENoRight.o ENoRight.i ENoRight.t (ok_NoRight ES ENoRight) (hr.mono (by decide)) ENoRight.b .nil pass0 (by rfl) ENoRight.g (pa_cons (pe_fld (pv 0) rfl) pa_nil)))) pss_nil)
      (pss_one (ps_expr (pe_meth0 (pv 0) TC.cl Mfree.m Gfree (hr.mono (by decide)) Mfree.b .nil pass0)))), ?_⟩
    refine ⟨_, rfl, c, C, dx, _, _, rfl, e, TC.cl, TC.no, kf_to t o p, rfl, _, rfl, ite2 (fun q => ?_) (fun q => ?_)⟩
    · exact made_one (k2 (of_decide_eq_true q))
    · have q' : o ≠ .non := fun z => q (decide_eq_true z)
      refine ⟨_, rfl, c, C, dx, _, _, rfl, e, TC.cl, TC.np, kf_opened t o p, ?_⟩
      cases p with
      | false => exact ⟨_, rfl, iteT ⟨_, rfl, c, C, dx, _, _, rfl, e, TC.cl, TC.nt, kf_times t o _, made_one (k3 q' rfl)⟩⟩
      | true =>
        refine ⟨_, rfl, iteF ?_⟩
        exact ⟨_, rfl, c, dx, _, rfl, e, kf_no _ _ _ (by decide +kernel) (by decide +kernel) (by decide +kernel), c, dx, t, o, true, rfl, e, k1 q' rfl⟩
abbrev s_ended : Stmt := inClass (top 10) 6
theorem sc_ended : FnScope ["self", "number"] ["self", "number"] (defScope s_ended) := ⟨rfl, rfl, rfl, by decide +kernel, rfl, by decide +kernel, by decide +kernel⟩
def spEnded (C CN CR : Addr) : Sp := fun vs H Q E => ∃ c dx t o p v, vs = [.ref c, v] ∧ H c = some (.ins C dx (kf t o p)) ∧ Th H v ∧
  (o ≠ .non → wh t t v = true → Q .non (upd H c (.ins C dx (kf t .non false)))) ∧ (o = .non → ∀ d, H d = none → E (.ref CN) (some d) (upd H d (.xd [("found", .non)]))) ∧
  (o ≠ .non → wh t t v = false → ∀ d, H d = none → E (.ref CR) (some d) (upd H d (.xd [("found", .int t)])))
theorem ok_ended {f fB fF : Addr} {fd fdB fdF : FuncData} (F : Fun K "ended" "Keeper.ended" s_ended f fd) (TC : KeeT K C) (ES : SeT K mg CS fS fdS sSE) (ENotShut : ExC K mg "NotShut" "NotShut.__init__" sNotShut CN fN fdN) (ENoRight : ExC K mg "NoRight" "NoRight.__init__" sNoRight CR fR fdR)
    (Mis_locked_by : Me K C "_is_locked_by" "Keeper._is_locked_by" s_is_locked_by ["self", "number"] fB fdB) (Gis_locked_by : FnOk P w K mg base CX0 2 fB fdB ["self", "number"] (spBy C))
    (Mfree : Me K C "_free" "Keeper._free" s_free ["self"] fF fdF) (Gfree : FnOk P w K mg base CX0 1 fF fdF ["self"] (spFree C)) :
    FnOk P w K mg base (CX P w) 4 f fd ["self", "number"] (spEnded C CN CR) := by
  refine F.okX sc_ended (fun vs H Q E h => ?_) (fun cdv A outer s H vs Q E hr h => ?_)
  · obtain ⟨c, dx, t, o, p, v, rfl, _⟩ := h
    rfl
  · obtain ⟨c, dx, t, o, p, v, rfl, e, th, k1, k2, k3⟩ := h
    refine ⟨_, pss_cons (ps_if (pt_cmpR op_isN (pe_fld (pv 0) rfl) pe_non (nomark _)) (pss_one (ps_raise rfl (takes_of rfl rfl rfl rfl) (pmk_oex ENotShut.o ENotShut.i ENotShut.t (ok_NotShut ES ENotShut) (hr.mono (by decide)) ENotShut.b .nil pass0 (by rfl) ENotShut.g (pa_cons pe_non pa_nil)))) pss_nil)
      (pss_cons (ps_if (pt_not (pt_val (pe_meth (pv 0) TC.cl Mis_locked_by.m Gis_locked_by (hr.mono (by decide)) Mis_locked_by.b .nil pass0 (pa_cons (pv 1) pa_nil)))) (pss_one (ps_raise rfl (takes_of rfl rfl rfl rfl) (pmk_oex ENoRight.o ENoRight.i ENoRight.t (ok_NoRight ES ENoRight) (hr.mono (by decide)) ENoRight.b .nil pass0 (by rfl) ENoRight.g (pa_cons (pe_fld (pv 0) rfl) pa_nil)))) pss_nil)
      (pss_one (ps_expr (pe_meth0 (pv 0) TC.cl Mfree.m Gfree (hr.mono (by decide)) Mfree.b .nil pass0)))), ?_⟩
    refine ⟨_, rfl, c, C, dx, _, _, rfl, e, TC.cl, TC.no, kf_to t o p, rfl, _, rfl, ite2 (fun q => ?_) (fun q => ?_)⟩
    · exact made_one (k2 (of_decide_eq_true q))
    · have q' : o ≠ .non := fun z => q (decide_eq_true z)
      have lb : lby t o v = wh t t v := by unfold lby; rw [decide_eq_false q']; rfl
      refine ⟨_, rfl, c, dx, _, rfl, e, kf_no _ _ _ (by decide +kernel) (by decide +kernel) (by decide +kernel), _, rfl, c, dx, t, o, p, v, rfl, e, th, ?_⟩
      rw [lb]
      cases hb : wh t t v with
      | false => exact ⟨_, rfl, iteT ⟨_, rfl, c, C, dx, _, _, rfl, e, TC.cl, TC.nt, kf_times t o _, made_one (k3 q' hb)⟩⟩
      | true =>
        refine ⟨_, rfl, iteF ?_⟩
        exact ⟨_, rfl, c, dx, _, rfl, e, kf_no _ _ _ (by decide +kernel) (by decide +kernel) (by decide +kernel), c, dx, t, o, p, rfl, e, k1 q' hb⟩
end
end K23

set_option maxRecDepth 100000
set_option maxHeartbeats 400000
namespace K23H
open PySem PySem.Spec PyProof.Rows L2 GxR Gd TL My K23
/-! ### a holder -/
theorem rn_ : ¬ (("_right" : Str) = "_noted") := by decide +kernel
theorem rs_ : ¬ (("_right" : Str) = "_seen") := by decide +kernel
theorem ns_ : ¬ (("_noted" : Str) = "_seen") := by decide +kernel
theorem nr_ : ¬ (("_noted" : Str) = "_right") := by decide +kernel
theorem sr_ : ¬ (("_seen" : Str) = "_right") := by decide +kernel
theorem sn_ : ¬ (("_seen" : Str) = "_noted") := by decide +kernel
def hf (r n : V) (s : Int) : List (Str × V) := [("_right", r), ("_noted", n), ("_seen", .int s)]
theorem hf_right (r n : V) (s : Int) : (hf r n s).lookup ("_right" : Str) = some r := by
  unfold hf
  simp [List.lookup]
theorem hf_noted (r n : V) (s : Int) : (hf r n s).lookup ("_noted" : Str) = some n := by
  have : (("_noted" : Str) == "_right") = false := by decide +kernel
  unfold hf
  simp [List.lookup, this]
theorem hf_seen (r n : V) (s : Int) : (hf r n s).lookup ("_seen" : Str) = some (.int s) := by
  have h1 : (("_seen" : Str) == "_right") = false := by decide +kernel
  have h2 : (("_seen" : Str) == "_noted") = false := by decide +kernel
  unfold hf
  simp [List.lookup, h1, h2]
theorem hf_no (r n : V) (s : Int) {m : Str} (h1 : (m == "_right") = false) (h2 : (m == "_noted") = false) (h3 : (m == "_seen") = false) : (hf r n s).lookup m = none := by
  unfold hf
  simp [List.lookup, h1, h2, h3]
theorem hf_put_right (r n r' : V) (s : Int) : putF "_right" r' (hf r n s) = hf r' n s := by
  unfold hf
  simp [putF]
theorem hf_put_noted (r n n' : V) (s : Int) : putF "_noted" n' (hf r n s) = hf r n' s := by
  unfold hf
  simp [putF, rn_]
theorem hf_put_seen (r n : V) (s s' : Int) : putF "_seen" (.int s') (hf r n s) = hf r n s' := by
  unfold hf
  simp [putF, rs_, ns_]
theorem hf_len (r n : V) (s : Int) : (hf r n s).length < 1000 := by
  show 3 < 1000
  decide
structure HolT (K : PySem.W.Frag) (C : Addr) : Prop where
  cl : Cls K C
  nr : NoAttr K C "_right"
  nn : NoAttr K C "_noted"
  ns : NoAttr K C "_seen"
section
variable {P : Program} {w : World} {K : PySem.W.Frag} {mg : Str → Option Value} {base : Heap} {C CS fS CN fN CR fR : Addr} {fdS fdN fdR : FuncData}
/-- is_whole(v, lo, v) -/
def whg (lo : Int) : V → Bool
  | .int i => decide (lo ≤ i)
  | _ => false
def spWholeG : Sp := fun vs H Q _ => ∃ (v : V) (lo : Int), vs = [v, .int lo, v] ∧ Th H v ∧ Q (.bl (whg lo v)) H
theorem ok_wholeG {f : Addr} {fd : FuncData} (F : Fun K "is_whole" "is_whole" sWhole f fd) (T : Txt mg) : FnOk P w K mg base CX0 1 f fd ["thing", "low", "high"] spWholeG := by
  refine F.ok scWhole (fun vs H Q E h => ?_) (fun cdv A outer s H vs Q E hr h => ?_)
  · obtain ⟨v, lo, rfl, _⟩ := h
    rfl
  · obtain ⟨v, lo, rfl, th, k⟩ := h
    obtain ⟨t, ty, cs⟩ := th.ty (K := K)
    refine ⟨_, pss_cons (ps_if (PW.pt (pw_or (pt_not (pt_val (pe_callB call_isi (by rfl) T.isinstance_ (by decide +kernel) (pa_cons (pv 0) (pa_cons (pe_bltn (v := .ty "int") (by rfl) T.int_ (by decide +kernel) rfl) pa_nil))))) (pw_or1 (pt_val (pe_callB call_isi (by rfl) T.isinstance_ (by decide +kernel) (pa_cons (pv 0) (pa_cons (pe_bltn (v := .ty "bool") (by rfl) T.bool_ (by decide +kernel) rfl) pa_nil))))))) (pss_one (ps_ret pe_bl)) pss_nil)
      (pss_one (ps_ret (pe_chain op_le op_le (pv 1) (pv 0) (pv 2)))), ?_⟩
    rcases cs with ⟨i, rfl, rfl⟩ | ⟨b, rfl, rfl⟩ | ⟨z, rfl, _, rfl⟩ | ⟨n1, n2, n3, ht⟩
    · refine ⟨_, rfl, _, _, _, _, true, rfl, .ty "int", ty, (by rfl), _, rfl, iteF ?_⟩
      refine ⟨_, rfl, _, _, _, _, false, rfl, .ty "bool", ty, (by rfl), _, rfl, iteF ?_⟩
      refine ⟨_, rfl, _, rfl, _, _, rfl, rfl, _, rfl, ?_⟩
      refine ite2 (fun c => ?_) (fun c => ?_)
      · refine ⟨_, rfl, _, _, rfl, rfl, ?_⟩
        show Q (.bl (decide (i ≤ i))) H
        rw [decide_eq_true (Int.le_refl i)]
        rw [show whg lo (.int i) = true from c] at k
        exact k
      · rw [show whg lo (.int i) = false by simpa [whg] using c] at k
        exact k
    · refine ⟨_, rfl, _, _, _, _, true, rfl, .ty "int", ty, (by rfl), _, rfl, iteF ?_⟩
      exact ⟨_, rfl, _, _, _, _, true, rfl, .ty "bool", ty, (by rfl), _, rfl, iteT k⟩
    · exact ⟨_, rfl, _, _, _, _, false, rfl, .ty "int", ty, (by rfl), _, rfl, iteT (iteT k)⟩
    · have e : whg lo v = false := by
        cases v with
        | int i => exact absurd rfl (n1 i)
        | _ => rfl
      rw [e] at k
      rcases ht with rfl | rfl | rfl | rfl <;> exact ⟨_, rfl, _, _, _, _, false, rfl, .ty "int", ty, (by rfl), _, rfl, iteT (iteT k)⟩
abbrev s_init : Stmt := inClass (top 11) 0
theorem sc_init : FnScope ["self"] ["self"] (defScope s_init) := ⟨rfl, rfl, rfl, by decide +kernel, rfl, by decide +kernel, by decide +kernel⟩
def spInit (C : Addr) : Sp := fun vs H Q _ => ∃ c dx, vs = [.ref c] ∧ H c = some (.ins C dx []) ∧ ∀ H', (∀ x, x ≠ c → H' x = H x) → H' c = some (.ins C dx (hf .non .non 0)) → Q .non H'
theorem ok_init {f : Addr} {fd : FuncData} (F : Fun K "__init__" "Holder.__init__" s_init f fd) (TC : HolT K C) : FnOk P w K mg base CX0 1 f fd ["self"] (spInit C) := by
  refine F.ok sc_init (fun vs H Q E h => ?_) (fun cdv A outer s H vs Q E hr h => ?_)
  · obtain ⟨c, dx, rfl, _⟩ := h
    rfl
  · obtain ⟨c, dx, rfl, e, k⟩ := h
    refine ⟨_, pss_cons (ps_fld (pv 0) pe_non rfl)
      (pss_cons (ps_fld (pv 0) pe_non rfl)
      (pss_one (ps_fld (pv 0) pe_int rfl))), ?_⟩
    refine ⟨_, rfl, c, C, dx, _, rfl, e, TC.cl, TC.nr, (by decide), ?_⟩
    refine ⟨_, rfl, c, C, dx, _, rfl, upd_same, TC.cl, TC.nn, (by show 1 < 1000; decide), ?_⟩
    refine ⟨_, rfl, c, C, dx, _, rfl, upd_same, TC.cl, TC.ns, (by simp [putF, rn_]), ?_⟩
    refine k _ (fun x nx => by rw [upd_ne nx, upd_ne nx, upd_ne nx]) ?_
    rw [upd_same]
    simp [putF, hf, rn_, rs_, ns_]
abbrev s_got : Stmt := inClass (top 11) 1
theorem sc_got : FnScope ["self", "number", "place"] ["self", "number", "place"] (defScope s_got) := ⟨rfl, rfl, rfl, by decide +kernel, rfl, by decide +kernel, by decide +kernel⟩
def spGot (C CN : Addr) : Sp := fun vs H Q E => ∃ c dx r n s v z, vs = [.ref c, v, z] ∧ H c = some (.ins C dx (hf r n s)) ∧ Th H v ∧
  (∀ i, v = .int i → 1 ≤ i → i ≤ s → Q (.bl false) H) ∧
  (∀ i, v = .int i → 1 ≤ i → s < i → ∀ u, H u = none → Q (.bl true) (upd (upd (upd H c (.ins C dx (hf r n i))) u (.tup [.int i, z])) c (.ins C dx (hf (.ref u) n i)))) ∧
  (whg 1 v = false → ∀ d, H d = none → E (.ref CN) (some d) (upd H d (.xd [("found", v)])))
theorem ok_got {f fW : Addr} {fd fdW : FuncData} (F : Fun K "got" "Holder.got" s_got f fd) (T : Txt mg) (TC : HolT K C) (ES : SeT K mg CS fS fdS sSE) (ENoNumber : ExC K mg "NoNumber" "NoNumber.__init__" sNoNumber CN fN fdN)
    (Nis_whole : Fn K mg "is_whole" sWhole ["thing", "low", "high"] fW fdW) (Gis_whole : FnOk P w K mg base CX0 1 fW fdW ["thing", "low", "high"] spWholeG) :
    FnOk P w K mg base (CX P w) 4 f fd ["self", "number", "place"] (spGot C CN) := by
  refine F.okX sc_got (fun vs H Q E h => ?_) (fun cdv A outer s H vs Q E hr h => ?_)
  · obtain ⟨c, dx, r, n, s, v, z, rfl, _⟩ := h
    rfl
  · obtain ⟨c, dx, r, n, s, v, z, rfl, e, th, k1, k2, k3⟩ := h
    refine ⟨_, pss_cons (ps_if (pt_not (pt_val (pe_call Gis_whole (hr.mono (by decide)) (by rfl) Nis_whole.g Nis_whole.kp Nis_whole.b .nil pass0 (pa_cons (pv 1) (pa_cons pe_int (pa_cons (pv 1) pa_nil)))))) (pss_one (ps_raise rfl (takes_of rfl rfl rfl rfl) (pmk_oex ENoNumber.o ENoNumber.i ENoNumber.t (ok_NoNumber ES ENoNumber) (hr.mono (by decide)) ENoNumber.b .nil pass0 (by rfl) ENoNumber.g (pa_cons (pv 1) pa_nil)))) pss_nil)
      (pss_cons (ps_if (pt_cmpR op_le (pv 1) (pe_fld (pv 0) rfl) (nomark _)) (pss_one (ps_ret pe_bl)) pss_nil)
      (pss_cons (ps_fld (pv 0) (pv 1) rfl)
      (pss_cons (ps_fld (pv 0) (pe_tup (pa_cons (pv 1) (pa_cons (pv 2) pa_nil))) rfl)
      (pss_one (ps_ret pe_bl))))), ?_⟩
    refine ⟨_, rfl, _, rfl, v, 1, rfl, th, ?_⟩
    cases hw : whg 1 v with
    | false => exact ⟨_, rfl, iteT ⟨_, rfl, made_one (k3 hw)⟩⟩
    | true =>
      obtain ⟨i, rfl⟩ : ∃ i, v = .int i := by
        cases v with
        | int i => exact ⟨i, rfl⟩
        | _ => cases hw
      have h1 : 1 ≤ i := by simpa [whg] using hw
      refine ⟨_, rfl, iteF ?_⟩
      refine ⟨_, rfl, _, rfl, c, C, dx, _, _, rfl, e, TC.cl, TC.ns, hf_seen r n s, _, _, rfl, rfl, _, rfl, ite2 (fun q => k1 i rfl h1 (of_decide_eq_true q)) (fun q => ?_)⟩
      have h2 : s < i := by
        have : ¬ i ≤ s := fun z => q (decide_eq_true z)
        omega
      refine ⟨_, rfl, _, rfl, c, C, dx, _, rfl, e, TC.cl, TC.ns, hf_len _ _ _, ?_⟩
      rw [hf_put_seen]
      refine ⟨_, rfl, _, rfl, (by show 2 ≤ sizeLine; decide), fun u nu => ?_⟩
      have ncu : c ≠ u := ne_of_none upd_same nu
      refine ⟨_, rfl, c, C, dx, _, rfl, (by rw [upd_ne ncu, upd_same]), TC.cl, TC.nr, hf_len _ _ _, ?_⟩
      rw [hf_put_right]
      exact k2 i rfl h1 h2 u (by rw [upd_ne ncu.symm] at nu; exact nu)
abbrev s_right : Stmt := inClass (top 11) 2
theorem sc_right : FnScope ["self"] ["self"] (defScope s_right) := ⟨rfl, rfl, rfl, by decide +kernel, rfl, by decide +kernel, by decide +kernel⟩
def spRight (C : Addr) : Sp := fun vs H Q _ => ∃ c dx r n s, vs = [.ref c] ∧ H c = some (.ins C dx (hf r n s)) ∧ Q r H
theorem ok_right {f : Addr} {fd : FuncData} (F : Fun K "right" "Holder.right" s_right f fd) (TC : HolT K C) : FnOk P w K mg base CX0 1 f fd ["self"] (spRight C) := by
  refine F.ok sc_right (fun vs H Q E h => ?_) (fun cdv A outer s H vs Q E hr h => ?_)
  · obtain ⟨c, dx, r, n, s, rfl, _⟩ := h
    rfl
  · obtain ⟨c, dx, r, n, s, rfl, e, k⟩ := h
    refine ⟨_, pss_one (ps_ret (pe_fld (pv 0) rfl)), ?_⟩
    exact ⟨_, rfl, c, C, dx, _, _, rfl, e, TC.cl, TC.nr, hf_right r n s, k⟩
abbrev s_seen : Stmt := inClass (top 11) 7
theorem sc_seen : FnScope ["self"] ["self"] (defScope s_seen) := ⟨rfl, rfl, rfl, by decide +kernel, rfl, by decide +kernel, by decide +kernel⟩
def spSeen (C : Addr) : Sp := fun vs H Q _ => ∃ c dx r n s, vs = [.ref c] ∧ H c = some (.ins C dx (hf r n s)) ∧ Q (.int s) H
theorem ok_seen {f : Addr} {fd : FuncData} (F : Fun K "seen" "Holder.seen" s_seen f fd) (TC : HolT K C) : FnOk P w K mg base CX0 1 f fd ["self"] (spSeen C) := by
  refine F.ok sc_seen (fun vs H Q E h => ?_) (fun cdv A outer s H vs Q E hr h => ?_)
  · obtain ⟨c, dx, r, n, s, rfl, _⟩ := h
    rfl
  · obtain ⟨c, dx, r, n, s, rfl, e, k⟩ := h
    refine ⟨_, pss_one (ps_ret (pe_fld (pv 0) rfl)), ?_⟩
    exact ⟨_, rfl, c, C, dx, _, _, rfl, e, TC.cl, TC.ns, hf_seen r n s, k⟩
abbrev s_use : Stmt := inClass (top 11) 3
theorem sc_use : FnScope ["self", "right"] ["self"] (defScope s_use) := ⟨rfl, rfl, rfl, by decide +kernel, rfl, by decide +kernel, by decide +kernel⟩
def spUse (C CR : Addr) : Sp := fun vs H Q E => ∃ c dx r n s, vs = [.ref c] ∧ H c = some (.ins C dx (hf r n s)) ∧ (r ≠ .non → Q r (upd H c (.ins C dx (hf .non n s)))) ∧
  (r = .non → ∀ d, H d = none → E (.ref CR) (some d) (upd H d (.xd [("found", .non)])))
theorem ok_use {f : Addr} {fd : FuncData} (F : Fun K "use" "Holder.use" s_use f fd) (TC : HolT K C) (ES : SeT K mg CS fS fdS sSE) (ENoRight : ExC K mg "NoRight" "NoRight.__init__" sNoRight CR fR fdR) :
    FnOk P w K mg base (CX P w) 4 f fd ["self"] (spUse C CR) := by
  refine F.okX sc_use (fun vs H Q E h => ?_) (fun cdv A outer s H vs Q E hr h => ?_)
  · obtain ⟨c, dx, r, n, s, rfl, _⟩ := h
    rfl
  · obtain ⟨c, dx, r, n, s, rfl, e, k1, k2⟩ := h
    refine ⟨_, pss_cons (ps_if (pt_cmpR op_isN (pe_fld (pv 0) rfl) pe_non (nomark _)) (pss_one (ps_raise rfl (takes_of rfl rfl rfl rfl) (pmk_oex ENoRight.o ENoRight.i ENoRight.t (ok_NoRight ES ENoRight) (hr.mono (by decide)) ENoRight.b .nil pass0 (by rfl) ENoRight.g (pa_cons pe_non pa_nil)))) pss_nil)
      (pss_cons (ps_set (i := 1) sc_use.nd rfl (Or.inl rfl) (pe_fld (pv 0) rfl))
      (pss_cons (ps_fld (pv 0) pe_non rfl)
      (pss_one (ps_ret (pv 1))))), ?_⟩
    refine ⟨_, rfl, c, C, dx, _, _, rfl, e, TC.cl, TC.nr, hf_right r n s, rfl, _, rfl, ite2 (fun q => ?_) (fun q => ?_)⟩
    · exact made_one (k2 (of_decide_eq_true q))
    · have h2 : r ≠ .non := fun z => q (decide_eq_true z)
      refine ⟨_, rfl, c, C, dx, _, _, rfl, e, TC.cl, TC.nr, hf_right r n s, _, rfl, c, C, dx, _, rfl, e, TC.cl, TC.nr, hf_len _ _ _, ?_⟩
      rw [hf_put_right]
      exact ⟨_, rfl, k1 h2⟩
abbrev s_give : Stmt := inClass (top 11) 4
theorem sc_give : FnScope ["self"] ["self"] (defScope s_give) := ⟨rfl, rfl, rfl, by decide +kernel, rfl, by decide +kernel, by decide +kernel⟩
def spGive (C CR : Addr) : Sp := fun vs H Q E => ∃ c dx r n s, vs = [.ref c] ∧ H c = some (.ins C dx (hf r n s)) ∧ (r ≠ .non → Q r (upd (upd H c (.ins C dx (hf .non n s))) c (.ins C dx (hf .non r s)))) ∧
  (r = .non → ∀ d, H d = none → E (.ref CR) (some d) (upd H d (.xd [("found", .non)])))
theorem ok_give {f fU : Addr} {fd fdU : FuncData} (F : Fun K "give" "Holder.give" s_give f fd) (TC : HolT K C)
    (Muse : Me K C "use" "Holder.use" s_use ["self"] fU fdU) (Guse : FnOk P w K mg base (CX P w) 4 fU fdU ["self"] (spUse C CR)) : FnOk P w K mg base (CX P w) 5 f fd ["self"] (spGive C CR) := by
  refine F.okX sc_give (fun vs H Q E h => ?_) (fun cdv A outer s H vs Q E hr h => ?_)
  · obtain ⟨c, dx, r, n, s, rfl, _⟩ := h
    rfl
  · obtain ⟨c, dx, r, n, s, rfl, e, k1, k2⟩ := h
    refine ⟨_, pss_cons (ps_fld (pv 0) (pe_meth0 (pv 0) TC.cl Muse.m Guse (hr.mono (by decide)) Muse.b .nil (passes_call (takes_of rfl rfl rfl rfl) (fun _ _ _ _ h => h))) rfl)
      (pss_one (ps_ret (pe_fld (pv 0) rfl))), ?_⟩
    refine ⟨_, rfl, c, dx, _, rfl, e, hf_no _ _ _ (by decide +kernel) (by decide +kernel) (by decide +kernel), c, dx, r, n, s, rfl, e, fun h => ?_, fun h d nd => k2 h d nd⟩
    refine ⟨_, rfl, c, C, dx, _, rfl, upd_same, TC.cl, TC.nn, hf_len _ _ _, ?_⟩
    rw [hf_put_noted]
    exact ⟨_, rfl, c, C, dx, _, _, rfl, upd_same, TC.cl, TC.nn, hf_noted _ _ _, k1 h⟩
abbrev s_note : Stmt := inClass (top 11) 5
theorem sc_note : FnScope ["self", "number", "place"] ["self", "number", "place"] (defScope s_note) := ⟨rfl, rfl, rfl, by decide +kernel, rfl, by decide +kernel, by decide +kernel⟩
def spNote (C : Addr) : Sp := fun vs H Q _ => ∃ c dx r n s i z, vs = [.ref c, .int i, z] ∧ H c = some (.ins C dx (hf r n s)) ∧ ∀ u, H u = none → Q .non (upd (upd H u (.tup [.int i, z])) c (.ins C dx (hf r (.ref u) s)))
theorem ok_note {f : Addr} {fd : FuncData} (F : Fun K "note" "Holder.note" s_note f fd) (TC : HolT K C) : FnOk P w K mg base (CX P w) 1 f fd ["self", "number", "place"] (spNote C) := by
  refine F.okX sc_note (fun vs H Q E h => ?_) (fun cdv A outer s H vs Q E hr h => ?_)
  · obtain ⟨c, dx, r, n, s, i, z, rfl, _⟩ := h
    rfl
  · obtain ⟨c, dx, r, n, s, i, z, rfl, e, k⟩ := h
    refine ⟨_, pss_one (ps_fld (pv 0) (pe_tup (pa_cons (pv 1) (pa_cons (pv 2) pa_nil))) rfl), ?_⟩
    refine ⟨_, rfl, _, rfl, (by show 2 ≤ sizeLine; decide), fun u nu => ?_⟩
    have ncu : c ≠ u := ne_of_none e nu
    refine ⟨_, rfl, c, C, dx, _, rfl, (by rw [upd_ne ncu]; exact e), TC.cl, TC.nn, hf_len _ _ _, ?_⟩
    rw [hf_put_noted]
    exact k u nu
end
end K23H

set_option maxRecDepth 100000
set_option maxHeartbeats 900000
/-! xs[lo:] = ys, another list -/
namespace My
open PySem PySem.Spec PyProof.Rows L2 GxR Gd
theorem tail_bounds {a n : Nat} (ha : a ≤ n) : sliceBounds (some (a : Int)) none none n = ((a : Int), (n : Int), 1) := by
  have h1 : ¬ ((a : Int) < 0) := Int.not_lt.mpr (by omega)
  simp only [sliceBounds, Option.getD_none, h1, if_false, show (1 : Int) > 0 by decide, if_true]
  have h2 : max (0 : Int) (min (a : Int) (n : Int)) = a := by omega
  rw [h2]
section
variable {s : Shared} {E : Value → Shared → Prop} {A : Around} {w : World} {prog : Program}
theorem tail_cut (xs ys : List Value) (a : Nat) : xs.toArray.extract 0 a ++ ys.toArray ++ xs.toArray.extract xs.toArray.size xs.toArray.size = (xs.take a ++ ys).toArray := by
  apply Array.toList_inj.mp
  simp
/-- at the store -/
theorem tail_store {l b sl : Addr} {xs ys : Array Value} {n n2 : Nat} {vl vu : Value} {a : Nat} {Q : Unit → Shared → Prop}
    (e : s.heap.get? l = some { cls := .type "list", data := .seq xs n })
    (e2 : s.heap.get? b = some { cls := .type "list", data := .seq ys n2 })
    (lb : l ≠ b) (hs : s.heap.IsSliceOf sl vl vu .none)
    (pl : IsPart vl (some (a : Int))) (pu : IsPart vu none) (ha : a ≤ xs.size) (hz : xs.size + ys.size ≤ sizeLine)
    (k : Q () { s with heap := s.heap.update l (Obj.mapSeq fun zs => zs.extract 0 a ++ ys ++ zs.extract xs.size zs.size) }) :
      wpAny (model prog w) A (setItem (.ref l) (.ref sl) (.ref b)) Q E s  := by
  have il := PySem.IsL.isList e
  have ib := PySem.IsL.isList e2
  obtain ⟨os, o1, o2, o3⟩ := id hs
  have ts : s.TypeIs (.ref sl) "slice" := ⟨os, o1, o2⟩
  have ne : Builtin.List.listSameRef (.ref l) (.ref b) = false := beq_eq_false_iff_ne.mpr lb
  have big : ((fun zs : Array Value => zs.extract 0 a ++ ys ++ zs.extract xs.size zs.size) xs).size ≤ sizeLine + 1 := by
    simp only [Array.size_append, Array.size_extract]; omega
  unfold setItem; (try with_reducible refine wpAny_holding ?_); first | refine wpAny_bind (wpAny_pure ?_) | skip
  refine wpAny_bind (wpAny_sequenceKey il.typeIs (by decide) (wpAny_bind (wpAny_callSpecial?_slot (name := Str.ofString "__setitem__") il.typeIs slot_list_setitem (wpAny_call_entry slot_list_setitem il.typeIs entry_list_setitem ?_ (args_list_setitem _ _ _)))))
  show wpAny _ _ (Builtin.List.listSubscript? (.ref sl) >>= _) _ _ _
  refine wpAny_bind (m := Builtin.List.listSubscript? (.ref sl)) ?_; unfold Builtin.List.listSubscript?
  refine wpAny_bind (wpAny_specialOf ts slice_no_index ?_)
  rw [if_pos (by rfl)]
  refine wpAny_pure ?_
  show wpAny _ _ (typeOf (.ref sl) >>= _) _ _ _
  refine wpAny_bind (wpAny_typeOf ts ?_)
  have two : ¬ ((Value.type "slice" != Value.type "slice") = true) := by decide
  rw [if_neg two, listSliceParts_eq]
  have none0 : ¬ ((rawPart none == rawInt 0) = true) := Bool.false_ne_true
  refine wpAny_bind (wpAny_bind (wpAny_field o1 o3 (x := .none) rfl (wpAny_bind (wpAny_listPart .none (by
    rw [if_neg none0]
    refine wpAny_bind (wpAny_field o1 o3 (x := vl) rfl (wpAny_bind (wpAny_listPart pl (wpAny_bind (wpAny_field o1 o3 (x := vu) rfl (wpAny_bind (wpAny_listPart pu (wpAny_pure ?_))))))))
    dsimp only
    have ne' : ¬ (Builtin.List.listSameRef (.ref l) (.ref b) = true) := by rw [ne]; exact Bool.false_ne_true
    rw [if_neg ne']
    refine wpAny_bind (m := Builtin.List.listAllItems (.ref b) "must assign iterable to extended slice") ?_; unfold Builtin.List.listAllItems
    refine wpAny_bind (wpAny_typeOf ib.typeIs (PySem.W.KFB.if_so (by decide) ?_))
    unfold Builtin.List.listItems
    have rw1 := (sliceIndices_raw (some (a : Int)) none none xs.size (by simp)).trans (congrArg (pure : Int × Int × Int → Sem (Int × Int × Int)) (tail_bounds ha))
    refine wpAny_bind (wpAny_seqItems e2 rfl (wpAny_pure (wpAny_bind (wpAny_bind (wpAny_seqItems e rfl (wpAny_pure (wpAny_bind (wpAny_of_eq rw1 ?_))))))))
    have one : ((1 : Int) == 1) = true := rfl
    refine PySem.W.KFB.if_so one (wpAny_bind (wpAny_rule (PySem.W.KFB.if_not (notLongL hz) ?_)))
    have m1 : (max (a : Int) (xs.size : Int)).toNat = xs.size := by omega
    have cut : (fun zs : Array Value => zs.extract 0 ((a : Int)).toNat ++ ys ++ zs.extract (max (a : Int) (xs.size : Int)).toNat zs.size) = fun zs => zs.extract 0 a ++ ys ++ zs.extract xs.size zs.size := by
      rw [m1, Int.toNat_natCast]
    show wpAny _ _ (updateSeq l (fun zs : Array Value => zs.extract 0 ((a : Int)).toNat ++ ys ++ zs.extract (max (a : Int) (xs.size : Int)).toNat zs.size) >>= _) _ _ s
    rw [cut]
    refine wpAny_bind (wpAny_updateSeq (hz := Nat.le_trans (Nat.le_add_right _ _) hz) (_hz' := big) e rfl (wpAny_bind (wpAny_letGo ?_)))
    exact wpAny_pure ⟨.none, rfl, wpAny_pure k⟩)))))
/-- at a row of the program -/
def gTail (to : TE) (tl th : TO) : TG := fun v σ H Q => to σ H fun o H1 => tl σ H1 fun lo H2 => th σ H2 fun hi H3 =>
  ∃ p b xs ys a, o = .ref p ∧ v = .ref b ∧ lo = some a ∧ hi = none ∧ 0 ≤ a ∧ a ≤ ((xs.length : Nat) : Int) ∧ p ≠ b ∧ H3 p = some (.lst xs) ∧ H3 b = some (.lst ys) ∧ xs.length + ys.length ≤ sizeLine ∧ Q σ (upd H3 p (.lst (xs.take a.toNat ++ ys)))
theorem pg_tail {X : Cx} {o : Expr} {lo hi : Option Expr} {pos p2 : Pos} {to : TE} {tl th : TO} (ho : PE X o to) (hl : PO X lo tl) (hu : PO X hi th)
    (ha : ∀ v, assign (.Subscript o (.Slice lo hi none p2) pos) X.env v = (do
      let ov ← holding [v] (eval o X.env); let iv ← holding [v, ov] (eval (.Slice lo hi none p2) X.env)
      standAt pos; holding [v, ov, iv] (setItem ov iv v)
      release [iv, v, ov] []) := by intro _; rfl) : PG X (.Subscript o (.Slice lo hi none p2) pos) (gTail to tl th) := by
  refine ⟨fun pins s σ H v u Q I r h => ?_⟩; rw [ha]
  refine wpAny_bind (wpAny_holding (thn (ho.run pins s σ H _ I h) fun ov s1 ⟨x, H1, I1, r1, q1⟩ => wpAny_bind (wpAny_holding ?_)))
  refine wpAny_Slice (thn (hl.run pins s1 σ H1 _ I1 q1) fun vl s2 ⟨l, H2, I2, pl, q2⟩ => thn (hu.run pins s2 σ H2 _ I2 q2) fun vu s3 ⟨m, H3, I3, pu, q3⟩ => ?_)
  rw [evalPart_none]
  refine wpAny_pure (wpAny_bind ?_); obtain ⟨p, b, xs, ys, a, rfl, rfl, rfl, rfl, a0, a1, pb, hp, hb, hz, q⟩ := q3
  cases r1
  cases r
  have I4 := I3.kept (h' := s3.heap.push { cls := .type "slice", data := .fields #[vl, vu, .none] }) (t' := s3.toks) fun _ _ g => Heap.get?_push_of_some _ g
  obtain ⟨k, rfl⟩ := Int.eq_ofNat_of_zero_le a0
  obtain ⟨z1, is1, n1, v1, g1, e1⟩ := I4.lstM hp
  obtain ⟨z2, is2, n2, v2, g2, e2⟩ := I4.lstM hb
  refine wpAny_standAt (wpAny_bind (wpAny_holding ?_))
  have ki : k ≤ is1.length := by omega
  refine tail_store (a := k) e1 e2 pb (Heap.IsSliceOf.new ..) pl pu (by rw [List.size_toArray]; exact ki) (by rw [List.size_toArray, List.size_toArray]; omega) ?_
  have I5 := I4.lset (f := fun zs => zs.extract 0 k ++ is2.toArray ++ zs.extract is1.toArray.size zs.size) (ys := xs.take k ++ ys) (its' := is1.take k ++ is2) (t' := s3.toks) hp e1 (tail_cut is1 is2 k) (Vals.append (v1.take _) v2) (by rw [List.length_append, List.length_take]; omega)
  exact wpAny_release ⟨σ, _, I5, q⟩
end
end My

set_option maxRecDepth 100000
set_option maxHeartbeats 1000000
/-! try .. except (A, B, C): one clause, three classes -/
namespace My
open PySem PySem.Spec PyProof.Rows L2 GxR Gd
theorem fly_keeps {B h g : Heap} {l : List Env} {a : Addr} {Z : Obj → Prop} (x : HandSPX.FlyingZ B l a Z h) (k : ∀ b o, h.get? b = some o → g.get? b = some o) : HandSPX.FlyingZ B l a Z g := by
  obtain ⟨st, new, fr, oe, vs, T, oT, ts, e1, e2, e3, e4, e5, e6, e7, e8, e9⟩ := x
  exact ⟨fun b o e => k b o (st b o e), new, Heap.FunFrames.of_keeps (fun b o e _ => ⟨o, k b o e, rfl⟩) fr, oe, vs, T, oT, ts, k _ _ e1, e2, e3, e4, e5, e6, k _ _ e7, e8, e9⟩
section
variable {X : Cx} {pins : List (Addr × Obj)} {σ : L2.St} {H : Hp} {cls : Value} {d : Option Addr} {a : Addr} {B : Heap} {sI s : Shared}
theorem InHand.keeps (h : InHand X pins σ H cls d a B sI s) {g : Heap} (k : ∀ b o, s.heap.get? b = some o → g.get? b = some o) : InHand X pins σ H cls d a B sI { s with heap := g } :=
  h.move (fly_keeps h.fly k) (Heap.UpToSlots.of_keeps k)
def wT (K : PySem.W.Frag) (Wout : WX) (D : Ends) (cs : List Value) (ts : Addr → Value → Option Addr → TS) : WX := fun cls d σ H => ∃ b, PySem.W.exmAny K cls cs = some b ∧
  (b = true → ∀ a, H a = none → ts a cls d D σ H) ∧ (b = false → Wout cls d σ H)
theorem ps_try_t3 {body : List Stmt} {x1 x2 x3 : Str} {c1 c2 c3 : Value} {ts : Addr → Value → Option Addr → TS} {st : Stmt} {ss : List Stmt} {p1 p2 p3 p4 p5 pos : Pos} {kk : Nat} {tb : WX → TS} {Wout : WX}
    (hs : X.stack = X.env :: X.outer) (hf : X.env.frame = some X.env.locals) (tk : Takes X Wout) (n1 : Names X x1 c1) (n2 : Names X x2 c2) (n3 : Names X x3 c3) (hsu : SuiteOk X (st :: ss) ts)
    (hb : ∀ (W : WX) (pn : List (Addr × Obj)) (xe : Value → Shared → Prop), Takes (X.tr pn xe) W → PassesOwn (model X.prog X.w) X.A X.env xe → PSs (X.tr pn xe) body (tb W)) :
    PS X (.Try body [.ExceptHandler (some (.Tuple [.Name x1 p1, .Name x2 p2, .Name x3 p3] kk p4)) none (st :: ss) p5] [] [] pos) (fun D σ H => tb (wT X.K Wout D [c1, c2, c3] ts) D σ H) := by
  refine ⟨fun pins s σ H D I h => wpAny_Try_except ?_⟩
  have ok := I.ok
  have fr : X.A.frames = some (X.env :: X.outer) := by rw [ok.frames, hs]
  let hd : ExceptHandler := .ExceptHandler (some (.Tuple [.Name x1 p1, .Name x2 p2, .Name x3 p3] kk p4)) none (st :: ss) p5
  let xe : Value → Shared → Prop := fun e z => wpAny (model X.prog X.w) X.A (noteFrame e X.env) (fun _ z2 => wpAny (model X.prog X.w) X.A (setFlight e none)
    (fun _ z3 => wpAny (model X.prog X.w) X.A (handleBy e X.env [hd]) (SP X pins D) X.xe z3) X.xe z2) X.xe z
  have take : Takes (X.tr (X.pn ++ pins) xe) (wT X.K Wout D [c1, c2, c3] ts) := by
    rintro _ z ⟨a, B, sI, pn, τ, G, cls, d, rfl, J, grd, up, sky, new, os, ag, b, hm, yes, no⟩
    rw [show (X.tr (X.pn ++ pins) xe).stack = X.env :: X.outer from hs] at sky
    refine Sky.land Zc.steady fr hf sky fun g fly u => ?_
    have h0 : InHand X pins τ G cls d a B sI { z with heap := g } := ⟨J.ofTry ok, grd, up.trans u, fly, new, os, ag⟩
    refine wpAny_handleBy_cons (codeAny_handlers_test ?_) (fun z => by cases z)
    refine wpAny_Tuple (wpAny_items_cons (h0.named hf n1 (wpAny_items_cons (h0.named hf n2 (wpAny_items_cons (h0.named hf n3 (wpAny_items_nil ⟨by show 3 ≤ sizeLine; decide, ?_⟩)))))))
    have kp : ∀ q o, g.get? q = some o → (g.push { cls := .type "tuple", data := .seq [c1, c2, c3].toArray }).get? q = some o := fun _ _ z => Heap.get?_push_of_some _ z
    obtain ⟨oe, fv, e1, e2, _⟩ := h0.seen hf
    have own : PySem.W.Looks (model X.prog X.w) (g.push { cls := .type "tuple", data := .seq [c1, c2, c3].toArray }) (typeOf (.ref a)) cls := fun _ _ _ z k q => wpAny_typeOf_ref (k _ _ (kp _ _ e1)) (by rw [e2.1]; exact q)
    have h1 := h0.keeps kp
    refine (PySem.W.exm_tup3 h1.now.kIn own (Heap.get?_push_size g rfl) hm).here ?_
    cases b with
    | false => exact h1.out hs hf tk (no rfl)
    | true =>
      refine codeAny_handlers_suite (HandSPX.lands_againZ h1.fly fun g2 f2 u2 => ?_)
      have h2 := h1.move f2 u2
      obtain ⟨oe2, fv2, i1, i2, i3, i4, i5⟩ := h2.seen hf
      exact wpAny_mono ((hsu a oe2 cls d (X.pn ++ pins) i2 ⟨_, i3⟩).run [] _ _ _ _ (h2.now.suite i1 i3 new i4 i5) (yes rfl a new)) (fun f z y => InHand.leave ok y) fun _ _ z => z.elim
  refine wpAny_mono ((hb _ _ xe take PassesOwn.looking).run [] s σ H D (I.toTry _) h) (fun f z k => ?_) fun _ _ z => z
  cases f with
  | next => obtain ⟨τ, G, J, q⟩ := k; exact wpAny_execs_nil ⟨τ, G, J.ofTry ok, q⟩
  | brk => obtain ⟨τ, G, J, q⟩ := k; exact ⟨τ, G, J.ofTry ok, q⟩
  | cont => obtain ⟨τ, G, J, q⟩ := k; exact ⟨τ, G, J.ofTry ok, q⟩
  | ret u => obtain ⟨v, τ, G, J, r, q⟩ := k; exact ⟨v, τ, G, J.ofTry ok, r, q⟩
end
end My

set_option maxRecDepth 100000
set_option maxHeartbeats 4000000
/-! the names that a law draws: three ways, all good, all apart -/
namespace My
open PySem PySem.Spec PyProof.Rows L2 GxR Gd TL
theorem tl_inj {a b : Str} (h : tl a = tl b) : a = b := by
  obtain ⟨⟨x⟩⟩ := a
  obtain ⟨⟨y⟩⟩ := b
  have e : x = y := h
  rw [e]
theorem name_of {z : Str} (h1 : 1 ≤ (tl z).length) (h2 : (tl z).length ≤ 6) (h3 : ∀ c ∈ tl z, lc c = true) : NameOk z := by
  rw [tl_len] at h1 h2
  exact ⟨h1, h2, List.all_eq_true.mpr h3⟩
theorem tl_to {z : Str} {j : Nat} (h : j ≤ (tl z).length) : tl (cutS z none (some (j : Int))) = (tl z).take j := by
  show (((tl z).drop (HT.sIx z.length 0 none)).take (HT.sIx z.length z.length (some (j : Int)) - HT.sIx z.length 0 none)) = _
  rw [HT.sIx_none, HT.sIx_nat, ← tl_len, Nat.min_eq_left h]
  simp
theorem tl_cut {z : Str} {a b : Nat} (h : b ≤ (tl z).length) (ha : a ≤ b) : tl (cutS z (some (a : Int)) (some (b : Int))) = ((tl z).drop a).take (b - a) := by
  show (((tl z).drop (HT.sIx z.length 0 (some (a : Int)))).take (HT.sIx z.length z.length (some (b : Int)) - HT.sIx z.length 0 (some (a : Int)))) = _
  rw [HT.sIx_nat, HT.sIx_nat, ← tl_len, Nat.min_eq_left h, Nat.min_eq_left (Nat.le_trans ha h)]
theorem joinL_ones : ∀ cs : List Nat, joinL [] (cs.map fun c => [c]) = cs
  | [] => rfl
  | [c] => rfl
  | c :: d :: r => by
    have ih := joinL_ones (d :: r)
    show [c] ++ ([] ++ joinL [] ((d :: r).map fun c => [c])) = _
    rw [ih]
    rfl
theorem tl_ones (cs : List Nat) : tl (Txt.join (Str.ofString "") (cs.map fun c => ⟨#[c]⟩)) = cs := by
  rw [join_eq, tl_join, List.map_map]
  have e : tl (Str.ofString "") = [] := by decide +kernel
  rw [e]
  exact joinL_ones cs
/-- all good, all apart -/
structure Nms (ns : List Str) : Prop where
  ok : ∀ z ∈ ns, NameOk z
  nd : ns.Nodup
theorem nms_of {f : Nat → Str} {n : Nat} (ok : ∀ k, k < n → NameOk (f k)) (ap : ∀ j k, j < k → k < n → f j ≠ f k) : Nms ((List.range n).map f) := by
  refine ⟨fun z hz => ?_, ?_⟩
  · obtain ⟨k, hk, rfl⟩ := List.mem_map.mp hz
    exact ok k (List.mem_range.mp hk)
  · show ((List.range n).map f).Pairwise (· ≠ ·)
    rw [List.pairwise_map]
    have p : (List.range n).Pairwise (fun a b => a < b) := List.pairwise_lt_range
    refine List.Pairwise.imp_of_mem ?_ p
    intro a b ha hb hab
    exact ap a b hab (List.mem_range.mp hb)
/-! the first way -/
def wds : List Str := ["place", "staff", "ticket", "low", "high", "long", "pilot", "train", "at", "to", "in", "get", "a"]
theorem wds_ok : ∀ z ∈ wds, NameOk z := by
  intro z hz
  have h : (wds.all fun z => decide (1 ≤ (tl z).length) && decide ((tl z).length ≤ 6) && (tl z).all lc) = true := by decide +kernel
  have q := List.all_eq_true.mp h z hz
  rw [Bool.and_eq_true, Bool.and_eq_true, decide_eq_true_eq, decide_eq_true_eq] at q
  exact name_of q.1.1 q.1.2 (List.all_eq_true.mp q.2)
theorem wds_nd : wds.Nodup := by decide +kernel
def nm0 (a : Int) (k : Nat) : Str := (wds[((a + 5 * (k : Int)) % 13).toNat]?).getD ⟨#[]⟩
theorem nm0_at (a : Int) (k : Nat) : atI wds ((a + 5 * (k : Int)) % 13) = some (nm0 a k) := by
  have h0 := Int.emod_nonneg (a + 5 * (k : Int)) (by decide : (13 : Int) ≠ 0)
  have h1 := Int.emod_lt_of_pos (a + 5 * (k : Int)) (by decide : (0 : Int) < 13)
  have hl : wds.length = 13 := by decide +kernel
  generalize e : (a + 5 * (k : Int)) % 13 = m at h0 h1
  obtain ⟨j, rfl⟩ := Int.eq_ofNat_of_zero_le h0
  have hj : j < wds.length := by omega
  unfold nm0
  rw [e, Int.toNat_natCast, List.getElem?_eq_getElem hj]
  exact atI_nat (List.getElem?_eq_getElem hj)
theorem nm0_ok (a : Int) (n : Nat) (hn : n ≤ 7) : Nms ((List.range n).map (nm0 a)) := by
  have hl : wds.length = 13 := by decide +kernel
  have key : ∀ k : Nat, ∃ j : Nat, ((j : Nat) : Int) = (a + 5 * (k : Int)) % 13 ∧ ∃ h : j < wds.length, nm0 a k = wds[j] := fun k => by
    have h0 := Int.emod_nonneg (a + 5 * (k : Int)) (by decide : (13 : Int) ≠ 0)
    have h1 := Int.emod_lt_of_pos (a + 5 * (k : Int)) (by decide : (0 : Int) < 13)
    unfold nm0
    generalize (a + 5 * (k : Int)) % 13 = m at h0 h1
    obtain ⟨j, rfl⟩ := Int.eq_ofNat_of_zero_le h0
    have hj : j < wds.length := by omega
    exact ⟨j, rfl, hj, by rw [Int.toNat_natCast, List.getElem?_eq_getElem hj]; rfl⟩
  refine nms_of (fun k hk => ?_) (fun j k hjk hk e => ?_)
  · obtain ⟨j, _, hj, e⟩ := key k
    rw [e]
    exact wds_ok _ (List.getElem_mem hj)
  · obtain ⟨j1, a1, b1, c1⟩ := key j
    obtain ⟨j2, a2, b2, c2⟩ := key k
    rw [c1, c2] at e
    have nd : wds.Pairwise (· ≠ ·) := wds_nd
    rcases Nat.lt_trichotomy j1 j2 with h | h | h
    · exact List.pairwise_iff_getElem.mp nd j1 j2 b1 b2 h e
    · omega
    · exact List.pairwise_iff_getElem.mp nd j2 j1 b2 b1 h e.symm
/-! the second way -/
structure Stem (z : Str) : Prop where
  len : (tl z).length = 6
  ok : ∀ c ∈ tl z, lc c = true
def nm1 (z : Str) (a : Int) (k : Nat) : Str := cutS z none (some (1 + (a + 5 * (k : Int)) % 6))
theorem nm1_ok {z : Str} (h : Stem z) (a : Int) (n : Nat) (hn : n < 7) : Nms ((List.range n).map (nm1 z a)) := by
  have key : ∀ k : Nat, ∃ j : Nat, ((j : Nat) : Int) = 1 + (a + 5 * (k : Int)) % 6 ∧ 1 ≤ j ∧ j ≤ 6 ∧ tl (nm1 z a k) = (tl z).take j := fun k => by
    have h0 := Int.emod_nonneg (a + 5 * (k : Int)) (by decide : (6 : Int) ≠ 0)
    have h1 := Int.emod_lt_of_pos (a + 5 * (k : Int)) (by decide : (0 : Int) < 6)
    unfold nm1
    generalize (a + 5 * (k : Int)) % 6 = m at h0 h1
    obtain ⟨j, rfl⟩ := Int.eq_ofNat_of_zero_le h0
    refine ⟨1 + j, by omega, by omega, by omega, ?_⟩
    have e : (1 + (j : Int)) = ((1 + j : Nat) : Int) := by omega
    rw [e]
    exact tl_to (by rw [h.len]; omega)
  refine nms_of (fun k hk => ?_) (fun j k hjk hk e => ?_)
  · obtain ⟨j, _, j1, j6, e⟩ := key k
    have hl := h.len
    refine name_of ?_ ?_ (fun c hc => h.ok c (by rw [e] at hc; exact List.mem_of_mem_take hc)) <;> rw [e, List.length_take] <;> omega
  · obtain ⟨j1, a1, _, b1, c1⟩ := key j
    obtain ⟨j2, a2, _, b2, c2⟩ := key k
    have l := congrArg (fun z => (tl z).length) e
    have hl := h.len
    simp only [c1, c2, List.length_take] at l
    omega
/-! the third way -/
def abc : Str := "abcdefghijklmnopqrstuvwxyz"
def lt1 (a : Int) (k : Nat) : Nat := 97 + ((a + 7 * (k : Int)) % 26).toNat
theorem abc_at {i : Int} (h0 : 0 ≤ i) (h1 : i < 26) : atI abc.cps.toList i = some (97 + i.toNat) := by
  obtain ⟨j, rfl⟩ := Int.eq_ofNat_of_zero_le h0
  have h : ∀ j : Fin 26, abc.cps.toList[j.1]? = some (97 + j.1) := by decide +kernel
  rw [Int.toNat_natCast]
  exact atI_nat (h ⟨j, by omega⟩)
theorem lt1_at (a : Int) (k : Nat) : atI abc.cps.toList ((a + 7 * (k : Int)) % 26) = some (lt1 a k) := abc_at (Int.emod_nonneg _ (by decide)) (Int.emod_lt_of_pos _ (by decide))
theorem lt1_lc (a : Int) (k : Nat) : lc (lt1 a k) = true := by
  have h0 := Int.emod_nonneg (a + 7 * (k : Int)) (by decide : (26 : Int) ≠ 0)
  have h1 := Int.emod_lt_of_pos (a + 7 * (k : Int)) (by decide : (0 : Int) < 26)
  unfold lt1 lc
  rw [Bool.and_eq_true, decide_eq_true_eq, decide_eq_true_eq]
  omega
def nm2 (z : Str) (a t : Int) (k : Nat) : Str := cutS z none (some t) ++ ⟨#[lt1 a k]⟩ ++ cutS z (some t) (some (t + (a + (k : Int)) % (6 - t)))
theorem nm2_ok {z : Str} (h : Stem z) (a t : Int) (t0 : 0 ≤ t) (t6 : t < 6) (n : Nat) (hn : n ≤ 7) : Nms ((List.range n).map (nm2 z a t)) := by
  obtain ⟨t, rfl⟩ := Int.eq_ofNat_of_zero_le t0
  have hl := h.len
  have key : ∀ k : Nat, ∃ m : Nat, t + m < 6 ∧ tl (nm2 z a t k) = (tl z).take t ++ ([lt1 a k] ++ ((tl z).drop t).take m) := fun k => by
    have h0 := Int.emod_nonneg (a + (k : Int)) (show (6 - (t : Int)) ≠ 0 by omega)
    have h1 := Int.emod_lt_of_pos (a + (k : Int)) (show (0 : Int) < 6 - (t : Int) by omega)
    unfold nm2
    generalize (a + (k : Int)) % (6 - (t : Int)) = m at h0 h1
    obtain ⟨m, rfl⟩ := Int.eq_ofNat_of_zero_le h0
    refine ⟨m, by omega, ?_⟩
    rw [tl_append, tl_append, tl_to (by omega), show ((t : Int) + (m : Int)) = ((t + m : Nat) : Int) by omega, tl_cut (by omega) (by omega), show t + m - t = m by omega, List.append_assoc]
  refine nms_of (fun k hk => ?_) (fun j k hjk hk e => ?_)
  · obtain ⟨m, hm, e⟩ := key k
    refine name_of ?_ ?_ (fun c hc => ?_)
    · rw [e, List.length_append, List.length_append]
      simp
      omega
    · rw [e, List.length_append, List.length_append, List.length_take, List.length_take, List.length_drop]
      simp
      omega
    · rw [e] at hc
      rcases List.mem_append.mp hc with q | q
      · exact h.ok c (List.mem_of_mem_take q)
      · rcases List.mem_append.mp q with q | q
        · rw [List.mem_singleton.mp q]
          exact lt1_lc a k
        · exact h.ok c (List.mem_of_mem_drop (List.mem_of_mem_take q))
  · obtain ⟨m1, hm1, c1⟩ := key j
    obtain ⟨m2, hm2, c2⟩ := key k
    have l := congrArg (fun z => (tl z)[t]?) e
    simp only [c1, c2] at l
    have lt : ((tl z).take t).length = t := by rw [List.length_take]; omega
    have g : ∀ (c : Nat) (r : List Nat), ((tl z).take t ++ ([c] ++ r))[t]? = some c := fun c r => by
      rw [List.getElem?_append_right (by omega), lt, Nat.sub_self]
      rfl
    rw [g, g] at l
    have l := Option.some.inj l
    unfold lt1 at l
    have h0 := Int.emod_nonneg (a + 7 * (j : Int)) (by decide : (26 : Int) ≠ 0)
    have h1 := Int.emod_nonneg (a + 7 * (k : Int)) (by decide : (26 : Int) ≠ 0)
    omega
end My

set_option maxRecDepth 100000
set_option maxHeartbeats 1000000
/-! The end of a law whose own def shows dicts: the module table is tracked, so that no new thing is it. For laws without tables. -/
namespace Gd
open PySem PySem.Spec PyProof.Rows L2 GxR
/-- the module table: it is there -/
def smU : HO := .ext fun h => ∃ o, h.get? sysModules = some o
def SmAt (H : Hp) : Prop := ∃ o, H sysModules = some (.frz o smU)
theorem SmAt.same {H H' : Hp} (h : SmAt H) (s : Same H H') : SmAt H' := let ⟨o, e⟩ := h; ⟨o, s _ _ e⟩
theorem smU_ne {u : HO} (n : ∀ φ, u ≠ .ext φ) : smU ≠ u := fun z => n _ z.symm
open Classical in
noncomputable def hs0 (K : PySem.W.Frag) (a : Addr) (vs : List Value) (ns : List Int) (o1 : Obj) : Hp := fun b =>
  if b = sysModules then some (.frz o1 smU) else if b = a ∧ K.lookup a = none then some (.frz (scriptO vs) (.lst (ns.map V.int))) else none
theorem hs0_inv {K : PySem.W.Frag} {a b : Addr} {vs : List Value} {ns : List Int} {o1 : Obj} {u : HO} (h : hs0 K a vs ns o1 b = some u) :
    (b = sysModules ∧ u = .frz o1 smU) ∨ (b = a ∧ K.lookup a = none ∧ u = .frz (scriptO vs) (.lst (ns.map V.int))) := by
  unfold hs0 at h
  split at h
  · rename_i c
    exact .inl ⟨c, (Option.some.inj h).symm⟩
  · split at h
    · rename_i c
      exact .inr ⟨c.1, c.2, (Option.some.inj h).symm⟩
    · cases h
section
variable {P : Program} {w : World} {K : PySem.W.Frag} {mg mb : Str → Option Value} {CX : CXT} {k : Nat} {fa a : Addr} {fd : FuncData} {x : Str} {sp : Sp} {s1 : Shared} {vs : List Value} {ns : List Int}
theorem law_scall (KX : K.In s1.heap) (nsG : s1.heap.Ns mainGlobals mg) (nsB : s1.heap.Ns builtinsNs mb) (isB : ∀ x : Str, x ≠ "__name__" → mb x = bootBuiltins x) (lim : s1.heap.NoLimit) (gens : s1.gens = #[])
    (hsm : ∃ o, s1.heap.get? sysModules = some o) (k1 : K.lookup sysModules = none) (na : a ≠ sysModules) (ha : s1.heap.get? a = some (scriptO vs)) (hi : IntsAre vs ns) (hl : ns.length ≤ sizeLine) (hr : Room k callerA)
    (F : ∀ base : Heap, K.In base → base.Ns mainGlobals mg → GOk P w K mg base CX k fa fd [x] sp) (hbind : ∀ (s : Shared) (u : Value), BindsTo s fd ⟨[u], []⟩ [(x, u)])
    (hsp : ∀ H : Hp, SmAt H → SqL K H a (ns.map V.int) → sp [.ref a] H (fun v _ => v = .bl true) fun _ _ _ => False) (hCX : ∀ H e s', CX [] H s1 (fun _ _ _ => False) e s' → False) :
    codeAny (model P w) callerA (.call (.ref fa) ⟨[.ref a], []⟩) (fun r s' => r = .ok (.ret (.bool true)) ∧ OldK s1.heap s'.heap ∧ s'.os = s1.os ∧ AllBare s'.gens) s1 := by
  have rv := vals_ints hi
  have hlen := hi.length
  obtain ⟨o1, ho1⟩ := hsm
  let H := hs0 K a vs ns o1
  have off : ∀ {b : Addr}, b ≠ sysModules → b ≠ a → H b = none := fun {b} n1 n2 => by
    cases q : H b with
    | none => rfl
    | some u =>
      rcases hs0_inv q with ⟨e, _⟩ | ⟨e, _⟩
      · exact absurd e n1
      · exact absurd e n2
  have dic : ∀ {b : Addr} {m : Str → Option Value}, b ≠ sysModules → s1.heap.Ns b m → (hidT s1.heap H).Ns b m := by
    rintro b m n1 ⟨o, es, ep, e, d, rest⟩
    refine ⟨o, es, ep, hidT_get e (off n1 ?_), d, rest⟩
    rintro rfl
    rw [ha] at e
    obtain rfl := Option.some.inj e
    cases d
  have KH : K.In (hidT s1.heap H) := by
    intro b o e
    refine hidT_get (KX b o e) ?_
    cases q : H b with
    | none => rfl
    | some u =>
      rcases hs0_inv q with ⟨rfl, _⟩ | ⟨rfl, z, _⟩
      · rw [k1] at e
        cases e
      · rw [z] at e
        cases e
  have limH : (hidT s1.heap H).NoLimit := let ⟨mc, h1, h2⟩ := lim; ⟨mc, dic (by decide) h1, h2⟩
  have M : L2.Mod K mg (hidT s1.heap H) := ⟨KH, dic (by decide) nsG, ⟨mb, dic (by decide) nsB, isB⟩, limH⟩
  have hS : SqL K H a (ns.map V.int) := by
    cases q : K.lookup a with
    | none => exact .inl (.inr ⟨scriptO vs, (if_neg na).trans (if_pos ⟨rfl, q⟩)⟩)
    | some o =>
      have e := KX a o q
      rw [ha] at e
      obtain rfl := Option.some.inj e
      exact .inr ⟨_, vs.toArray, _, q, rfl, rfl, rfl, by rw [List.size_toArray, hlen]; exact hl, by simpa using rv⟩
  have hok : HOk P w H s1.heap := by
    intro b u q
    rcases hs0_inv q with ⟨rfl, rfl⟩ | ⟨rfl, _, rfl⟩
    · exact ⟨ho1, ⟨_, ho1⟩, ⟨_, ho1⟩, fun h1 h2 ⟨o, z⟩ k => ⟨o, k _ z⟩⟩
    · exact ⟨ha, by rw [List.length_map]; exact hl, vs, _, rv, ha⟩
  have e0 : Env0 P w K mg (hidT s1.heap H) callerA [] s1 H :=
    ⟨rfl, M, fun b o e => of_hidT e, Nat.le_of_eq (hidT_size _ _), trivial, (fun b hb => by cases (show b ∈ ([] : List Addr) from hb)), hok, .of_eq gens⟩
  refine codeAny_mono ((F _ KH (dic (by decide) nsG)).go callerA [] s1 H ⟨[.ref a], []⟩ [.ref a] [.ref a] (fun v _ => v = .bl true) (fun _ _ _ => False) rfl hr e0 (hbind s1 (.ref a)) (.cons rfl .nil) (hsp H ⟨o1, if_pos rfl⟩ hS)) ?_
  intro r z h
  match r, h with
  | .ok .next, h => exact h.elim
  | .ok .brk, h => exact h.elim
  | .ok .cont, h => exact h.elim
  | .error e, h => exact (hCX H e z h).elim
  | .ok (.ret u), h =>
    obtain ⟨v, G, os, bare, un, hokG, rv', q⟩ := h
    obtain rfl : v = .bl true := q
    obtain rfl : u = Value.bool true := rv'
    have plain : ∀ b o, s1.heap.get? b = some o → z.heap.get? b = some o := by
      intro b o e
      cases q : H b with
      | none => exact un.keep b o e q (fun y => by cases (show b ∈ ([] : List Addr) from y)) (by simp)
      | some y =>
        rcases hs0_inv q with ⟨rfl, rfl⟩ | ⟨rfl, _, rfl⟩
        · obtain ⟨e2, _⟩ := hokG sysModules _ (un.frzs _ _ _ q)
          rw [ho1] at e
          exact Option.some.inj e ▸ e2
        · obtain ⟨e2, _⟩ := hokG b _ (un.frzs b _ _ q)
          rw [ha] at e
          exact Option.some.inj e ▸ e2
    exact ⟨rfl, ⟨fun b o e => .inl (plain b o e), fun b o e => ⟨o, plain b o e⟩⟩, os, bare⟩
end
/-- what is to be known of such a law -/
def GLawS (l : PySem.W.OpenLaw) (w : World) (K : PySem.W.Frag) (CX : CXT) (k n : Nat) (x : Str) (mg : Str → Option Value) (fa : Addr) : Prop :=
  ∃ (fd : FuncData) (sp : Sp), K.lookup sysModules = none ∧ (∀ (s : Shared) (u : Value), BindsTo s fd ⟨[u], []⟩ [(x, u)]) ∧
    (∀ (H : Hp) (a : Addr) (ns : List Int), ns.length ≤ n → SmAt H → SqL K H a (ns.map V.int) → sp [.ref a] H (fun v _ => v = .bl true) fun _ _ _ => False) ∧
    ∀ base : Heap, K.In base → base.Ns mainGlobals mg → GOk l.prog w K mg base CX k fa fd [x] sp
open PySem.W in
theorem walk_s {l : PySem.W.OpenLaw} {n k : Nat} {q : Program} {loose : List Str} {XP : (Str → Option Value) → Heap → Prop} {YP : World → Heap → Prop} {d : DefRec} {K : Params → PySem.W.Frag} {CX : World → CXT} {x : Str}
    (no : importsNone q = true) (hn : l.most = some n) (small : n ≤ sizeLine) (hdf : d.params.defaults = []) (hr : Room k callerA) (hY : ∀ (w : World) (h : Heap), YP w h → (K w.params).In h)
    (F : ∀ (w : World) (mg : Str → Option Value) (fa : Addr) (h : Heap), YP w h → (K w.params).In h → h.Ns mainGlobals mg → mg d.name = some (.ref fa) → GLawS l w (K w.params) (CX w) k n x mg fa)
    (hCX : ∀ (w : World) (H : Hp) (s : Shared) (e : Value) (s' : Shared), CX w [] H s (fun _ _ _ => False) e s' → False) :
    PySem.W.WalkO q loose XP YP l.row.toRowW d [] (fun f vs => PySem.call f vs) := by
  intro w s0 s1 mg mb G Y fa o pm cd doc dV kV ho hd hcd hD hmg hg args vals as pre lay rd well low
  obtain ⟨a, vs, ns, rfl, rfl, hobj, hints, hlen⟩ := Att.script_of hn pre well
  have na : a ≠ sysModules := by
    cases rd with
    | cons r1 r2 =>
      cases r1 with
      | list _ _ _ _ => exact beq_eq_false_iff_ne.mp (low a (by simp))
  have KX := hY w _ Y
  obtain ⟨fd, sp, k1, hb, hsp, hF⟩ := F w mg fa _ Y KX G.T.g hmg
  have run := law_scall KX G.T.g G.T.b G.T.builtins G.T.nolimit hg (let ⟨_, ⟨o, _, _, e, _⟩, _⟩ := (G.T.seer no).mods; ⟨o, e⟩) k1 na hobj hints (Nat.le_trans hlen small) hr hF hb (fun H a1 a2 => hsp H a ns hlen a1 a2) (fun H e s' => hCX w H s1 e s')
  refine enter_call (codeAny_mono run ?_)
  rintro r z ⟨rfl, old, os, bare⟩
  exact ⟨.inl ⟨.bool true, .bool true, [], rfl, fun _ => rfl, .bool true, Att.post_true l _, fun _ => ⟨List.Pairwise.nil, fun _ m => (nomatch m)⟩⟩, old, os, bare⟩
end Gd

set_option maxRecDepth 100000
set_option maxHeartbeats 1000000
/-! Data with dicts: what repr asks of them. -/
namespace My
open PySem PySem.Spec PyProof.Rows L2 GxR Gd TL
theorem same_new {H : Hp} {p : Addr} {o : HO} (n : H p = none) : Same H (upd H p o) := fun b u e => by rw [upd_ne (ne_of_none e n)]; exact e
theorem sameT {K : PySem.W.Frag} {H H' : Hp} {a : Addr} {xs : List V} (s : Same H H') (h : SqT K H a xs) : SqT K H' a xs := by
  rcases h with (h | ⟨o, h⟩) | h
  · exact .inl (.inl (s _ _ h))
  · exact .inl (.inr ⟨o, s _ _ h⟩)
  · exact .inr h
def keyD : Key → PyData
  | .inl i => .int i
  | .inr x => .str x
mutual
/-- v is the data d, dicts too -/
inductive Dq (K : PySem.W.Frag) (H : Hp) : V → PyData → Prop
  | non : Dq K H .non .none
  | bl (b : Bool) : Dq K H (.bl b) (.bool b)
  | int (i : Int) : Dq K H (.int i) (.int i)
  | str (z : Str) : Dq K H (.str z) (.str z)
  | lst {a : Addr} {xs : List V} {ds : List PyData} (e : SqL K H a xs) (h : DqAll K H xs ds) : Dq K H (.ref a) (.list ds)
  | tup {a : Addr} {xs : List V} {ds : List PyData} (e : SqT K H a xs) (h : DqAll K H xs ds) : Dq K H (.ref a) (.tuple ds)
  | dic {a : Addr} {kvs : List (Key × V)} {ds : List (PyData × PyData)} (e : H a = some (.dK kvs)) (h : DqKv K H kvs ds) : Dq K H (.ref a) (.dict ds)
inductive DqAll (K : PySem.W.Frag) (H : Hp) : List V → List PyData → Prop
  | nil : DqAll K H [] []
  | cons {v : V} {vs : List V} {d : PyData} {ds : List PyData} (h : Dq K H v d) (t : DqAll K H vs ds) : DqAll K H (v :: vs) (d :: ds)
inductive DqKv (K : PySem.W.Frag) (H : Hp) : List (Key × V) → List (PyData × PyData) → Prop
  | nil : DqKv K H [] []
  | cons {k : Key} {v : V} {r : List (Key × V)} {d : PyData} {ds : List (PyData × PyData)} (h : Dq K H v d) (t : DqKv K H r ds) : DqKv K H ((k, v) :: r) ((keyD k, d) :: ds)
end
mutual
theorem Dq.of {K : PySem.W.Frag} {H : Hp} : ∀ {v : V} {d : PyData}, Dp K H v d → Dq K H v d
  | _, _, .non => .non
  | _, _, .bl b => .bl b
  | _, _, .int i => .int i
  | _, _, .str z => .str z
  | _, _, .lst e h => .lst e (DqAll.of h)
  | _, _, .tup e h => .tup e (DqAll.of h)
theorem DqAll.of {K : PySem.W.Frag} {H : Hp} : ∀ {vs : List V} {ds : List PyData}, DpAll K H vs ds → DqAll K H vs ds
  | _, _, .nil => .nil
  | _, _, .cons h t => .cons (Dq.of h) (DqAll.of t)
end
mutual
theorem Dq.same {K : PySem.W.Frag} {H H' : Hp} (s : Same H H') : ∀ {v : V} {d : PyData}, Dq K H v d → Dq K H' v d
  | _, _, .non => .non
  | _, _, .bl b => .bl b
  | _, _, .int i => .int i
  | _, _, .str z => .str z
  | _, _, .lst e h => .lst (s.seq e) (DqAll.same s h)
  | _, _, .tup e h => .tup (sameT s e) (DqAll.same s h)
  | _, _, .dic e h => .dic (s _ _ e) (DqKv.same s h)
theorem DqAll.same {K : PySem.W.Frag} {H H' : Hp} (s : Same H H') : ∀ {vs : List V} {ds : List PyData}, DqAll K H vs ds → DqAll K H' vs ds
  | _, _, .nil => .nil
  | _, _, .cons h t => .cons (Dq.same s h) (DqAll.same s t)
theorem DqKv.same {K : PySem.W.Frag} {H H' : Hp} (s : Same H H') : ∀ {kvs : List (Key × V)} {ds : List (PyData × PyData)}, DqKv K H kvs ds → DqKv K H' kvs ds
  | _, _, .nil => .nil
  | _, _, .cons h t => .cons (Dq.same s h) (DqKv.same s t)
end
theorem keyD_reads {h : Heap} {k : Key} {v : Value} (e : keyIs k v = true) : Reads h v (keyD k) [] := by
  rcases keyIs_shape e with ⟨i, t, rfl, rfl⟩ | ⟨x, t, rfl, rfl⟩
  · exact .int i t
  · exact .str x t
section
variable {X : Cx} {pins : List (Addr × Obj)} {σ : L2.St} {H : Hp} {s : Shared}
theorem ne_sm {K : PySem.W.Frag} {H : Hp} {a : Addr} {xs : List V} (n : K.lookup sysModules = none) (sm : SmAt H) (h : SqL K H a xs) : a ≠ sysModules := by
  rintro rfl
  obtain ⟨o, e⟩ := sm
  rcases h with (h | ⟨u, h⟩) | ⟨u, _, _, h, _⟩
  · rw [e] at h
    cases h
  · rw [e] at h
    cases h
  · rw [n] at h
    cases h
mutual
theorem Dq.reads (n : X.K.lookup sysModules = none) (sm : SmAt H) (I : Inv X pins σ H s) : ∀ (d : PyData) (v : V) (u : Value), Dq X.K H v d → RelV v u → ∃ as, Reads s.heap u d as ∧ sysModules ∉ as
  | .none, _, _, h, r => by
    cases h
    cases r
    exact ⟨_, .none, by simp⟩
  | .bool b, _, _, h, r => by
    cases h
    cases r
    exact ⟨_, .bool b, by simp⟩
  | .int i, _, _, h, r => by
    cases h
    obtain ⟨t, rfl⟩ := r
    exact ⟨_, .int i t, by simp⟩
  | .str z, _, _, h, r => by
    cases h
    obtain ⟨t, rfl⟩ := r
    exact ⟨_, .str z t, by simp⟩
  | .list ds, _, _, h, r => by
    cases h with
    | lst hs ha =>
      cases r
      obtain ⟨its, rv, ⟨o, m, ho, hc, _, hd⟩, _⟩ := I.list hs
      obtain ⟨as, hr, no⟩ := Dq.readsAll n sm I ds _ its ha rv
      exact ⟨_, .list ho hc hd hr, fun m => (List.mem_cons.mp m).elim (ne_sm n sm hs).symm no⟩
  | .tuple ds, _, _, h, r => by
    cases h with
    | tup hs ha =>
      cases r
      obtain ⟨its, rv, ⟨o, ho, hc, m, hd⟩, _⟩ := I.tuple hs
      obtain ⟨as, hr, no⟩ := Dq.readsAll n sm I ds _ its ha rv
      exact ⟨_, .tuple ho hc hd hr, no⟩
  | .dict ds, _, _, h, r => by
    cases h with
    | dic e hk =>
      cases r
      obtain ⟨_, ne, vs, rel, o, es, ep, ho, hx, hd, _, hp, _⟩ := dk_of I.hok e
      obtain ⟨as, bs, h1, h2, n1, n2⟩ := Dq.readsKv n sm I ds _ vs es.toList hk rel hp
      refine ⟨_, .dict ho hx.1 hd h1 h2, fun m => ?_⟩
      rw [List.cons_append] at m
      rcases List.mem_cons.mp m with m | m
      · exact (beq_eq_false_iff_ne.mp ne) m.symm
      · exact (List.mem_append.mp m).elim n1 n2
theorem Dq.readsAll (n : X.K.lookup sysModules = none) (sm : SmAt H) (I : Inv X pins σ H s) : ∀ (ds : List PyData) (vs : List V) (us : List Value), DqAll X.K H vs ds → Vals vs us → ∃ as, ReadsAll s.heap us ds as ∧ sysModules ∉ as
  | [], _, _, h, r => by
    cases h
    cases r
    exact ⟨_, .nil, by simp⟩
  | d :: ds, _, _, h, r => by
    cases h with
    | cons h1 h2 =>
      cases r with
      | cons r1 r2 =>
        obtain ⟨as, q1, n1⟩ := Dq.reads n sm I d _ _ h1 r1
        obtain ⟨bs, q2, n2⟩ := Dq.readsAll n sm I ds _ _ h2 r2
        exact ⟨_, .cons q1 q2, fun m => (List.mem_append.mp m).elim n1 n2⟩
theorem Dq.readsKv (n : X.K.lookup sysModules = none) (sm : SmAt H) (I : Inv X pins σ H s) : ∀ (ds : List (PyData × PyData)) (kvs : List (Key × V)) (vs : List (Key × Value)) (es : List DictEntry), DqKv X.K H kvs ds → KV kvs vs → Pairs (mixKind X.prog X.w) es vs →
    ∃ as bs, ReadsAll s.heap (es.map (·.key)) (ds.map (·.1)) as ∧ ReadsAll s.heap (es.map (·.val)) (ds.map (·.2)) bs ∧ sysModules ∉ as ∧ sysModules ∉ bs
  | [], _, _, _, h, r, p => by
    cases h
    cases r
    cases p
    exact ⟨_, _, .nil, .nil, by simp, by simp⟩
  | (_, d) :: ds, _, _, _, h, r, p => by
    cases h with
    | cons h1 h2 =>
      cases r with
      | cons r1 r2 =>
        cases p with
        | cons p1 p2 p3 =>
          obtain ⟨as, q1, n1⟩ := Dq.reads n sm I d _ _ h1 r1.2
          obtain ⟨bs, cs, q2, q3, n2, n3⟩ := Dq.readsKv n sm I ds _ _ _ h2 r2 p3
          refine ⟨_, _, .cons (keyD_reads ?_) q2, .cons ?_ q3, by simpa using n2, fun m => (List.mem_append.mp m).elim n1 n3⟩
          · have e := r1.1
            dsimp only at e ⊢
            rw [e]
            exact p1
          · dsimp only
            rw [p2]
            exact q1
end
end
/-- repr(v), v data with dicts -/
def rReprQ (K : PySem.W.Frag) : List V → Hp → VK → Prop := fun xs H Q => ∃ v d, xs = [v] ∧ SmAt H ∧ Dq K H v d ∧ d.showable = true ∧ d.depth ≤ 100 ∧ d.shown.length ≤ sizeLine ∧ Q (.str d.shown) H
theorem call_reprQ {X : Cx} {k : Nat} (n : X.K.lookup sysModules = none) (gd : X.A.guards = some []) (hr : Room k X.A) : CallR X (.builtin "repr") (rReprQ X.K) := by
  rintro pins s σ H xs us Q I r ⟨v, d, rfl, sm, dq, hs, hdep, hsz, q⟩
  have whole : ∀ {a : Addr} {as : List Addr}, Reads s.heap (.ref a) d as → sysModules ∉ as → wpAny (model X.prog X.w) X.A (call (.builtin "repr") [.ref a]) (EP X pins σ Q) X.xe s := by
    intro a as rd no
    have hun := hr.un
    exact repr_of_reads' rd hs (fun _ => no) gd (by omega) (fun _ _ z => z) (fun h' u tk hk => ⟨.str _, H, I.kept hk, ⟨_, rfl⟩, q⟩) hsz
  cases dq with
  | non => exact call_repr gd hr pins s σ H _ us Q I r ⟨_, _, rfl, .non, hs, hdep, hsz, q⟩
  | bl b => exact call_repr gd hr pins s σ H _ us Q I r ⟨_, _, rfl, .bl b, hs, hdep, hsz, q⟩
  | int i => exact call_repr gd hr pins s σ H _ us Q I r ⟨_, _, rfl, .int i, hs, hdep, hsz, q⟩
  | str z => exact call_repr gd hr pins s σ H _ us Q I r ⟨_, _, rfl, .str z, hs, hdep, hsz, q⟩
  | lst e h =>
    obtain ⟨as, rd, no⟩ := Dq.reads n sm I _ _ us.head! (.lst e h) (by cases r with | cons a b => cases b; exact a)
    cases r with
    | cons a b => cases b; cases a; exact whole rd no
  | tup e h =>
    obtain ⟨as, rd, no⟩ := Dq.reads n sm I _ _ us.head! (.tup e h) (by cases r with | cons a b => cases b; exact a)
    cases r with
    | cons a b => cases b; cases a; exact whole rd no
  | dic e h =>
    obtain ⟨as, rd, no⟩ := Dq.reads n sm I _ _ us.head! (.dic e h) (by cases r with | cons a b => cases b; exact a)
    cases r with
    | cons a b => cases b; cases a; exact whole rd no
end My

set_option maxRecDepth 100000
set_option maxHeartbeats 400000
namespace K23
open PySem PySem.Spec PyProof.Rows L2 GxR Gd TL My K23H
/-! ### the whole as numbers and names -/
structure Hl where
  nm : Str
  a : Addr
  r : Option Int
  s : Int
structure Wr where
  a : Addr
  op : Bool
  n : Int
  z : Str
structure Sy where
  k : Addr
  hd : Addr
  wl : Addr
  t : Int
  o : Option Str
  p : Bool
  hs : List Hl
  ws : List Wr
  us : Option (Int × Str)
def Sy.put (S : Sy) (i : Nat) (e : Hl) : Sy := { S with hs := S.hs.set i e }
def Sy.say (S : Sy) (w : Wr) : Sy := { S with ws := S.ws ++ [w] }
structure Iv (B : Int) (S : Sy) : Prop where
  t0 : 0 ≤ S.t
  t1 : S.t ≤ B
  op : S.o = none → S.p = false
  nn : (S.hs.map (·.nm)).Nodup
  sn : ∀ e ∈ S.hs, 0 ≤ e.s ∧ e.s ≤ S.t
  rt : ∀ e ∈ S.hs, ∀ n, e.r = some n → n = S.t ∧ S.o = some e.nm ∧ S.p = false ∧ S.us = none ∧ e.s = S.t
  ut : ∀ n z, S.us = some (n, z) → n = S.t ∧ S.o = some z ∧ S.p = false ∧ (∀ e ∈ S.hs, e.nm = z → e.s = S.t ∧ e.r = none) ∧ ∃ e ∈ S.hs, e.nm = z
  pp : S.p = true → S.us = none ∧ ∀ e ∈ S.hs, S.o = some e.nm → e.s = S.t ∧ e.r = none
  lw : ∀ w ∈ S.ws, w.op = false → 1 ≤ w.n ∧ w.n ≤ S.t ∧ ∃ e ∈ S.hs, e.nm = w.z ∧ (w.n ≤ e.s ∨ (w.n = S.t ∧ S.o = some w.z))
  ow : ∀ w ∈ S.ws, w.op = true → w.n ≤ S.t ∧ (w.n = S.t → S.o ≠ none → S.us = none ∧ ∀ e ∈ S.hs, S.o = some e.nm → e.s = S.t ∧ e.r = none)
  ho : ∀ z, S.o = some z → ∃ e ∈ S.hs, e.nm = z
theorem Iv.mono {B B' : Int} {S : Sy} (h : Iv B S) (b : B ≤ B') : Iv B' S := ⟨h.t0, Int.le_trans h.t1 b, h.op, h.nn, h.sn, h.rt, h.ut, h.pp, h.lw, h.ow, h.ho⟩
theorem one_nm {hs : List Hl} (h : (hs.map (·.nm)).Nodup) {e f : Hl} (he : e ∈ hs) (hf : f ∈ hs) (en : e.nm = f.nm) : e = f := by
  induction hs with
  | nil => cases he
  | cons a r ih =>
    rw [List.map_cons, List.nodup_cons] at h
    rcases List.mem_cons.mp he with e1 | he' <;> rcases List.mem_cons.mp hf with f1 | hf'
    · exact e1.trans f1.symm
    · exact (h.1 (List.mem_map.mpr ⟨f, hf', by rw [← e1]; exact en.symm⟩)).elim
    · exact (h.1 (List.mem_map.mpr ⟨e, he', by rw [← f1]; exact en⟩)).elim
    · exact ih h.2 he' hf'
theorem mem_put {hs : List Hl} {i : Nat} {e e' f : Hl} (nd : (hs.map (·.nm)).Nodup) (hi : hs[i]? = some e) (h : f ∈ hs.set i e') : f = e' ∨ (f ∈ hs ∧ f.nm ≠ e.nm) := by
  induction hs generalizing i with
  | nil => cases hi
  | cons a r ih =>
    rw [List.map_cons, List.nodup_cons] at nd
    cases i with
    | zero =>
      obtain rfl := Option.some.inj hi
      rcases List.mem_cons.mp h with rfl | h
      · exact .inl rfl
      · exact .inr ⟨List.mem_cons_of_mem _ h, fun z => nd.1 (List.mem_map.mpr ⟨f, h, z⟩)⟩
    | succ i =>
      have hi' : r[i]? = some e := by simpa using hi
      rcases List.mem_cons.mp h with rfl | h
      · exact .inr ⟨List.mem_cons_self, fun z => nd.1 (List.mem_map.mpr ⟨e, List.mem_of_getElem? hi', z.symm⟩)⟩
      · rcases ih nd.2 hi' h with q | ⟨q1, q2⟩
        · exact .inl q
        · exact .inr ⟨List.mem_cons_of_mem _ q1, q2⟩
theorem put_mem {hs : List Hl} {i : Nat} {e e' : Hl} (hi : hs[i]? = some e) : e' ∈ hs.set i e' := by
  have h := (List.getElem?_eq_some_iff.mp hi).1
  exact List.mem_of_getElem? (List.getElem?_set_self h)
theorem put_old {hs : List Hl} {i : Nat} {e e' f : Hl} (hi : hs[i]? = some e) (hf : f ∈ hs) (ne : f ≠ e) : f ∈ hs.set i e' := by
  obtain ⟨j, hj⟩ := List.mem_iff_getElem?.mp hf
  refine List.mem_iff_getElem?.mpr ⟨j, ?_⟩
  rw [List.getElem?_set_ne (fun z => ne (by subst z; rw [hi] at hj; exact (Option.some.inj hj).symm))]
  exact hj
theorem put_map {β : Type} {f : Hl → β} {hs : List Hl} {i : Nat} {e e' : Hl} (hi : hs[i]? = some e) (h : f e' = f e) : (hs.set i e').map f = hs.map f := by
  rw [List.map_set, h]
  refine List.ext_getElem? fun j => ?_
  by_cases hj : i = j
  · subst hj
    have hl := (List.getElem?_eq_some_iff.mp hi).1
    rw [List.getElem?_set_self (by rw [List.length_map]; exact hl), List.getElem?_map, hi]
    rfl
  · rw [List.getElem?_set_ne hj]
section
variable {B : Int} {S : Sy} {i : Nat} {e : Hl}
/-- the staff is locked for a place -/
theorem Iv.lock (h : Iv B S) (ho : S.o = none) (he : e ∈ S.hs) {a : Addr} : Iv (B + 1) ({ S with t := S.t + 1, o := some e.nm, p := S.p } : Sy) ∧ Iv (B + 1) (({ S with t := S.t + 1, o := some e.nm, p := S.p } : Sy).say ⟨a, false, S.t + 1, e.nm⟩) := by
  have t0 := h.t0
  have t1 := h.t1
  have hr : ∀ f ∈ S.hs, ∀ n, f.r = some n → False := fun f hf n hn => by
    have := (h.rt f hf n hn).2.1
    rw [ho] at this
    cases this
  have hu : S.us = none := by
    cases q : S.us with
    | none => rfl
    | some u =>
      have := (h.ut u.1 u.2 q).2.1
      rw [ho] at this
      cases this
  have hp := h.op ho
  have main : Iv (B + 1) ({ S with t := S.t + 1, o := some e.nm, p := S.p } : Sy) := by
    refine ⟨by show 0 ≤ S.t + 1; omega, by show S.t + 1 ≤ B + 1; omega, fun z => (by cases z), h.nn, fun f hf => ?_, fun f hf n hn => (hr f hf n hn).elim, fun n z hz => ?_, fun z => ?_, fun w hw hwo => ?_, fun w hw hwo => ?_, fun z hz => ⟨e, he, Option.some.inj hz⟩⟩
    · have := h.sn f hf
      exact ⟨this.1, by show f.s ≤ S.t + 1; omega⟩
    · have hz : S.us = some (n, z) := hz
      rw [hu] at hz
      cases hz
    · have z : S.p = true := z
      rw [hp] at z
      cases z
    · obtain ⟨a1, a2, f, hf, fn, q⟩ := h.lw w hw hwo
      refine ⟨a1, by show w.n ≤ S.t + 1; omega, f, hf, fn, ?_⟩
      rcases q with q | ⟨_, q⟩
      · exact .inl q
      · rw [ho] at q
        cases q
    · obtain ⟨a1, _⟩ := h.ow w hw hwo
      exact ⟨by show w.n ≤ S.t + 1; omega, fun z => by have z : w.n = S.t + 1 := z; omega⟩
  refine ⟨main, main.t0, main.t1, main.op, main.nn, main.sn, main.rt, main.ut, main.pp, fun w hw hwo => ?_, fun w hw hwo => ?_, main.ho⟩
  · rcases List.mem_append.mp hw with hw | hw
    · exact main.lw w hw hwo
    · obtain rfl := List.mem_singleton.mp hw
      exact ⟨by show 1 ≤ S.t + 1; omega, Int.le_refl _, e, he, rfl, .inr ⟨rfl, rfl⟩⟩
  · rcases List.mem_append.mp hw with hw | hw
    · exact main.ow w hw hwo
    · obtain rfl := List.mem_singleton.mp hw
      cases hwo
/-- the lock ends: no right by it is left -/
theorem Iv.free (h : Iv B S) (hr : ∀ f ∈ S.hs, S.o = some f.nm → f.s = S.t ∧ f.r = none) : Iv B ({ S with o := none, p := false, us := none } : Sy) := by
  refine ⟨h.t0, h.t1, fun _ => rfl, h.nn, h.sn, fun f hf n hn => ?_, fun n z hz => (by cases hz), fun z => (by cases z), fun w hw hwo => ?_, fun w hw hwo => ?_, fun z hz => (by cases hz)⟩
  · obtain ⟨_, q, _⟩ := h.rt f hf n hn
    have := (hr f hf q).2
    have hn : f.r = some n := hn
    rw [hn] at this
    cases this
  · obtain ⟨a1, a2, f, hf, fn, q⟩ := h.lw w hw hwo
    refine ⟨a1, a2, f, hf, fn, ?_⟩
    rcases q with q | ⟨q1, q2⟩
    · exact .inl q
    · have := (hr f hf (by rw [fn]; exact q2)).1
      exact .inl (by omega)
  · exact ⟨(h.ow w hw hwo).1, fun _ z => absurd rfl z⟩
/-- a right is taken by hand -/
theorem Iv.use (h : Iv B S) (hi : S.hs[i]? = some e) {n : Int} (hr : e.r = some n) : Iv B { S.put i ⟨e.nm, e.a, none, e.s⟩ with us := some (n, e.nm) } := by
  have he := List.mem_of_getElem? hi
  obtain ⟨r1, r2, r3, r4, r5⟩ := h.rt e he n hr
  have old : ∀ f ∈ (S.put i ⟨e.nm, e.a, none, e.s⟩).hs, f = ⟨e.nm, e.a, none, e.s⟩ ∨ (f ∈ S.hs ∧ f.nm ≠ e.nm) := fun f hf => mem_put h.nn hi hf
  refine ⟨h.t0, h.t1, h.op, ?_, fun f hf => ?_, fun f hf m hm => ?_, fun m z hz => ?_, fun z => ?_, fun w hw hwo => ?_, fun w hw hwo => ?_, fun z hz => ?_⟩
  · show ((S.hs.set i _).map (·.nm)).Nodup
    rw [put_map (e' := ⟨e.nm, e.a, none, e.s⟩) hi rfl]
    exact h.nn
  · rcases old f hf with rfl | ⟨hf, _⟩
    · exact h.sn e he
    · exact h.sn f hf
  · rcases old f hf with rfl | ⟨hf, nf⟩
    · cases hm
    · have := (h.rt f hf m hm).2.1
      rw [r2] at this
      exact absurd (Option.some.inj this).symm nf
  · obtain ⟨rfl, rfl⟩ := Prod.mk.inj (Option.some.inj hz)
    refine ⟨r1, r2, r3, fun f hf fn => ?_, _, put_mem hi, rfl⟩
    rcases old f hf with rfl | ⟨hf, nf⟩
    · exact ⟨r5, rfl⟩
    · exact absurd fn nf
  · have z : S.p = true := z
    rw [r3] at z
    cases z
  · obtain ⟨a1, a2, f, hf, fn, q⟩ := h.lw w hw hwo
    by_cases ef : f = e
    · subst ef
      exact ⟨a1, a2, _, put_mem hi, fn, q⟩
    · exact ⟨a1, a2, f, put_old hi hf ef, fn, q⟩
  · obtain ⟨a1, a2⟩ := h.ow w hw hwo
    refine ⟨a1, fun z z2 => ?_⟩
    have := ((a2 z z2).2 e he r2).2
    rw [hr] at this
    cases this
  · obtain ⟨f, hf, fn⟩ := h.ho z hz
    by_cases ef : f = e
    · subst ef
      exact ⟨_, put_mem hi, fn⟩
    · exact ⟨f, put_old hi hf ef, fn⟩
/-- a right is given up -/
theorem Iv.give (h : Iv B S) (hi : S.hs[i]? = some e) {n : Int} (hr : e.r = some n) {a : Addr} : Iv B ((S.put i ⟨e.nm, e.a, none, e.s⟩).say ⟨a, true, n, e.nm⟩) := by
  have he := List.mem_of_getElem? hi
  obtain ⟨r1, r2, r3, r4, r5⟩ := h.rt e he n hr
  have old : ∀ f ∈ (S.put i ⟨e.nm, e.a, none, e.s⟩).hs, f = ⟨e.nm, e.a, none, e.s⟩ ∨ (f ∈ S.hs ∧ f.nm ≠ e.nm) := fun f hf => mem_put h.nn hi hf
  refine ⟨h.t0, h.t1, h.op, ?_, fun f hf => ?_, fun f hf m hm => ?_, fun m z hz => ?_, fun z => ?_, fun w hw hwo => ?_, fun w hw hwo => ?_, fun z hz => ?_⟩
  · show ((S.hs.set i _).map (·.nm)).Nodup
    rw [put_map (e' := ⟨e.nm, e.a, none, e.s⟩) hi rfl]
    exact h.nn
  · rcases old f hf with rfl | ⟨hf, _⟩
    · exact h.sn e he
    · exact h.sn f hf
  · rcases old f hf with rfl | ⟨hf, nf⟩
    · cases hm
    · exact h.rt f hf m hm
  · have hz : S.us = some (m, z) := hz
    rw [r4] at hz
    cases hz
  · have z : S.p = true := z
    rw [r3] at z
    cases z
  · rcases List.mem_append.mp hw with hw | hw
    · obtain ⟨a1, a2, f, hf, fn, q⟩ := h.lw w hw hwo
      by_cases ef : f = e
      · subst ef
        exact ⟨a1, a2, _, put_mem hi, fn, q⟩
      · exact ⟨a1, a2, f, put_old hi hf ef, fn, q⟩
    · obtain rfl := List.mem_singleton.mp hw
      cases hwo
  · rcases List.mem_append.mp hw with hw | hw
    · obtain ⟨a1, a2⟩ := h.ow w hw hwo
      refine ⟨a1, fun z z2 => ?_⟩
      have := ((a2 z z2).2 e he r2).2
      rw [hr] at this
      cases this
    · obtain rfl := List.mem_singleton.mp hw
      refine ⟨by show n ≤ S.t; omega, fun _ _ => ⟨r4, fun f hf fo => ?_⟩⟩
      rcases old f hf with rfl | ⟨hf, nf⟩
      · exact ⟨r5, rfl⟩
      · have fo : S.o = some f.nm := fo
        rw [r2] at fo
        exact absurd (Option.some.inj fo).symm nf
  · obtain ⟨f, hf, fn⟩ := h.ho z hz
    by_cases ef : f = e
    · subst ef
      exact ⟨_, put_mem hi, fn⟩
    · exact ⟨f, put_old hi hf ef, fn⟩
/-- a use is over, and said so -/
theorem Iv.over (h : Iv B S) {n : Int} {z : Str} (hu : S.us = some (n, z)) {a : Addr} : Iv B (({ S with us := none } : Sy).say ⟨a, true, n, z⟩) := by
  obtain ⟨u1, u2, u3, u4, _⟩ := h.ut n z hu
  refine ⟨h.t0, h.t1, h.op, h.nn, h.sn, fun f hf m hm => ?_, fun m z hz => (by cases hz), fun q => ?_, fun w hw hwo => ?_, fun w hw hwo => ?_, h.ho⟩
  · have := (h.rt f hf m hm).2.2.2.1
    rw [hu] at this
    cases this
  · have q : S.p = true := q
    rw [u3] at q
    cases q
  · rcases List.mem_append.mp hw with hw | hw
    · exact h.lw w hw hwo
    · obtain rfl := List.mem_singleton.mp hw
      cases hwo
  · rcases List.mem_append.mp hw with hw | hw
    · obtain ⟨a1, a2⟩ := h.ow w hw hwo
      exact ⟨a1, fun q1 q2 => ⟨rfl, (a2 q1 q2).2⟩⟩
    · obtain rfl := List.mem_singleton.mp hw
      refine ⟨by show n ≤ S.t; omega, fun _ _ => ⟨rfl, fun f hf fo => u4 f hf ?_⟩⟩
      have fo : S.o = some f.nm := fo
      rw [u2] at fo
      exact (Option.some.inj fo).symm
/-- a word that the staff's lock is open comes -/
theorem Iv.opened (h : Iv B S) {w : Wr} (hw : w ∈ S.ws) (hwo : w.op = true) (ht : w.n = S.t) (ho : S.o ≠ none) : Iv B ({ S with p := true } : Sy) := by
  obtain ⟨a1, a2⟩ := h.ow w hw hwo
  obtain ⟨b1, b2⟩ := a2 ht ho
  refine ⟨h.t0, h.t1, fun z => absurd z ho, h.nn, h.sn, fun f hf m hm => ?_, fun m z hz => ?_, fun _ => ⟨b1, b2⟩, h.lw, h.ow, h.ho⟩
  · have q := (h.rt f hf m hm).2.1
    have q2 := (b2 f hf q).2
    have hm : f.r = some m := hm
    rw [hm] at q2
    cases q2
  · have hz : S.us = some (m, z) := hz
    rw [b1] at hz
    cases hz
/-- the word of a lock comes -/
theorem Iv.come (h : Iv B S) {w : Wr} (hw : w ∈ S.ws) (hwo : w.op = false) (hi : S.hs[i]? = some e) (en : e.nm = w.z) (hs : e.s < w.n) : w.n = S.t ∧ Iv B (S.put i ⟨e.nm, e.a, some w.n, w.n⟩) := by
  have he := List.mem_of_getElem? hi
  obtain ⟨a1, a2, f, hf, fn, q⟩ := h.lw w hw hwo
  obtain rfl : f = e := one_nm h.nn hf he (fn.trans en.symm)
  obtain ⟨q1, q2⟩ : w.n = S.t ∧ S.o = some w.z := by
    rcases q with q | q
    · omega
    · exact q
  have q3 : S.o = some f.nm := by rw [en]; exact q2
  have hu : S.us = none := by
    cases c : S.us with
    | none => rfl
    | some u =>
      obtain ⟨_, c2, _, c4, _⟩ := h.ut u.1 u.2 c
      rw [q3] at c2
      have := (c4 f hf (Option.some.inj c2)).1
      omega
  have hp : S.p = false := by
    cases c : S.p with
    | false => rfl
    | true =>
      have := ((h.pp c).2 f hf q3).1
      omega
  have old : ∀ g ∈ (S.put i ⟨f.nm, f.a, some w.n, w.n⟩).hs, g = ⟨f.nm, f.a, some w.n, w.n⟩ ∨ (g ∈ S.hs ∧ g.nm ≠ f.nm) := fun g hg => mem_put h.nn hi hg
  refine ⟨q1, h.t0, h.t1, h.op, ?_, fun g hg => ?_, fun g hg m hm => ?_, fun m z hz => ?_, fun z => ?_, fun v hv hvo => ?_, fun v hv hvo => ?_, fun z hz => ?_⟩
  · show ((S.hs.set i _).map (·.nm)).Nodup
    rw [put_map (e' := ⟨f.nm, f.a, some w.n, w.n⟩) hi rfl]
    exact h.nn
  · rcases old g hg with rfl | ⟨hg, _⟩
    · exact ⟨by show 0 ≤ w.n; omega, by show w.n ≤ S.t; omega⟩
    · exact h.sn g hg
  · rcases old g hg with rfl | ⟨hg, ng⟩
    · obtain rfl := Option.some.inj hm
      exact ⟨q1, q3, hp, hu, q1⟩
    · exact h.rt g hg m hm
  · have hz : S.us = some (m, z) := hz
    rw [hu] at hz
    cases hz
  · have z : S.p = true := z
    rw [hp] at z
    cases z
  · obtain ⟨b1, b2, g, hg, gn, c⟩ := h.lw v hv hvo
    by_cases eg : g = f
    · subst eg
      refine ⟨b1, b2, _, put_mem hi, gn, .inl ?_⟩
      show v.n ≤ w.n
      omega
    · exact ⟨b1, b2, g, put_old hi hg eg, gn, c⟩
  · obtain ⟨b1, b2⟩ := h.ow v hv hvo
    refine ⟨b1, fun z z2 => ?_⟩
    have := ((b2 z z2).2 f hf q3).1
    omega
  · obtain ⟨g, hg, gn⟩ := h.ho z hz
    by_cases eg : g = f
    · subst eg
      exact ⟨_, put_mem hi, gn⟩
    · exact ⟨g, put_old hi hg eg, gn⟩
end
end K23

set_option maxRecDepth 100000
set_option maxHeartbeats 400000
namespace K23
open PySem PySem.Spec PyProof.Rows L2 GxR Gd TL My
theorem ixL {X : Cx} {K : PySem.W.Frag} (h : X.K = K) : IxR X (rIxL K) := h ▸ ix_list
theorem lt_line (i : Nat) (h : i ≤ 1000) : i < sizeLine := Nat.lt_of_le_of_lt h (by decide)
theorem same_nt {H H' : Hp} (s : Same H H') : Nt H H' := fun c o _ h => s c o h
/-- a name that the law draws -/
def Nm (z : Str) : Prop := Good z ∧ z.length ≤ 20
theorem abc_good : Good abc := good_of _
theorem abc_one {i : Int} (h0 : 0 ≤ i) (h1 : i < 26) : ∃ c, atI abc.cps.toList i = some c ∧ Good ⟨#[c]⟩ := by
  refine ⟨_, abc_at h0 h1, good_one abc_good ?_⟩
  have e := abc_at h0 h1
  unfold atI at e
  cases q : ixN abc.cps.toList.length i with
  | none => rw [q] at e; cases e
  | some j => rw [q] at e; exact List.mem_of_getElem? e
section
variable {P : Program} {w : World} {K : PySem.W.Frag} {mg : Str → Option Value} {base : Heap}
abbrev s_law_names : Stmt := top 16
theorem sc_law_names : FnScope ["_law_box_here", "_law_many", "_law_letters", "_law_first", "_law_stem", "_law_at", "_law_k"] ["_law_box_here", "_law_many"] (defScope s_law_names) := ⟨rfl, rfl, rfl, by decide +kernel, rfl, by decide +kernel, by decide +kernel⟩
def spNames : Sp := fun vs H Q _ => ∃ (b : Addr) (m : Nat) (n : Int), vs = [.ref b, .int (m : Nat)] ∧ Bx b n H ∧ n ≤ 90000 ∧ m ≤ 7 ∧
  ∀ (ns : List Str) (a : Addr) (H' : Hp), KB b H H' → Bx b (n + 20) H' → H a = none → H' a = some (.lst (ns.map V.str)) → ns.length = m → (∀ z ∈ ns, Nm z) → Q (.ref a) H'
theorem ok_names {f fT : Addr} {fd fdT : FuncData} (F : Fun K "_law_names" "_law_names" s_law_names f fd) (T : Txt mg)
    (Nlaw_take : Fn K mg "_law_take" sTake ["_law_box_here", "_law_many"] fT fdT) (Glaw_take : FnOk P w K mg base CX0 1 fT fdT ["_law_box_here", "_law_many"] spTake) :
    FnOk P w K mg base CX0 2 f fd ["_law_box_here", "_law_many"] spNames := by
  refine F.ok sc_law_names (fun vs H Q E h => ?_) (fun cdv A outer s H vs Q E hr h => ?_)
  · obtain ⟨b, m, n, rfl, _⟩ := h
    rfl
  · obtain ⟨b, m, n, rfl, hB, hn, hm, k⟩ := h
    refine ⟨_, pss_cons (ps_set (i := 2) sc_law_names.nd rfl (Or.inr rfl) pe_str)
      (pss_cons (ps_set (i := 3) sc_law_names.nd rfl (Or.inr rfl) (pe_call Glaw_take (hr.mono (by decide)) (by rfl) Nlaw_take.g Nlaw_take.kp Nlaw_take.b .nil pass0 (pa_cons (pv 0) (pa_cons pe_int pa_nil))))
      (pss_cons (ps_set (i := 4) sc_law_names.nd rfl (Or.inr rfl) (pe_join pe_str (pe_lc (own := [("_law_k", 6)]) (g := gName 6) (tt := tYes) rfl sc_law_names.nd (pi_range1 (by rfl) T.range_ (pa_cons pe_int pa_nil)) (blkOk_by (own := [("_law_k", 6)]) (N := ["_law_box_here", "_law_many", "_law_letters", "_law_first", "_law_stem", "_law_at", "_law_k"]) (sc := defScope s_law_names) (by decide +kernel)) (fun _ _ _ _ _ => (pg_name (i := 6) sc_law_names.nd rfl (Or.inl rfl))) (fun _ _ _ _ _ => pts_nil) (fun _ _ _ _ _ => (pe_ix ix_str (pv 2) (pe_call Glaw_take (hr.mono (by decide)) (by rfl) Nlaw_take.g Nlaw_take.kp Nlaw_take.b .nil pass0 (pa_cons (pv 0) (pa_cons pe_int pa_nil))) (fun _ _ => rfl))))))
      (pss_cons (ps_set (i := 5) sc_law_names.nd rfl (Or.inr rfl) (pe_call Glaw_take (hr.mono (by decide)) (by rfl) Nlaw_take.g Nlaw_take.kp Nlaw_take.b .nil pass0 (pa_cons (pv 0) (pa_cons pe_int pa_nil))))
      (pss_cons (ps_if (pt_cmpR op_eq (pe_call Glaw_take (hr.mono (by decide)) (by rfl) Nlaw_take.g Nlaw_take.kp Nlaw_take.b .nil pass0 (pa_cons (pv 0) (pa_cons pe_int pa_nil))) pe_int (nomark _)) (pss_one (ps_ret (pe_lc (own := [("_law_k", 6)]) (g := gName 6) (tt := tYes) rfl sc_law_names.nd (pi_range1 (by rfl) T.range_ (pa_cons (pv 1) pa_nil)) (blkOk_by (own := [("_law_k", 6)]) (N := ["_law_box_here", "_law_many", "_law_letters", "_law_first", "_law_stem", "_law_at", "_law_k"]) (sc := defScope s_law_names) (by decide +kernel)) (fun _ _ _ _ _ => (pg_name (i := 6) sc_law_names.nd rfl (Or.inl rfl))) (fun _ _ _ _ _ => pts_nil) (fun _ _ _ _ _ => (pe_slice sl_str (pe_op op_add_str (pv 4) (pe_ix ix_str (pv 2) (pv 3) (fun _ _ => rfl))) po_none (po_some (pe_op op_add pe_int (pe_op op_mod (pe_op op_add (pv 3) (pe_op op_mul pe_int (pv 6))) pe_int)))))))) pss_nil)
      (pss_one (ps_ret (pe_lc (own := [("_law_k", 6)]) (g := gName 6) (tt := tYes) rfl sc_law_names.nd (pi_range1 (by rfl) T.range_ (pa_cons (pv 1) pa_nil)) (blkOk_by (own := [("_law_k", 6)]) (N := ["_law_box_here", "_law_many", "_law_letters", "_law_first", "_law_stem", "_law_at", "_law_k"]) (sc := defScope s_law_names) (by decide +kernel)) (fun _ _ _ _ _ => (pg_name (i := 6) sc_law_names.nd rfl (Or.inl rfl))) (fun _ _ _ _ _ => pts_nil) (fun _ _ _ _ _ => (pe_op op_add_str (pe_op op_add_str (pe_slice sl_str (pv 4) po_none (po_some (pv 5))) (pe_ix ix_str (pv 2) (pe_op op_mod (pe_op op_add (pv 3) (pe_op op_mul pe_int (pv 6))) pe_int) (fun _ _ => rfl))) (pe_slice sl_str (pv 4) (po_some (pv 5)) po_none)))))))))), ?_⟩
    refine ⟨_, rfl, b, 26, n, rfl, hB, by omega, by decide, by decide, fun a H1 a0 a1 off1 B1 => ?_⟩
    refine ⟨⟨_, rfl⟩, 5, rfl, by decide, by decide, fun D hD => ?_⟩
    have nDb : D ≠ b := B1.fresh hD
    refine lc_range (lo := 0) (n := 5) (fun i H' => ∃ cs : List Nat, H' D = some (.lst ((cs.map fun c => (⟨#[c]⟩ : Str)).map V.str)) ∧ cs.length = i ∧ (∀ c ∈ cs, Good ⟨#[c]⟩) ∧ KB b H1 H' ∧ Bx b (n + 1 + i) H')
      ⟨[], upd_same, rfl, by simp, KB.alloc hD, (B1.alloc hD).mono (by simp)⟩ ?_ ?_
    · rintro i H3 hi ⟨cs, hz, hl, h1, k3, B3⟩
      refine ⟨rfl, lcY ?_⟩
      refine ⟨_, rfl, _, rfl, b, 26, _, rfl, B3, by omega, by decide, by decide, fun d' H4 e0 e1 off4 B4 => ?_⟩
      have hz4 : H4 D = some (.lst ((cs.map fun c => (⟨#[c]⟩ : Str)).map V.str)) := by rw [off4 D nDb]; exact hz
      obtain ⟨c, ec, gc⟩ := abc_one e0 e1
      refine ⟨_, d', c, rfl, rfl, by decide +kernel, ec, _, hz4, ?_, cs ++ [c], ?_, ?_, ?_, ?_, ?_⟩
      · rw [List.length_map, List.length_map, hl]
        exact lt_line i (by omega)
      · rw [upd_same, List.map_append, List.map_append]
        rfl
      · rw [List.length_append, hl]
        rfl
      · intro z hz
        rcases List.mem_append.mp hz with q | q
        · exact h1 z q
        · rw [List.mem_singleton.mp q]
          exact gc
      · intro c o nc e
        rw [upd_ne (ne_of_none e hD)]
        exact (k3.trans (KB.off off4)) c o nc e
      · exact (B4.put nDb).mono (by push_cast; omega)
    · rintro H3 ⟨cs, hz, hl, h1, k3, B3⟩
      have e0 : (Str.ofString "").length = 0 := by decide +kernel
      have hs := sum_ones (cs.map fun c => (⟨#[c]⟩ : Str)) (fun z hz => by obtain ⟨c, _, rfl⟩ := List.mem_map.mp hz; exact Nat.le_refl 1)
      have jl := join_len (Str.ofString "") (cs.map fun c => (⟨#[c]⟩ : Str))
      rw [List.length_map] at hs jl
      rw [e0] at jl
      have gS : Good (Txt.join (Str.ofString "") (cs.map fun c => (⟨#[c]⟩ : Str))) := good_join (good_of "") fun z hz => by
        obtain ⟨c, hc, rfl⟩ := List.mem_map.mp hz
        exact h1 c hc
      refine ⟨_, D, _, rfl, rfl, .inl (SqL.of hz), ?_, ?_⟩
      · rw [e0, List.length_map]
        omega
      have jl5 : (Txt.join (Str.ofString "") (cs.map fun c => (⟨#[c]⟩ : Str))).length ≤ 5 := by omega
      generalize Txt.join (Str.ofString "") (cs.map fun c => (⟨#[c]⟩ : Str)) = st at gS jl5 ⊢
      have kH := (KB.off off1).trans k3
      clear hz h1 k3 jl hs B1
      have new : ∀ {p : Addr} {H4 : Hp}, KB b H H4 → Bx b (n + 20) H4 → H4 p = none → H p = none := fun {p H4} kb bx np => by
        cases q : H p with
        | none => rfl
        | some o =>
          have := kb p o (bx.fresh np) q
          rw [np] at this
          cases this
      refine ⟨_, rfl, b, 6, _, rfl, B3, by omega, by decide, by decide, fun t H4 t0 t6 off4 B4 => ?_⟩
      refine ⟨_, rfl, b, 3, _, rfl, B4, by omega, by decide, by decide, fun u H5 u0 u3 off5 B5 => ?_⟩
      have k5 := (kH.trans (KB.off off4)).trans (KB.off off5)
      have B5' : Bx b (n + 20) H5 := B5.mono (by omega)
      clear kH off4 off5 B3 B4 B5
      have fin : ∀ (D2 : Addr) (zs : List Str), H5 D2 = none → zs.length = m → (∀ z ∈ zs, Nm z) → Q (.ref D2) (upd H5 D2 (.lst (zs.map V.str))) := fun D2 zs n2 l2 h2 =>
        k zs D2 _ (k5.trans (KB.alloc n2)) (B5'.alloc n2) (new k5 B5' n2) upd_same l2 h2
      refine ⟨rfl, _, rfl, ite2 (fun c => ?_) (fun c => ?_)⟩
      · refine ⟨_, rfl, m, rfl, by omega, by omega, fun D2 hD2 => ?_⟩
        refine lc_range (lo := 0) (n := m) (fun i H' => ∃ zs : List Str, H' = upd H5 D2 (.lst (zs.map V.str)) ∧ zs.length = i ∧ ∀ z ∈ zs, Nm z) ⟨[], rfl, rfl, by simp⟩ ?_ ?_
        · rintro i H' hi ⟨zs, rfl, l2, h2⟩
          refine ⟨rfl, lcY ?_⟩
          obtain ⟨cc, ec, gc⟩ := abc_one a0 a1
          refine ⟨_, rfl, _, rfl, _, rfl, _, a, cc, rfl, rfl, by decide +kernel, ec, _, _, rfl, rfl, ?_, ?_⟩
          · show st.length + 1 ≤ sizeLine
            exact Nat.le_trans (by omega : st.length + 1 ≤ 6) (by decide)
          refine ⟨_, rfl, _, rfl, _, _, rfl, rfl, .inl ⟨by decide, by decide⟩, _, _, rfl, rfl, _, _, rfl, rfl, (by show (0 : Int) < 6; decide), _, _, rfl, rfl, _, rfl, _, rfl, ?_, _, upd_same, ?_, zs ++ [_], by rw [upd_upd, List.map_append]; rfl, by rw [List.length_append, l2]; rfl, ?_⟩
          · show (st ++ ⟨#[cc]⟩ : Str).length ≤ sizeLine
            rw [← tl_len, tl_append, List.length_append, tl_len]
            exact Nat.le_trans (by show st.length + 1 ≤ 6; omega) (by decide)
          · rw [List.length_map, l2]
            exact lt_line i (by omega)
          · intro z hz
            rcases List.mem_append.mp hz with q | q
            · exact h2 z q
            · rw [List.mem_singleton.mp q]
              refine ⟨good_cut (good_app gS gc) _ _, Nat.le_trans (cutS_length _ _ _) ?_⟩
              rw [← tl_len, tl_append, List.length_append, tl_len]
              show st.length + 1 ≤ 20
              omega
        · rintro H' ⟨zs, rfl, l2, h2⟩
          exact fin D2 zs hD2 l2 h2
      · refine ⟨_, rfl, m, rfl, by omega, by omega, fun D2 hD2 => ?_⟩
        refine lc_range (lo := 0) (n := m) (fun i H' => ∃ zs : List Str, H' = upd H5 D2 (.lst (zs.map V.str)) ∧ zs.length = i ∧ ∀ z ∈ zs, Nm z) ⟨[], rfl, rfl, by simp⟩ ?_ ?_
        · rintro i H' hi ⟨zs, rfl, l2, h2⟩
          refine ⟨rfl, lcY ?_⟩
          obtain ⟨cc, ec, gc⟩ := abc_one (i := (a + 7 * (0 + (i : Int))) % 26) (Int.emod_nonneg _ (by decide)) (Int.emod_lt_of_pos _ (by decide))
          have q1 := cutS_length st none (some t)
          have q2 := cutS_length st (some t) none
          refine ⟨_, rfl, _, rfl, _, rfl, st, rfl, Nat.le_trans jl5 (by decide), _, rfl, _, rfl, _, rfl, _, _, rfl, rfl, .inl ⟨by decide, by decide⟩, _, _, rfl, rfl, _, _, rfl, rfl, (by show (0 : Int) < 26; decide), abc, _, cc, rfl, rfl, by decide +kernel, ec, _, _, rfl, rfl, ?_, ?_⟩
          · exact Nat.le_trans (by show _ + 1 ≤ 6; omega) (by decide : 6 ≤ sizeLine)
          refine ⟨_, rfl, _, rfl, _, rfl, st, rfl, Nat.le_trans jl5 (by decide), _, _, rfl, rfl, ?_, _, upd_same, ?_, zs ++ [_], by rw [upd_upd, List.map_append]; rfl, by rw [List.length_append, l2]; rfl, ?_⟩
          · rw [← tl_len, tl_append, List.length_append, tl_len]
            exact Nat.le_trans (by show _ + 1 + _ ≤ 11; omega) (by decide : 11 ≤ sizeLine)
          · rw [List.length_map, l2]
            exact lt_line i (by omega)
          · intro z hz
            rcases List.mem_append.mp hz with q | q
            · exact h2 z q
            · rw [List.mem_singleton.mp q]
              refine ⟨good_app (good_app (good_cut gS _ _) gc) (good_cut gS _ _), ?_⟩
              rw [← tl_len, tl_append, tl_append, List.length_append, List.length_append]
              simp only [tl_len]
              show _ + 1 + _ ≤ 20
              omega
        · rintro H' ⟨zs, rfl, l2, h2⟩
          exact fin D2 zs hD2 l2 h2
end
end K23

set_option maxRecDepth 100000
set_option maxHeartbeats 400000
namespace K23
open PySem PySem.Spec PyProof.Rows L2 GxR Gd TL My K23H
/-! ### the whole in the heap -/
def toV : Option Str → V
  | none => .non
  | some z => .str z
theorem toV_non {o : Option Str} (h : toV o = .non) : o = none := by
  cases o with
  | none => rfl
  | some z => cases h
theorem toV_some {o : Option Str} (h : toV o ≠ .non) : ∃ z, o = some z := by
  cases o with
  | none => exact absurd rfl h
  | some z => exact ⟨z, rfl⟩
def RnAt (H : Hp) (v : V) : Option Int → Prop
  | none => v = .non
  | some n => ∃ u, v = .ref u ∧ H u = some (.tup [.int n, .str "home"])
theorem RnAt.up {H H' : Hp} {v : V} {r : Option Int} (h : RnAt H v r) (k : ∀ x ys, H x = some (.tup ys) → H' x = some (.tup ys)) : RnAt H' v r := by
  match r, h with
  | none, h => exact h
  | some n, ⟨u, e, h1⟩ => exact ⟨u, e, k _ _ h1⟩
def UsAt (H : Hp) (v : V) : Option (Int × Str) → Prop
  | none => v = .non
  | some p => ∃ u, v = .ref u ∧ H u = some (.tup [.int p.1, .str p.2])
theorem UsAt.up {H H' : Hp} {v : V} {r : Option (Int × Str)} (h : UsAt H v r) (k : ∀ x ys, H x = some (.tup ys) → H' x = some (.tup ys)) : UsAt H' v r := by
  match r, h with
  | none, h => exact h
  | some n, ⟨u, e, h1⟩ => exact ⟨u, e, k _ _ h1⟩
def HlAt (D : Addr) (H : Hp) (e : Hl) : Prop := ∃ dx rv nv, H e.a = some (.ins D dx (hf rv nv e.s)) ∧ RnAt H rv e.r
theorem HlAt.up {D : Addr} {H H' : Hp} {e : Hl} (h : HlAt D H e) (he : ∀ o, H e.a = some o → H' e.a = some o) (k : ∀ x ys, H x = some (.tup ys) → H' x = some (.tup ys)) : HlAt D H' e := by
  obtain ⟨dx, rv, nv, a, b⟩ := h
  exact ⟨dx, rv, nv, he _ a, b.up k⟩
def kd : Bool → Str
  | false => "lock"
  | true => "open"
def stK (k hd wl : Addr) (uv : V) : List (Key × V) := [(.inr "keeper", .ref k), (.inr "holders", .ref hd), (.inr "words", .ref wl), (.inr "used", uv)]
structure Hw (C D st : Addr) (H0 H : Hp) (S : Sy) : Prop where
  k_ : ∃ dx, H S.k = some (.ins C dx (kf S.t (toV S.o) S.p))
  s_ : ∃ uv, H st = some (.dK (stK S.k S.hd S.wl uv)) ∧ UsAt H uv S.us
  d_ : H S.hd = some (.dK (S.hs.map fun e => (.inr e.nm, .ref e.a)))
  h_ : ∀ e ∈ S.hs, HlAt D H e
  w_ : H S.wl = some (.lst (S.ws.map fun e => .ref e.a))
  v_ : ∀ e ∈ S.ws, H e.a = some (.tup [.str (kd e.op), .int e.n, .str e.z])
  ke : ∀ e ∈ S.hs, e.a ≠ S.k
  he : (S.hs.map (·.a)).Nodup
  sd : st ≠ S.hd
  nz : ∀ e ∈ S.hs, Nm e.nm
  same : Same H0 H
  z : H0 S.k = none ∧ H0 st = none ∧ H0 S.hd = none ∧ H0 S.wl = none ∧ ∀ e ∈ S.hs, H0 e.a = none
section
variable {C D st b : Addr} {H0 H H' : Hp} {S : Sy} {n : Int} {i : Nat} {e : Hl}
theorem Hw.go (h : Hw C D st H0 H S) (s : Same H H') : Hw C D st H0 H' S := by
  obtain ⟨⟨dx, a⟩, ⟨uv, b, c⟩, d, f, g, v, x1, x2, x3, x4, x5, x6⟩ := h
  have kt : ∀ x ys, H x = some (.tup ys) → H' x = some (.tup ys) := fun x ys h => s _ _ h
  exact ⟨⟨dx, s _ _ a⟩, ⟨uv, s _ _ b, c.up kt⟩, s _ _ d, fun e he => (f e he).up (fun o h => s _ _ h) kt, s _ _ g, fun e he => s _ _ (v e he), x1, x2, x3, x4, x5.trans s, x6⟩
/-- what a box isn't -/
theorem Hw.bne (h : Hw C D st H0 H S) (hb : Bx b n H) : S.k ≠ b ∧ st ≠ b ∧ S.hd ≠ b ∧ S.wl ≠ b ∧ ∀ e ∈ S.hs, e.a ≠ b := by
  obtain ⟨x, y, z, q, r⟩ := hb
  obtain ⟨⟨dx, a⟩, ⟨uv, b, c⟩, d, f, g, _⟩ := h
  refine ⟨ne_of a q (by simp), ne_of b q (by simp), ne_of d q (by simp), fun z' => ?_, fun e he => ?_⟩
  · rw [z', q] at g
    injection g with g
    injection g with g
    cases hw : S.ws with
    | nil => rw [hw] at g; cases g
    | cons w r => rw [hw, List.map_cons] at g; injection g with g1 g2; cases g1
  · obtain ⟨_, _, _, a2, _⟩ := f e he
    exact ne_of a2 q (by simp)
theorem Hw.off (h : Hw C D st H0 H S) (hb : Bx b n H) (zb : H0 b = none) (k : KB b H H') : Hw C D st H0 H' S := by
  obtain ⟨n1, n2, n3, n4, n5⟩ := h.bne hb
  obtain ⟨x, y, z, q, r⟩ := hb
  obtain ⟨⟨dx, a⟩, ⟨uv, b, c⟩, d, f, g, v, x1, x2, x3, x4, x5, x6⟩ := h
  have kt : ∀ x ys, H x = some (.tup ys) → H' x = some (.tup ys) := fun x ys h => k _ _ (ne_of h q (by simp)) h
  exact ⟨⟨dx, k _ _ n1 a⟩, ⟨uv, k _ _ n2 b, c.up kt⟩, k _ _ n3 d, fun e he => (f e he).up (fun o h => k _ _ (n5 e he) h) kt, k _ _ n4 g, fun e he => kt _ _ (v e he), x1, x2, x3, x4, fun y o e => k y o (ne_of_none e zb) (x5 y o e), x6⟩
theorem Hw.keeper {t' : Int} {o' : Option Str} {p' : Bool} (h : Hw C D st H0 H S) (k : ∀ y o, y ≠ S.k → H y = some o → H' y = some o) (ek : ∃ dx, H' S.k = some (.ins C dx (kf t' (toV o') p'))) : Hw C D st H0 H' { S with t := t', o := o', p := p' } := by
  obtain ⟨⟨dx, a⟩, ⟨uv, b, c⟩, d, f, g, v, x1, x2, x3, x4, x5, x6⟩ := h
  have kt : ∀ x ys, H x = some (.tup ys) → H' x = some (.tup ys) := fun x ys h => k _ _ (ne_of h a (by simp)) h
  exact ⟨ek, ⟨uv, k _ _ (ne_of b a (by simp)) b, c.up kt⟩, k _ _ (ne_of d a (by simp)) d, fun e he => (f e he).up (fun o h => k _ _ (x1 e he) h) kt, k _ _ (ne_of g a (by simp)) g, fun e he => kt _ _ (v e he), x1, x2, x3, x4, fun y o e => k y o (ne_of_none e x6.1) (x5 y o e), x6⟩
theorem nd_ix {f : Hl → Addr} : ∀ {hs : List Hl} {i j : Nat} {e q : Hl}, (hs.map f).Nodup → hs[i]? = some e → hs[j]? = some q → f q = f e → i = j
  | [], i, _, _, _, _, h, _, _ => by simp at h
  | a :: r, 0, 0, _, _, _, _, _, _ => rfl
  | a :: r, 0, j + 1, e, q, nd, h1, h2, z => by
    rw [List.map_cons, List.nodup_cons] at nd
    obtain rfl := Option.some.inj h1
    have h2 : r[j]? = some q := by simpa using h2
    exact (nd.1 (List.mem_map.mpr ⟨q, List.mem_of_getElem? h2, z⟩)).elim
  | a :: r, i + 1, 0, e, q, nd, h1, h2, z => by
    rw [List.map_cons, List.nodup_cons] at nd
    obtain rfl := Option.some.inj h2
    have h1 : r[i]? = some e := by simpa using h1
    exact (nd.1 (List.mem_map.mpr ⟨e, List.mem_of_getElem? h1, z.symm⟩)).elim
  | a :: r, i + 1, j + 1, e, q, nd, h1, h2, z => by
    rw [List.map_cons, List.nodup_cons] at nd
    exact congrArg (· + 1) (nd_ix nd.2 (by simpa using h1) (by simpa using h2) z)
theorem Hw.holder {r' : Option Int} {s' : Int} (h : Hw C D st H0 H S) (hi : S.hs[i]? = some e) (k : ∀ y o, y ≠ e.a → H y = some o → H' y = some o) (ek : HlAt D H' ⟨e.nm, e.a, r', s'⟩) : Hw C D st H0 H' (S.put i ⟨e.nm, e.a, r', s'⟩) := by
  obtain ⟨⟨dx, a⟩, ⟨uv, b, c⟩, d, f, g, v, x1, x2, x3, x4, x5, x6⟩ := h
  have he := List.mem_of_getElem? hi
  obtain ⟨_, _, _, ea, _⟩ := f e he
  have kt : ∀ x ys, H x = some (.tup ys) → H' x = some (.tup ys) := fun x ys h => k _ _ (ne_of h ea (by simp)) h
  have old : ∀ q ∈ S.hs.set i ⟨e.nm, e.a, r', s'⟩, q = ⟨e.nm, e.a, r', s'⟩ ∨ (q ∈ S.hs ∧ q.a ≠ e.a) := by
    intro q hq
    obtain ⟨j, hj⟩ := List.mem_iff_getElem?.mp hq
    by_cases c : i = j
    · subst c
      rw [List.getElem?_set_self (List.getElem?_eq_some_iff.mp hi).1] at hj
      exact .inl (Option.some.inj hj).symm
    · rw [List.getElem?_set_ne c] at hj
      refine .inr ⟨List.mem_of_getElem? hj, fun z => c ?_⟩
      exact nd_ix x2 hi hj z
  refine ⟨⟨dx, k _ _ (x1 e he).symm a⟩, ⟨uv, k _ _ (ne_of b ea (by simp)) b, c.up kt⟩, ?_, fun q hq => ?_, k _ _ (ne_of g ea (by simp)) g, fun q hq => kt _ _ (v q hq), fun q hq => ?_, ?_, x3, fun q hq => ?_, fun y o q => k y o (ne_of_none q (x6.2.2.2.2 e he)) (x5 y o q), x6.1, x6.2.1, x6.2.2.1, x6.2.2.2.1, fun q hq => ?_⟩
  · show H' S.hd = some (.dK ((S.hs.set i ⟨e.nm, e.a, r', s'⟩).map _))
    rw [put_map (e' := ⟨e.nm, e.a, r', s'⟩) hi rfl]
    exact k _ _ (ne_of d ea (by simp)) d
  · rcases old q hq with rfl | ⟨hq, nq⟩
    · exact ek
    · exact (f q hq).up (fun o h => k _ _ nq h) kt
  · rcases old q hq with rfl | ⟨hq, nq⟩
    · exact x1 e he
    · exact x1 q hq
  · show ((S.hs.set i ⟨e.nm, e.a, r', s'⟩).map _).Nodup
    rw [put_map (e' := ⟨e.nm, e.a, r', s'⟩) hi rfl]
    exact x2
  · rcases old q hq with rfl | ⟨hq, nq⟩
    · exact x4 e he
    · exact x4 q hq
  · rcases old q hq with rfl | ⟨hq, nq⟩
    · exact x6.2.2.2.2 e he
    · exact x6.2.2.2.2 q hq
theorem Hw.say {w : Wr} (h : Hw C D st H0 H S) (k : ∀ y o, y ≠ S.wl → H y = some o → H' y = some o) (e1 : H' S.wl = some (.lst ((S.ws ++ [w]).map fun e => .ref e.a))) (e2 : H' w.a = some (.tup [.str (kd w.op), .int w.n, .str w.z])) : Hw C D st H0 H' (S.say w) := by
  obtain ⟨⟨dx, a⟩, ⟨uv, b, c⟩, d, f, g, v, x1, x2, x3, x4, x5, x6⟩ := h
  have kt : ∀ x ys, H x = some (.tup ys) → H' x = some (.tup ys) := fun x ys h => k _ _ (ne_of h g (by simp)) h
  refine ⟨⟨dx, k _ _ (ne_of a g (by simp)) a⟩, ⟨uv, k _ _ (ne_of b g (by simp)) b, c.up kt⟩, k _ _ (ne_of d g (by simp)) d, fun e he => (f e he).up (fun o h => k _ _ (by obtain ⟨_, _, _, ea, _⟩ := f e he; exact ne_of ea g (by simp)) h) kt, e1, fun q hq => ?_, x1, x2, x3, x4, fun y o q => k y o (ne_of_none q x6.2.2.2.1) (x5 y o q), x6⟩
  rcases List.mem_append.mp hq with hq | hq
  · exact kt _ _ (v q hq)
  · obtain rfl := List.mem_singleton.mp hq
    exact e2
theorem Hw.used {us' : Option (Int × Str)} (h : Hw C D st H0 H S) (k : ∀ y o, y ≠ st → H y = some o → H' y = some o) (eu : ∃ uv, H' st = some (.dK (stK S.k S.hd S.wl uv)) ∧ UsAt H' uv us') : Hw C D st H0 H' { S with us := us' } := by
  obtain ⟨⟨dx, a⟩, ⟨uv, b, c⟩, d, f, g, v, x1, x2, x3, x4, x5, x6⟩ := h
  have kt : ∀ x ys, H x = some (.tup ys) → H' x = some (.tup ys) := fun x ys h => k _ _ (ne_of h b (by simp)) h
  exact ⟨⟨dx, k _ _ (ne_of a b (by simp)) a⟩, eu, k _ _ x3.symm d, fun e he => (f e he).up (fun o h => k _ _ (by obtain ⟨_, _, _, ea, _⟩ := f e he; exact ne_of ea b (by simp)) h) kt, k _ _ (ne_of g b (by simp)) g, fun e he => kt _ _ (v e he), x1, x2, x3, x4, fun y o q => k y o (ne_of_none q x6.2.1) (x5 y o q), x6⟩
/-! ### what the dict of the whole tells -/
theorem hk_ : ¬ (("keeper" : Str) = "holders") := by decide +kernel
theorem wk_ : ¬ (("keeper" : Str) = "words") := by decide +kernel
theorem uk_ : ¬ (("keeper" : Str) = "used") := by decide +kernel
theorem wh_ : ¬ (("holders" : Str) = "words") := by decide +kernel
theorem uh_ : ¬ (("holders" : Str) = "used") := by decide +kernel
theorem uw_ : ¬ (("words" : Str) = "used") := by decide +kernel
variable {k hd wl : Addr} {uv : V}
theorem st_k : valV (stK k hd wl uv) (Sum.inr ("keeper" : Str)) = some (.ref k) := by
  unfold stK
  rw [valV_pos rfl]
theorem st_h : valV (stK k hd wl uv) (Sum.inr ("holders" : Str)) = some (.ref hd) := by
  unfold stK
  rw [valV_neg (fun z => hk_ (Sum.inr.inj z)), valV_pos rfl]
theorem st_w : valV (stK k hd wl uv) (Sum.inr ("words" : Str)) = some (.ref wl) := by
  unfold stK
  rw [valV_neg (fun z => wk_ (Sum.inr.inj z)), valV_neg (fun z => wh_ (Sum.inr.inj z)), valV_pos rfl]
theorem st_u : valV (stK k hd wl uv) (Sum.inr ("used" : Str)) = some uv := by
  unfold stK
  rw [valV_neg (fun z => uk_ (Sum.inr.inj z)), valV_neg (fun z => uh_ (Sum.inr.inj z)), valV_neg (fun z => uw_ (Sum.inr.inj z)), valV_pos rfl]
theorem st_put (u : V) : putK (stK k hd wl uv) (Sum.inr ("used" : Str)) u = stK k hd wl u := by
  unfold putK stK
  simp [uk_, uh_, uw_]
theorem hl_val : ∀ {hs : List Hl} {e : Hl}, (hs.map (·.nm)).Nodup → e ∈ hs → valV (hs.map fun e => ((Sum.inr e.nm : Key), V.ref e.a)) (Sum.inr e.nm) = some (.ref e.a)
  | [], _, _, h => by cases h
  | f :: r, e, nd, h => by
    rw [List.map_cons, List.nodup_cons] at nd
    rw [List.map_cons]
    by_cases c : f.nm = e.nm
    · rcases List.mem_cons.mp h with rfl | h'
      · exact valV_pos rfl
      · exact (nd.1 (List.mem_map.mpr ⟨e, h', c.symm⟩)).elim
    · rcases List.mem_cons.mp h with rfl | h'
      · exact absurd rfl c
      · rw [valV_neg (fun z => c (Sum.inr.inj z))]
        exact hl_val nd.2 h'
end
end K23

set_option maxRecDepth 100000
set_option maxHeartbeats 400000
namespace K23
open PySem PySem.Spec PyProof.Rows L2 GxR Gd TL My K23H
theorem iteS {c : Bool} {A B : Prop} (hc : c = true) (h : A) : if c = true then A else B := by rw [if_pos hc]; exact h
theorem iteN {c : Bool} {A B : Prop} (hc : c = false) (h : B) : if c = true then A else B := by rw [if_neg (by rw [hc]; exact Bool.false_ne_true)]; exact h
inductive Tw
  | lock | use | give | unlock
def Tw.name : Tw → Str
  | .lock => "lock"
  | .use => "use"
  | .give => "give"
  | .unlock => "unlock"
theorem hf_no' (r n : V) (s : Int) {m : Str} (h1 : (m == "_right") = false) (h2 : (m == "_noted") = false) (h3 : (m == "_seen") = false) : (hf r n s).lookup m = none := hf_no r n s h1 h2 h3
section
variable {P : Program} {w : World} {K : PySem.W.Frag} {mg : Str → Option Value} {base : Heap} {C D CS fS CH fH CN fN CR fR : Addr} {fdS fdH fdN fdR : FuncData}
abbrev s_law_tried : Stmt := top 17
theorem sc_law_tried : FnScope ["_law_keeper", "_law_holder", "_law_way", "_law_place"] ["_law_keeper", "_law_holder", "_law_way", "_law_place"] (defScope s_law_tried) := ⟨rfl, rfl, rfl, by decide +kernel, rfl, by decide +kernel, by decide +kernel⟩
def spTried (C D : Addr) : Sp := fun vs H Q _ => ∃ (k h : Addr) (w : Tw) (z : Str) (dx : Addr) (t : Int) (o : Option Str) (p : Bool) (dy : Addr) (rv nv : V) (s : Int), vs = [.ref k, .ref h, .str w.name, .str z] ∧ H k = some (.ins C dx (kf t (toV o) p)) ∧ H h = some (.ins D dy (hf rv nv s)) ∧
  match w with
  | .lock => (o = none → Q (.int (t + 1)) (upd H k (.ins C dx (kf (t + 1) (toV (some z)) p)))) ∧ (o ≠ none → ∀ H', Same H H' → Q .non H')
  | .use => (rv ≠ .non → Q rv (upd H h (.ins D dy (hf .non nv s)))) ∧ (rv = .non → ∀ H', Same H H' → Q .non H')
  | .give => (rv ≠ .non → Q rv (upd H h (.ins D dy (hf .non rv s)))) ∧ (rv = .non → ∀ H', Same H H' → Q .non H')
  | .unlock => (o ≠ none → p = true → Q (.bl true) (upd H k (.ins C dx (kf t (toV none) false)))) ∧ ((o ≠ none → p = true → False) → ∀ H', Same H H' → Q .non H')
theorem ok_tried {f f1 f2 f3 f4 : Addr} {fd fd1 fd2 fd3 fd4 : FuncData} (F : Fun K "_law_tried" "_law_tried" s_law_tried f fd) (T : Txt mg) (TC : KeeT K C) (TD : HolT K D) (ES : SeT K mg CS fS fdS sSE) (EShut : ExC K mg "Shut" "Shut.__init__" sShut CH fH fdH) (ENotShut : ExC K mg "NotShut" "NotShut.__init__" sNotShut CN fN fdN) (ENoRight : ExC K mg "NoRight" "NoRight.__init__" sNoRight CR fR fdR)
    (aH : PySem.W.exmAny K (.ref CH) [.ref CH, .ref CN, .ref CR] = some true) (aN : PySem.W.exmAny K (.ref CN) [.ref CH, .ref CN, .ref CR] = some true) (aR : PySem.W.exmAny K (.ref CR) [.ref CH, .ref CN, .ref CR] = some true)
    (Mlock : Me K C "lock" "Keeper.lock" s_lock ["self", "to"] f1 fd1) (Glock : FnOk P w K mg base (CX P w) 4 f1 fd1 ["self", "to"] (spLock C CH))
    (Muse : Me K D "use" "Holder.use" s_use ["self"] f2 fd2) (Guse : FnOk P w K mg base (CX P w) 4 f2 fd2 ["self"] (spUse D CR))
    (Mgive : Me K D "give" "Holder.give" s_give ["self"] f3 fd3) (Ggive : FnOk P w K mg base (CX P w) 5 f3 fd3 ["self"] (spGive D CR))
    (Munlock : Me K C "unlock" "Keeper.unlock" s_unlock ["self"] f4 fd4) (Gunlock : FnOk P w K mg base (CX P w) 4 f4 fd4 ["self"] (spUnlock C CN CR)) :
    FnOk P w K mg base CX0 6 f fd ["_law_keeper", "_law_holder", "_law_way", "_law_place"] (spTried C D) := by
  refine F.ok sc_law_tried (fun vs H Q E h => ?_) (fun cdv A outer s H vs Q E hr h => ?_)
  · obtain ⟨k, h, w, z, _, _, _, _, _, _, _, _, rfl, _⟩ := h
    rfl
  · obtain ⟨k, h, w, z, dx, t, o, p, dy, rv, nv, s', rfl, ek, eh, kk⟩ := h
    refine ⟨_, pss_cons (ps_try_t3 (ts := fun a cls d => _) rfl rfl takes_never ⟨by rfl, by decide, .inl EShut.g⟩ ⟨by rfl, by decide, .inl ENotShut.g⟩ ⟨by rfl, by decide, .inl ENoRight.g⟩ (fun a oe cls d pn hz hf => (pss_one (ps_ret pe_non))) (fun W pn xe tk _ => (pss_cons (ps_if (pt_cmpR op_eq (pv 2) pe_str (nomark _)) (pss_one (ps_ret (pe_methX (pv 0) TC.cl Mlock.m Glock (hr.mono (by decide)) Mlock.b (fun σ => passAt tk σ) (pa_cons (pv 3) pa_nil)))) pss_nil)
            (pss_cons (ps_if (pt_cmpR op_eq (pv 2) pe_str (nomark _)) (pss_one (ps_ret (pe_methX0 (pv 1) TD.cl Muse.m Guse (hr.mono (by decide)) Muse.b (fun σ => passAt tk σ)))) pss_nil)
            (pss_cons (ps_if (pt_cmpR op_eq (pv 2) pe_str (nomark _)) (pss_one (ps_ret (pe_methX0 (pv 1) TD.cl Mgive.m Ggive (hr.mono (by decide)) Mgive.b (fun σ => passAt tk σ)))) pss_nil)
            (pss_one (ps_expr (pe_methX0 (pv 0) TC.cl Munlock.m Gunlock (hr.mono (by decide)) Munlock.b (fun σ => passAt tk σ)))))))))
      (pss_one (ps_ret pe_bl)), ?_⟩
    have no : ∀ {m : Str}, (m == "_times") = false → (m == "_to") = false → (m == "_opened") = false → (kf t (toV o) p).lookup m = none := fun a b c => kf_no _ _ _ a b c
    cases w with
    | lock =>
      refine ⟨_, rfl, rfl, _, rfl, iteS (by decide +kernel) ?_⟩
      refine ⟨_, rfl, k, dx, _, rfl, ek, no (by decide +kernel) (by decide +kernel) (by decide +kernel), _, rfl, k, dx, t, toV o, p, .str z, rfl, ek, fun ho => ?_, fun ho e he => ?_⟩
      · exact kk.1 (toV_non ho)
      · exact ⟨true, aH, fun _ y hy => kk.2 (fun z => ho (by rw [z]; rfl)) _ (same_new he), nofun⟩
    | use =>
      refine ⟨_, rfl, rfl, _, rfl, iteN (by decide +kernel) ?_⟩
      refine ⟨_, rfl, rfl, _, rfl, iteS (by decide +kernel) ?_⟩
      refine ⟨_, rfl, h, dy, _, rfl, eh, hf_no _ _ _ (by decide +kernel) (by decide +kernel) (by decide +kernel), h, dy, rv, nv, s', rfl, eh, fun ho => ?_, fun ho e he => ?_⟩
      · exact kk.1 ho
      · exact ⟨true, aR, fun _ y hy => kk.2 ho _ (same_new he), nofun⟩
    | give =>
      refine ⟨_, rfl, rfl, _, rfl, iteN (by decide +kernel) ?_⟩
      refine ⟨_, rfl, rfl, _, rfl, iteN (by decide +kernel) ?_⟩
      refine ⟨_, rfl, rfl, _, rfl, iteS (by decide +kernel) ?_⟩
      refine ⟨_, rfl, h, dy, _, rfl, eh, hf_no _ _ _ (by decide +kernel) (by decide +kernel) (by decide +kernel), h, dy, rv, nv, s', rfl, eh, fun ho => ?_, fun ho e he => ?_⟩
      · rw [upd_upd]
        exact kk.1 ho
      · exact ⟨true, aR, fun _ y hy => kk.2 ho _ (same_new he), nofun⟩
    | unlock =>
      refine ⟨_, rfl, rfl, _, rfl, iteN (by decide +kernel) ?_⟩
      refine ⟨_, rfl, rfl, _, rfl, iteN (by decide +kernel) ?_⟩
      refine ⟨_, rfl, rfl, _, rfl, iteN (by decide +kernel) ?_⟩
      refine ⟨_, rfl, k, dx, _, rfl, ek, no (by decide +kernel) (by decide +kernel) (by decide +kernel), k, dx, t, toV o, p, rfl, ek, fun ho hp => ?_, fun ho e he => ?_, fun ho hp e he => ?_⟩
      · exact kk.1 (fun z => ho (by rw [z]; rfl)) hp
      · exact ⟨true, aN, fun _ y hy => kk.2 (fun z _ => z (toV_non ho)) _ (same_new he), nofun⟩
      · exact ⟨true, aR, fun _ y hy => kk.2 (fun _ z => by rw [hp] at z; cases z) _ (same_new he), nofun⟩
theorem passN {X : Cx} : Passes (CX X.prog X.w) X E0 := passes_call takes_never (fun _ _ _ _ h => h)
abbrev s_law_come : Stmt := top 18
theorem sc_law_come : FnScope ["_law_state", "_law_at", "_law_kind", "_law_number", "_law_place", "_law_keeper", "_law_holders", "_law_due", "_law_ahead", "_law_found"] ["_law_state", "_law_at"] (defScope s_law_come) := ⟨rfl, rfl, rfl, by decide +kernel, rfl, by decide +kernel, by decide +kernel⟩
def spCome (C D : Addr) : Sp := fun vs H Q _ => ∃ (st : Addr) (j : Nat) (H0 : Hp) (S : Sy) (w : Wr) (B : Int), vs = [.ref st, .int (j : Nat)] ∧ Hw C D st H0 H S ∧ Iv B S ∧ S.ws[j]? = some w ∧
  (w.n < S.t → ∀ H', Same H H' → Q (.bl true) H') ∧ (¬ w.n < S.t → ∀ H' S', (∀ y o, (∀ C' dx fs, o ≠ .ins C' dx fs) → H y = some o → H' y = some o) → Hw C D st H0 H' S' → Iv B S' → S'.hs.map (·.nm) = S.hs.map (·.nm) → S'.ws = S.ws → Q (.bl true) H')
theorem ok_come {f f1 f2 f3 f4 f5 : Addr} {fd fd1 fd2 fd3 fd4 fd5 : FuncData} (F : Fun K "_law_come" "_law_come" s_law_come f fd) (T : Txt mg) (TC : KeeT K C) (TD : HolT K D)
    (Mlocked : Me K C "locked" "Keeper.locked" s_locked ["self"] f1 fd1) (Glocked : FnOk P w K mg base CX0 1 f1 fd1 ["self"] (spLocked C))
    (Mis_open : Me K C "is_open" "Keeper.is_open" s_is_open ["self"] f2 fd2) (Gis_open : FnOk P w K mg base CX0 1 f2 fd2 ["self"] (spIsOpen C))
    (Mopens : Me K C "opens" "Keeper.opens" s_opens ["self", "number"] f3 fd3) (Gopens : FnOk P w K mg base (CX P w) 3 f3 fd3 ["self", "number"] (spOpens C))
    (Mseen : Me K D "seen" "Holder.seen" s_seen ["self"] f4 fd4) (Gseen : FnOk P w K mg base CX0 1 f4 fd4 ["self"] (spSeen D))
    (Mgot : Me K D "got" "Holder.got" s_got ["self", "number", "place"] f5 fd5) (Ggot : FnOk P w K mg base (CX P w) 4 f5 fd5 ["self", "number", "place"] (spGot D CN)) :
    FnOk P w K mg base CX0 5 f fd ["_law_state", "_law_at"] (spCome C D) := by
  refine F.ok sc_law_come (fun vs H Q E h => ?_) (fun cdv A outer s H vs Q E hr h => ?_)
  · obtain ⟨st, j, _, _, _, _, rfl, _⟩ := h
    rfl
  · obtain ⟨st, j, H0, S, w, B, rfl, hw, iv, hj, k1, k2⟩ := h
    refine ⟨_, pss_cons (ps_asg (pe_ix ix_list (pe_dget (hu_of hr) (pv 0) pe_str (fun _ _ => rfl)) (pv 1) (fun _ _ => rfl)) (pg_tup (by rfl) (pgs_cons (pg_name (i := 2) sc_law_come.nd rfl (Or.inl rfl)) (pgs_cons (pg_name (i := 3) sc_law_come.nd rfl (Or.inl rfl)) (pgs_cons (pg_name (i := 4) sc_law_come.nd rfl (Or.inl rfl)) pgs_nil)))))
      (pss_cons (ps_par (i := 5) (j := 6) rfl sc_law_come.nd rfl rfl (by decide) rfl rfl (pa_cons (pe_dget (hu_of hr) (pv 0) pe_str (fun _ _ => rfl)) (pa_cons (pe_dget (hu_of hr) (pv 0) pe_str (fun _ _ => rfl)) pa_nil)) (by rfl))
      (pss_cons (ps_if (pt_cmpR op_eq (pv 2) pe_str (nomark _)) (pss_cons (ps_set (i := 7) sc_law_come.nd rfl (Or.inl rfl) (pe_and (pe_cmpR op_notN (pe_meth0 (pv 5) TC.cl Mlocked.m Glocked (hr.mono (by decide)) Mlocked.b .nil pass0) pe_non (nomark _)) (pe_and (pe_cmpR op_eq (pe_ix ix_tup (pe_meth0 (pv 5) TC.cl Mlocked.m Glocked (hr.mono (by decide)) Mlocked.b .nil pass0) pe_int (fun _ _ => rfl)) (pv 3) (nomark _)) (pe_one (pe_not (pe_meth0 (pv 5) TC.cl Mis_open.m Gis_open (hr.mono (by decide)) Mis_open.b .nil pass0))))))
          (pss_one (ps_ret (pe_cmpR op_eq (pe_meth (pv 5) TC.cl Mopens.m Gopens (hr.mono (by decide)) Mopens.b .nil passN (pa_cons (pv 3) pa_nil)) (pv 7) (nomark _))))) pss_nil)
      (pss_cons (ps_set (i := 8) sc_law_come.nd rfl (Or.inl rfl) (pe_meth0 (pe_dget (hu_of hr) (pv 6) (pv 4) (fun _ _ => rfl)) TD.cl Mseen.m Gseen (hr.mono (by decide)) Mseen.b .nil pass0))
      (pss_cons (ps_set (i := 9) sc_law_come.nd rfl (Or.inl rfl) (pe_meth (pe_dget (hu_of hr) (pv 6) (pv 4) (fun _ _ => rfl)) TD.cl Mgot.m Ggot (hr.mono (by decide)) Mgot.b .nil passN (pa_cons (pv 3) (pa_cons pe_str pa_nil))))
      (pss_one (ps_ret (pe_cmpR op_eq (pv 9) (pe_cmpR op_gt (pv 3) (pv 8) (nomark _)) (nomark _)))))))), ?_⟩
    obtain ⟨dx, ek⟩ := hw.k_
    obtain ⟨uv, es, eu⟩ := hw.s_
    have gk : DGet H st (kV (Sum.inr "keeper")) (some (.ref S.k)) := st_k (k := S.k) (hd := S.hd) (wl := S.wl) (uv := uv) ▸ DGet.k (k := Sum.inr ("keeper" : Str)) es
    have gh : DGet H st (kV (Sum.inr "holders")) (some (.ref S.hd)) := st_h (k := S.k) (hd := S.hd) (wl := S.wl) (uv := uv) ▸ DGet.k (k := Sum.inr ("holders" : Str)) es
    have gw : DGet H st (kV (Sum.inr "words")) (some (.ref S.wl)) := st_w (k := S.k) (hd := S.hd) (wl := S.wl) (uv := uv) ▸ DGet.k (k := Sum.inr ("words" : Str)) es
    have mw := List.mem_of_getElem? hj
    have ew := hw.v_ w mw
    have ej : atI (S.ws.map fun e => V.ref e.a) ((j : Nat) : Int) = some (.ref w.a) := atI_nat (by rw [List.getElem?_map, hj]; rfl)
    have no : ∀ {m : Str}, (m == "_times") = false → (m == "_to") = false → (m == "_opened") = false → (kf S.t (toV S.o) S.p).lookup m = none := fun a b c => kf_no _ _ _ a b c
    refine ⟨_, rfl, st, _, rfl, gw, _, rfl, S.wl, _, _, _, rfl, rfl, SqL.of hw.w_, ej, w.a, _, rfl, SqT.of ew, rfl, _, _, rfl, _, _, rfl, _, _, rfl, rfl, ?_⟩
    refine ⟨_, rfl, st, _, rfl, gk, _, rfl, st, _, rfl, gh, _, _, rfl, ?_⟩
    have fin : ∀ H', Same H H' → Q (.bl true) H' := fun H' s => by
      by_cases c : w.n < S.t
      · exact k1 c H' s
      · exact k2 c H' S (fun y o _ h => s _ _ h) (hw.go s) iv rfl rfl
    refine ⟨_, rfl, rfl, _, rfl, ?_⟩
    cases hop : w.op with
    | true =>
      refine iteS (by decide +kernel) ?_
      refine ⟨_, rfl, S.k, dx, _, rfl, ek, no (by decide +kernel) (by decide +kernel) (by decide +kernel), S.k, dx, S.t, toV S.o, S.p, rfl, ek, fun hn => ?_, fun hn u nu => ?_⟩
      · refine ⟨rfl, _, rfl, iteN rfl ?_⟩
        have lb : lby S.t (toV S.o) (.int w.n) = false := by rw [hn]; rfl
        refine ⟨_, rfl, S.k, dx, _, rfl, ek, no (by decide +kernel) (by decide +kernel) (by decide +kernel), _, rfl, S.k, dx, S.t, toV S.o, S.p, .int w.n, rfl, ek, .int _, fun hb => ?_, fun hb => ?_⟩
        · exact ⟨_, rfl, rfl, fin H (Same.refl H)⟩
        · rw [lb, Bool.and_false] at hb
          cases hb
      · have s1 : Same H (upd H u (.tup [.int S.t, toV S.o])) := same_new nu
        generalize upd H u (.tup [.int S.t, toV S.o]) = H1 at s1 ⊢
        have ek1 := s1 _ _ ek
        refine ⟨rfl, _, rfl, iteS rfl ?_⟩
        refine ⟨_, rfl, S.k, dx, _, rfl, ek1, no (by decide +kernel) (by decide +kernel) (by decide +kernel), S.k, dx, S.t, toV S.o, S.p, rfl, ek1, fun hn' => absurd hn' hn, fun _ u2 nu2 => ?_⟩
        have s2 := s1.trans (same_new (o := .tup [.int S.t, toV S.o]) nu2)
        have e2 : upd H1 u2 (.tup [.int S.t, toV S.o]) u2 = some (.tup [.int S.t, toV S.o]) := upd_same
        generalize upd H1 u2 (.tup [.int S.t, toV S.o]) = H2 at s2 e2 ⊢
        have ek2 := s2 _ _ ek
        refine ⟨u2, _, _, _, rfl, rfl, SqT.of e2, rfl, _, rfl, rfl, _, rfl, ?_⟩
        by_cases ht : S.t = w.n
        · refine iteS (by rw [ht]; exact decide_eq_true rfl) ?_
          refine ⟨_, rfl, S.k, dx, _, rfl, ek2, no (by decide +kernel) (by decide +kernel) (by decide +kernel), S.k, dx, S.t, toV S.o, S.p, rfl, ek2, _, rfl, ?_⟩
          have lb : lby S.t (toV S.o) (.int w.n) = true := by
            show (!decide (toV S.o = .non) && (decide (S.t ≤ w.n) && decide (w.n ≤ S.t))) = true
            rw [decide_eq_false hn, decide_eq_true (by omega : S.t ≤ w.n), decide_eq_true (by omega : w.n ≤ S.t)]
            rfl
          refine ⟨_, rfl, S.k, dx, _, rfl, ek2, no (by decide +kernel) (by decide +kernel) (by decide +kernel), _, rfl, S.k, dx, S.t, toV S.o, S.p, .int w.n, rfl, ek2, .int _, fun hb => ?_, fun hb => ?_⟩
          · rw [lb, Bool.and_true] at hb
            refine ⟨_, rfl, rfl, ?_⟩
            rw [hb]
            exact fin H2 s2
          · rw [lb, Bool.and_true] at hb
            refine ⟨_, rfl, rfl, ?_⟩
            rw [hb]
            obtain ⟨z, hz⟩ := toV_some hn
            exact k2 (by omega) _ _ (fun y o n h => by rw [upd_ne (ne_of h ek (n _ _ _))]; exact s2 _ _ h) ((hw.go s2).keeper (t' := S.t) (o' := S.o) (p' := true) (fun y o n h => by rw [upd_ne n]; exact h) ⟨dx, upd_same⟩) (iv.opened mw hop ht.symm (by rw [hz]; simp)) rfl rfl
        · refine iteN (decide_eq_false fun z => ht (V.int.inj z)) ?_
          have lb : lby S.t (toV S.o) (.int w.n) = false := by
            show (!decide (toV S.o = .non) && (decide (S.t ≤ w.n) && decide (w.n ≤ S.t))) = false
            rw [decide_eq_false hn]
            by_cases c : S.t ≤ w.n
            · rw [decide_eq_false (by omega : ¬ w.n ≤ S.t), Bool.and_false, Bool.and_false]
            · rw [decide_eq_false c, Bool.false_and, Bool.and_false]
          refine ⟨_, rfl, S.k, dx, _, rfl, ek2, no (by decide +kernel) (by decide +kernel) (by decide +kernel), _, rfl, S.k, dx, S.t, toV S.o, S.p, .int w.n, rfl, ek2, .int _, fun hb => ?_, fun hb => ?_⟩
          · exact ⟨_, rfl, rfl, fin H2 s2⟩
          · rw [lb, Bool.and_false] at hb
            cases hb
    | false =>
      refine iteN (by decide +kernel) ?_
      obtain ⟨a1, a2, e, he, en, _⟩ := iv.lw w mw hop
      obtain ⟨i, hi⟩ := List.mem_iff_getElem?.mp he
      obtain ⟨dy, rv, nv, ee, er⟩ := hw.h_ e he
      have gd : DGet H S.hd (kV (Sum.inr w.z)) (some (.ref e.a)) := by
        rw [← en]
        exact hl_val iv.nn he ▸ DGet.k (k := Sum.inr e.nm) hw.d_
      have no2 : ∀ {m : Str}, (m == "_right") = false → (m == "_noted") = false → (m == "_seen") = false → (hf rv nv e.s).lookup m = none := fun a b c => hf_no _ _ _ a b c
      refine ⟨_, rfl, _, rfl, S.hd, _, rfl, gd, e.a, dy, _, rfl, ee, no2 (by decide +kernel) (by decide +kernel) (by decide +kernel), e.a, dy, rv, nv, e.s, rfl, ee, ?_⟩
      refine ⟨_, rfl, _, rfl, S.hd, _, rfl, gd, e.a, dy, _, rfl, ee, no2 (by decide +kernel) (by decide +kernel) (by decide +kernel), _, rfl, e.a, dy, rv, nv, e.s, .int w.n, .str "home", rfl, ee, .int _, fun j hj' h1 h2 => ?_, fun j hj' h1 h2 u nu => ?_, fun h => ?_⟩
      · obtain rfl := V.int.inj hj'
        refine ⟨_, rfl, _, rfl, _, rfl, _, _, rfl, rfl, rfl, ?_⟩
        show Q (.bl (decide (V.bl false = V.bl (decide (e.s < w.n))))) H
        rw [decide_eq_false (by omega : ¬ e.s < w.n)]
        exact fin H (Same.refl H)
      · obtain rfl := V.int.inj hj'
        refine ⟨_, rfl, _, rfl, _, rfl, _, _, rfl, rfl, rfl, ?_⟩
        show Q (.bl (decide (V.bl true = V.bl (decide (e.s < w.n))))) _
        rw [decide_eq_true h2]
        obtain ⟨c1, c2⟩ := iv.come mw hop hi en h2
        have nue : e.a ≠ u := ne_of_none ee nu
        refine k2 (by omega) _ _ (fun y o n h => ?_) (hw.holder (r' := some w.n) (s' := w.n) hi (fun y o n h => ?_) ⟨dy, .ref u, nv, upd_same, u, rfl, ?_⟩) c2 ?_ rfl
        · have ny : y ≠ e.a := ne_of h ee (n _ _ _)
          rw [upd_ne ny, upd_ne (ne_of_none h nu), upd_ne ny]
          exact h
        · rw [upd_ne n, upd_ne (ne_of_none h nu), upd_ne n]
          exact h
        · rw [upd_ne nue.symm, upd_same]
        · show (S.hs.set i _).map (·.nm) = _
          rw [put_map (e' := ⟨e.nm, e.a, some w.n, w.n⟩) hi rfl]
      · have h : decide ((1 : Int) ≤ w.n) = false := h
        rw [decide_eq_true a1] at h
        cases h
end
end K23

set_option maxRecDepth 100000
set_option maxHeartbeats 3000000
namespace K23
open PySem PySem.Spec PyProof.Rows L2 GxR Gd TL My K23H
inductive Wy
  | tw (w : Tw) | over | come
def Wy.name : Wy → Str
  | .tw w => w.name
  | .over => "over"
  | .come => "come"
section
variable {P : Program} {w : World} {K : PySem.W.Frag} {mg : Str → Option Value} {base : Heap} {C D CN CR : Addr}
abbrev s_law_done : Stmt := top 19
theorem sc_law_done : FnScope ["_law_box_here", "_law_state", "_law_names_here", "_law_keeper", "_law_holders", "_law_words", "_law_place", "_law_way", "_law_at", "_law_end", "_law_used", "_law_found"] ["_law_box_here", "_law_state", "_law_names_here"] (defScope s_law_done) := ⟨rfl, rfl, rfl, by decide +kernel, rfl, by decide +kernel, by decide +kernel⟩
def spDone (C D : Addr) : Sp := fun vs H Q _ => ∃ (b st na : Addr) (H0 : Hp) (S : Sy) (n B : Int) (ns : List Str), vs = [.ref b, .ref st, .ref na] ∧ Bx b n H ∧ n ≤ 90000 ∧ H0 b = none ∧ H0 na = some (.lst (ns.map V.str)) ∧ 1 ≤ ns.length ∧ ns.length ≤ 2 ∧
  (∀ z ∈ ns, z ∈ S.hs.map (·.nm)) ∧ Hw C D st H0 H S ∧ Iv B S ∧ S.ws.length ≤ B.toNat ∧ 0 ≤ B ∧ B ≤ 1000 ∧
  ∀ H' S', Hw C D st H0 H' S' → Iv (B + 1) S' → Bx b (n + 4) H' → S'.hs.map (·.nm) = S.hs.map (·.nm) → S'.ws.length ≤ (B + 1).toNat → Q (.bl true) H'
theorem ok_done {f f1 f2 f3 f4 f5 : Addr} {fd fd1 fd2 fd3 fd4 fd5 : FuncData} (F : Fun K "_law_done" "_law_done" s_law_done f fd) (T : Txt mg) (TC : KeeT K C) (TD : HolT K D)
    (Nlaw_take : Fn K mg "_law_take" sTake ["_law_box_here", "_law_many"] f1 fd1) (Glaw_take : FnOk P w K mg base CX0 1 f1 fd1 ["_law_box_here", "_law_many"] spTake)
    (Nlaw_come : Fn K mg "_law_come" s_law_come ["_law_state", "_law_at"] f2 fd2) (Glaw_come : FnOk P w K mg base CX0 5 f2 fd2 ["_law_state", "_law_at"] (spCome C D))
    (Nlaw_tried : Fn K mg "_law_tried" s_law_tried ["_law_keeper", "_law_holder", "_law_way", "_law_place"] f3 fd3) (Glaw_tried : FnOk P w K mg base CX0 6 f3 fd3 ["_law_keeper", "_law_holder", "_law_way", "_law_place"] (spTried C D))
    (Mended : Me K C "ended" "Keeper.ended" s_ended ["self", "number"] f4 fd4) (Gended : FnOk P w K mg base (CX P w) 4 f4 fd4 ["self", "number"] (spEnded C CN CR))
    (Mnote : Me K D "note" "Holder.note" s_note ["self", "number", "place"] f5 fd5) (Gnote : FnOk P w K mg base (CX P w) 1 f5 fd5 ["self", "number", "place"] (spNote D)) :
    FnOk P w K mg base CX0 7 f fd ["_law_box_here", "_law_state", "_law_names_here"] (spDone C D) := by
  refine F.ok sc_law_done (fun vs H Q E h => ?_) (fun cdv A outer s H vs Q E hr h => ?_)
  · obtain ⟨b, st, na, _, _, _, _, _, rfl, _⟩ := h
    rfl
  · obtain ⟨b, st, na, H0, S, n, B, ns, rfl, hb, hn, zb, ha, l1, l2, hns, hw, iv, hl, B0, B1, k⟩ := h
    refine ⟨_, pss_cons (ps_par3 (i := 3) (j := 4) (l := 5) rfl sc_law_done.nd rfl rfl rfl (by decide) (by decide) (by decide) rfl rfl rfl (pa_cons (pe_dget (hu_of hr) (pv 1) pe_str (fun _ _ => rfl)) (pa_cons (pe_dget (hu_of hr) (pv 1) pe_str (fun _ _ => rfl)) (pa_cons (pe_dget (hu_of hr) (pv 1) pe_str (fun _ _ => rfl)) pa_nil))) (by rfl))
      (pss_cons (ps_set (i := 6) sc_law_done.nd rfl (Or.inl rfl) (pe_ix ix_list (pv 2) (pe_call Glaw_take (hr.mono (by decide)) (by rfl) Nlaw_take.g Nlaw_take.kp Nlaw_take.b .nil pass0 (pa_cons (pv 0) (pa_cons (pe_callB call_len_seq (by rfl) T.len_ PySem.boot_len (pa_cons (pv 2) pa_nil)) pa_nil))) (fun _ _ => rfl)))
      (pss_cons (ps_set (i := 7) sc_law_done.nd rfl (Or.inl rfl) (pe_ix ix_list (pe_lst (pa_cons pe_str (pa_cons pe_str (pa_cons pe_str (pa_cons pe_str (pa_cons pe_str (pa_cons pe_str (pa_cons pe_str (pa_cons pe_str (pa_cons pe_str pa_nil)))))))))) (pe_call Glaw_take (hr.mono (by decide)) (by rfl) Nlaw_take.g Nlaw_take.kp Nlaw_take.b .nil pass0 (pa_cons (pv 0) (pa_cons pe_int pa_nil))) (fun _ _ => rfl)))
      (pss_cons (ps_set (i := 8) sc_law_done.nd rfl (Or.inl rfl) (pe_call Glaw_take (hr.mono (by decide)) (by rfl) Nlaw_take.g Nlaw_take.kp Nlaw_take.b .nil pass0 (pa_cons (pv 0) (pa_cons (pe_op op_add (pe_callB call_len_seq (by rfl) T.len_ PySem.boot_len (pa_cons (pv 5) pa_nil)) pe_int) pa_nil))))
      (pss_cons (ps_set (i := 9) sc_law_done.nd rfl (Or.inl rfl) (pe_call Glaw_take (hr.mono (by decide)) (by rfl) Nlaw_take.g Nlaw_take.kp Nlaw_take.b .nil pass0 (pa_cons (pv 0) (pa_cons pe_int pa_nil))))
      (pss_cons (ps_if (PW.pt (pw_and (pt_cmpR op_eq (pv 7) pe_str (nomark _)) (pw_and1 (pt_cmpR op_lt (pv 8) (pe_callB call_len_seq (by rfl) T.len_ PySem.boot_len (pa_cons (pv 5) pa_nil)) (nomark _))))) (pss_one (ps_ret (pe_call Glaw_come (hr.mono (by decide)) (by rfl) Nlaw_come.g Nlaw_come.kp Nlaw_come.b .nil pass0 (pa_cons (pv 1) (pa_cons (pv 8) pa_nil))))) pss_nil)
      (pss_cons (ps_set (i := 10) sc_law_done.nd rfl (Or.inl rfl) (pe_dget (hu_of hr) (pv 1) pe_str (fun _ _ => rfl)))
      (pss_cons (ps_if (PW.pt (pw_and (pt_cmpR op_eq (pv 7) pe_str (nomark _)) (pw_and1 (pt_cmpR op_notN (pv 10) pe_non (nomark _))))) (pss_cons (ps_if (pt_cmpR op_eq (pv 9) pe_int (nomark _)) (pss_one (ps_expr (pe_meth (pv 3) TC.cl Mended.m Gended (hr.mono (by decide)) Mended.b .nil passN (pa_cons (pe_ix ix_tup (pv 10) pe_int (fun _ _ => rfl)) pa_nil)))) (pss_cons (ps_expr (pe_meth (pe_dget (hu_of hr) (pv 4) (pe_ix ix_tup (pv 10) pe_int (fun _ _ => rfl)) (fun _ _ => rfl)) TD.cl Mnote.m Gnote (hr.mono (by decide)) Mnote.b .nil passN (pa_cons (pe_ix ix_tup (pv 10) pe_int (fun _ _ => rfl)) (pa_cons pe_str pa_nil))))
              (pss_one (ps_expr (pe_bm PySem.F.plainAttrs_list PySem.F.slot_list_append PySem.F.type_list_append mt_append (pv 5) (pa_cons (pe_tup (pa_cons pe_str (pa_cons (pe_ix ix_tup (pv 10) pe_int (fun _ _ => rfl)) (pa_cons (pe_ix ix_tup (pv 10) pe_int (fun _ _ => rfl)) pa_nil)))) pa_nil))))))
          (pss_one (ps_dput (hu_of hr) (pv 1) pe_str pe_non rfl))) pss_nil)
      (pss_cons (ps_set (i := 11) sc_law_done.nd rfl (Or.inl rfl) (pe_ifExp (pt_cmpR op_in_seq (pv 7) (pe_tup (pa_cons pe_str (pa_cons pe_str (pa_cons pe_str (pa_cons pe_str pa_nil))))) rfl) (pe_call Glaw_tried (hr.mono (by decide)) (by rfl) Nlaw_tried.g Nlaw_tried.kp Nlaw_tried.b .nil pass0 (pa_cons (pv 3) (pa_cons (pe_dget (hu_of hr) (pv 4) (pv 6) (fun _ _ => rfl)) (pa_cons (pv 7) (pa_cons (pv 6) pa_nil))))) pe_non))
      (pss_cons (ps_if (PW.pt (pw_and (pt_cmpR op_eq (pv 7) pe_str (nomark _)) (pw_and1 (pt_cmpR op_notN (pv 11) pe_non (nomark _))))) (pss_one (ps_expr (pe_bm PySem.F.plainAttrs_list PySem.F.slot_list_append PySem.F.type_list_append mt_append (pv 5) (pa_cons (pe_tup (pa_cons pe_str (pa_cons (pv 11) (pa_cons (pv 6) pa_nil)))) pa_nil)))) (pss_one (ps_if (PW.pt (pw_and (pt_cmpR op_eq (pv 7) pe_str (nomark _)) (pw_and1 (pt_cmpR op_notN (pv 11) pe_non (nomark _))))) (pss_one (ps_dput (hu_of hr) (pv 1) pe_str (pe_tup (pa_cons (pe_ix ix_tup (pv 11) pe_int (fun _ _ => rfl)) (pa_cons (pv 6) pa_nil))) rfl)) (pss_one (ps_if (PW.pt (pw_and (pt_cmpR op_eq (pv 7) pe_str (nomark _)) (pw_and1 (pt_cmpR op_notN (pv 11) pe_non (nomark _))))) (pss_one (ps_expr (pe_bm PySem.F.plainAttrs_list PySem.F.slot_list_append PySem.F.type_list_append mt_append (pv 5) (pa_cons (pe_tup (pa_cons pe_str (pa_cons (pe_ix ix_tup (pv 11) pe_int (fun _ _ => rfl)) (pa_cons (pv 6) pa_nil)))) pa_nil)))) pss_nil)))))
      (pss_one (ps_ret pe_bl))))))))))), ?_⟩
    obtain ⟨uv0, es0, _⟩ := hw.s_
    have gk : DGet H st (kV (Sum.inr "keeper")) (some (.ref S.k)) := st_k (k := S.k) (hd := S.hd) (wl := S.wl) (uv := uv0) ▸ DGet.k (k := Sum.inr ("keeper" : Str)) es0
    have gh : DGet H st (kV (Sum.inr "holders")) (some (.ref S.hd)) := st_h (k := S.k) (hd := S.hd) (wl := S.wl) (uv := uv0) ▸ DGet.k (k := Sum.inr ("holders" : Str)) es0
    have gw : DGet H st (kV (Sum.inr "words")) (some (.ref S.wl)) := st_w (k := S.k) (hd := S.hd) (wl := S.wl) (uv := uv0) ▸ DGet.k (k := Sum.inr ("words" : Str)) es0
    refine ⟨_, rfl, st, _, rfl, gk, _, rfl, st, _, rfl, gh, _, rfl, st, _, rfl, gw, _, _, _, rfl, ?_⟩
    clear gk gh gw es0
    have ena := hw.same _ _ ha
    have nab : na ≠ b := ne_of_none ha zb
    refine ⟨_, rfl, _, rfl, _, rfl, na, _, rfl, .inl (SqL.of ena), b, _, n, rfl, hb, by omega, by rw [List.length_map]; omega, dec9000 (by rw [List.length_map]; omega) (by rw [List.length_map]; omega), fun d1 H1 p0 p1 off1 b1 => ?_⟩
    have hw1 := hw.off hb zb (KB.off off1)
    obtain ⟨vz, hvz, evz⟩ := atI_ex p0 p1
    obtain ⟨z, hz, rfl⟩ := List.mem_map.mp hvz
    refine ⟨na, _, _, _, rfl, rfl, SqL.of (hw1.same _ _ ha), evz, ?_⟩
    refine ⟨(by show 9 ≤ sizeLine; decide), fun L1 n1 => ?_⟩
    have s2 : Same H1 (upd H1 L1 (.lst [.str "lock", .str "lock", .str "use", .str "give", .str "unlock", .str "over", .str "come", .str "come", .str "come"])) := same_new n1
    have e2 : upd H1 L1 (.lst [.str "lock", .str "lock", .str "use", .str "give", .str "unlock", .str "over", .str "come", .str "come", .str "come"]) L1 = some (.lst [.str "lock", .str "lock", .str "use", .str "give", .str "unlock", .str "over", .str "come", .str "come", .str "come"]) := upd_same
    have nb1 := b1.fresh n1
    have b2 := b1.alloc (o := .lst [.str "lock", .str "lock", .str "use", .str "give", .str "unlock", .str "over", .str "come", .str "come", .str "come"]) n1
    generalize upd H1 L1 (.lst [.str "lock", .str "lock", .str "use", .str "give", .str "unlock", .str "over", .str "come", .str "come", .str "come"]) = H2 at s2 e2 b2 ⊢
    have hw2 := hw1.go s2
    refine ⟨_, rfl, b, 9, _, rfl, b2, by omega, by decide, by decide, fun d2 H3 q0 q1 off3 b3 => ?_⟩
    have hw3 := hw2.off b2 zb (KB.off off3)
    obtain ⟨vw, hvw, evw⟩ := atI_ex (xs := [V.str "lock", .str "lock", .str "use", .str "give", .str "unlock", .str "over", .str "come", .str "come", .str "come"]) q0 q1
    obtain ⟨wy, rfl⟩ : ∃ wy : Wy, vw = .str wy.name := by
      simp only [List.mem_cons, List.not_mem_nil, or_false] at hvw
      rcases hvw with rfl | rfl | rfl | rfl | rfl | rfl | rfl | rfl | rfl
      · exact ⟨.tw .lock, rfl⟩
      · exact ⟨.tw .lock, rfl⟩
      · exact ⟨.tw .use, rfl⟩
      · exact ⟨.tw .give, rfl⟩
      · exact ⟨.tw .unlock, rfl⟩
      · exact ⟨.over, rfl⟩
      · exact ⟨.come, rfl⟩
      · exact ⟨.come, rfl⟩
      · exact ⟨.come, rfl⟩
    refine ⟨L1, _, _, _, rfl, rfl, SqL.of ((off3 L1 nb1).trans e2), evw, ?_⟩
    clear hw1 hw2 off1 off3 b1 b2 e2 s2 n1 nb1 evw hvw evz hvz hb hw ena p0 p1 q0 q1
    have lws : (S.ws.map fun e => V.ref e.a).length = S.ws.length := List.length_map ..
    refine ⟨_, rfl, _, rfl, S.wl, _, rfl, .inl (SqL.of hw3.w_), _, _, rfl, rfl, b, _, _, rfl, b3, by omega, by rw [lws]; omega, dec9000 (by rw [lws]; omega) (by rw [lws]; omega), fun d3 H4 r0 r1 off4 b4 => ?_⟩
    have hw4 := hw3.off b3 zb (KB.off off4)
    rw [lws] at r1
    refine ⟨_, rfl, b, 2, _, rfl, b4, by omega, by decide, by decide, fun d4 H5 _ _ off5 b5 => ?_⟩
    have hw5 := hw4.off b4 zb (KB.off off5)
    clear hw3 hw4 b3 b4 off4 off5
    have hb5 : Bx b (n + 4) H5 := b5.mono (by omega)
    clear b5
    -- whatever comes behind: the box
    have bx : ∀ {H' : Hp}, (∀ y o, (∀ C' dx fs, o ≠ .ins C' dx fs) → (∀ kvs, o ≠ .dK kvs) → y ≠ S.wl → H5 y = some o → H' y = some o) → Bx b (n + 4) H' := fun k => by
      have nb := (hw5.bne hb5).2.2.2.1
      obtain ⟨x, y, z, q, r⟩ := hb5
      exact ⟨x, y, z, k _ _ (by simp) (by simp) nb.symm q, r⟩
    have same : ∀ H', Same H5 H' → Q (.bl true) H' := fun H' s => k H' S (hw5.go s) (iv.mono (by omega)) (bx fun y o _ _ _ h => s _ _ h) rfl (by omega)
    obtain ⟨dx, ek⟩ := hw5.k_
    obtain ⟨uv, es, eu⟩ := hw5.s_
    have gu : DGet H5 st (kV (Sum.inr "used")) (some uv) := st_u (k := S.k) (hd := S.hd) (wl := S.wl) (uv := uv) ▸ DGet.k (k := Sum.inr ("used" : Str)) es
    have two : 4 ≤ sizeLine := by decide
    have no : ∀ {m : Str}, (m == "_times") = false → (m == "_to") = false → (m == "_opened") = false → (kf S.t (toV S.o) S.p).lookup m = none := fun a b c => kf_no _ _ _ a b c
    cases wy with
    | come =>
      refine ⟨_, rfl, rfl, _, rfl, iteS (by decide +kernel) ?_⟩
      refine ⟨_, rfl, _, rfl, S.wl, _, rfl, .inl (SqL.of hw5.w_), _, _, rfl, rfl, _, rfl, ite2 (fun c => ?_) (fun c => ?_)⟩
      · have c := of_decide_eq_true c
        rw [lws] at c
        obtain ⟨j, rfl⟩ := Int.eq_ofNat_of_zero_le r0
        obtain ⟨w, hj⟩ : ∃ w, S.ws[j]? = some w := ⟨_, List.getElem?_eq_getElem (by omega : j < S.ws.length)⟩
        refine ⟨_, rfl, _, rfl, st, j, H0, S, w, B, rfl, hw5, iv, hj, fun _ H6 s6 => same H6 s6, fun _ H6 S6 fr hw6 iv6 nm6 w6 => ?_⟩
        exact k H6 S6 hw6 (iv6.mono (by omega)) (bx fun y o n _ _ h => fr y o n h) nm6 (by rw [w6]; omega)
      · refine ⟨_, rfl, st, _, rfl, gu, ?_⟩
        refine ⟨_, rfl, rfl, _, rfl, iteN (by decide +kernel) (iteF ?_)⟩
        refine ⟨_, rfl, two, fun tu ntu => ⟨tu, _, rfl, .inr (SqT.of upd_same), rfl, rfl, _, rfl, iteN (by decide +kernel) ?_⟩⟩
        refine ⟨_, rfl, rfl, _, rfl, iteN (by decide +kernel) (iteF ?_)⟩
        refine ⟨_, rfl, rfl, _, rfl, iteN (by decide +kernel) (iteF ?_)⟩
        refine ⟨_, rfl, rfl, _, rfl, iteN (by decide +kernel) (iteF ?_)⟩
        exact same _ (same_new ntu)
    | over =>
      refine ⟨_, rfl, rfl, _, rfl, iteN (by decide +kernel) (iteF ?_)⟩
      refine ⟨_, rfl, st, _, rfl, gu, ?_⟩
      refine ⟨_, rfl, rfl, _, rfl, iteS (by decide +kernel) ?_⟩
      refine ⟨_, rfl, rfl, _, rfl, ite2 (fun c => ?_) (fun c => ?_)⟩
      · obtain ⟨⟨m, q⟩, hq⟩ : ∃ p, S.us = some p := by
          cases hus : S.us with
          | none => rw [hus] at eu; rw [show uv = .non from eu] at c; cases c
          | some p => exact ⟨p, rfl⟩
        rw [hq] at eu
        obtain ⟨u, rfl, eu⟩ := eu
        obtain ⟨u1, u2, u3, u4, e, he, en⟩ := iv.ut m q hq
        have i0 : atI [V.int m, .str q] 0 = some (.int m) := rfl
        have i1 : atI [V.int m, .str q] 1 = some (.str q) := rfl
        refine ⟨_, rfl, rfl, _, rfl, ite2 (fun c2 => ?_) (fun c2 => ?_)⟩
        · -- the staff is carried back
          refine ⟨_, rfl, S.k, dx, _, rfl, ek, no (by decide +kernel) (by decide +kernel) (by decide +kernel), _, rfl, u, _, _, _, rfl, rfl, SqT.of eu, i0, S.k, dx, S.t, toV S.o, S.p, .int m, rfl, ek, .int _, fun ho hw' => ?_, fun ho => ?_, fun ho hw' => ?_⟩
          · have w6 := hw5.keeper (t' := S.t) (o' := none) (p' := false) (H' := upd H5 S.k (.ins C dx (kf S.t .non false))) (fun y o ny h => by rw [upd_ne ny]; exact h) ⟨dx, upd_same⟩
            have x6 : ∀ y o, (∀ C' dx fs, o ≠ .ins C' dx fs) → H5 y = some o → upd H5 S.k (.ins C dx (kf S.t .non false)) y = some o := fun y o n h => by rw [upd_ne (ne_of h ek (n _ _ _))]; exact h
            generalize upd H5 S.k (.ins C dx (kf S.t .non false)) = H6 at w6 x6 ⊢
            have es6 := x6 _ _ (by simp) es
            refine ⟨_, rfl, st, _, rfl, DPut.k (k := Sum.inr ("used" : Str)) es6 (by show 4 < sizeLine; decide), ?_⟩
            rw [st_put]
            have w7 := w6.used (us' := none) (H' := upd H6 st (.dK (stK S.k S.hd S.wl .non))) (fun y o ny h => by rw [upd_ne ny]; exact h) ⟨.non, upd_same, rfl⟩
            have x7 : ∀ y o, (∀ C' dx fs, o ≠ .ins C' dx fs) → (∀ kvs, o ≠ .dK kvs) → H5 y = some o → upd H6 st (.dK (stK S.k S.hd S.wl .non)) y = some o := fun y o n n2 h => by rw [upd_ne (ne_of h es (n2 _))]; exact x6 y o n h
            generalize upd H6 st (.dK (stK S.k S.hd S.wl .non)) = H7 at w7 x7 ⊢
            refine ⟨_, rfl, two, fun tu ntu => ⟨tu, _, rfl, .inr (SqT.of upd_same), rfl, rfl, _, rfl, iteN (by decide +kernel) ?_⟩⟩
            refine ⟨_, rfl, rfl, _, rfl, iteN (by decide +kernel) (iteF ?_)⟩
            refine ⟨_, rfl, rfl, _, rfl, iteN (by decide +kernel) (iteF ?_)⟩
            refine ⟨_, rfl, rfl, _, rfl, iteN (by decide +kernel) (iteF ?_)⟩
            exact k _ _ (w7.go (same_new ntu)) ((iv.free fun f hf fo => u4 f hf (by rw [u2] at fo; exact (Option.some.inj fo).symm)).mono (by omega)) (bx fun y o n n2 _ h => same_new ntu _ _ (x7 y o n n2 h)) rfl (by show S.ws.length ≤ _; omega)
          · rw [u2] at ho
            cases ho
          · have hw' : (decide (S.t ≤ m) && decide (m ≤ S.t)) = false := hw'
            rw [decide_eq_true (by omega : S.t ≤ m), decide_eq_true (by omega : m ≤ S.t)] at hw'
            cases hw'
        · -- it is noted, and said
          obtain ⟨ix, hi⟩ := List.mem_iff_getElem?.mp he
          obtain ⟨dy, rv, nv, ee, er⟩ := hw5.h_ e he
          have gd : DGet H5 S.hd (kV (Sum.inr q)) (some (.ref e.a)) := by
            rw [← en]
            exact hl_val iv.nn he ▸ DGet.k (k := Sum.inr e.nm) hw5.d_
          refine ⟨_, rfl, _, rfl, u, _, _, _, rfl, rfl, SqT.of eu, i1, S.hd, _, rfl, gd, e.a, dy, _, rfl, ee, hf_no _ _ _ (by decide +kernel) (by decide +kernel) (by decide +kernel), _, rfl, u, _, _, _, rfl, rfl, SqT.of eu, i0, e.a, dy, rv, nv, e.s, m, .str "home", rfl, ee, fun u5 nu5 => ?_⟩
          have nue : e.a ≠ u5 := ne_of_none ee nu5
          have x6 : ∀ y o, y ≠ e.a → H5 y = some o → upd (upd H5 u5 (.tup [.int m, .str "home"])) e.a (.ins D dy (hf rv (.ref u5) e.s)) y = some o := fun y o ny h => by rw [upd_ne ny, upd_ne (ne_of_none h nu5)]; exact h
          have w6 := hw5.holder (r' := e.r) (s' := e.s) hi x6 ⟨dy, rv, .ref u5, upd_same, er.up fun x ys h => x6 _ _ (ne_of h ee (by simp)) h⟩
          rw [show S.put ix ⟨e.nm, e.a, e.r, e.s⟩ = S by
            unfold Sy.put
            rw [show S.hs.set ix ⟨e.nm, e.a, e.r, e.s⟩ = S.hs by
              obtain ⟨l, q⟩ := List.getElem?_eq_some_iff.mp hi
              rw [← q]
              exact List.set_getElem_self l]] at w6
          have y6 : ∀ y o, (∀ C' dx fs, o ≠ .ins C' dx fs) → H5 y = some o → upd (upd H5 u5 (.tup [.int m, .str "home"])) e.a (.ins D dy (hf rv (.ref u5) e.s)) y = some o := fun y o n h => x6 y o (ne_of h ee (n _ _ _)) h
          generalize upd (upd H5 u5 (.tup [.int m, .str "home"])) e.a (.ins D dy (hf rv (.ref u5) e.s)) = H6 at w6 y6 ⊢
          clear x6
          have eu6 := y6 _ _ (by simp) eu
          refine ⟨_, rfl, .inl ⟨rfl, _, SqL.of w6.w_⟩, _, rfl, u, _, _, _, rfl, rfl, SqT.of eu6, i0, _, rfl, u, _, _, _, rfl, rfl, SqT.of eu6, i1, (by show 3 ≤ sizeLine; decide), fun t nt => ?_⟩
          have s7 : Same H6 (upd H6 t (.tup [.str "open", .int m, .str q])) := same_new nt
          have et : upd H6 t (.tup [.str "open", .int m, .str q]) t = some (.tup [.str "open", .int m, .str q]) := upd_same
          generalize upd H6 t (.tup [.str "open", .int m, .str q]) = H7 at s7 et ⊢
          have w7 := w6.go s7
          refine ⟨S.wl, _, _, rfl, rfl, w7.w_, (by rw [lws]; exact Nat.lt_of_le_of_lt (by omega : _ ≤ 1000) (by decide)), ?_⟩
          have w8 := w7.say (w := ⟨t, true, m, q⟩) (H' := upd H7 S.wl (.lst ((S.ws.map fun e => V.ref e.a) ++ [.ref t]))) (fun y o ny h => by rw [upd_ne ny]; exact h) (by rw [upd_same, List.map_append]; rfl) (by rw [upd_ne (ne_of et w7.w_ (by simp))]; exact et)
          have y8 : ∀ y o, (∀ C' dx fs, o ≠ .ins C' dx fs) → y ≠ S.wl → H5 y = some o → upd H7 S.wl (.lst ((S.ws.map fun e => V.ref e.a) ++ [.ref t])) y = some o := fun y o n ny h => by rw [upd_ne ny]; exact s7 _ _ (y6 y o n h)
          have es8 := y8 _ _ (by simp) (ne_of es hw5.w_ (by simp)) es
          generalize upd H7 S.wl (.lst ((S.ws.map fun e => V.ref e.a) ++ [.ref t])) = H8 at w8 y8 es8 ⊢
          refine ⟨_, rfl, st, _, rfl, DPut.k (k := Sum.inr ("used" : Str)) es8 (by show 4 < sizeLine; decide), ?_⟩
          rw [st_put]
          have w9 := w8.used (us' := none) (H' := upd H8 st (.dK (stK S.k S.hd S.wl .non))) (fun y o ny h => by rw [upd_ne ny]; exact h) ⟨.non, upd_same, rfl⟩
          have x9 : ∀ y o, (∀ C' dx fs, o ≠ .ins C' dx fs) → (∀ kvs, o ≠ .dK kvs) → y ≠ S.wl → H5 y = some o → upd H8 st (.dK (stK S.k S.hd S.wl .non)) y = some o := fun y o n n2 n3 h => by rw [upd_ne (ne_of h es (n2 _))]; exact y8 y o n n3 h
          generalize upd H8 st (.dK (stK S.k S.hd S.wl .non)) = H9 at w9 x9 ⊢
          refine ⟨_, rfl, two, fun tu ntu => ⟨tu, _, rfl, .inr (SqT.of upd_same), rfl, rfl, _, rfl, iteN (by decide +kernel) ?_⟩⟩
          refine ⟨_, rfl, rfl, _, rfl, iteN (by decide +kernel) (iteF ?_)⟩
          refine ⟨_, rfl, rfl, _, rfl, iteN (by decide +kernel) (iteF ?_)⟩
          refine ⟨_, rfl, rfl, _, rfl, iteN (by decide +kernel) (iteF ?_)⟩
          exact k _ _ (w9.go (same_new ntu)) ((iv.over hq).mono (by omega)) (bx fun y o n n2 n3 h => same_new ntu _ _ (x9 y o n n2 n3 h)) rfl (by show (S.ws ++ [_]).length ≤ _; rw [List.length_append]; show S.ws.length + 1 ≤ _; omega)
      · have hq : uv = .non := by simpa using c
        refine ⟨_, rfl, two, fun tu ntu => ⟨tu, _, rfl, .inr (SqT.of upd_same), rfl, rfl, _, rfl, iteN (by decide +kernel) ?_⟩⟩
        refine ⟨_, rfl, rfl, _, rfl, iteN (by decide +kernel) (iteF ?_)⟩
        refine ⟨_, rfl, rfl, _, rfl, iteN (by decide +kernel) (iteF ?_)⟩
        refine ⟨_, rfl, rfl, _, rfl, iteN (by decide +kernel) (iteF ?_)⟩
        exact same _ (same_new ntu)
    | tw t =>
      obtain ⟨e, he, rfl⟩ := List.mem_map.mp (hns z hz)
      obtain ⟨ix, hi⟩ := List.mem_iff_getElem?.mp he
      obtain ⟨dy, rv, nv, ee, er⟩ := hw5.h_ e he
      cases t with
      | lock =>
        refine ⟨_, rfl, rfl, _, rfl, iteN (by decide +kernel) (iteF ?_)⟩
        refine ⟨_, rfl, st, _, rfl, gu, ?_⟩
        refine ⟨_, rfl, rfl, _, rfl, iteN (by decide +kernel) (iteF ?_)⟩
        refine ⟨_, rfl, two, fun tu ntu => ⟨tu, _, rfl, .inr (SqT.of upd_same), rfl, rfl, _, rfl, iteS (by decide +kernel) ?_⟩⟩
        have s6 : Same H5 (upd H5 tu (.tup [.str "lock", .str "use", .str "give", .str "unlock"])) := same_new ntu
        generalize upd H5 tu (.tup [.str "lock", .str "use", .str "give", .str "unlock"]) = H6 at s6 ⊢
        have w6 := hw5.go s6
        have ek6 := s6 _ _ ek
        have ee6 := s6 _ _ ee
        have es6 := s6 _ _ es
        have gd6 : DGet H6 S.hd (kV (Sum.inr e.nm)) (some (.ref e.a)) := hl_val iv.nn he ▸ DGet.k (k := Sum.inr e.nm) w6.d_
        refine ⟨_, rfl, _, rfl, _, rfl, S.hd, _, rfl, gd6, _, rfl, _, rfl, S.k, e.a, .lock, e.nm, dx, S.t, S.o, S.p, dy, rv, nv, e.s, rfl, ek6, ee6, ?_, ?_⟩
        · intro ho
          have w7 := w6.keeper (t' := S.t + 1) (o' := some e.nm) (p' := S.p) (H' := upd H6 S.k (.ins C dx (kf (S.t + 1) (toV (some e.nm)) S.p))) (fun y o ny h => by rw [upd_ne ny]; exact h) ⟨dx, upd_same⟩
          have x7 : ∀ y o, (∀ C' dx fs, o ≠ .ins C' dx fs) → H5 y = some o → upd H6 S.k (.ins C dx (kf (S.t + 1) (toV (some e.nm)) S.p)) y = some o := fun y o n h => by rw [upd_ne (ne_of (s6 _ _ h) ek6 (n _ _ _))]; exact s6 _ _ h
          generalize upd H6 S.k (.ins C dx (kf (S.t + 1) (toV (some e.nm)) S.p)) = H7 at w7 x7 ⊢
          refine ⟨_, rfl, rfl, _, rfl, iteS (by decide +kernel) ⟨_, rfl, rfl, _, rfl, iteT ?_⟩⟩
          refine ⟨_, rfl, .inl ⟨rfl, _, SqL.of w7.w_⟩, _, rfl, _, rfl, (by show 3 ≤ sizeLine; decide), fun t nt => ?_⟩
          have s8 : Same H7 (upd H7 t (.tup [.str "lock", .int (S.t + 1), .str e.nm])) := same_new nt
          have et : upd H7 t (.tup [.str "lock", .int (S.t + 1), .str e.nm]) t = some (.tup [.str "lock", .int (S.t + 1), .str e.nm]) := upd_same
          generalize upd H7 t (.tup [.str "lock", .int (S.t + 1), .str e.nm]) = H8 at s8 et ⊢
          have w8 := w7.go s8
          refine ⟨S.wl, _, _, rfl, rfl, w8.w_, (by show (S.ws.map _).length < sizeLine; rw [List.length_map]; exact Nat.lt_of_le_of_lt (by omega : _ ≤ 1000) (by decide)), ?_⟩
          have ntw : t ≠ S.wl := ne_of et w8.w_ (by simp)
          have w9 := w8.say (w := ⟨t, false, S.t + 1, e.nm⟩) (H' := upd H8 S.wl (.lst ((S.ws.map fun e => V.ref e.a) ++ [.ref t]))) (fun y o ny h => by have ny : y ≠ S.wl := ny; rw [upd_ne ny]; exact h) (by show upd _ S.wl _ S.wl = some (.lst ((S.ws ++ [_]).map _)); rw [upd_same, List.map_append]; rfl) (by show upd _ S.wl _ t = _; rw [upd_ne ntw]; exact et)
          have x9 : ∀ y o, (∀ C' dx fs, o ≠ .ins C' dx fs) → (∀ kvs, o ≠ .dK kvs) → y ≠ S.wl → H5 y = some o → upd H8 S.wl (.lst ((S.ws.map fun e => V.ref e.a) ++ [.ref t])) y = some o := fun y o n _ ny h => by rw [upd_ne ny]; exact s8 _ _ (x7 y o n h)
          exact k _ _ w9 ((iv.lock ho he).2) (bx x9) rfl (by show (S.ws ++ [_]).length ≤ _; rw [List.length_append]; show S.ws.length + 1 ≤ _; omega)
        · intro ho H7 s7
          refine ⟨_, rfl, rfl, _, rfl, iteS (by decide +kernel) ⟨_, rfl, rfl, _, rfl, iteF ?_⟩⟩
          refine ⟨_, rfl, rfl, _, rfl, iteN (by decide +kernel) (iteF ?_)⟩
          refine ⟨_, rfl, rfl, _, rfl, iteN (by decide +kernel) (iteF ?_)⟩
          exact same _ (s6.trans s7)
      | use =>
        refine ⟨_, rfl, rfl, _, rfl, iteN (by decide +kernel) (iteF ?_)⟩
        refine ⟨_, rfl, st, _, rfl, gu, ?_⟩
        refine ⟨_, rfl, rfl, _, rfl, iteN (by decide +kernel) (iteF ?_)⟩
        refine ⟨_, rfl, two, fun tu ntu => ⟨tu, _, rfl, .inr (SqT.of upd_same), rfl, rfl, _, rfl, iteS (by decide +kernel) ?_⟩⟩
        have s6 : Same H5 (upd H5 tu (.tup [.str "lock", .str "use", .str "give", .str "unlock"])) := same_new ntu
        generalize upd H5 tu (.tup [.str "lock", .str "use", .str "give", .str "unlock"]) = H6 at s6 ⊢
        have w6 := hw5.go s6
        have ek6 := s6 _ _ ek
        have ee6 := s6 _ _ ee
        have es6 := s6 _ _ es
        have gd6 : DGet H6 S.hd (kV (Sum.inr e.nm)) (some (.ref e.a)) := hl_val iv.nn he ▸ DGet.k (k := Sum.inr e.nm) w6.d_
        refine ⟨_, rfl, _, rfl, _, rfl, S.hd, _, rfl, gd6, _, rfl, _, rfl, S.k, e.a, .use, e.nm, dx, S.t, S.o, S.p, dy, rv, nv, e.s, rfl, ek6, ee6, ?_, ?_⟩
        · intro ho
          obtain ⟨m, hm⟩ : ∃ m, e.r = some m := by
            cases q : e.r with
            | none => rw [q] at er; exact absurd (show rv = .non from er) ho
            | some m => exact ⟨m, rfl⟩
          have er' := er
          rw [hm] at er'
          obtain ⟨u, rfl, eu'⟩ := er'
          have eu6 := s6 _ _ eu'
          have i0 : atI [V.int m, .str "home"] 0 = some (.int m) := rfl
          have y7 : ∀ y o, y ≠ e.a → H6 y = some o → upd H6 e.a (.ins D dy (hf .non nv e.s)) y = some o := fun y o ny h => by rw [upd_ne ny]; exact h
          have w7 := w6.holder (r' := none) (s' := e.s) (H' := upd H6 e.a (.ins D dy (hf .non nv e.s))) hi y7 ⟨dy, .non, nv, upd_same, rfl⟩
          have x7 : ∀ y o, (∀ C' dx fs, o ≠ .ins C' dx fs) → H5 y = some o → upd H6 e.a (.ins D dy (hf .non nv e.s)) y = some o := fun y o n h => y7 y o (ne_of (s6 _ _ h) ee6 (n _ _ _)) (s6 _ _ h)
          have eu7 := y7 _ _ (ne_of eu6 ee6 (by simp)) eu6
          clear y7
          generalize upd H6 e.a (.ins D dy (hf .non nv e.s)) = H7 at w7 x7 eu7 ⊢
          refine ⟨_, rfl, rfl, _, rfl, iteN (by decide +kernel) (iteF ?_)⟩
          refine ⟨_, rfl, rfl, _, rfl, iteS (by decide +kernel) ⟨_, rfl, rfl, _, rfl, iteT ?_⟩⟩
          refine ⟨_, rfl, u, _, _, _, rfl, rfl, SqT.of eu7, i0, _, rfl, (by show 2 ≤ sizeLine; decide), fun t nt => ?_⟩
          have s8 : Same H7 (upd H7 t (.tup [.int m, .str e.nm])) := same_new nt
          have et : upd H7 t (.tup [.int m, .str e.nm]) t = some (.tup [.int m, .str e.nm]) := upd_same
          generalize upd H7 t (.tup [.int m, .str e.nm]) = H8 at s8 et ⊢
          have w8 := w7.go s8
          have es8 := s8 _ _ (x7 _ _ (by simp) es)
          refine ⟨_, rfl, st, _, rfl, DPut.k (k := Sum.inr ("used" : Str)) es8 (by show 4 < sizeLine; decide), ?_⟩
          rw [st_put]
          have w9 := w8.used (us' := some (m, e.nm)) (H' := upd H8 st (.dK (stK S.k S.hd S.wl (.ref t)))) (fun y o ny h => by rw [upd_ne ny]; exact h) ⟨.ref t, upd_same, t, rfl, by rw [upd_ne (ne_of et es8 (by simp))]; exact et⟩
          have x9 : ∀ y o, (∀ C' dx fs, o ≠ .ins C' dx fs) → (∀ kvs, o ≠ .dK kvs) → y ≠ S.wl → H5 y = some o → upd H8 st (.dK (stK S.k S.hd S.wl (.ref t))) y = some o := fun y o n n2 _ h => by rw [upd_ne (ne_of h es (n2 _))]; exact s8 _ _ (x7 y o n h)
          exact k _ _ w9 ((iv.use hi hm).mono (by omega)) (bx x9) (by show (S.hs.set ix _).map (·.nm) = _; rw [put_map (e' := ⟨e.nm, e.a, none, e.s⟩) hi rfl]) (by show S.ws.length ≤ _; omega)
        · intro ho H7 s7
          refine ⟨_, rfl, rfl, _, rfl, iteN (by decide +kernel) (iteF ?_)⟩
          refine ⟨_, rfl, rfl, _, rfl, iteS (by decide +kernel) ⟨_, rfl, rfl, _, rfl, iteF ?_⟩⟩
          refine ⟨_, rfl, rfl, _, rfl, iteN (by decide +kernel) (iteF ?_)⟩
          exact same _ (s6.trans s7)
      | give =>
        refine ⟨_, rfl, rfl, _, rfl, iteN (by decide +kernel) (iteF ?_)⟩
        refine ⟨_, rfl, st, _, rfl, gu, ?_⟩
        refine ⟨_, rfl, rfl, _, rfl, iteN (by decide +kernel) (iteF ?_)⟩
        refine ⟨_, rfl, two, fun tu ntu => ⟨tu, _, rfl, .inr (SqT.of upd_same), rfl, rfl, _, rfl, iteS (by decide +kernel) ?_⟩⟩
        have s6 : Same H5 (upd H5 tu (.tup [.str "lock", .str "use", .str "give", .str "unlock"])) := same_new ntu
        generalize upd H5 tu (.tup [.str "lock", .str "use", .str "give", .str "unlock"]) = H6 at s6 ⊢
        have w6 := hw5.go s6
        have ek6 := s6 _ _ ek
        have ee6 := s6 _ _ ee
        have es6 := s6 _ _ es
        have gd6 : DGet H6 S.hd (kV (Sum.inr e.nm)) (some (.ref e.a)) := hl_val iv.nn he ▸ DGet.k (k := Sum.inr e.nm) w6.d_
        refine ⟨_, rfl, _, rfl, _, rfl, S.hd, _, rfl, gd6, _, rfl, _, rfl, S.k, e.a, .give, e.nm, dx, S.t, S.o, S.p, dy, rv, nv, e.s, rfl, ek6, ee6, ?_, ?_⟩
        · intro ho
          obtain ⟨m, hm⟩ : ∃ m, e.r = some m := by
            cases q : e.r with
            | none => rw [q] at er; exact absurd (show rv = .non from er) ho
            | some m => exact ⟨m, rfl⟩
          have er' := er
          rw [hm] at er'
          obtain ⟨u, rfl, eu'⟩ := er'
          have eu6 := s6 _ _ eu'
          have i0 : atI [V.int m, .str "home"] 0 = some (.int m) := rfl
          have y7 : ∀ y o, y ≠ e.a → H6 y = some o → upd H6 e.a (.ins D dy (hf .non (.ref u) e.s)) y = some o := fun y o ny h => by rw [upd_ne ny]; exact h
          have w7 := w6.holder (r' := none) (s' := e.s) (H' := upd H6 e.a (.ins D dy (hf .non (.ref u) e.s))) hi y7 ⟨dy, .non, (.ref u), upd_same, rfl⟩
          have x7 : ∀ y o, (∀ C' dx fs, o ≠ .ins C' dx fs) → H5 y = some o → upd H6 e.a (.ins D dy (hf .non (.ref u) e.s)) y = some o := fun y o n h => y7 y o (ne_of (s6 _ _ h) ee6 (n _ _ _)) (s6 _ _ h)
          have eu7 := y7 _ _ (ne_of eu6 ee6 (by simp)) eu6
          clear y7
          generalize upd H6 e.a (.ins D dy (hf .non (.ref u) e.s)) = H7 at w7 x7 eu7 ⊢
          refine ⟨_, rfl, rfl, _, rfl, iteN (by decide +kernel) (iteF ?_)⟩
          refine ⟨_, rfl, rfl, _, rfl, iteN (by decide +kernel) (iteF ?_)⟩
          refine ⟨_, rfl, rfl, _, rfl, iteS (by decide +kernel) ⟨_, rfl, rfl, _, rfl, iteT ?_⟩⟩
          refine ⟨_, rfl, .inl ⟨rfl, _, SqL.of w7.w_⟩, _, rfl, u, _, _, _, rfl, rfl, SqT.of eu7, i0, _, rfl, (by show 3 ≤ sizeLine; decide), fun t nt => ?_⟩
          have s8 : Same H7 (upd H7 t (.tup [.str "open", .int m, .str e.nm])) := same_new nt
          have et : upd H7 t (.tup [.str "open", .int m, .str e.nm]) t = some (.tup [.str "open", .int m, .str e.nm]) := upd_same
          generalize upd H7 t (.tup [.str "open", .int m, .str e.nm]) = H8 at s8 et ⊢
          have w8 := w7.go s8
          refine ⟨S.wl, _, _, rfl, rfl, w8.w_, (by show (S.ws.map _).length < sizeLine; rw [List.length_map]; exact Nat.lt_of_le_of_lt (by omega : _ ≤ 1000) (by decide)), ?_⟩
          have ntw : t ≠ S.wl := ne_of et w8.w_ (by simp)
          have w9 := w8.say (w := ⟨t, true, m, e.nm⟩) (H' := upd H8 S.wl (.lst ((S.ws.map fun e => V.ref e.a) ++ [.ref t]))) (fun y o ny h => by have ny : y ≠ S.wl := ny; rw [upd_ne ny]; exact h) (by show upd _ S.wl _ S.wl = some (.lst ((S.ws ++ [_]).map _)); rw [upd_same, List.map_append]; rfl) (by show upd _ S.wl _ t = _; rw [upd_ne ntw]; exact et)
          have x9 : ∀ y o, (∀ C' dx fs, o ≠ .ins C' dx fs) → (∀ kvs, o ≠ .dK kvs) → y ≠ S.wl → H5 y = some o → upd H8 S.wl (.lst ((S.ws.map fun e => V.ref e.a) ++ [.ref t])) y = some o := fun y o n _ ny h => by rw [upd_ne ny]; exact s8 _ _ (x7 y o n h)
          exact k _ _ w9 ((iv.give hi hm).mono (by omega)) (bx x9) (by show (S.hs.set ix _).map (·.nm) = _; rw [put_map (e' := ⟨e.nm, e.a, none, e.s⟩) hi rfl]) (by show (S.ws ++ [_]).length ≤ _; rw [List.length_append]; show S.ws.length + 1 ≤ _; omega)
        · intro ho H7 s7
          refine ⟨_, rfl, rfl, _, rfl, iteN (by decide +kernel) (iteF ?_)⟩
          refine ⟨_, rfl, rfl, _, rfl, iteN (by decide +kernel) (iteF ?_)⟩
          refine ⟨_, rfl, rfl, _, rfl, iteS (by decide +kernel) ⟨_, rfl, rfl, _, rfl, iteF ?_⟩⟩
          exact same _ (s6.trans s7)
      | unlock =>
        refine ⟨_, rfl, rfl, _, rfl, iteN (by decide +kernel) (iteF ?_)⟩
        refine ⟨_, rfl, st, _, rfl, gu, ?_⟩
        refine ⟨_, rfl, rfl, _, rfl, iteN (by decide +kernel) (iteF ?_)⟩
        refine ⟨_, rfl, two, fun tu ntu => ⟨tu, _, rfl, .inr (SqT.of upd_same), rfl, rfl, _, rfl, iteS (by decide +kernel) ?_⟩⟩
        have s6 : Same H5 (upd H5 tu (.tup [.str "lock", .str "use", .str "give", .str "unlock"])) := same_new ntu
        generalize upd H5 tu (.tup [.str "lock", .str "use", .str "give", .str "unlock"]) = H6 at s6 ⊢
        have w6 := hw5.go s6
        have ek6 := s6 _ _ ek
        have ee6 := s6 _ _ ee
        have es6 := s6 _ _ es
        have gd6 : DGet H6 S.hd (kV (Sum.inr e.nm)) (some (.ref e.a)) := hl_val iv.nn he ▸ DGet.k (k := Sum.inr e.nm) w6.d_
        refine ⟨_, rfl, _, rfl, _, rfl, S.hd, _, rfl, gd6, _, rfl, _, rfl, S.k, e.a, .unlock, e.nm, dx, S.t, S.o, S.p, dy, rv, nv, e.s, rfl, ek6, ee6, ?_, ?_⟩
        · intro ho hp
          have w7 := w6.keeper (t' := S.t) (o' := none) (p' := false) (H' := upd H6 S.k (.ins C dx (kf S.t (toV none) false))) (fun y o ny h => by rw [upd_ne ny]; exact h) ⟨dx, upd_same⟩
          have x7 : ∀ y o, (∀ C' dx fs, o ≠ .ins C' dx fs) → H5 y = some o → upd H6 S.k (.ins C dx (kf S.t (toV none) false)) y = some o := fun y o n h => by rw [upd_ne (ne_of (s6 _ _ h) ek6 (n _ _ _))]; exact s6 _ _ h
          generalize upd H6 S.k (.ins C dx (kf S.t (toV none) false)) = H7 at w7 x7 ⊢
          refine ⟨_, rfl, rfl, _, rfl, iteN (by decide +kernel) (iteF ?_)⟩
          refine ⟨_, rfl, rfl, _, rfl, iteN (by decide +kernel) (iteF ?_)⟩
          refine ⟨_, rfl, rfl, _, rfl, iteN (by decide +kernel) (iteF ?_)⟩
          have fr := (iv.free (iv.pp hp).2).mono (B' := B + 1) (by omega)
          have us : ({ S with o := none, p := false, us := none } : Sy) = { S with t := S.t, o := none, p := false } := by rw [← (iv.pp hp).1]
          rw [us] at fr
          exact k _ _ w7 fr (bx fun y o n _ _ h => x7 y o n h) rfl (by show S.ws.length ≤ _; omega)
        · intro ho H7 s7
          refine ⟨_, rfl, rfl, _, rfl, iteN (by decide +kernel) (iteF ?_)⟩
          refine ⟨_, rfl, rfl, _, rfl, iteN (by decide +kernel) (iteF ?_)⟩
          refine ⟨_, rfl, rfl, _, rfl, iteN (by decide +kernel) (iteF ?_)⟩
          exact same _ (s6.trans s7)
end
end K23

set_option maxRecDepth 100000
set_option maxHeartbeats 1000000
namespace K23
open PySem PySem.Spec PyProof.Rows L2 GxR Gd TL My K23H
theorem ixT {X : Cx} {K : PySem.W.Frag} (h : X.K = K) : IxR X (rIxT K) := h ▸ ix_tup
def foL (hs : List Hl) : List (Int × Str) := hs.filterMap fun e => e.r.map fun n => (n, e.nm)
theorem foL_cons (e : Hl) (r : List Hl) : foL (e :: r) = (match e.r with | none => foL r | some n => (n, e.nm) :: foL r) := by
  show List.filterMap _ (e :: r) = _
  rw [List.filterMap_cons]
  cases e.r <;> rfl
theorem foL_one {t : Int} {o : Option Str} : ∀ {hs : List Hl}, (hs.map (·.nm)).Nodup → (∀ e ∈ hs, ∀ n, e.r = some n → n = t ∧ o = some e.nm) → foL hs = [] ∨ ∃ z, o = some z ∧ foL hs = [(t, z)] ∧ ∃ e ∈ hs, e.nm = z
  | [], _, _ => .inl rfl
  | a :: r, nd, h => by
    rw [List.map_cons, List.nodup_cons] at nd
    have ih := foL_one nd.2 fun e he => h e (List.mem_cons_of_mem _ he)
    rw [foL_cons]
    cases q : a.r with
    | none =>
      rcases ih with ih | ⟨z, z1, z2, e, he, z3⟩
      · exact .inl ih
      · exact .inr ⟨z, z1, z2, e, List.mem_cons_of_mem _ he, z3⟩
    | some n =>
      obtain ⟨rfl, ho⟩ := h a List.mem_cons_self n q
      rcases ih with ih | ⟨z, z1, z2, e, he, z3⟩
      · refine .inr ⟨a.nm, ho, ?_, a, List.mem_cons_self, rfl⟩
        show (n, a.nm) :: foL r = _
        rw [ih]
      · rw [ho] at z1
        exact (nd.1 (List.mem_map.mpr ⟨e, he, z3.trans (Option.some.inj z1).symm⟩)).elim
/-- one right, or none -/
theorem Iv.one {B : Int} {S : Sy} (h : Iv B S) : foL S.hs ++ S.us.toList = [] ∨ ∃ z, S.o = some z ∧ foL S.hs ++ S.us.toList = [(S.t, z)] ∧ ∃ e ∈ S.hs, e.nm = z := by
  cases q : S.us with
  | none =>
    rcases foL_one h.nn fun e he n hn => ⟨(h.rt e he n hn).1, (h.rt e he n hn).2.1⟩ with c | ⟨z, c1, c2, c3⟩
    · exact .inl (by rw [c]; rfl)
    · exact .inr ⟨z, c1, by rw [c2]; rfl, c3⟩
  | some p =>
    obtain ⟨u1, u2, _, _, u5⟩ := h.ut p.1 p.2 q
    have e : foL S.hs = [] := by
      refine List.filterMap_eq_nil_iff.mpr fun e he => ?_
      cases c : e.r with
      | none => rfl
      | some n =>
        have := (h.rt e he n c).2.2.2.1
        rw [q] at this
        cases this
    refine .inr ⟨p.2, u2, ?_, u5⟩
    rw [e, ← u1]
    rfl
def LvAt (H : Hp) (v : V) (t : Int) : Option Str → Prop
  | none => v = .non
  | some z => ∃ u, v = .ref u ∧ H u = some (.tup [.int t, .str z])
def prD (p : Int × Str) : PyData := .tuple [.int p.1, .str p.2]
theorem shaped_pr {t : Int} {z : Str} (g : Good z) : SeqAt.shaped (.list ([(t, z)].map prD)) = true := by
  have h : PyData.strOk z = true := by
    unfold PyData.strOk
    rw [Array.all_eq_true_iff_forall_mem]
    intro c hc
    exact decide_eq_true (g c (Array.mem_toList_iff.mpr hc))
  unfold SeqAt.shaped
  rw [Bool.and_eq_true]
  refine ⟨?_, decide_eq_true (by simp [prD, PyData.depth, PyData.depthAll])⟩
  simp [prD, PyData.canLay0, PyData.canLayAll0, h]
theorem prs_dp {K : PySem.W.Frag} {H : Hp} : ∀ {ts : List Addr} {ps : List (Int × Str)}, Paired (fun t (p : Int × Str) => H t = some (.tup [.int p.1, .str p.2])) ts ps → DpAll K H (ts.map V.ref) (ps.map prD)
  | _, _, .nil => .nil
  | _, _, .cons a r => .cons (.tup (SqT.of a) (.cons (.int _) (.cons (.str _) .nil))) (prs_dp r)
theorem paired_mono {α β : Type} {F G : α → β → Prop} (h : ∀ a b, F a b → G a b) : ∀ {xs : List α} {ys : List β}, Paired F xs ys → Paired G xs ys
  | _, _, .nil => .nil
  | _, _, .cons a r => .cons (h _ _ a) (paired_mono h r)
section
variable {P : Program} {w : World} {K : PySem.W.Frag} {mg : Str → Option Value} {base : Heap} {C D : Addr}
def spLockedS (C : Addr) : Sp := fun vs H Q _ => ∃ c dx t o p, vs = [.ref c] ∧ H c = some (.ins C dx (kf t (toV o) p)) ∧ ∀ v H', Same H H' → LvAt H' v t o → Q v H'
theorem ok_lockedS {f : Addr} {fd : FuncData} (F : Fun K "locked" "Keeper.locked" s_locked f fd) (TC : KeeT K C) : FnOk P w K mg base CX0 1 f fd ["self"] (spLockedS C) := by
  refine F.ok sc_locked (fun vs H Q E h => ?_) (fun cdv A outer s H vs Q E hr h => ?_)
  · obtain ⟨c, dx, t, o, p, rfl, _⟩ := h
    rfl
  · obtain ⟨c, dx, t, o, p, rfl, e, k⟩ := h
    refine ⟨_, pss_one (ps_ret (pe_ifExp (pt_cmpR op_isN (pe_fld (pv 0) rfl) pe_non (nomark _)) pe_non (pe_tup (pa_cons (pe_fld (pv 0) rfl) (pa_cons (pe_fld (pv 0) rfl) pa_nil))))), ?_⟩
    refine ⟨_, rfl, c, C, dx, _, _, rfl, e, TC.cl, TC.no, kf_to t _ p, rfl, _, rfl, ite2 (fun q => ?_) (fun q => ?_)⟩
    · exact k .non H (Same.refl H) (by rw [toV_non (of_decide_eq_true q)]; rfl)
    · obtain ⟨z, hz⟩ := toV_some (o := o) fun z => q (decide_eq_true z)
      refine ⟨_, rfl, c, C, dx, _, _, rfl, e, TC.cl, TC.nt, kf_times t _ p, _, rfl, c, C, dx, _, _, rfl, e, TC.cl, TC.no, kf_to t _ p, (by show 2 ≤ sizeLine; decide), fun u nu => k (.ref u) _ (same_new nu) ?_⟩
      rw [hz]
      exact ⟨u, rfl, upd_same⟩
end
section
variable {P : Program} {w : World} {K : PySem.W.Frag} {mg : Str → Option Value} {base : Heap} {C D : Addr}
/-- what is told: none, or just the one that has the lock -/
theorem safe_end {H5 : Hp} {σ : L2.St} {R : Ends} {lv : V} {G : Addr} {t : Int} {o : Option Str} {ts : List Addr} {ps : List (Int × Str)} (h1 : σ[1]? = some (some lv)) (h2 : σ[2]? = some (some (.ref G))) (hlv : LvAt H5 lv t o) (hG : H5 G = some (.lst (ts.map V.ref)))
    (pr : Paired (fun t (p : Int × Str) => H5 t = some (.tup [.int p.1, .str p.2])) ts ps) (one : ps = [] ∨ ∃ z, o = some z ∧ ps = [(t, z)] ∧ Good z) (k : ∀ H', Same H5 H' → R.rt (.bl true) H') :
    tRet (tOrV (tOp (rEqD K) (tVar 2) (tLst tNil)) (tAndV (tOp (fun x y H Q => y = V.non ∧ Q (V.bl !decide (x = V.non)) H) (tVar 1) (tC .non)) (tOp (rEqD K) (tVar 2) (tLst (tCons (tTup (tCons (tOp (rIxT K) (tVar 1) (tC (.int 0))) (tCons (tOp (rIxT K) (tVar 1) (tC (.int 1))) tNil))) tNil))))) R σ H5 := by
  refine ⟨_, h2, (by show 0 ≤ sizeLine; decide), fun L1 n1 => ?_⟩
  have s1 : Same H5 (upd H5 L1 (.lst [])) := same_new n1
  have e1 : upd H5 L1 (.lst []) L1 = some (.lst []) := upd_same
  generalize upd H5 L1 (.lst []) = H6 at s1 e1 ⊢
  have d1 : Dp K H6 (.ref G) (.list (ps.map prD)) := .lst (SqL.of (s1 _ _ hG)) (prs_dp (paired_mono (fun t p h => s1 _ _ h) pr))
  rcases one with rfl | ⟨z, rfl, rfl, gz⟩
  · exact ⟨_, .list [], d1, .lst (SqL.of e1) .nil, rfl, rfl, true, rfl, iteT (k H6 s1)⟩
  · have sh : SeqAt.shaped (.list ([(t, z)].map prD)) = true := shaped_pr gz
    obtain ⟨u, rfl, eu⟩ := hlv
    have eu6 := s1 _ _ eu
    refine ⟨_, .list [], d1, .lst (SqL.of e1) .nil, sh, rfl, false, rfl, iteF ?_⟩
    refine ⟨_, h1, rfl, true, rfl, iteT ?_⟩
    have i0 : atI [V.int t, .str z] 0 = some (.int t) := rfl
    have i1 : atI [V.int t, .str z] 1 = some (.str z) := rfl
    refine ⟨_, h2, _, h1, u, _, _, _, rfl, rfl, SqT.of eu6, i0, _, h1, u, _, _, _, rfl, rfl, SqT.of eu6, i1, (by show 2 ≤ sizeLine; decide), fun u2 n2 => ?_⟩
    have s2 := s1.trans (same_new (o := .tup [.int t, .str z]) n2)
    have e2 : upd H6 u2 (.tup [.int t, .str z]) u2 = some (.tup [.int t, .str z]) := upd_same
    generalize upd H6 u2 (.tup [.int t, .str z]) = H7 at s2 e2 ⊢
    refine ⟨(by show 1 ≤ sizeLine; decide), fun L3 n3 => ?_⟩
    have s3 := s2.trans (same_new (o := .lst [.ref u2]) n3)
    have e3 : upd H7 L3 (.lst [.ref u2]) L3 = some (.lst [.ref u2]) := upd_same
    have e23 : upd H7 L3 (.lst [.ref u2]) u2 = some (.tup [.int t, .str z]) := by rw [upd_ne (ne_of_none e2 n3)]; exact e2
    generalize upd H7 L3 (.lst [.ref u2]) = H8 at s3 e3 e23 ⊢
    have d3 : Dp K H8 (.ref G) (.list ([(t, z)].map prD)) := .lst (SqL.of (s3 _ _ hG)) (prs_dp (paired_mono (fun t p h => s3 _ _ h) pr))
    have d4 : Dp K H8 (.ref L3) (.list ([(t, z)].map prD)) := .lst (SqL.of e3) (.cons (.tup (SqT.of e23) (.cons (.int _) (.cons (.str _) .nil))) .nil)
    refine ⟨_, _, d3, d4, sh, sh, ?_⟩
    rw [SeqAt.eqv_refl _ (SeqAt.canLay_of_shaped sh)]
    exact k H8 s3
abbrev s_law_safe : Stmt := top 20
theorem sc_law_safe : FnScope ["_law_state", "_law_lock", "_law_found", "_law_place", "_law_one"] ["_law_state"] (defScope s_law_safe) := ⟨rfl, rfl, rfl, by decide +kernel, rfl, by decide +kernel, by decide +kernel⟩
def spSafe (C D : Addr) : Sp := fun vs H Q _ => ∃ (st : Addr) (H0 : Hp) (S : Sy) (B : Int), vs = [.ref st] ∧ Hw C D st H0 H S ∧ Iv B S ∧ S.hs.length ≤ 2 ∧ ∀ H', Same H H' → Q (.bl true) H'
theorem ok_safe {f f1 f2 : Addr} {fd fd1 fd2 : FuncData} (F : Fun K "_law_safe" "_law_safe" s_law_safe f fd) (T : Txt mg) (TC : KeeT K C) (TD : HolT K D)
    (Mlocked : Me K C "locked" "Keeper.locked" s_locked ["self"] f1 fd1) (Glocked : FnOk P w K mg base CX0 1 f1 fd1 ["self"] (spLockedS C))
    (Mright : Me K D "right" "Holder.right" s_right ["self"] f2 fd2) (Gright : FnOk P w K mg base CX0 1 f2 fd2 ["self"] (spRight D)) :
    FnOk P w K mg base CX0 2 f fd ["_law_state"] (spSafe C D) := by
  refine F.ok sc_law_safe (fun vs H Q E h => ?_) (fun cdv A outer s H vs Q E hr h => ?_)
  · obtain ⟨st, _, _, _, rfl, _⟩ := h
    rfl
  · obtain ⟨st, H0, S, B, rfl, hw, iv, l2, k⟩ := h
    refine ⟨_, pss_cons (ps_set (i := 1) sc_law_safe.nd rfl (Or.inl rfl) (pe_meth0 (pe_dget (hu_of hr) (pv 0) pe_str (fun _ _ => rfl)) TC.cl Mlocked.m Glocked (hr.mono (by decide)) Mlocked.b .nil pass0))
      (pss_cons (ps_lock (ps_setLc (i := 2) (own := [("_law_place", 3), ("_law_one", 4)]) (g := gTup K 2 (gCons (gName 3) (gCons (gName 4) gNil))) rfl sc_law_safe.nd rfl rfl (sw_true rfl rfl rfl (by decide +kernel)) (pi_items (pe_dget (hu_of hr) (pv 0) pe_str (fun _ _ => rfl))) (blkOk_by (own := [("_law_place", 3), ("_law_one", 4)]) (N := ["_law_state", "_law_lock", "_law_found", "_law_place", "_law_one"]) (sc := defScope s_law_safe) (by decide +kernel)) (fun _ _ _ _ _ => (pg_tup (by rfl) (pgs_cons (pg_name (i := 3) sc_law_safe.nd rfl (Or.inl rfl)) (pgs_cons (pg_name (i := 4) sc_law_safe.nd rfl (Or.inl rfl)) pgs_nil)))) (fun _ _ _ _ _ => pts_one (pt_cmpR op_notN (pe_meth0 (pv 4) TD.cl Mright.m Gright (hr.mono (by decide)) Mright.b .nil pass0) pe_non (nomark _))) (fun _ _ _ _ _ => (pe_tup (pa_cons (pe_ix (ixT (K := K) rfl) (pe_meth0 (pv 4) TD.cl Mright.m Gright (hr.mono (by decide)) Mright.b .nil pass0) pe_int (fun _ _ => rfl)) (pa_cons (pv 3) pa_nil))))))
      (pss_cons (ps_if (pt_cmpR op_notN (pe_dget (hu_of hr) (pv 0) pe_str (fun _ _ => rfl)) pe_non (nomark _)) (pss_one (ps_expr (pe_bm PySem.F.plainAttrs_list PySem.F.slot_list_append PySem.F.type_list_append mt_append (pv 2) (pa_cons (pe_dget (hu_of hr) (pv 0) pe_str (fun _ _ => rfl)) pa_nil)))) pss_nil)
      (pss_one (ps_ret (pe_or (pe_cmpR (op_eqD hr.units) (pv 2) (pe_lst pa_nil) (nomark _)) (pe_one (pe_and (pe_cmpR op_notN (pv 1) pe_non (nomark _)) (pe_one (pe_cmpR (op_eqD hr.units) (pv 2) (pe_lst (pa_cons (pe_tup (pa_cons (pe_ix (ixT (K := K) rfl) (pv 1) pe_int (fun _ _ => rfl)) (pa_cons (pe_ix (ixT (K := K) rfl) (pv 1) pe_int (fun _ _ => rfl)) pa_nil))) pa_nil)) (nomark _)))))))))), ?_⟩
    obtain ⟨dx, ek⟩ := hw.k_
    obtain ⟨uv, es, eu⟩ := hw.s_
    have gk : DGet H st (kV (Sum.inr "keeper")) (some (.ref S.k)) := st_k (k := S.k) (hd := S.hd) (wl := S.wl) (uv := uv) ▸ DGet.k (k := Sum.inr ("keeper" : Str)) es
    have no : ∀ {m : Str}, (m == "_times") = false → (m == "_to") = false → (m == "_opened") = false → (kf S.t (toV S.o) S.p).lookup m = none := fun a b c => kf_no _ _ _ a b c
    refine ⟨_, rfl, st, _, rfl, gk, S.k, dx, _, rfl, ek, no (by decide +kernel) (by decide +kernel) (by decide +kernel), S.k, dx, S.t, S.o, S.p, rfl, ek, fun lv H1 s1 hlv => ?_⟩
    have w1 := hw.go s1
    have es1 := s1 _ _ es
    refine ⟨S.hd, _, w1.d_, trivial, fun od => ?_⟩
    have es2 : upd H1 S.hd (.frz od (.dK (S.hs.map fun e => (.inr e.nm, .ref e.a)))) st = some (.dK (stK S.k S.hd S.wl uv)) := by rw [upd_ne hw.sd]; exact es1
    have gh : DGet (upd H1 S.hd (.frz od (.dK (S.hs.map fun e => (.inr e.nm, .ref e.a))))) st (kV (Sum.inr "holders")) (some (.ref S.hd)) := st_h (k := S.k) (hd := S.hd) (wl := S.wl) (uv := uv) ▸ DGet.k (k := Sum.inr ("holders" : Str)) es2
    refine ⟨_, rfl, st, _, rfl, gh, S.hd, od, _, rfl, upd_same, fun G hG => ?_⟩
    have e2 : upd H1 S.hd (.frz od (.dK (S.hs.map fun e => (.inr e.nm, .ref e.a)))) S.hd = some (.frz od (.dK (S.hs.map fun e => (.inr e.nm, .ref e.a)))) := upd_same
    have o2 : ∀ y o, y ≠ S.hd → H1 y = some o → upd H1 S.hd (.frz od (.dK (S.hs.map fun e => (.inr e.nm, .ref e.a)))) y = some o := fun y o n h => by rw [upd_ne n]; exact h
    have nh : S.hd ≠ G := ne_of_none e2 hG
    have hG1 : H1 G = none := by rw [upd_ne nh.symm] at hG; exact hG
    generalize upd H1 S.hd (.frz od (.dK (S.hs.map fun e => (.inr e.nm, .ref e.a)))) = H2 at es2 gh hG e2 o2 ⊢
    refine lc_it (walk_items (kvs := S.hs.map fun e => ((Sum.inr e.nm : Key), V.ref e.a))) (fun i H' => ∃ ts : List Addr, H' G = some (.lst (ts.map V.ref)) ∧ ts.length ≤ i ∧ Paired (fun t (p : Int × Str) => t ≠ G ∧ H' t = some (.tup [.int p.1, .str p.2])) ts (foL (S.hs.take i)) ∧ ∀ x o, x ≠ G → H2 x = some o → H' x = some o)
      ⟨[], upd_same, Nat.le_refl _, .nil, fun x o nx e => by rw [upd_ne nx]; exact e⟩ ?_ ?_ ?_
    · rintro i H' _ ⟨_, _, _, _, q⟩
      exact q _ _ nh e2
    · rintro i y H3 H4 hi ⟨ts, b1, b2, b3, b4⟩ hy
      obtain ⟨T', kx, vx, rfl, nT, rfl, y1, y2⟩ := hy
      rw [List.length_map] at hi
      obtain ⟨e, he⟩ : ∃ e, S.hs[i]? = some e := ⟨_, List.getElem?_eq_getElem hi⟩
      have y1 : Option.map (fun (kv : Key × V) => kV kv.1) ((S.hs.map fun e => ((Sum.inr e.nm : Key), V.ref e.a))[i]?) = some kx := y1
      have y2 : Option.map Prod.snd ((S.hs.map fun e => ((Sum.inr e.nm : Key), V.ref e.a))[i]?) = some vx := y2
      rw [List.getElem?_map, he] at y1 y2
      obtain rfl := Option.some.inj y1
      obtain rfl := Option.some.inj y2
      have me := List.mem_of_getElem? he
      obtain ⟨dy, rv, nv, ee, er⟩ := w1.h_ e me
      have up4 : ∀ {y o}, y ≠ G → H2 y = some o → upd H3 T' (.tup [kV (Sum.inr e.nm), .ref e.a]) y = some o := fun n h => by
        have := b4 _ _ n h
        rw [upd_ne (ne_of_none this nT)]
        exact this
      have ehd : ∀ {y o}, H1 y = some o → (∀ kvs, o ≠ .dK kvs) → y ≠ S.hd := fun h n => ne_of h w1.d_ (n _)
      have ee2 := o2 _ _ (ehd ee (by simp)) ee
      have ee4 := up4 (ne_of_none ee2 hG) ee2
      have nTG : G ≠ T' := ne_of_none b1 nT
      have b14 : upd H3 T' (.tup [kV (Sum.inr e.nm), .ref e.a]) G = some (.lst (ts.map V.ref)) := by rw [upd_ne nTG]; exact b1
      have et : S.hs.take (i + 1) = S.hs.take i ++ [e] := by
        rw [List.take_succ, he]
        rfl
      have b34 : Paired (fun t (p : Int × Str) => t ≠ G ∧ upd H3 T' (.tup [kV (Sum.inr e.nm), .ref e.a]) t = some (.tup [.int p.1, .str p.2])) ts (foL (S.hs.take i)) :=
        paired_mono (fun t p h => ⟨h.1, by rw [upd_ne (ne_of_none h.2 nT)]; exact h.2⟩) b3
      have tt : upd H3 T' (.tup [kV (Sum.inr e.nm), .ref e.a]) T' = some (.tup [.str e.nm, .ref e.a]) := upd_same
      generalize upd H3 T' (.tup [kV (Sum.inr e.nm), .ref e.a]) = H4 at up4 ee4 b14 b34 tt ⊢
      refine ⟨T', _, rfl, SqT.of tt, rfl, _, _, rfl, _, _, rfl, rfl, ⟨rfl, ?_⟩⟩
      refine ⟨_, rfl, e.a, dy, _, rfl, ee4, hf_no _ _ _ (by decide +kernel) (by decide +kernel) (by decide +kernel), e.a, dy, rv, nv, e.s, rfl, ee4, rfl, _, rfl, ?_⟩
      rw [et, show foL (S.hs.take i ++ [e]) = foL (S.hs.take i) ++ foL [e] from List.filterMap_append ..]
      cases hr' : e.r with
      | none =>
        rw [hr'] at er
        obtain rfl : rv = .non := er
        refine iteN rfl ⟨ts, b14, by omega, ?_, fun x o nx h => up4 nx h⟩
        rw [show foL [e] = [] by rw [foL_cons, hr']; rfl, List.append_nil]
        exact b34
      | some n =>
        rw [hr'] at er
        obtain ⟨u, rfl, eu'⟩ := er
        have eu2 := o2 _ _ (ehd eu' (by simp)) eu'
        have eu4 := up4 (ne_of_none eu2 hG) eu2
        have i0 : atI [V.int n, .str "home"] 0 = some (.int n) := rfl
        refine iteS rfl ?_
        refine ⟨_, rfl, e.a, dy, _, rfl, ee4, hf_no _ _ _ (by decide +kernel) (by decide +kernel) (by decide +kernel), e.a, dy, .ref u, nv, e.s, rfl, ee4, u, _, _, _, rfl, rfl, SqT.of eu4, i0, _, rfl, (by show 2 ≤ sizeLine; decide), fun t nt => ?_⟩
        have nGt : G ≠ t := ne_of_none b14 nt
        refine ⟨_, by rw [upd_ne nGt]; exact b14, ?_, ts ++ [t], ?_, ?_, ?_, ?_⟩
        · rw [List.length_map]
          exact Nat.lt_of_le_of_lt (by omega : _ ≤ 1000) (by decide)
        · rw [upd_same, List.map_append]
          rfl
        · rw [List.length_append]
          show ts.length + 1 ≤ i + 1
          omega
        · rw [show foL [e] = [(n, e.nm)] by rw [foL_cons, hr']; rfl]
          refine Paired.snoc (paired_mono (fun q p h => ⟨h.1, by rw [upd_ne h.1, upd_ne (ne_of_none h.2 nt)]; exact h.2⟩) b34) ⟨nGt.symm, ?_⟩
          rw [upd_ne nGt.symm, upd_same]
        · intro x o nx h
          rw [upd_ne nx, upd_ne (ne_of_none (up4 nx h) nt)]
          exact up4 nx h
    · rintro H3 ⟨ts, b1, b2, b3, b4⟩
      rw [List.length_map, List.take_of_length_le (Nat.le_refl _)] at b3
      have f3 := b4 _ _ nh e2
      refine ⟨f3, ?_⟩
      -- the dict is free again: all that was stays
      have s3 : Same H1 (upd H3 S.hd (.dK (S.hs.map fun e => (.inr e.nm, .ref e.a)))) := fun y o h => by
        by_cases c : y = S.hd
        · subst c
          rw [upd_same]
          exact w1.d_.symm.trans h
        · rw [upd_ne c]
          have := o2 y o c h
          exact b4 y o (ne_of_none this hG) this
      have b1' : upd H3 S.hd (.dK (S.hs.map fun e => (.inr e.nm, .ref e.a))) G = some (.lst (ts.map V.ref)) := by rw [upd_ne nh.symm]; exact b1
      have b3' : Paired (fun t (p : Int × Str) => upd H3 S.hd (.dK (S.hs.map fun e => (.inr e.nm, .ref e.a))) t = some (.tup [.int p.1, .str p.2])) ts (foL S.hs) := paired_mono (fun t p h => by rw [upd_ne (ne_of h.2 f3 (by simp))]; exact h.2) b3
      clear b1 b3 b4 e2 o2 es2 gh f3
      generalize upd H3 S.hd (.dK (S.hs.map fun e => (.inr e.nm, .ref e.a))) = H4 at s3 b1' b3' ⊢
      have w4 := w1.go s3
      have s4 := s1.trans s3
      have es4 := s4 _ _ es
      have gu : DGet H4 st (kV (Sum.inr "used")) (some uv) := st_u (k := S.k) (hd := S.hd) (wl := S.wl) (uv := uv) ▸ DGet.k (k := Sum.inr ("used" : Str)) es4
      have hlv4 : LvAt H4 lv S.t S.o := by
        cases q : S.o with
        | none => rw [q] at hlv; exact hlv
        | some z =>
          rw [q] at hlv
          obtain ⟨u, e, h⟩ := hlv
          exact ⟨u, e, s3 _ _ h⟩
      have one : foL S.hs ++ S.us.toList = [] ∨ ∃ z, S.o = some z ∧ foL S.hs ++ S.us.toList = [(S.t, z)] ∧ Good z := by
        rcases iv.one with c | ⟨z, c1, c2, e, he, c3⟩
        · exact .inl c
        · exact .inr ⟨z, c1, c2, c3 ▸ (hw.nz e he).1⟩
      cases hus : S.us with
      | none =>
        rw [hus] at eu one
        obtain rfl : uv = .non := eu
        rw [show foL S.hs ++ (none : Option (Int × Str)).toList = foL S.hs from List.append_nil _] at one
        refine ⟨_, rfl, st, _, rfl, gu, rfl, _, rfl, iteN rfl ?_⟩
        exact safe_end rfl rfl hlv4 b1' b3' one fun H' s => k H' (s4.trans s)
      | some p =>
        rw [hus] at eu one
        obtain ⟨u, rfl, eu⟩ := eu
        have eu4 := s4 _ _ eu
        refine ⟨_, rfl, st, _, rfl, gu, rfl, _, rfl, iteS rfl ?_⟩
        have len2 : ts.length ≤ 2 := Nat.le_trans b2 (by rw [List.length_map]; exact l2)
        refine ⟨_, rfl, .inl ⟨rfl, _, SqL.of b1'⟩, _, rfl, st, _, rfl, gu, G, _, _, rfl, rfl, b1', (by rw [List.length_map]; exact Nat.lt_of_le_of_lt (Nat.le_trans len2 (by decide : 2 ≤ 1000)) (by decide)), ?_⟩
        have b5 : upd H4 G (.lst (ts.map V.ref ++ [.ref u])) G = some (.lst ((ts ++ [u]).map V.ref)) := by
          rw [upd_same, List.map_append]
          rfl
        have k5 : ∀ y o, y ≠ G → H4 y = some o → upd H4 G (.lst (ts.map V.ref ++ [.ref u])) y = some o := fun y o n h => by rw [upd_ne n]; exact h
        have s5 : Same H (upd H4 G (.lst (ts.map V.ref ++ [.ref u]))) := fun y o h => k5 y o (ne_of_none (s1 _ _ h) hG1) (s4 _ _ h)
        refine safe_end (ps := foL S.hs ++ [p]) (ts := ts ++ [u]) rfl rfl ?_ b5 ?_ one fun H' s => k H' (s5.trans s)
        · cases q : S.o with
          | none => rw [q] at hlv4; exact hlv4
          | some z =>
            rw [q] at hlv4
            obtain ⟨u', e, h⟩ := hlv4
            exact ⟨u', e, k5 _ _ (ne_of h b1' (by simp)) h⟩
        · exact Paired.snoc (paired_mono (fun t p h => k5 _ _ (ne_of h b1' (by simp)) h) b3') (k5 _ _ (ne_of eu4 b1' (by simp)) eu4)
end
end K23

set_option maxRecDepth 100000
set_option maxHeartbeats 3000000
namespace K23
open PySem PySem.Spec PyProof.Rows L2 GxR Gd TL My K23H
def lkD (t : Int) : Option Str → PyData
  | none => .none
  | some z => .tuple [.int t, .str z]
def rnD : Option Int → PyData
  | none => .none
  | some n => .tuple [.int n, .str "home"]
def rowD (e : Hl) : PyData := .list [rnD e.r, .int e.s]
def tellD (S : Sy) : PyData := .list (lkD S.t S.o :: .bool S.p :: S.hs.map rowD)
def TeAt (H : Hp) (L : Addr) (S : Sy) : Prop := ∃ lv ts, H L = some (.lst (lv :: .bl S.p :: ts.map V.ref)) ∧ LvAt H lv S.t S.o ∧ Paired (fun (t : Addr) (e : Hl) => ∃ rv, H t = some (.lst [rv, .int e.s]) ∧ RnAt H rv e.r) ts S.hs
theorem LvAt.up {H H' : Hp} {v : V} {t : Int} {o : Option Str} (h : LvAt H v t o) (k : ∀ x ys, H x = some (.tup ys) → H' x = some (.tup ys)) : LvAt H' v t o := by
  match o, h with
  | none, h => exact h
  | some p, ⟨u, e, h1⟩ => exact ⟨u, e, k _ _ h1⟩
theorem TeAt.go {H H' : Hp} {L : Addr} {S : Sy} (h : TeAt H L S) (s : Same H H') : TeAt H' L S := by
  obtain ⟨lv, ts, a, b, c⟩ := h
  exact ⟨lv, ts, s _ _ a, b.up (fun x ys h => s _ _ h), paired_mono (fun t e ⟨rv, h1, h2⟩ => ⟨rv, s _ _ h1, h2.up fun x ys h => s _ _ h⟩) c⟩
theorem LvAt.dp {K : PySem.W.Frag} {H : Hp} {v : V} {t : Int} {o : Option Str} (h : LvAt H v t o) : Dp K H v (lkD t o) := by
  match o, h with
  | none, h =>
    obtain rfl : v = .non := h
    exact .non
  | some p, ⟨u, e, h1⟩ =>
    subst e
    exact .tup (SqT.of h1) (.cons (.int _) (.cons (.str _) .nil))
theorem RnAt.dp {K : PySem.W.Frag} {H : Hp} {v : V} {r : Option Int} (h : RnAt H v r) : Dp K H v (rnD r) := by
  match r, h with
  | none, h =>
    obtain rfl : v = .non := h
    exact .non
  | some p, ⟨u, e, h1⟩ =>
    subst e
    exact .tup (SqT.of h1) (.cons (.int _) (.cons (.str _) .nil))
theorem rows_dp {K : PySem.W.Frag} {H : Hp} : ∀ {ts : List Addr} {hs : List Hl}, Paired (fun (t : Addr) (e : Hl) => ∃ rv, H t = some (.lst [rv, .int e.s]) ∧ RnAt H rv e.r) ts hs → DpAll K H (ts.map V.ref) (hs.map rowD)
  | _, _, .nil => .nil
  | _, _, .cons ⟨rv, a, b⟩ r => .cons (.lst (SqL.of a) (.cons b.dp (.cons (.int _) .nil))) (rows_dp r)
theorem TeAt.dp {K : PySem.W.Frag} {H : Hp} {L : Addr} {S : Sy} (h : TeAt H L S) : Dp K H (.ref L) (tellD S) := by
  obtain ⟨lv, ts, a, b, c⟩ := h
  exact .lst (SqL.of a) (.cons b.dp (.cons (.bl _) (rows_dp c)))
theorem str_ok {z : Str} (g : Good z) : PyData.strOk z = true := by
  unfold PyData.strOk
  rw [Array.all_eq_true_iff_forall_mem]
  intro c hc
  exact decide_eq_true (g c (Array.mem_toList_iff.mpr hc))
theorem row_lay (e : Hl) : (rowD e).canLay0 = true ∧ (rowD e).depth ≤ 2 := by
  have h := str_ok (good_of "home")
  unfold rowD
  cases e.r with
  | none => simp [rnD, PyData.canLay0, PyData.canLayAll0, PyData.depth, PyData.depthAll]
  | some n => simp [rnD, PyData.canLay0, PyData.canLayAll0, PyData.depth, PyData.depthAll, h]
theorem rows_lay : ∀ hs : List Hl, PyData.canLayAll0 (hs.map rowD) = true ∧ PyData.depthAll (hs.map rowD) ≤ 2
  | [] => ⟨rfl, Nat.zero_le _⟩
  | e :: r => by
    obtain ⟨a, b⟩ := rows_lay r
    obtain ⟨c, d⟩ := row_lay e
    refine ⟨by rw [List.map_cons]; unfold PyData.canLayAll0; rw [c, a]; rfl, ?_⟩
    rw [List.map_cons]
    unfold PyData.depthAll
    exact Nat.max_le.mpr ⟨d, b⟩
theorem tell_shaped {S : Sy} (g : ∀ z, S.o = some z → Good z) : SeqAt.shaped (tellD S) = true := by
  obtain ⟨a, b⟩ := rows_lay S.hs
  have q : (lkD S.t S.o).canLay0 = true ∧ (lkD S.t S.o).depth ≤ 2 := by
    cases c : S.o with
    | none => simp [lkD, PyData.canLay0, PyData.depth]
    | some z => simp [lkD, PyData.canLay0, PyData.canLayAll0, PyData.depth, PyData.depthAll, str_ok (g z c)]
  unfold SeqAt.shaped tellD
  rw [Bool.and_eq_true]
  refine ⟨?_, decide_eq_true ?_⟩
  · simp only [PyData.canLay0, PyData.canLayAll0, q.1, a, Bool.and_self]
  · simp only [PyData.depth, PyData.depthAll]
    have := q.2
    omega
section
variable {P : Program} {w : World} {K : PySem.W.Frag} {mg : Str → Option Value} {base : Heap} {C D : Addr}
theorem tell_step {i : Nat} (hi : i = 7 ∨ i = 9) {a b na st : Addr} {v4 v5 v6 v7 v8 v9 v10 v11 v12 : Option V} {X : TS} {R : Ends} {H H0 : Hp} {S : Sy} (hw : Hw C D st H0 H S) (l2 : S.hs.length ≤ 2)
    (k : ∀ H' L, Same H H' → H L = none → TeAt H' L S → X R (([some (.ref a), some (.ref b), some (.ref na), some (.ref st), v4, v5, v6, v7, v8, v9, v10, v11, v12] : L2.St).set i (some (.ref L))) H') :
    tSeq (tAsg (tLst (tCons (tMeth C "locked" (spLockedS C) [] E0 (tDGet (tVar 3) (tC (.str "keeper"))) tNil) (tCons (tMeth C "is_open" (spIsOpen C) [] E0 (tDGet (tVar 3) (tC (.str "keeper"))) tNil) tNil))) (gName i))
      (tSeq (tLock (tDrop (tBM K "list" rExtend (tVar i) (tCons (tLc (iVals (tDGet (tVar 3) (tC (.str "holders")))) (gName 10) tYes (tLst (tCons (tMeth D "right" (spRight D) [] E0 (tVar 10) tNil) (tCons (tMeth D "seen" (spSeen D) [] E0 (tVar 10) tNil) tNil)))
        (List.map (fun x => x.snd) [(("_law_one" : Str), 10)])) tNil)))) X) R ([some (.ref a), some (.ref b), some (.ref na), some (.ref st), v4, v5, v6, v7, v8, v9, v10, v11, v12] : L2.St) H := by
  obtain ⟨dx, ek⟩ := hw.k_
  obtain ⟨uv, es, eu⟩ := hw.s_
  have gk : ∀ {H'}, H' st = some (.dK (stK S.k S.hd S.wl uv)) → DGet H' st (kV (Sum.inr "keeper")) (some (.ref S.k)) := fun h => st_k (k := S.k) (hd := S.hd) (wl := S.wl) (uv := uv) ▸ DGet.k (k := Sum.inr ("keeper" : Str)) h
  have gh : ∀ {H'}, H' st = some (.dK (stK S.k S.hd S.wl uv)) → DGet H' st (kV (Sum.inr "holders")) (some (.ref S.hd)) := fun h => st_h (k := S.k) (hd := S.hd) (wl := S.wl) (uv := uv) ▸ DGet.k (k := Sum.inr ("holders" : Str)) h
  have no : ∀ {m : Str}, (m == "_times") = false → (m == "_to") = false → (m == "_opened") = false → (kf S.t (toV S.o) S.p).lookup m = none := fun a b c => kf_no _ _ _ a b c
  refine ⟨_, rfl, st, _, rfl, gk es, S.k, dx, _, rfl, ek, no (by decide +kernel) (by decide +kernel) (by decide +kernel), S.k, dx, S.t, S.o, S.p, rfl, ek, fun lv H1 s1 hlv => ?_⟩
  have ek1 := s1 _ _ ek
  have es1 := s1 _ _ es
  refine ⟨_, rfl, st, _, rfl, gk es1, S.k, dx, _, rfl, ek1, no (by decide +kernel) (by decide +kernel) (by decide +kernel), S.k, dx, S.t, toV S.o, S.p, rfl, ek1, (by show 2 ≤ sizeLine; decide), fun L nL => ?_⟩
  have s2 := s1.trans (same_new (o := .lst [lv, .bl S.p]) nL)
  have zL := s1.free nL
  have eL : upd H1 L (.lst [lv, .bl S.p]) L = some (.lst [lv, .bl S.p]) := upd_same
  have hlv2 : LvAt (upd H1 L (.lst [lv, .bl S.p])) lv S.t S.o := hlv.up fun x ys h => by rw [upd_ne (ne_of_none h nL)]; exact h
  generalize upd H1 L (.lst [lv, .bl S.p]) = H2 at s2 eL hlv2 ⊢
  have w2 := hw.go s2
  rcases hi with rfl | rfl
  all_goals
    refine ⟨S.hd, _, w2.d_, trivial, fun od => ?_⟩
    have e3 : upd H2 S.hd (.frz od (.dK (S.hs.map fun e => (.inr e.nm, .ref e.a)))) S.hd = some (.frz od (.dK (S.hs.map fun e => (.inr e.nm, .ref e.a)))) := upd_same
    have o3 : ∀ y o, y ≠ S.hd → H2 y = some o → upd H2 S.hd (.frz od (.dK (S.hs.map fun e => (.inr e.nm, .ref e.a)))) y = some o := fun y o n h => by rw [upd_ne n]; exact h
    have es3 := o3 _ _ hw.sd (s2 _ _ es)
    have eL3 := o3 _ _ (ne_of eL w2.d_ (by simp)) eL
    generalize upd H2 S.hd (.frz od (.dK (S.hs.map fun e => (.inr e.nm, .ref e.a)))) = H3 at e3 o3 es3 eL3 ⊢
    refine ⟨_, rfl, .inl ⟨rfl, _, SqL.of eL3⟩, _, rfl, st, _, rfl, gh es3, S.hd, od, _, rfl, e3, fun G hG => ?_⟩
    have nh : S.hd ≠ G := ne_of_none e3 hG
    have nLG : L ≠ G := ne_of_none eL3 hG
    refine lc_it (walk_values (kvs := S.hs.map fun e => ((Sum.inr e.nm : Key), V.ref e.a))) (fun i H' => ∃ ts : List Addr, H' G = some (.lst (ts.map V.ref)) ∧ ts.length = i ∧ Paired (fun (t : Addr) (e : Hl) => (t ≠ G ∧ t ≠ L) ∧ ∃ rv, H' t = some (.lst [rv, .int e.s]) ∧ RnAt H' rv e.r) ts (S.hs.take i) ∧ ∀ x o, x ≠ G → H3 x = some o → H' x = some o)
      ⟨[], upd_same, rfl, .nil, fun x o nx e => by rw [upd_ne nx]; exact e⟩ ?_ ?_ ?_
    · rintro i H' _ ⟨_, _, _, _, q⟩
      exact q _ _ nh e3
    · rintro i y H4 H5 hi ⟨ts, b1, b2, b3, b4⟩ hy
      obtain ⟨rfl, kx, hk⟩ := hy
      rw [List.length_map] at hi
      obtain ⟨e, he⟩ : ∃ e, S.hs[i]? = some e := ⟨_, List.getElem?_eq_getElem hi⟩
      rw [List.getElem?_map, he] at hk
      obtain ⟨rfl, rfl⟩ := Prod.mk.inj (Option.some.inj hk)
      have me := List.mem_of_getElem? he
      obtain ⟨dy, rv, nv, ee, er⟩ := w2.h_ e me
      have ee3 := o3 _ _ (ne_of ee w2.d_ (by simp)) ee
      have ee4 := b4 _ _ (ne_of_none ee3 hG) ee3
      have no2 : ∀ {m : Str}, (m == "_right") = false → (m == "_noted") = false → (m == "_seen") = false → (hf rv nv e.s).lookup m = none := fun a b c => hf_no _ _ _ a b c
      refine ⟨rfl, lcY ?_⟩
      refine ⟨_, rfl, e.a, dy, _, rfl, ee4, no2 (by decide +kernel) (by decide +kernel) (by decide +kernel), e.a, dy, rv, nv, e.s, rfl, ee4, _, rfl, e.a, dy, _, rfl, ee4, no2 (by decide +kernel) (by decide +kernel) (by decide +kernel), e.a, dy, rv, nv, e.s, rfl, ee4, (by show 2 ≤ sizeLine; decide), fun t nt => ?_⟩
      have nGt : G ≠ t := ne_of_none b1 nt
      have tp : ∀ {x ys}, H5 x = some (.tup ys) → upd (upd H5 t (.lst [rv, .int e.s])) G (.lst (ts.map V.ref ++ [.ref t])) x = some (.tup ys) := fun h => by
        rw [upd_ne (ne_of h b1 (by simp)), upd_ne (ne_of_none h nt)]
        exact h
      refine ⟨_, by rw [upd_ne nGt]; exact b1, ?_, ts ++ [t], ?_, ?_, ?_, ?_⟩
      · rw [List.length_map, b2]
        exact Nat.lt_of_le_of_lt (by omega : _ ≤ 1000) (by decide)
      · rw [upd_same, List.map_append]
        rfl
      · rw [List.length_append, b2]
        rfl
      · have et : S.hs.take (i + 1) = S.hs.take i ++ [e] := by
          rw [List.take_succ, he]
          rfl
        rw [et]
        refine Paired.snoc (paired_mono (fun q f ⟨hq, rw', h1, h2⟩ => ⟨hq, rw', by rw [upd_ne hq.1, upd_ne (ne_of_none h1 nt)]; exact h1, h2.up fun x ys h => tp h⟩) b3) ⟨⟨nGt.symm, (ne_of_none (b4 _ _ nLG eL3) nt).symm⟩, rv, by rw [upd_ne nGt.symm, upd_same], ?_⟩
        refine er.up fun x ys h => ?_
        have h3 := o3 _ _ (ne_of h w2.d_ (by simp)) h
        exact tp (b4 _ _ (ne_of_none h3 hG) h3)
      · intro x o nx h
        have h4 := b4 x o nx h
        rw [upd_ne nx, upd_ne (ne_of_none h4 nt)]
        exact h4
    · rintro H4 ⟨ts, b1, b2, b3, b4⟩
      rw [List.length_map, List.take_of_length_le (Nat.le_refl _)] at b3
      have eL4 := b4 _ _ nLG eL3
      have e4 := b4 _ _ nh e3
      have nLh : L ≠ S.hd := ne_of eL w2.d_ (by simp)
      refine ⟨L, G, _, _, rfl, rfl, eL4, b1, ?_, ?_⟩
      · rw [List.length_map]
        have : ts.length ≤ 2 := by rw [b2, List.length_map]; exact l2
        exact Nat.le_trans (by show 2 + ts.length ≤ 1000; omega) (by decide)
      refine ⟨by rw [upd_ne nLh.symm]; exact e4, ?_⟩
      have up5 : ∀ {y o}, H2 y = some o → y ≠ L → y ≠ S.hd → upd (upd H4 L (.lst ([lv, .bl S.p] ++ ts.map V.ref))) S.hd (.dK (S.hs.map fun e => (.inr e.nm, .ref e.a))) y = some o := fun h n1 n2 => by
        have h3 := o3 _ _ n2 h
        rw [upd_ne n2, upd_ne n1]
        exact b4 _ _ (ne_of_none h3 hG) h3
      refine k _ L (fun y o h => ?_) zL ⟨lv, ts, by rw [upd_ne nLh, upd_same]; rfl, hlv2.up fun x ys h => up5 h (ne_of h eL (by simp)) (ne_of h w2.d_ (by simp)), paired_mono (fun q f ⟨hq, rw', h1, h2⟩ => ⟨rw', ?_, ?_⟩) b3⟩
      · by_cases c : y = S.hd
        · subst c
          rw [upd_same]
          exact w2.d_.symm.trans (s2 _ _ h)
        · exact up5 (s2 _ _ h) (ne_of_none h zL) c
      · rw [upd_ne (ne_of h1 e4 (by simp)), upd_ne hq.2]
        exact h1
      · refine h2.up fun x ys h => ?_
        rw [upd_ne (ne_of h e4 (by simp)), upd_ne (ne_of h eL4 (by simp))]
        exact h
end
end K23


set_option maxRecDepth 100000
set_option maxHeartbeats 3000000
namespace K23
open PySem PySem.Spec PyProof.Rows L2 GxR Gd TL My K23H
theorem st_merge (k hd wl : Addr) (uv : V) : mergeK [] (stK k hd wl uv) = stK k hd wl uv := by
  unfold mergeK stK putK
  simp [hk_, wk_, uk_, wh_, uh_, uw_]
def S0 (k hd wl : Addr) (hs : List Hl) : Sy := ⟨k, hd, wl, 0, none, false, hs, [], none⟩
theorem iv0 {k hd wl : Addr} {hs : List Hl} (nd : (hs.map (·.nm)).Nodup) (h : ∀ e ∈ hs, e.r = none ∧ e.s = 0) : Iv 0 (S0 k hd wl hs) := by
  refine ⟨Int.le_refl _, Int.le_refl _, fun _ => rfl, nd, fun e he => ?_, fun e he n hn => ?_, fun n z hz => (by cases hz), fun z => (by cases z), fun w hw => (by cases hw), fun w hw => (by cases hw), fun z hz => (by cases hz)⟩
  · rw [(h e he).2]
    exact ⟨Int.le_refl _, Int.le_refl _⟩
  · rw [(h e he).1] at hn
    cases hn
theorem add_hl {hs : List Hl} {z : Str} {x : Addr} (l1 : hs.length ≤ 1) (nd : (hs.map (·.nm)).Nodup) (na : (hs.map (·.a)).Nodup) (nx : ∀ e ∈ hs, e.a ≠ x) : ∃ hs' : List Hl,
    putK (hs.map fun e => ((Sum.inr e.nm : Key), V.ref e.a)) (Sum.inr z) (.ref x) = hs'.map (fun e => (Sum.inr e.nm, V.ref e.a)) ∧ (∀ e ∈ hs', e = ⟨z, x, none, 0⟩ ∨ e ∈ hs) ∧ (hs'.map (·.nm)).Nodup ∧ (hs'.map (·.a)).Nodup ∧ hs'.length ≤ hs.length + 1 ∧ (∀ y ∈ hs.map (·.nm), y ∈ hs'.map (·.nm)) ∧ z ∈ hs'.map (·.nm) := by
  match hs, l1, nx with
  | [], _, _ => exact ⟨[⟨z, x, none, 0⟩], by simp [putK], by simp, by simp, by simp, by simp, by simp, by simp⟩
  | [e], _, nx =>
    by_cases c : e.nm = z
    · subst c
      exact ⟨[⟨e.nm, x, none, 0⟩], by simp [putK], by simp, by simp, by simp, by simp, by simp, by simp⟩
    · have c2 : ¬ (Sum.inr e.nm : Key) = Sum.inr z := fun h => c (Sum.inr.inj h)
      exact ⟨[e, ⟨z, x, none, 0⟩], by simp [putK, c], by simp, by simp [c], by simp [nx e (by simp)], by simp, by simp, by simp⟩
theorem Hw.add {C D st : Addr} {H0 H H' : Hp} {S : Sy} {hs' : List Hl} {z : Str} {x : Addr} (h : Hw C D st H0 H S) (k : ∀ y o, y ≠ S.hd → H y = some o → H' y = some o) (ed : H' S.hd = some (.dK (hs'.map fun e => (.inr e.nm, .ref e.a)))) (ex : HlAt D H' ⟨z, x, none, 0⟩)
    (hx : ∀ e ∈ hs', e = ⟨z, x, none, 0⟩ ∨ e ∈ S.hs) (xk : x ≠ S.k) (na : (hs'.map (·.a)).Nodup) (nz : Nm z) (x0 : H0 x = none) : Hw C D st H0 H' { S with hs := hs' } := by
  obtain ⟨⟨dx, a⟩, ⟨uv, b, c⟩, d, f, g, v, x1, x2, x3, x4, x5, x6⟩ := h
  have kt : ∀ x ys, H x = some (.tup ys) → H' x = some (.tup ys) := fun x ys h => k _ _ (ne_of h d (by simp)) h
  refine ⟨⟨dx, k _ _ (ne_of a d (by simp)) a⟩, ⟨uv, k _ _ x3 b, c.up kt⟩, ed, fun e he => ?_, k _ _ (ne_of g d (by simp)) g, fun e he => kt _ _ (v e he), fun e he => ?_, na, x3, fun e he => ?_, fun y o q => k y o (ne_of_none q x6.2.2.1) (x5 y o q), x6.1, x6.2.1, x6.2.2.1, x6.2.2.2.1, fun e he => ?_⟩
  · rcases hx e he with rfl | he
    · exact ex
    · exact (f e he).up (fun o h => k _ _ (by obtain ⟨_, _, _, ea, _⟩ := f e he; exact ne_of ea d (by simp)) h) kt
  · rcases hx e he with rfl | he
    · exact xk
    · exact x1 e he
  · rcases hx e he with rfl | he
    · exact nz
    · exact x4 e he
  · rcases hx e he with rfl | he
    · exact x0
    · exact x6.2.2.2.2 e he
section
variable {P : Program} {w : World} {K : PySem.W.Frag} {mg : Str → Option Value} {base : Heap} {C D : Addr}
abbrev s_law : Stmt := top 21
theorem sc_law : FnScope ["_law_script", "_law_box_here", "_law_names_here", "_law_state", "_law_name", "_law_k", "_law_turn", "_law_told", "_law_old", "_law_again", "_law_one", "_law_at", "_law_word"] ["_law_script"] (defScope s_law) := ⟨rfl, rfl, rfl, by decide +kernel, rfl, by decide +kernel, by decide +kernel⟩
def spLaw (K : PySem.W.Frag) : Sp := fun vs H Q _ => ∃ (a : Addr) (ns : List Int), vs = [.ref a] ∧ SqL K H a (ns.map V.int) ∧ SmAt H ∧ ns.length ≤ 63 ∧ ∀ H', Q (.bl true) H'
theorem ok_law {f f1 f2 f3 f4 f5 f6 f7 f8 f9 fa fb fc fe fg : Addr} {fd fd1 fd2 fd3 fd4 fd5 fd6 fd7 fd8 fd9 fda fdb fdc fde fdg : FuncData} (F : Fun K "law" "law" s_law f fd) (T : Txt mg) (TC : KeeT K C) (TD : HolT K D)
    (gKeeper : mg "Keeper" = some (.ref C)) (MKeeper : Mk K C fa) (GKeeper : FnOk P w K mg base CX0 1 fa fda ["self"] (spInit C)) (bKeeper : Binds K fda ["self"] [])
    (gHolder : mg "Holder" = some (.ref D)) (MHolder : Mk K D fb) (GHolder : FnOk P w K mg base CX0 1 fb fdb ["self"] (K23H.spInit D)) (bHolder : Binds K fdb ["self"] [])
    (Glaw_cell : FnOk P w K mg base CX0 1 f1 fd1 ["_law_script", "_law_k"] (spCell K)) (Nlaw_cell : Fn K mg "_law_cell" sCell ["_law_script", "_law_k"] f1 fd1)
    (Glaw_box : FnOk P w K mg base CX0 1 f2 fd2 ["_law_cell_here"] spBox) (Nlaw_box : Fn K mg "_law_box" sBox ["_law_cell_here"] f2 fd2)
    (Glaw_take : FnOk P w K mg base CX0 1 f3 fd3 ["_law_box_here", "_law_many"] spTake) (Nlaw_take : Fn K mg "_law_take" sTake ["_law_box_here", "_law_many"] f3 fd3)
    (Glaw_names : FnOk P w K mg base CX0 2 f4 fd4 ["_law_box_here", "_law_many"] spNames) (Nlaw_names : Fn K mg "_law_names" s_law_names ["_law_box_here", "_law_many"] f4 fd4)
    (Glaw_come : FnOk P w K mg base CX0 5 f5 fd5 ["_law_state", "_law_at"] (spCome C D)) (Nlaw_come : Fn K mg "_law_come" s_law_come ["_law_state", "_law_at"] f5 fd5)
    (Glaw_done : FnOk P w K mg base CX0 7 f6 fd6 ["_law_box_here", "_law_state", "_law_names_here"] (spDone C D)) (Nlaw_done : Fn K mg "_law_done" s_law_done ["_law_box_here", "_law_state", "_law_names_here"] f6 fd6)
    (Glaw_safe : FnOk P w K mg base CX0 2 f7 fd7 ["_law_state"] (spSafe C D)) (Nlaw_safe : Fn K mg "_law_safe" s_law_safe ["_law_state"] f7 fd7)
    (Mlocked : Me K C "locked" "Keeper.locked" s_locked ["self"] f8 fd8) (Glocked : FnOk P w K mg base CX0 1 f8 fd8 ["self"] (spLockedS C))
    (Mis_open : Me K C "is_open" "Keeper.is_open" s_is_open ["self"] f9 fd9) (Gis_open : FnOk P w K mg base CX0 1 f9 fd9 ["self"] (spIsOpen C))
    (Mtimes : Me K C "times" "Keeper.times" s_times ["self"] fc fdc) (Gtimes : FnOk P w K mg base CX0 1 fc fdc ["self"] (spTimes C))
    (Mright : Me K D "right" "Holder.right" s_right ["self"] fe fde) (Gright : FnOk P w K mg base CX0 1 fe fde ["self"] (spRight D))
    (Mseen : Me K D "seen" "Holder.seen" s_seen ["self"] fg fdg) (Gseen : FnOk P w K mg base CX0 1 fg fdg ["self"] (spSeen D)) :
    FnOk P w K mg base CX0 8 f fd ["_law_script"] (spLaw K) := by
  refine F.ok sc_law (fun vs H Q E h => ?_) (fun cdv A outer s H vs Q E hr h => ?_)
  · obtain ⟨a, ns, rfl, _⟩ := h
    rfl
  · obtain ⟨a, ns, rfl, hS, sm, hl, k⟩ := h
    refine ⟨_, pss_cons (ps_set (i := 1) sc_law.nd rfl (Or.inl rfl) (pe_call Glaw_box (hr.mono (by decide)) (by rfl) Nlaw_box.g Nlaw_box.kp Nlaw_box.b .nil pass0 (pa_cons (pe_call Glaw_cell (hr.mono (by decide)) (by rfl) Nlaw_cell.g Nlaw_cell.kp Nlaw_cell.b .nil pass0 (pa_cons (pv 0) (pa_cons pe_int pa_nil))) pa_nil)))
      (pss_cons (ps_set (i := 2) sc_law.nd rfl (Or.inl rfl) (pe_call Glaw_names (hr.mono (by decide)) (by rfl) Nlaw_names.g Nlaw_names.kp Nlaw_names.b .nil pass0 (pa_cons (pv 1) (pa_cons (pe_op op_add pe_int (pe_call Glaw_take (hr.mono (by decide)) (by rfl) Nlaw_take.g Nlaw_take.kp Nlaw_take.b .nil pass0 (pa_cons (pv 1) (pa_cons pe_int pa_nil)))) pa_nil))))
      (pss_cons (ps_set (i := 3) sc_law.nd rfl (Or.inr rfl) (pe_disp (pps_cons pe_str (pe_make0 MKeeper GKeeper (hr.mono (by decide)) (by rfl) gKeeper bKeeper .nil pass0) (pps_cons pe_str pe_dnewK (pps_cons pe_str (pe_lst pa_nil) (pps_cons pe_str pe_non pps_nil)))) (by rfl) (by rfl) (fun z => by cases z) (by decide)))
      (pss_cons (ps_for PassesOwn.never rfl (pi_list (pv 2)) (pg_name (i := 4) sc_law.nd rfl (Or.inl rfl)) (pss_one (ps_dput (hu_of hr) (pe_dget (hu_of hr) (pv 3) pe_str (fun _ _ => rfl)) (pv 4) (pe_make0 MHolder GHolder (hr.mono (by decide)) (by rfl) gHolder bHolder .nil pass0) rfl)))
      (pss_cons (ps_for PassesOwn.never rfl (pi_range2 (by rfl) T.range_ (pa_cons pe_int (pa_cons (pe_callB (call_max2 rfl) (by rfl) T.max_ (by decide +kernel) (pa_cons pe_int (pa_cons (pe_callB (call_min2 rfl) (by rfl) T.min_ (by decide +kernel) (pa_cons (pe_callB call_len_seq (by rfl) T.len_ PySem.boot_len (pa_cons (pv 0) pa_nil)) (pa_cons pe_int pa_nil))) pa_nil))) pa_nil))) (pg_name (i := 5) sc_law.nd rfl (Or.inl rfl)) (pss_cons (ps_set (i := 1) sc_law.nd rfl (Or.inl rfl) (pe_call Glaw_box (hr.mono (by decide)) (by rfl) Nlaw_box.g Nlaw_box.kp Nlaw_box.b .nil pass0 (pa_cons (pe_call Glaw_cell (hr.mono (by decide)) (by rfl) Nlaw_cell.g Nlaw_cell.kp Nlaw_cell.b .nil pass0 (pa_cons (pv 0) (pa_cons (pv 5) pa_nil))) pa_nil)))
          (pss_cons (ps_for PassesOwn.never rfl (pi_range1 (by rfl) T.range_ (pa_cons (pe_op op_add pe_int (pe_call Glaw_take (hr.mono (by decide)) (by rfl) Nlaw_take.g Nlaw_take.kp Nlaw_take.b .nil pass0 (pa_cons (pv 1) (pa_cons pe_int pa_nil)))) pa_nil)) (pg_name (i := 6) sc_law.nd rfl (Or.inl rfl)) (pss_one (ps_if (PW.pt (pw_or (pt_not (pt_val (pe_call Glaw_done (hr.mono (by decide)) (by rfl) Nlaw_done.g Nlaw_done.kp Nlaw_done.b .nil pass0 (pa_cons (pv 1) (pa_cons (pv 3) (pa_cons (pv 2) pa_nil)))))) (pw_or1 (pt_not (pt_val (pe_call Glaw_safe (hr.mono (by decide)) (by rfl) Nlaw_safe.g Nlaw_safe.kp Nlaw_safe.b .nil pass0 (pa_cons (pv 3) pa_nil))))))) (pss_one (ps_ret pe_bl)) pss_nil)))
          (pss_cons (ps_set (i := 7) sc_law.nd rfl (Or.inl rfl) (pe_lst (pa_cons (pe_meth0 (pe_dget (hu_of hr) (pv 3) pe_str (fun _ _ => rfl)) TC.cl Mlocked.m Glocked (hr.mono (by decide)) Mlocked.b .nil pass0) (pa_cons (pe_meth0 (pe_dget (hu_of hr) (pv 3) pe_str (fun _ _ => rfl)) TC.cl Mis_open.m Gis_open (hr.mono (by decide)) Mis_open.b .nil pass0) pa_nil))))
          (pss_cons (ps_lock (ps_expr (pe_bm PySem.F.plainAttrs_list PySem.F.slot_list_extend PySem.F.type_list_extend mt_extend (pv 7) (pa_cons (pe_lc (own := [("_law_one", 10)]) (g := gName 10) (tt := tYes) rfl sc_law.nd (pi_values (pe_dget (hu_of hr) (pv 3) pe_str (fun _ _ => rfl))) (blkOk_by (own := [("_law_one", 10)]) (N := ["_law_script", "_law_box_here", "_law_names_here", "_law_state", "_law_name", "_law_k", "_law_turn", "_law_told", "_law_old", "_law_again", "_law_one", "_law_at", "_law_word"]) (sc := defScope s_law) (by decide +kernel)) (fun _ _ _ _ _ => (pg_name (i := 10) sc_law.nd rfl (Or.inl rfl))) (fun _ _ _ _ _ => pts_nil) (fun _ _ _ _ _ => (pe_lst (pa_cons (pe_meth0 (pv 10) TD.cl Mright.m Gright (hr.mono (by decide)) Mright.b .nil pass0) (pa_cons (pe_meth0 (pv 10) TD.cl Mseen.m Gseen (hr.mono (by decide)) Mseen.b .nil pass0) pa_nil))))) pa_nil))))
          (pss_cons (ps_setLc (i := 8) (own := [("_law_at", 11), ("_law_word", 12)]) (g := gTup K 2 (gCons (gName 11) (gCons (gName 12) gNil))) rfl sc_law.nd rfl rfl (sw_true rfl rfl rfl (by decide +kernel)) (pi_enum (by rfl) T.enumerate_ (pa_cons (pe_dget (hu_of hr) (pv 3) pe_str (fun _ _ => rfl)) pa_nil)) (blkOk_by (own := [("_law_at", 11), ("_law_word", 12)]) (N := ["_law_script", "_law_box_here", "_law_names_here", "_law_state", "_law_name", "_law_k", "_law_turn", "_law_told", "_law_old", "_law_again", "_law_one", "_law_at", "_law_word"]) (sc := defScope s_law) (by decide +kernel)) (fun _ _ _ _ _ => (pg_tup (by rfl) (pgs_cons (pg_name (i := 11) sc_law.nd rfl (Or.inl rfl)) (pgs_cons (pg_name (i := 12) sc_law.nd rfl (Or.inl rfl)) pgs_nil)))) (fun _ _ _ _ _ => pts_one (pt_cmpR op_lt (pe_ix (ixT (K := K) rfl) (pv 12) pe_int (fun _ _ => rfl)) (pe_meth0 (pe_dget (hu_of hr) (pv 3) pe_str (fun _ _ => rfl)) TC.cl Mtimes.m Gtimes (hr.mono (by decide)) Mtimes.b .nil pass0) (nomark _))) (fun _ _ _ _ _ => (pv 11)))
          (pss_cons (ps_for PassesOwn.never rfl (pi_list (pe_slice sl_list (pv 8) (po_some (pe_un un_neg pe_int)) po_none)) (pg_name (i := 11) sc_law.nd rfl (Or.inl rfl)) (pss_one (ps_if (pt_not (pt_val (pe_call Glaw_come (hr.mono (by decide)) (by rfl) Nlaw_come.g Nlaw_come.kp Nlaw_come.b .nil pass0 (pa_cons (pv 3) (pa_cons (pv 11) pa_nil))))) (pss_one (ps_ret pe_bl)) pss_nil)))
          (pss_cons (ps_set (i := 9) sc_law.nd rfl (Or.inl rfl) (pe_lst (pa_cons (pe_meth0 (pe_dget (hu_of hr) (pv 3) pe_str (fun _ _ => rfl)) TC.cl Mlocked.m Glocked (hr.mono (by decide)) Mlocked.b .nil pass0) (pa_cons (pe_meth0 (pe_dget (hu_of hr) (pv 3) pe_str (fun _ _ => rfl)) TC.cl Mis_open.m Gis_open (hr.mono (by decide)) Mis_open.b .nil pass0) pa_nil))))
          (pss_cons (ps_lock (ps_expr (pe_bm PySem.F.plainAttrs_list PySem.F.slot_list_extend PySem.F.type_list_extend mt_extend (pv 9) (pa_cons (pe_lc (own := [("_law_one", 10)]) (g := gName 10) (tt := tYes) rfl sc_law.nd (pi_values (pe_dget (hu_of hr) (pv 3) pe_str (fun _ _ => rfl))) (blkOk_by (own := [("_law_one", 10)]) (N := ["_law_script", "_law_box_here", "_law_names_here", "_law_state", "_law_name", "_law_k", "_law_turn", "_law_told", "_law_old", "_law_again", "_law_one", "_law_at", "_law_word"]) (sc := defScope s_law) (by decide +kernel)) (fun _ _ _ _ _ => (pg_name (i := 10) sc_law.nd rfl (Or.inl rfl))) (fun _ _ _ _ _ => pts_nil) (fun _ _ _ _ _ => (pe_lst (pa_cons (pe_meth0 (pv 10) TD.cl Mright.m Gright (hr.mono (by decide)) Mright.b .nil pass0) (pa_cons (pe_meth0 (pv 10) TD.cl Mseen.m Gseen (hr.mono (by decide)) Mseen.b .nil pass0) pa_nil))))) pa_nil))))
          (pss_one (ps_if (pt_cmpR (op_neD hr.units) (pv 9) (pv 7) (nomark _)) (pss_one (ps_ret pe_bl)) pss_nil)))))))))))
      (pss_one (ps_ret pe_bl)))))), ?_⟩
    refine ⟨_, rfl, a, ns, 0, rfl, hS, fun cell => ⟨cell, rfl, fun b1 H1 nb1 off1 hb1 => ?_⟩⟩
    refine ⟨_, rfl, _, rfl, b1, 2, 0, rfl, hb1, by omega, by decide, by decide, fun d H2 d0 d1 off2 hb2 => ?_⟩
    obtain ⟨Dn, rfl⟩ := Int.eq_ofNat_of_zero_le d0
    refine ⟨_, _, rfl, rfl, b1, 1 + Dn, _, ?_, hb2, by omega, by omega, fun nms na H3 k3 hb3 zna ena lm hnm => ?_⟩
    · show [V.ref b1, V.int (1 + (Dn : Int))] = [V.ref b1, V.int ((1 + Dn : Nat) : Int)]
      rw [show ((1 : Int) + (Dn : Int)) = ((1 + Dn : Nat) : Int) by push_cast; rfl]
    have s3 : Same H H3 := fun y o e => k3 y o (ne_of_none e nb1) ((off2 y (ne_of_none e nb1)).trans ((off1 y (ne_of_none e nb1)).trans e))
    clear k3 hb3 zna hb2 off2 hb1 off1 nb1
    intro st nst
    have s4 : Same H3 (upd H3 st (.dK [])) := same_new nst
    have e4 : upd H3 st (.dK []) st = some (.dK []) := upd_same
    generalize upd H3 st (.dK []) = H4 at s4 e4 ⊢
    intro c0 dy0 nc0 nd0 _
    refine ⟨c0, dy0, rfl, upd_same, fun H5 off5 e5 => ⟨rfl, ?_⟩⟩
    have s5 : Same H4 H5 := fun y o e => by
      have n1 := ne_of_none e nc0
      rw [off5 y n1, upd_ne n1, upd_ne (ne_of_none e nd0)]
      exact e
    intro hd nhd
    have s6 : Same H5 (upd H5 hd (.dK [])) := same_new nhd
    have e6 : upd H5 hd (.dK []) hd = some (.dK []) := upd_same
    generalize upd H5 hd (.dK []) = H6 at s6 e6 ⊢
    refine ⟨(by show 0 ≤ sizeLine; decide), fun wl nwl => ?_⟩
    have s7 : Same H6 (upd H6 wl (.lst [])) := same_new nwl
    have e7 : upd H6 wl (.lst []) wl = some (.lst []) := upd_same
    generalize upd H6 wl (.lst []) = H7 at s7 e7 ⊢
    refine ⟨s7 _ _ (s6 _ _ (s5 _ _ e4)), stK c0 hd wl .non, rfl, (by show 4 ≤ 15; decide), ?_⟩
    rw [st_merge]
    have s47 := (s5.trans s6).trans s7
    have n8 : ∀ {y o}, (∀ kvs, o ≠ .dK kvs) → H7 y = some o → upd H7 st (.dK (stK c0 hd wl .non)) y = some o := fun n h => by rw [upd_ne (ne_of h (s47 _ _ e4) (n _))]; exact h
    have shd : st ≠ hd := ne_of_none (s5 _ _ e4) nhd
    have hw0 : Hw C D st H3 (upd H7 st (.dK (stK c0 hd wl .non))) (S0 c0 hd wl []) := by
      refine ⟨⟨dy0, n8 (by simp) (s7 _ _ (s6 _ _ e5))⟩, ⟨.non, upd_same, rfl⟩, ?_, fun e he => (by cases he), n8 (by simp) e7, fun e he => (by cases he), fun e he => (by cases he), .nil, shd, fun e he => (by cases he), fun y o h => ?_, s4.free nc0, nst, (s4.trans s5).free nhd, ((s4.trans s5).trans s6).free nwl, fun e he => (by cases he)⟩
      · show upd H7 st _ hd = _
        rw [upd_ne shd.symm]
        exact s7 _ _ e6
      · rw [upd_ne (ne_of_none h nst)]
        exact s47 _ _ (s4 _ _ h)
    generalize upd H7 st (.dK (stK c0 hd wl .non)) = H8 at hw0 ⊢
    clear n8 shd s47 s4 s5 s6 s7 e4 e5 e6 e7 off5 nst nc0 nd0 nhd nwl
    have ena8 := hw0.same _ _ ena
    refine ⟨_, rfl, na, rfl, ⟨_, SqL.of ena8⟩, for_list (K := K) (a := na) (xs := nms.map V.str) (fun i σ H' => ∃ (v4 : Option V) (hs : List Hl), σ = [some (.ref a), some (.ref b1), some (.ref na), some (.ref st), v4, none, none, none, none, none, none, none, none] ∧ Hw C D st H3 H' (S0 c0 hd wl hs) ∧ (hs.map (·.nm)).Nodup ∧
      hs.length ≤ i ∧ (∀ e ∈ hs, e.r = none ∧ e.s = 0) ∧ ∀ z ∈ nms.take i, z ∈ hs.map (·.nm)) ⟨_, [], rfl, hw0, .nil, Nat.le_refl _, fun e he => (by cases he), fun z hz => (by cases hz)⟩ (fun j σ H' _ ⟨_, _, _, q, _⟩ => SqL.of (q.same _ _ ena)) ?_ ?_⟩
    · clear hw0 ena8
      rintro j y σ H8 hy ⟨v4, hs, rfl, hw, nd, lh, hr, hz⟩
      obtain ⟨z, ez, rfl⟩ : ∃ z, nms[j]? = some z ∧ y = .str z := by
        rw [List.getElem?_map] at hy
        cases q : nms[j]? with
        | none => rw [q] at hy; cases hy
        | some e => rw [q] at hy; exact ⟨e, rfl, (Option.some.inj hy).symm⟩
      have hj := (List.getElem?_eq_some_iff.mp ez).1
      intro x dx nx ny _
      refine ⟨x, dx, rfl, upd_same, fun H9 off9 e9 => ⟨rfl, ?_⟩⟩
      have s9 : Same H8 H9 := fun y o e => by
        have n1 := ne_of_none e nx
        rw [off9 y n1, upd_ne n1, upd_ne (ne_of_none e ny)]
        exact e
      have hw9 := hw.go s9
      obtain ⟨uv, es, _⟩ := hw9.s_
      have gh : DGet H9 st (kV (Sum.inr "holders")) (some (.ref hd)) := st_h (k := c0) (hd := hd) (wl := wl) (uv := uv) ▸ DGet.k (k := Sum.inr ("holders" : Str)) es
      obtain ⟨hs', p1, p2, p3, p4, p5, p6, p7⟩ := add_hl (z := z) (x := x) (by omega) nd hw.he (fun e he => by obtain ⟨_, _, _, ea, _⟩ := hw.h_ e he; exact ne_of_none ea nx)
      refine ⟨_, rfl, st, _, rfl, gh, _, rfl, hd, _, rfl, DPut.k (k := Sum.inr z) hw9.d_ (by rw [List.length_map]; exact Nat.lt_of_le_of_lt (by show hs.length ≤ 1000; omega) (by decide)), ?_⟩
      have xk : x ≠ c0 := fun q => by
        obtain ⟨_, ek⟩ := hw.k_
        have ek : H8 c0 = _ := ek
        rw [← q, nx] at ek
        cases ek
      have xh : x ≠ hd := ne_of e9 hw9.d_ (by simp)
      refine ⟨_, hs', rfl, hw9.add (hs' := hs') (z := z) (x := x) (fun y o n h => ?_) ?_ ?_ p2 xk p4 (hnm z (List.mem_of_getElem? ez)) (hw.same.free nx), p3, by omega, fun e he => ?_, fun y hy => ?_⟩
      · have n : y ≠ hd := n
        rw [upd_ne n]
        exact h
      · show upd H9 hd _ hd = _
        rw [upd_same]
        exact congrArg (fun q => some (HO.dK q)) p1
      · exact ⟨dx, .non, .non, by rw [upd_ne xh]; exact e9, rfl⟩
      · rcases p2 e he with rfl | he
        · exact ⟨rfl, rfl⟩
        · exact hr e he
      · have et : nms.take (j + 1) = nms.take j ++ [z] := by
          rw [List.take_succ, ez]
          rfl
        rw [et] at hy
        rcases List.mem_append.mp hy with hy | hy
        · exact p6 y (hz y hy)
        · obtain rfl := List.mem_singleton.mp hy
          exact p7
    · rintro σ H8 ⟨v4, hs, rfl, hw, nd, lh, hr, hz⟩
      rw [List.length_map] at lh hz
      rw [List.take_of_length_le (Nat.le_refl _)] at hz
      have hlen : (ns.map V.int).length = ns.length := List.length_map ..
      refine ⟨_, rfl, a, _, rfl, .inl ((s3.trans hw.same).seq hS), _, _, rfl, _, _, rfl, ?_⟩
      obtain ⟨N, hN, N3, N61⟩ : ∃ N : Nat, (if (if (61 : Int) < (((ns.map V.int).length : Nat) : Int) then (61 : Int) else (((ns.map V.int).length : Nat) : Int)) > 3 then (if (61 : Int) < (((ns.map V.int).length : Nat) : Int) then (61 : Int) else (((ns.map V.int).length : Nat) : Int)) else 3) = (N : Int) ∧ 3 ≤ N ∧ N ≤ 61 := by
        rw [hlen]
        refine ⟨max 3 (min 61 ns.length), ?_, by omega, by omega⟩
        split <;> split <;> omega
      rw [hN]
      refine ⟨_, _, rfl, ⟨by decide, by decide, by omega, by omega⟩, ?_⟩
      have eN : ((N : Int) - 1).toNat = N - 1 := by omega
      rw [eN]
      refine for_range (lo := 1) (n := N - 1) (fun i σ H' => ∃ (v1 v4 v5 v6 v7 v8 v9 v10 v11 v12 : Option V) (S : Sy), σ = [some (.ref a), v1, some (.ref na), some (.ref st), v4, v5, v6, v7, v8, v9, v10, v11, v12] ∧ Hw C D st H3 H' S ∧ Iv (5 * i : Nat) S ∧
        S.hs.length ≤ 2 ∧ (∀ z ∈ nms, z ∈ S.hs.map (·.nm)) ∧ S.ws.length ≤ 5 * i) ⟨_, _, _, _, _, _, _, _, _, _, _, rfl, hw, iv0 nd hr, (by show hs.length ≤ 2; omega), hz, Nat.zero_le _⟩ ?_ ?_
      · clear hw nd lh hr hz hN eN
        rintro i σ H8 hi ⟨v1, v4, v5, v6, v7, v8, v9, v10, v11, v12, S, rfl, hw, iv, l2, hz, lw⟩
        refine ⟨_, rfl, _, rfl, a, ns, 1 + i, ?_, (s3.trans hw.same).seq hS, fun cell => ?_⟩
        · show [V.ref a, V.int (1 + (i : Int))] = [V.ref a, V.int ((1 + i : Nat) : Int)]
          rw [show (1 + (i : Int)) = ((1 + i : Nat) : Int) by push_cast; rfl]
        refine ⟨cell, rfl, fun b H9 nb off hb => ?_⟩
        have zb : H3 b = none := hw.same.free nb
        have hw9 := hw.go (H' := H9) fun x o e => (off x (ne_of_none e nb)).trans e
        clear hw off nb
        refine ⟨_, rfl, b, 5, _, rfl, hb, by omega, by decide, by decide, fun D0 H10 e0 e1 off10 hb10 => ?_⟩
        have hw10 := hw9.off hb zb (KB.off off10)
        obtain ⟨E', rfl⟩ := Int.eq_ofNat_of_zero_le e0
        clear hw9 hb off10
        refine ⟨_, _, rfl, rfl, _, rfl, by omega, by omega, ?_⟩
        rw [show ((1 : Int) + (E' : Int)).toNat = 1 + E' by omega]
        refine for_range (lo := 0) (n := 1 + E') (fun j σ H' => ∃ (v6 : Option V) (S : Sy), σ = [some (.ref a), some (.ref b), some (.ref na), some (.ref st), v4, some (.int (1 + (i : Int))), v6, v7, v8, v9, v10, v11, v12] ∧ Hw C D st H3 H' S ∧ Iv (5 * i + j : Nat) S ∧
          S.hs.length ≤ 2 ∧ (∀ z ∈ nms, z ∈ S.hs.map (·.nm)) ∧ S.ws.length ≤ 5 * i + j ∧ Bx b (2 + 4 * j) H') ⟨_, S, rfl, hw10, iv, l2, hz, lw, hb10.mono (by omega)⟩ ?_ ?_
        · clear hw10 iv l2 hz lw hb10 S
          rintro j σ H11 hj ⟨v6, S, rfl, hw, iv, l2, hz, lw, hb⟩
          have hi' : i < N - 1 := hi
          have hj' : j < 1 + E' := hj
          refine ⟨_, rfl, _, rfl, _, rfl, b, st, na, H3, S, _, _, nms, rfl, hb, by omega, zb, ena, by omega, by omega, hz, hw, iv, by omega, by omega, by omega, fun H12 S' hw' iv' hb' nm' lw' => ?_⟩
          have l2' : S'.hs.length ≤ 2 := by
            have := congrArg List.length nm'
            rw [List.length_map, List.length_map] at this
            omega
          refine ⟨_, rfl, iteF ?_⟩
          refine ⟨_, rfl, st, H3, S', _, rfl, hw', iv', l2', fun H13 s13 => ⟨_, rfl, iteF ?_⟩⟩
          refine ⟨_, S', rfl, hw'.go s13, iv'.mono (by push_cast; omega), l2', by rw [nm']; exact hz, by omega, ?_⟩
          obtain ⟨x1, y1, z1, q, r⟩ := hb'
          exact Bx.mono ⟨x1, y1, z1, s13 _ _ q, r⟩ (by push_cast; omega)
        · rintro σ H11 ⟨v6, S, rfl, hw, iv, l2, hz, lw, hb⟩
          refine tell_step (.inl rfl) hw l2 fun H12 L s12 zL te => ?_
          have w12 := hw.go s12
          obtain ⟨uv, es, _⟩ := w12.s_
          obtain ⟨dxk, ek⟩ := w12.k_
          have gw : DGet H12 st (kV (Sum.inr "words")) (some (.ref S.wl)) := st_w (k := S.k) (hd := S.hd) (wl := S.wl) (uv := uv) ▸ DGet.k (k := Sum.inr ("words" : Str)) es
          have no : ∀ {m : Str}, (m == "_times") = false → (m == "_to") = false → (m == "_opened") = false → (kf S.t (toV S.o) S.p).lookup m = none := fun a b c => kf_no _ _ _ a b c
          have lws : (S.ws.map fun e => V.ref e.a).length = S.ws.length := List.length_map ..
          refine ⟨_, rfl, st, _, rfl, gw, S.wl, _, rfl, SqL.of w12.w_, fun G hG => ?_⟩
          refine lc_it (walk_enum (K := K) (xs := S.ws.map fun e => V.ref e.a)) (fun q H' => ∃ js : List Nat, H' G = some (.lst (js.map fun j => V.int (j : Nat))) ∧ js.length ≤ q ∧ (∀ j ∈ js, ∃ w, S.ws[j]? = some w ∧ w.n < S.t) ∧ ∀ x o, x ≠ G → H12 x = some o → H' x = some o)
            ⟨[], upd_same, Nat.le_refl _, fun j hj => (by cases hj), fun x o nx e => by rw [upd_ne nx]; exact e⟩ ?_ ?_ ?_
          · rintro q H' _ ⟨_, _, _, _, r⟩
            exact SqL.of (r _ _ (ne_of_none w12.w_ hG) w12.w_)
          · rintro q y H13 H14 hq ⟨js, b1, b2, b3, b4⟩ hy
            obtain ⟨T', x1, x2, rfl, nT, rfl, y1, y2⟩ := hy
            obtain rfl := (Option.some.inj y1).symm
            have hq : q < (S.ws.map fun e => V.ref e.a).length := hq
            rw [lws] at hq
            obtain ⟨w, hw'⟩ : ∃ w, S.ws[q]? = some w := ⟨_, List.getElem?_eq_getElem hq⟩
            have y2 : (S.ws.map fun e => V.ref e.a)[q]? = some x2 := y2
            rw [List.getElem?_map, hw'] at y2
            obtain rfl := Option.some.inj y2
            have up4 : ∀ {y o}, y ≠ G → H12 y = some o → upd H13 T' (.tup [.int (q : Nat), .ref w.a]) y = some o := fun n h => by
              have := b4 _ _ n h
              rw [upd_ne (ne_of_none this nT)]
              exact this
            have nGT : G ≠ T' := ne_of_none b1 nT
            have b14 : upd H13 T' (.tup [.int (q : Nat), .ref w.a]) G = some (.lst (js.map fun j => V.int (j : Nat))) := by rw [upd_ne nGT]; exact b1
            have tt : upd H13 T' (.tup [.int (q : Nat), .ref w.a]) T' = some (.tup [.int (q : Nat), .ref w.a]) := upd_same
            generalize upd H13 T' (.tup [.int (q : Nat), .ref w.a]) = H14 at up4 b14 tt ⊢
            have old : ∀ {y o}, H12 y = some o → H14 y = some o := fun h => up4 (ne_of_none h hG) h
            have ew := old (w12.v_ w (List.mem_of_getElem? hw'))
            have gk : DGet H14 st (kV (Sum.inr "keeper")) (some (.ref S.k)) := st_k (k := S.k) (hd := S.hd) (wl := S.wl) (uv := uv) ▸ DGet.k (k := Sum.inr ("keeper" : Str)) (old es)
            have i1 : atI [V.str (kd w.op), .int w.n, .str w.z] 1 = some (.int w.n) := rfl
            refine ⟨T', _, rfl, SqT.of tt, rfl, _, _, rfl, _, _, rfl, rfl, ⟨rfl, ?_⟩⟩
            refine ⟨_, rfl, w.a, _, _, _, rfl, rfl, SqT.of ew, i1, _, rfl, st, _, rfl, gk, S.k, dxk, _, rfl, old ek, no (by decide +kernel) (by decide +kernel) (by decide +kernel), S.k, dxk, S.t, toV S.o, S.p, rfl, old ek, _, _, rfl, rfl, _, rfl, ?_⟩
            refine ite2 (fun c => ?_) (fun c => ?_)
            · have c := of_decide_eq_true c
              refine ⟨_, rfl, _, b14, ?_, js ++ [q], ?_, ?_, ?_, ?_⟩
              · rw [List.length_map]
                exact Nat.lt_of_le_of_lt (by omega : _ ≤ 1000) (by decide)
              · rw [upd_same, List.map_append]
                rfl
              · rw [List.length_append]
                show js.length + 1 ≤ q + 1
                omega
              · intro j hj
                rcases List.mem_append.mp hj with hj | hj
                · exact b3 j hj
                · obtain rfl := List.mem_singleton.mp hj
                  exact ⟨w, hw', c⟩
              · intro x o nx h
                rw [upd_ne nx]
                exact up4 nx h
            · exact ⟨js, b14, by omega, b3, fun x o nx h => up4 nx h⟩
          · rintro H13 ⟨js, b1, b2, b3, b4⟩
            have s13 : Same H12 H13 := fun y o h => b4 y o (ne_of_none h hG) h
            refine ⟨_, rfl, _, rfl, _, rfl, G, _, rfl, SqL.of b1, fun p np => ?_⟩
            have hx : ∀ x ∈ cutV (js.map fun j => V.int (j : Nat)) (some (-3)) none, ∃ j : Nat, x = .int (j : Nat) ∧ ∃ w, S.ws[j]? = some w ∧ w.n < S.t := fun x hx => by
              unfold cutV at hx
              obtain ⟨j, hj, rfl⟩ := List.mem_map.mp (List.mem_of_mem_drop (List.mem_of_mem_take hx))
              exact ⟨j, rfl, b3 j hj⟩
            have s14 : Same H12 (upd H13 p (.lst (cutV (js.map fun j => V.int (j : Nat)) (some (-3)) none))) := s13.trans (same_new np)
            have e14 : upd H13 p (.lst (cutV (js.map fun j => V.int (j : Nat)) (some (-3)) none)) p = some (.lst (cutV (js.map fun j => V.int (j : Nat)) (some (-3)) none)) := upd_same
            generalize upd H13 p (.lst (cutV (js.map fun j => V.int (j : Nat)) (some (-3)) none)) = H14 at s14 e14 ⊢
            refine ⟨p, rfl, ⟨_, SqL.of e14⟩, for_list (K := K) (a := p) (xs := cutV (js.map fun j => V.int (j : Nat)) (some (-3)) none) (fun q σ H' => ∃ v11 : Option V, σ = [some (.ref a), some (.ref b), some (.ref na), some (.ref st), v4, some (.int (1 + (i : Int))), v6, some (.ref L), some (.ref G), v9, v10, v11, v12] ∧ Same H14 H') ⟨_, rfl, Same.refl H14⟩
              (fun q σ H' _ ⟨_, _, s⟩ => SqL.of (s _ _ e14)) ?_ ?_⟩
            · rintro q y σ H15 hy ⟨v11, rfl, s15⟩
              obtain ⟨j, rfl, w, hj, hlt⟩ := hx y (List.mem_of_getElem? hy)
              refine ⟨_, rfl, _, rfl, st, j, H3, S, w, _, rfl, w12.go (s14.trans s15), iv, hj, fun _ H16 s16 => ⟨_, rfl, iteF ?_⟩, fun c => absurd hlt c⟩
              exact ⟨_, rfl, s15.trans s16⟩
            · rintro σ H15 ⟨v11, rfl, s15⟩
              have s15' := s14.trans s15
              refine tell_step (.inr rfl) (w12.go s15') l2 fun H16 L2 s16 zL2 te2 => ?_
              have sh : SeqAt.shaped (tellD S) = true := tell_shaped fun z hzo => (by obtain ⟨e, he, en⟩ := iv.ho z hzo; exact en ▸ (hw.nz e he).1)
              refine ⟨_, rfl, _, rfl, _, _, te2.dp, (te.go (s15'.trans s16)).dp, sh, sh, _, rfl, ?_⟩
              rw [SeqAt.eqv_refl _ (SeqAt.canLay_of_shaped sh)]
              refine iteF ?_
              exact ⟨_, _, _, _, _, _, _, _, _, _, S, rfl, (w12.go s15').go s16, iv.mono (by push_cast; omega), l2, hz, by omega⟩
      · rintro σ H8 _
        exact k _
end
end K23

set_option maxRecDepth 100000
set_option maxHeartbeats 4000000
namespace K23
open PySem PySem.Spec PyProof.Rows L2 GxR Gd TL My
theorem all_mk {l : PySem.W.OpenLaw}  {w : World} {K : PySem.W.Frag} {h : Heap} {mg : Str → Option Value} {fa C D CM CH CR CN CS f1 f2 f3 f4 f5 f6 f7 f8 f9 f10 f11 f12 f13 f14 f15 f16 f17 f18 f19 f20 f21 f22 f23 f24 f25 f26 f27 f28 f29 f30 f31 f32  : Addr} 
    (X : K.In h) (G : h.Ns mainGlobals mg) (hfa : mg "law" = some (.ref fa)) 
     {nmCM qCM : Str} {NCM : Addr} {bsCM : List Value} {snCM : List Str} {subCM : List Value} {abCM : Bool} {colCM : Option Bool} {ddCM : Option Addr} {m0CM m1CM m2CM m3CM m5CM : Option Value} {nmCH qCH : Str} {NCH : Addr} {bsCH : List Value} {snCH : List Str} {subCH : List Value} {abCH : Bool} {colCH : Option Bool} {ddCH : Option Addr} {m0CH m1CH m2CH m3CH m5CH : Option Value} {nmCR qCR : Str} {NCR : Addr} {bsCR : List Value} {snCR : List Str} {subCR : List Value} {abCR : Bool} {colCR : Option Bool} {ddCR : Option Addr} {m0CR m1CR m2CR m3CR m5CR : Option Value} {nmCN qCN : Str} {NCN : Addr} {bsCN : List Value} {snCN : List Str} {subCN : List Value} {abCN : Bool} {colCN : Option Bool} {ddCN : Option Addr} {m0CN m1CN m2CN m3CN m5CN : Option Value} {od1 an1 : Option Addr} {sl1 : Array (Option Value)} {oc1 kV1 dc1 pm1 cd1 ct1 : Value} {od2 an2 : Option Addr} {sl2 : Array (Option Value)} {oc2 kV2 dc2 pm2 cd2 ct2 : Value} {od3 an3 : Option Addr} {sl3 : Array (Option Value)} {oc3 kV3 dc3 pm3 cd3 ct3 : Value} {od4 an4 : Option Addr} {sl4 : Array (Option Value)} {oc4 kV4 dc4 pm4 cd4 ct4 : Value} {od5 an5 : Option Addr} {sl5 : Array (Option Value)} {oc5 kV5 dc5 pm5 cd5 ct5 : Value} {od6 an6 : Option Addr} {sl6 : Array (Option Value)} {oc6 kV6 dc6 pm6 cd6 ct6 : Value} {od7 an7 : Option Addr} {sl7 : Array (Option Value)} {oc7 kV7 dc7 pm7 cd7 ct7 : Value} {od8 an8 : Option Addr} {sl8 : Array (Option Value)} {oc8 kV8 dc8 pm8 cd8 ct8 : Value} {od9 an9 : Option Addr} {sl9 : Array (Option Value)} {oc9 kV9 dc9 pm9 cd9 ct9 : Value} {od10 an10 : Option Addr} {sl10 : Array (Option Value)} {oc10 kV10 dc10 pm10 cd10 ct10 : Value} {od11 an11 : Option Addr} {sl11 : Array (Option Value)} {oc11 kV11 dc11 pm11 cd11 ct11 : Value} {od12 an12 : Option Addr} {sl12 : Array (Option Value)} {oc12 kV12 dc12 pm12 cd12 ct12 : Value} {od13 an13 : Option Addr} {sl13 : Array (Option Value)} {oc13 kV13 dc13 pm13 cd13 ct13 : Value} {od14 an14 : Option Addr} {sl14 : Array (Option Value)} {oc14 kV14 dc14 pm14 cd14 ct14 : Value} {od15 an15 : Option Addr} {sl15 : Array (Option Value)} {oc15 kV15 dc15 pm15 cd15 ct15 : Value} {od16 an16 : Option Addr} {sl16 : Array (Option Value)} {oc16 kV16 dc16 pm16 cd16 ct16 : Value} {od17 an17 : Option Addr} {sl17 : Array (Option Value)} {oc17 kV17 dc17 pm17 cd17 ct17 : Value} {od18 an18 : Option Addr} {sl18 : Array (Option Value)} {oc18 kV18 dc18 pm18 cd18 ct18 : Value} {od19 an19 : Option Addr} {sl19 : Array (Option Value)} {oc19 kV19 dc19 pm19 cd19 ct19 : Value} {od20 an20 : Option Addr} {sl20 : Array (Option Value)} {oc20 kV20 dc20 pm20 cd20 ct20 : Value} {od21 an21 : Option Addr} {sl21 : Array (Option Value)} {oc21 kV21 dc21 pm21 cd21 ct21 : Value} {od22 an22 : Option Addr} {sl22 : Array (Option Value)} {oc22 kV22 dc22 pm22 cd22 ct22 : Value} {od23 an23 : Option Addr} {sl23 : Array (Option Value)} {oc23 kV23 dc23 pm23 cd23 ct23 : Value} {od24 an24 : Option Addr} {sl24 : Array (Option Value)} {oc24 kV24 dc24 pm24 cd24 ct24 : Value} {od25 an25 : Option Addr} {sl25 : Array (Option Value)} {oc25 kV25 dc25 pm25 cd25 ct25 : Value} {od26 an26 : Option Addr} {sl26 : Array (Option Value)} {oc26 kV26 dc26 pm26 cd26 ct26 : Value} {od27 an27 : Option Addr} {sl27 : Array (Option Value)} {oc27 kV27 dc27 pm27 cd27 ct27 : Value} {od28 an28 : Option Addr} {sl28 : Array (Option Value)} {oc28 kV28 dc28 pm28 cd28 ct28 : Value} {od29 an29 : Option Addr} {sl29 : Array (Option Value)} {oc29 kV29 dc29 pm29 cd29 ct29 : Value} {od30 an30 : Option Addr} {sl30 : Array (Option Value)} {oc30 kV30 dc30 pm30 cd30 ct30 : Value} {od31 an31 : Option Addr} {sl31 : Array (Option Value)} {oc31 kV31 dc31 pm31 cd31 ct31 : Value} {od32 an32 : Option Addr} {sl32 : Array (Option Value)} {oc32 kV32 dc32 pm32 cd32 ct32 : Value}
    (aC : PySem.W.nsIn K mainGlobals "Keeper" = some (some (.ref C))) (pgC : PySem.W.plainGet K C Str.empty = true) (hdC : PySem.W.hasDictIn K C = true) (poC : PySem.W.plainOver K C = true) (saC : PySem.W.findIn K (.ref C) "__setattr__" = some (some (.builtin "object.__setattr__"))) (mkC : PySem.W.makesIn K C = true) (kcC : PySem.W.keepIn K (.ref C) = true) (n0C : PySem.W.findIn K (.ref C) "_times" = some none) (n1C : PySem.W.findIn K (.ref C) "_to" = some none) (n2C : PySem.W.findIn K (.ref C) "_opened" = some none) (aD : PySem.W.nsIn K mainGlobals "Holder" = some (some (.ref D))) (pgD : PySem.W.plainGet K D Str.empty = true) (hdD : PySem.W.hasDictIn K D = true) (poD : PySem.W.plainOver K D = true) (saD : PySem.W.findIn K (.ref D) "__setattr__" = some (some (.builtin "object.__setattr__"))) (mkD : PySem.W.makesIn K D = true) (kcD : PySem.W.keepIn K (.ref D) = true) (n0D : PySem.W.findIn K (.ref D) "_right" = some none) (n1D : PySem.W.findIn K (.ref D) "_noted" = some none) (n2D : PySem.W.findIn K (.ref D) "_seen" = some none) (aCM : PySem.W.nsIn K mainGlobals "NoNumber" = some (some (.ref CM))) (xlCM : K.lookup CM = some (excClassObj nmCM qCM CM NCM bsCM [.ref CS, .type "ValueError", .type "Exception", .type "BaseException", .type "object"] true snCM subCM abCM colCM ddCM m0CM m1CM m2CM m3CM m5CM "ValueError.__new__")) (saCM : PySem.W.findIn K (.ref CM) "__setattr__" = some (some (.builtin "object.__setattr__"))) (gaCM : PySem.W.findIn K (.ref CM) "__getattribute__" = some (some (.builtin "BaseException.__getattribute__"))) (ggCM : PySem.W.findIn K (.ref CM) "__getattr__" = some none) (kcCM : PySem.W.keepIn K (.ref CM) = true) (exCM : PySem.W.subIn K (.ref CM) (.type "BaseException") = some true) (tyCM : PySem.W.typeIn K (.ref CM) = some (.type "type")) (hdCM : PySem.W.hasDictIn K CM = true) (icCM : PySem.W.isClsIn K CM = true) (coCM : PySem.W.findIn K (.ref CM) "__class__" = some (some (.builtin "object.__class__"))) (moCM : PySem.W.mroIn K CM (.type "object") = some true) (n0CM : PySem.W.findIn K (.ref CM) "found" = some none) (aCH : PySem.W.nsIn K mainGlobals "Shut" = some (some (.ref CH))) (xlCH : K.lookup CH = some (excClassObj nmCH qCH CH NCH bsCH [.ref CS, .type "ValueError", .type "Exception", .type "BaseException", .type "object"] true snCH subCH abCH colCH ddCH m0CH m1CH m2CH m3CH m5CH "ValueError.__new__")) (saCH : PySem.W.findIn K (.ref CH) "__setattr__" = some (some (.builtin "object.__setattr__"))) (gaCH : PySem.W.findIn K (.ref CH) "__getattribute__" = some (some (.builtin "BaseException.__getattribute__"))) (ggCH : PySem.W.findIn K (.ref CH) "__getattr__" = some none) (kcCH : PySem.W.keepIn K (.ref CH) = true) (exCH : PySem.W.subIn K (.ref CH) (.type "BaseException") = some true) (tyCH : PySem.W.typeIn K (.ref CH) = some (.type "type")) (hdCH : PySem.W.hasDictIn K CH = true) (icCH : PySem.W.isClsIn K CH = true) (coCH : PySem.W.findIn K (.ref CH) "__class__" = some (some (.builtin "object.__class__"))) (moCH : PySem.W.mroIn K CH (.type "object") = some true) (n0CH : PySem.W.findIn K (.ref CH) "found" = some none) (aCR : PySem.W.nsIn K mainGlobals "NoRight" = some (some (.ref CR))) (xlCR : K.lookup CR = some (excClassObj nmCR qCR CR NCR bsCR [.ref CS, .type "ValueError", .type "Exception", .type "BaseException", .type "object"] true snCR subCR abCR colCR ddCR m0CR m1CR m2CR m3CR m5CR "ValueError.__new__")) (saCR : PySem.W.findIn K (.ref CR) "__setattr__" = some (some (.builtin "object.__setattr__"))) (gaCR : PySem.W.findIn K (.ref CR) "__getattribute__" = some (some (.builtin "BaseException.__getattribute__"))) (ggCR : PySem.W.findIn K (.ref CR) "__getattr__" = some none) (kcCR : PySem.W.keepIn K (.ref CR) = true) (exCR : PySem.W.subIn K (.ref CR) (.type "BaseException") = some true) (tyCR : PySem.W.typeIn K (.ref CR) = some (.type "type")) (hdCR : PySem.W.hasDictIn K CR = true) (icCR : PySem.W.isClsIn K CR = true) (coCR : PySem.W.findIn K (.ref CR) "__class__" = some (some (.builtin "object.__class__"))) (moCR : PySem.W.mroIn K CR (.type "object") = some true) (n0CR : PySem.W.findIn K (.ref CR) "found" = some none) (aCN : PySem.W.nsIn K mainGlobals "NotShut" = some (some (.ref CN))) (xlCN : K.lookup CN = some (excClassObj nmCN qCN CN NCN bsCN [.ref CS, .type "ValueError", .type "Exception", .type "BaseException", .type "object"] true snCN subCN abCN colCN ddCN m0CN m1CN m2CN m3CN m5CN "ValueError.__new__")) (saCN : PySem.W.findIn K (.ref CN) "__setattr__" = some (some (.builtin "object.__setattr__"))) (gaCN : PySem.W.findIn K (.ref CN) "__getattribute__" = some (some (.builtin "BaseException.__getattribute__"))) (ggCN : PySem.W.findIn K (.ref CN) "__getattr__" = some none) (kcCN : PySem.W.keepIn K (.ref CN) = true) (exCN : PySem.W.subIn K (.ref CN) (.type "BaseException") = some true) (tyCN : PySem.W.typeIn K (.ref CN) = some (.type "type")) (hdCN : PySem.W.hasDictIn K CN = true) (icCN : PySem.W.isClsIn K CN = true) (coCN : PySem.W.findIn K (.ref CN) "__class__" = some (some (.builtin "object.__class__"))) (moCN : PySem.W.mroIn K CN (.type "object") = some true) (n0CN : PySem.W.findIn K (.ref CN) "found" = some none) (a1 : PySem.W.findIn K (.ref CS) "__init__" = some (some (.ref f1))) (i1 : PySem.W.isFn K (.ref f1) = true) (l1 : K.lookup f1 = some ⟨oc1, od1, .func (PySem.W.fnOf "__init__" "StaffError.__init__" (defArgs sSE) (defBody sSE) (defScope sSE) .none kV1 dc1 pm1 an1 cd1 ct1), sl1⟩) (c1 : PySem.W.codeIn K cd1 "StaffError.__init__" = true) (k1 : PySem.W.keepIn K (.ref f1) = true) (a2 : PySem.W.findIn K (.ref CM) "__init__" = some (some (.ref f2))) (i2 : PySem.W.isFn K (.ref f2) = true) (l2 : K.lookup f2 = some ⟨oc2, od2, .func (PySem.W.fnOf "__init__" "NoNumber.__init__" (defArgs sNoNumber) (defBody sNoNumber) (defScope sNoNumber) .none kV2 dc2 pm2 an2 cd2 ct2), sl2⟩) (c2 : PySem.W.codeIn K cd2 "NoNumber.__init__" = true) (k2 : PySem.W.keepIn K (.ref f2) = true) (a3 : PySem.W.findIn K (.ref CH) "__init__" = some (some (.ref f3))) (i3 : PySem.W.isFn K (.ref f3) = true) (l3 : K.lookup f3 = some ⟨oc3, od3, .func (PySem.W.fnOf "__init__" "Shut.__init__" (defArgs sShut) (defBody sShut) (defScope sShut) .none kV3 dc3 pm3 an3 cd3 ct3), sl3⟩) (c3 : PySem.W.codeIn K cd3 "Shut.__init__" = true) (k3 : PySem.W.keepIn K (.ref f3) = true) (a4 : PySem.W.findIn K (.ref CR) "__init__" = some (some (.ref f4))) (i4 : PySem.W.isFn K (.ref f4) = true) (l4 : K.lookup f4 = some ⟨oc4, od4, .func (PySem.W.fnOf "__init__" "NoRight.__init__" (defArgs sNoRight) (defBody sNoRight) (defScope sNoRight) .none kV4 dc4 pm4 an4 cd4 ct4), sl4⟩) (c4 : PySem.W.codeIn K cd4 "NoRight.__init__" = true) (k4 : PySem.W.keepIn K (.ref f4) = true) (a5 : PySem.W.findIn K (.ref CN) "__init__" = some (some (.ref f5))) (i5 : PySem.W.isFn K (.ref f5) = true) (l5 : K.lookup f5 = some ⟨oc5, od5, .func (PySem.W.fnOf "__init__" "NotShut.__init__" (defArgs sNotShut) (defBody sNotShut) (defScope sNotShut) .none kV5 dc5 pm5 an5 cd5 ct5), sl5⟩) (c5 : PySem.W.codeIn K cd5 "NotShut.__init__" = true) (k5 : PySem.W.keepIn K (.ref f5) = true) (a6 : PySem.W.nsIn K mainGlobals "is_whole" = some (some (.ref f6))) (l6 : K.lookup f6 = some ⟨oc6, od6, .func (PySem.W.fnOf "is_whole" "is_whole" (defArgs sWhole) (defBody sWhole) (defScope sWhole) .none kV6 dc6 pm6 an6 cd6 ct6), sl6⟩) (c6 : PySem.W.codeIn K cd6 "is_whole" = true) (k6 : PySem.W.keepIn K (.ref f6) = true) (a7 : PySem.W.findIn K (.ref C) "__init__" = some (some (.ref f7))) (i7 : PySem.W.isFn K (.ref f7) = true) (l7 : K.lookup f7 = some ⟨oc7, od7, .func (PySem.W.fnOf "__init__" "Keeper.__init__" (defArgs s_init) (defBody s_init) (defScope s_init) .none kV7 dc7 pm7 an7 cd7 ct7), sl7⟩) (c7 : PySem.W.codeIn K cd7 "Keeper.__init__" = true) (k7 : PySem.W.keepIn K (.ref f7) = true) (a8 : PySem.W.findIn K (.ref C) "lock" = some (some (.ref f8))) (i8 : PySem.W.isFn K (.ref f8) = true) (l8 : K.lookup f8 = some ⟨oc8, od8, .func (PySem.W.fnOf "lock" "Keeper.lock" (defArgs s_lock) (defBody s_lock) (defScope s_lock) .none kV8 dc8 pm8 an8 cd8 ct8), sl8⟩) (c8 : PySem.W.codeIn K cd8 "Keeper.lock" = true) (k8 : PySem.W.keepIn K (.ref f8) = true) (a9 : PySem.W.findIn K (.ref C) "locked" = some (some (.ref f9))) (i9 : PySem.W.isFn K (.ref f9) = true) (l9 : K.lookup f9 = some ⟨oc9, od9, .func (PySem.W.fnOf "locked" "Keeper.locked" (defArgs s_locked) (defBody s_locked) (defScope s_locked) .none kV9 dc9 pm9 an9 cd9 ct9), sl9⟩) (c9 : PySem.W.codeIn K cd9 "Keeper.locked" = true) (k9 : PySem.W.keepIn K (.ref f9) = true) (a10 : PySem.W.findIn K (.ref C) "_is_locked_by" = some (some (.ref f10))) (i10 : PySem.W.isFn K (.ref f10) = true) (l10 : K.lookup f10 = some ⟨oc10, od10, .func (PySem.W.fnOf "_is_locked_by" "Keeper._is_locked_by" (defArgs s_is_locked_by) (defBody s_is_locked_by) (defScope s_is_locked_by) .none kV10 dc10 pm10 an10 cd10 ct10), sl10⟩) (c10 : PySem.W.codeIn K cd10 "Keeper._is_locked_by" = true) (k10 : PySem.W.keepIn K (.ref f10) = true) (a11 : PySem.W.findIn K (.ref C) "_free" = some (some (.ref f11))) (i11 : PySem.W.isFn K (.ref f11) = true) (l11 : K.lookup f11 = some ⟨oc11, od11, .func (PySem.W.fnOf "_free" "Keeper._free" (defArgs s_free) (defBody s_free) (defScope s_free) .none kV11 dc11 pm11 an11 cd11 ct11), sl11⟩) (c11 : PySem.W.codeIn K cd11 "Keeper._free" = true) (k11 : PySem.W.keepIn K (.ref f11) = true) (a12 : PySem.W.findIn K (.ref C) "opens" = some (some (.ref f12))) (i12 : PySem.W.isFn K (.ref f12) = true) (l12 : K.lookup f12 = some ⟨oc12, od12, .func (PySem.W.fnOf "opens" "Keeper.opens" (defArgs s_opens) (defBody s_opens) (defScope s_opens) .none kV12 dc12 pm12 an12 cd12 ct12), sl12⟩) (c12 : PySem.W.codeIn K cd12 "Keeper.opens" = true) (k12 : PySem.W.keepIn K (.ref f12) = true) (a13 : PySem.W.findIn K (.ref C) "is_open" = some (some (.ref f13))) (i13 : PySem.W.isFn K (.ref f13) = true) (l13 : K.lookup f13 = some ⟨oc13, od13, .func (PySem.W.fnOf "is_open" "Keeper.is_open" (defArgs s_is_open) (defBody s_is_open) (defScope s_is_open) .none kV13 dc13 pm13 an13 cd13 ct13), sl13⟩) (c13 : PySem.W.codeIn K cd13 "Keeper.is_open" = true) (k13 : PySem.W.keepIn K (.ref f13) = true) (a14 : PySem.W.findIn K (.ref C) "unlock" = some (some (.ref f14))) (i14 : PySem.W.isFn K (.ref f14) = true) (l14 : K.lookup f14 = some ⟨oc14, od14, .func (PySem.W.fnOf "unlock" "Keeper.unlock" (defArgs s_unlock) (defBody s_unlock) (defScope s_unlock) .none kV14 dc14 pm14 an14 cd14 ct14), sl14⟩) (c14 : PySem.W.codeIn K cd14 "Keeper.unlock" = true) (k14 : PySem.W.keepIn K (.ref f14) = true) (a15 : PySem.W.findIn K (.ref C) "ended" = some (some (.ref f15))) (i15 : PySem.W.isFn K (.ref f15) = true) (l15 : K.lookup f15 = some ⟨oc15, od15, .func (PySem.W.fnOf "ended" "Keeper.ended" (defArgs s_ended) (defBody s_ended) (defScope s_ended) .none kV15 dc15 pm15 an15 cd15 ct15), sl15⟩) (c15 : PySem.W.codeIn K cd15 "Keeper.ended" = true) (k15 : PySem.W.keepIn K (.ref f15) = true) (a16 : PySem.W.findIn K (.ref C) "times" = some (some (.ref f16))) (i16 : PySem.W.isFn K (.ref f16) = true) (l16 : K.lookup f16 = some ⟨oc16, od16, .func (PySem.W.fnOf "times" "Keeper.times" (defArgs s_times) (defBody s_times) (defScope s_times) .none kV16 dc16 pm16 an16 cd16 ct16), sl16⟩) (c16 : PySem.W.codeIn K cd16 "Keeper.times" = true) (k16 : PySem.W.keepIn K (.ref f16) = true) (a17 : PySem.W.findIn K (.ref D) "__init__" = some (some (.ref f17))) (i17 : PySem.W.isFn K (.ref f17) = true) (l17 : K.lookup f17 = some ⟨oc17, od17, .func (PySem.W.fnOf "__init__" "Holder.__init__" (defArgs K23H.s_init) (defBody K23H.s_init) (defScope K23H.s_init) .none kV17 dc17 pm17 an17 cd17 ct17), sl17⟩) (c17 : PySem.W.codeIn K cd17 "Holder.__init__" = true) (k17 : PySem.W.keepIn K (.ref f17) = true) (a18 : PySem.W.findIn K (.ref D) "got" = some (some (.ref f18))) (i18 : PySem.W.isFn K (.ref f18) = true) (l18 : K.lookup f18 = some ⟨oc18, od18, .func (PySem.W.fnOf "got" "Holder.got" (defArgs K23H.s_got) (defBody K23H.s_got) (defScope K23H.s_got) .none kV18 dc18 pm18 an18 cd18 ct18), sl18⟩) (c18 : PySem.W.codeIn K cd18 "Holder.got" = true) (k18 : PySem.W.keepIn K (.ref f18) = true) (a19 : PySem.W.findIn K (.ref D) "right" = some (some (.ref f19))) (i19 : PySem.W.isFn K (.ref f19) = true) (l19 : K.lookup f19 = some ⟨oc19, od19, .func (PySem.W.fnOf "right" "Holder.right" (defArgs K23H.s_right) (defBody K23H.s_right) (defScope K23H.s_right) .none kV19 dc19 pm19 an19 cd19 ct19), sl19⟩) (c19 : PySem.W.codeIn K cd19 "Holder.right" = true) (k19 : PySem.W.keepIn K (.ref f19) = true) (a20 : PySem.W.findIn K (.ref D) "use" = some (some (.ref f20))) (i20 : PySem.W.isFn K (.ref f20) = true) (l20 : K.lookup f20 = some ⟨oc20, od20, .func (PySem.W.fnOf "use" "Holder.use" (defArgs K23H.s_use) (defBody K23H.s_use) (defScope K23H.s_use) .none kV20 dc20 pm20 an20 cd20 ct20), sl20⟩) (c20 : PySem.W.codeIn K cd20 "Holder.use" = true) (k20 : PySem.W.keepIn K (.ref f20) = true) (a21 : PySem.W.findIn K (.ref D) "give" = some (some (.ref f21))) (i21 : PySem.W.isFn K (.ref f21) = true) (l21 : K.lookup f21 = some ⟨oc21, od21, .func (PySem.W.fnOf "give" "Holder.give" (defArgs K23H.s_give) (defBody K23H.s_give) (defScope K23H.s_give) .none kV21 dc21 pm21 an21 cd21 ct21), sl21⟩) (c21 : PySem.W.codeIn K cd21 "Holder.give" = true) (k21 : PySem.W.keepIn K (.ref f21) = true) (a22 : PySem.W.findIn K (.ref D) "note" = some (some (.ref f22))) (i22 : PySem.W.isFn K (.ref f22) = true) (l22 : K.lookup f22 = some ⟨oc22, od22, .func (PySem.W.fnOf "note" "Holder.note" (defArgs K23H.s_note) (defBody K23H.s_note) (defScope K23H.s_note) .none kV22 dc22 pm22 an22 cd22 ct22), sl22⟩) (c22 : PySem.W.codeIn K cd22 "Holder.note" = true) (k22 : PySem.W.keepIn K (.ref f22) = true) (a23 : PySem.W.findIn K (.ref D) "seen" = some (some (.ref f23))) (i23 : PySem.W.isFn K (.ref f23) = true) (l23 : K.lookup f23 = some ⟨oc23, od23, .func (PySem.W.fnOf "seen" "Holder.seen" (defArgs K23H.s_seen) (defBody K23H.s_seen) (defScope K23H.s_seen) .none kV23 dc23 pm23 an23 cd23 ct23), sl23⟩) (c23 : PySem.W.codeIn K cd23 "Holder.seen" = true) (k23 : PySem.W.keepIn K (.ref f23) = true) (a24 : PySem.W.nsIn K mainGlobals "_law_cell" = some (some (.ref f24))) (l24 : K.lookup f24 = some ⟨oc24, od24, .func (PySem.W.fnOf "_law_cell" "_law_cell" (defArgs sCell) (defBody sCell) (defScope sCell) .none kV24 dc24 pm24 an24 cd24 ct24), sl24⟩) (c24 : PySem.W.codeIn K cd24 "_law_cell" = true) (k24 : PySem.W.keepIn K (.ref f24) = true) (a25 : PySem.W.nsIn K mainGlobals "_law_box" = some (some (.ref f25))) (l25 : K.lookup f25 = some ⟨oc25, od25, .func (PySem.W.fnOf "_law_box" "_law_box" (defArgs sBox) (defBody sBox) (defScope sBox) .none kV25 dc25 pm25 an25 cd25 ct25), sl25⟩) (c25 : PySem.W.codeIn K cd25 "_law_box" = true) (k25 : PySem.W.keepIn K (.ref f25) = true) (a26 : PySem.W.nsIn K mainGlobals "_law_take" = some (some (.ref f26))) (l26 : K.lookup f26 = some ⟨oc26, od26, .func (PySem.W.fnOf "_law_take" "_law_take" (defArgs sTake) (defBody sTake) (defScope sTake) .none kV26 dc26 pm26 an26 cd26 ct26), sl26⟩) (c26 : PySem.W.codeIn K cd26 "_law_take" = true) (k26 : PySem.W.keepIn K (.ref f26) = true) (a27 : PySem.W.nsIn K mainGlobals "_law_names" = some (some (.ref f27))) (l27 : K.lookup f27 = some ⟨oc27, od27, .func (PySem.W.fnOf "_law_names" "_law_names" (defArgs s_law_names) (defBody s_law_names) (defScope s_law_names) .none kV27 dc27 pm27 an27 cd27 ct27), sl27⟩) (c27 : PySem.W.codeIn K cd27 "_law_names" = true) (k27 : PySem.W.keepIn K (.ref f27) = true) (a28 : PySem.W.nsIn K mainGlobals "_law_tried" = some (some (.ref f28))) (l28 : K.lookup f28 = some ⟨oc28, od28, .func (PySem.W.fnOf "_law_tried" "_law_tried" (defArgs s_law_tried) (defBody s_law_tried) (defScope s_law_tried) .none kV28 dc28 pm28 an28 cd28 ct28), sl28⟩) (c28 : PySem.W.codeIn K cd28 "_law_tried" = true) (k28 : PySem.W.keepIn K (.ref f28) = true) (a29 : PySem.W.nsIn K mainGlobals "_law_come" = some (some (.ref f29))) (l29 : K.lookup f29 = some ⟨oc29, od29, .func (PySem.W.fnOf "_law_come" "_law_come" (defArgs s_law_come) (defBody s_law_come) (defScope s_law_come) .none kV29 dc29 pm29 an29 cd29 ct29), sl29⟩) (c29 : PySem.W.codeIn K cd29 "_law_come" = true) (k29 : PySem.W.keepIn K (.ref f29) = true) (a30 : PySem.W.nsIn K mainGlobals "_law_done" = some (some (.ref f30))) (l30 : K.lookup f30 = some ⟨oc30, od30, .func (PySem.W.fnOf "_law_done" "_law_done" (defArgs s_law_done) (defBody s_law_done) (defScope s_law_done) .none kV30 dc30 pm30 an30 cd30 ct30), sl30⟩) (c30 : PySem.W.codeIn K cd30 "_law_done" = true) (k30 : PySem.W.keepIn K (.ref f30) = true) (a31 : PySem.W.nsIn K mainGlobals "_law_safe" = some (some (.ref f31))) (l31 : K.lookup f31 = some ⟨oc31, od31, .func (PySem.W.fnOf "_law_safe" "_law_safe" (defArgs s_law_safe) (defBody s_law_safe) (defScope s_law_safe) .none kV31 dc31 pm31 an31 cd31 ct31), sl31⟩) (c31 : PySem.W.codeIn K cd31 "_law_safe" = true) (k31 : PySem.W.keepIn K (.ref f31) = true) (a32 : PySem.W.nsIn K mainGlobals "law" = some (some (.ref f32))) (l32 : K.lookup f32 = some ⟨oc32, od32, .func (PySem.W.fnOf "law" "law" (defArgs s_law) (defBody s_law) (defScope s_law) .none kV32 dc32 pm32 an32 cd32 ct32), sl32⟩) (c32 : PySem.W.codeIn K cd32 "law" = true) (k32 : PySem.W.keepIn K (.ref f32) = true) (z0 : PySem.W.nsIn K mainGlobals "isinstance" = some none) (z1 : PySem.W.nsIn K mainGlobals "int" = some none) (z2 : PySem.W.nsIn K mainGlobals "bool" = some none) (z3 : PySem.W.nsIn K mainGlobals "str" = some none) (z4 : PySem.W.nsIn K mainGlobals "len" = some none) (z5 : PySem.W.nsIn K mainGlobals "all" = some none) (z6 : PySem.W.nsIn K mainGlobals "max" = some none) (z7 : PySem.W.nsIn K mainGlobals "min" = some none) (z8 : PySem.W.nsIn K mainGlobals "range" = some none) (z9 : PySem.W.nsIn K mainGlobals "repr" = some none) (z10 : PySem.W.nsIn K mainGlobals "list" = some none) (z11 : PySem.W.nsIn K mainGlobals "tuple" = some none) (z12 : PySem.W.nsIn K mainGlobals "enumerate" = some none) (z13 : PySem.W.nsIn K mainGlobals "sorted" = some none) (z14 : PySem.W.nsIn K mainGlobals "dict" = some none) (z15 : PySem.W.nsIn K mainGlobals "ValueError" = some none) (aCS : PySem.W.nsIn K mainGlobals "StaffError" = some (some (.ref CS))) (gaCS : PySem.W.specialIn K (.ref CS) "__getattribute__" = some (some (.builtin "type.__getattribute__"))) (rdCS : PySem.W.readsIn K CS (.type "type") = true) (atCS : PySem.W.findCls K (.ref CS) (.type "type") "__init__" = some (.val (.ref f1))) (vi : PySem.W.findCls K (.type "ValueError") (.type "type") "__init__" = some (.val (.builtin "ValueError.__init__"))) (xHN : PySem.W.exmOne K (.ref CH) (.ref CN) = some false) (xHR : PySem.W.exmOne K (.ref CH) (.ref CR) = some false) (xNH : PySem.W.exmOne K (.ref CN) (.ref CH) = some false) (xNR : PySem.W.exmOne K (.ref CN) (.ref CR) = some false) (xRH : PySem.W.exmOne K (.ref CR) (.ref CH) = some false) (xRN : PySem.W.exmOne K (.ref CR) (.ref CN) = some false) (cg : PySem.W.specialIn K (.builtin "object.__class__") "__get__" = some (some (.builtin "getset_descriptor.__get__"))) (ct : PySem.W.takesIn K (.builtin "object.__class__") = some true) (smN : K.lookup sysModules = none) :
    GLawS l w K CX0 8 63 "_law_script" mg fa := by
  have e := hfa.symm.trans (PySem.W.mg_of X G a32)
  cases e
  have T : Txt mg := ⟨PySem.W.mg_none_of X G z0, PySem.W.mg_none_of X G z1, PySem.W.mg_none_of X G z2, PySem.W.mg_none_of X G z3, PySem.W.mg_none_of X G z4, PySem.W.mg_none_of X G z5, PySem.W.mg_none_of X G z6, PySem.W.mg_none_of X G z7, PySem.W.mg_none_of X G z8, PySem.W.mg_none_of X G z9, PySem.W.mg_none_of X G z10, PySem.W.mg_none_of X G z11, PySem.W.mg_none_of X G z12, PySem.W.mg_none_of X G z13, PySem.W.mg_none_of X G z14⟩
  have seCM : PySem.W.subIn K (.ref CM) (.ref CM) = some true := My.sub_self (by unfold PySem.W.clsIn; rw [xlCM] <;> rfl) rfl
  have seCH : PySem.W.subIn K (.ref CH) (.ref CH) = some true := My.sub_self (by unfold PySem.W.clsIn; rw [xlCH] <;> rfl) rfl
  have seCR : PySem.W.subIn K (.ref CR) (.ref CR) = some true := My.sub_self (by unfold PySem.W.clsIn; rw [xlCR] <;> rfl) rfl
  have seCN : PySem.W.subIn K (.ref CN) (.ref CN) = some true := My.sub_self (by unfold PySem.W.clsIn; rw [xlCN] <;> rfl) rfl
  have F1 := fun_mk (st := sSE) l1 c1 k1
  have b1 := F1.binds (ps := ["self", "text"]) fun _ _ _ _ _ _ us hl => match us, hl with | [_, _], _ => rfl
  have F2 := fun_mk (st := sNoNumber) l2 c2 k2
  have b2 := F2.binds (ps := ["self", "found"]) fun _ _ _ _ _ _ us hl => match us, hl with | [_, _], _ => rfl
  have F3 := fun_mk (st := sShut) l3 c3 k3
  have b3 := F3.binds (ps := ["self", "found"]) fun _ _ _ _ _ _ us hl => match us, hl with | [_, _], _ => rfl
  have F4 := fun_mk (st := sNoRight) l4 c4 k4
  have b4 := F4.binds (ps := ["self", "found"]) fun _ _ _ _ _ _ us hl => match us, hl with | [_, _], _ => rfl
  have F5 := fun_mk (st := sNotShut) l5 c5 k5
  have b5 := F5.binds (ps := ["self", "found"]) fun _ _ _ _ _ _ us hl => match us, hl with | [_, _], _ => rfl
  have F6 := fun_mk (st := sWhole) l6 c6 k6
  have b6 := F6.binds (ps := ["thing", "low", "high"]) fun _ _ _ _ _ _ us hl => match us, hl with | [_, _, _], _ => rfl
  have F7 := fun_mk (st := s_init) l7 c7 k7
  have b7 := F7.binds (ps := ["self"]) fun _ _ _ _ _ _ us hl => match us, hl with | [_], _ => rfl
  have F8 := fun_mk (st := s_lock) l8 c8 k8
  have b8 := F8.binds (ps := ["self", "to"]) fun _ _ _ _ _ _ us hl => match us, hl with | [_, _], _ => rfl
  have F9 := fun_mk (st := s_locked) l9 c9 k9
  have b9 := F9.binds (ps := ["self"]) fun _ _ _ _ _ _ us hl => match us, hl with | [_], _ => rfl
  have F10 := fun_mk (st := s_is_locked_by) l10 c10 k10
  have b10 := F10.binds (ps := ["self", "number"]) fun _ _ _ _ _ _ us hl => match us, hl with | [_, _], _ => rfl
  have F11 := fun_mk (st := s_free) l11 c11 k11
  have b11 := F11.binds (ps := ["self"]) fun _ _ _ _ _ _ us hl => match us, hl with | [_], _ => rfl
  have F12 := fun_mk (st := s_opens) l12 c12 k12
  have b12 := F12.binds (ps := ["self", "number"]) fun _ _ _ _ _ _ us hl => match us, hl with | [_, _], _ => rfl
  have F13 := fun_mk (st := s_is_open) l13 c13 k13
  have b13 := F13.binds (ps := ["self"]) fun _ _ _ _ _ _ us hl => match us, hl with | [_], _ => rfl
  have F14 := fun_mk (st := s_unlock) l14 c14 k14
  have b14 := F14.binds (ps := ["self"]) fun _ _ _ _ _ _ us hl => match us, hl with | [_], _ => rfl
  have F15 := fun_mk (st := s_ended) l15 c15 k15
  have b15 := F15.binds (ps := ["self", "number"]) fun _ _ _ _ _ _ us hl => match us, hl with | [_, _], _ => rfl
  have F16 := fun_mk (st := s_times) l16 c16 k16
  have b16 := F16.binds (ps := ["self"]) fun _ _ _ _ _ _ us hl => match us, hl with | [_], _ => rfl
  have F17 := fun_mk (st := K23H.s_init) l17 c17 k17
  have b17 := F17.binds (ps := ["self"]) fun _ _ _ _ _ _ us hl => match us, hl with | [_], _ => rfl
  have F18 := fun_mk (st := K23H.s_got) l18 c18 k18
  have b18 := F18.binds (ps := ["self", "number", "place"]) fun _ _ _ _ _ _ us hl => match us, hl with | [_, _, _], _ => rfl
  have F19 := fun_mk (st := K23H.s_right) l19 c19 k19
  have b19 := F19.binds (ps := ["self"]) fun _ _ _ _ _ _ us hl => match us, hl with | [_], _ => rfl
  have F20 := fun_mk (st := K23H.s_use) l20 c20 k20
  have b20 := F20.binds (ps := ["self"]) fun _ _ _ _ _ _ us hl => match us, hl with | [_], _ => rfl
  have F21 := fun_mk (st := K23H.s_give) l21 c21 k21
  have b21 := F21.binds (ps := ["self"]) fun _ _ _ _ _ _ us hl => match us, hl with | [_], _ => rfl
  have F22 := fun_mk (st := K23H.s_note) l22 c22 k22
  have b22 := F22.binds (ps := ["self", "number", "place"]) fun _ _ _ _ _ _ us hl => match us, hl with | [_, _, _], _ => rfl
  have F23 := fun_mk (st := K23H.s_seen) l23 c23 k23
  have b23 := F23.binds (ps := ["self"]) fun _ _ _ _ _ _ us hl => match us, hl with | [_], _ => rfl
  have F24 := fun_mk (st := sCell) l24 c24 k24
  have b24 := F24.binds (ps := ["_law_script", "_law_k"]) fun _ _ _ _ _ _ us hl => match us, hl with | [_, _], _ => rfl
  have F25 := fun_mk (st := sBox) l25 c25 k25
  have b25 := F25.binds (ps := ["_law_cell_here"]) fun _ _ _ _ _ _ us hl => match us, hl with | [_], _ => rfl
  have F26 := fun_mk (st := sTake) l26 c26 k26
  have b26 := F26.binds (ps := ["_law_box_here", "_law_many"]) fun _ _ _ _ _ _ us hl => match us, hl with | [_, _], _ => rfl
  have F27 := fun_mk (st := s_law_names) l27 c27 k27
  have b27 := F27.binds (ps := ["_law_box_here", "_law_many"]) fun _ _ _ _ _ _ us hl => match us, hl with | [_, _], _ => rfl
  have F28 := fun_mk (st := s_law_tried) l28 c28 k28
  have b28 := F28.binds (ps := ["_law_keeper", "_law_holder", "_law_way", "_law_place"]) fun _ _ _ _ _ _ us hl => match us, hl with | [_, _, _, _], _ => rfl
  have F29 := fun_mk (st := s_law_come) l29 c29 k29
  have b29 := F29.binds (ps := ["_law_state", "_law_at"]) fun _ _ _ _ _ _ us hl => match us, hl with | [_, _], _ => rfl
  have F30 := fun_mk (st := s_law_done) l30 c30 k30
  have b30 := F30.binds (ps := ["_law_box_here", "_law_state", "_law_names_here"]) fun _ _ _ _ _ _ us hl => match us, hl with | [_, _, _], _ => rfl
  have F31 := fun_mk (st := s_law_safe) l31 c31 k31
  have b31 := F31.binds (ps := ["_law_state"]) fun _ _ _ _ _ _ us hl => match us, hl with | [_], _ => rfl
  have F32 := fun_mk (st := s_law) l32 c32 k32
  have TC : KeeT K C := ⟨⟨pgC, hdC, poC, saC⟩, n0C, n1C, n2C⟩
  have TD : K23H.HolT K D := ⟨⟨pgD, hdD, poD, saD⟩, n0D, n1D, n2D⟩
  have ES : SeT K mg CS f1 _ sSE := ⟨PySem.W.mg_none_of X G z15, vi, PySem.W.mg_of X G aCS, ⟨gaCS, rdCS, atCS⟩, k1, F1, b1⟩
  have EM : ExC K mg "NoNumber" "NoNumber.__init__" sNoNumber CM f2 _ := ⟨PySem.W.mg_of X G aCM, F2, b2, ⟨⟨nmCM, qCM, NCM, bsCM, _, snCM, subCM, abCM, colCM, ddCM, m0CM, m1CM, m2CM, m3CM, m5CM, xlCM, rfl⟩, saCM, exCM, tyCM, kcCM⟩, a2, (beq_iff_eq.mp i2), n0CM, PySem.W.exm_ref exCM hdCM tyCM seCM, ⟨gaCM, ggCM, exCM, hdCM⟩, ⟨icCM, gaCM, ggCM, exCM, coCM, cg, ct, moCM⟩⟩
  have EH : ExC K mg "Shut" "Shut.__init__" sShut CH f3 _ := ⟨PySem.W.mg_of X G aCH, F3, b3, ⟨⟨nmCH, qCH, NCH, bsCH, _, snCH, subCH, abCH, colCH, ddCH, m0CH, m1CH, m2CH, m3CH, m5CH, xlCH, rfl⟩, saCH, exCH, tyCH, kcCH⟩, a3, (beq_iff_eq.mp i3), n0CH, PySem.W.exm_ref exCH hdCH tyCH seCH, ⟨gaCH, ggCH, exCH, hdCH⟩, ⟨icCH, gaCH, ggCH, exCH, coCH, cg, ct, moCH⟩⟩
  have ER : ExC K mg "NoRight" "NoRight.__init__" sNoRight CR f4 _ := ⟨PySem.W.mg_of X G aCR, F4, b4, ⟨⟨nmCR, qCR, NCR, bsCR, _, snCR, subCR, abCR, colCR, ddCR, m0CR, m1CR, m2CR, m3CR, m5CR, xlCR, rfl⟩, saCR, exCR, tyCR, kcCR⟩, a4, (beq_iff_eq.mp i4), n0CR, PySem.W.exm_ref exCR hdCR tyCR seCR, ⟨gaCR, ggCR, exCR, hdCR⟩, ⟨icCR, gaCR, ggCR, exCR, coCR, cg, ct, moCR⟩⟩
  have EN : ExC K mg "NotShut" "NotShut.__init__" sNotShut CN f5 _ := ⟨PySem.W.mg_of X G aCN, F5, b5, ⟨⟨nmCN, qCN, NCN, bsCN, _, snCN, subCN, abCN, colCN, ddCN, m0CN, m1CN, m2CN, m3CN, m5CN, xlCN, rfl⟩, saCN, exCN, tyCN, kcCN⟩, a5, (beq_iff_eq.mp i5), n0CN, PySem.W.exm_ref exCN hdCN tyCN seCN, ⟨gaCN, ggCN, exCN, hdCN⟩, ⟨icCN, gaCN, ggCN, exCN, coCN, cg, ct, moCN⟩⟩
  have aH : PySem.W.exmAny K (.ref CH) [.ref CH, .ref CN, .ref CR] = some true := by simp [PySem.W.exmAny, EH.e, xHN, xHR]
  have aN : PySem.W.exmAny K (.ref CN) [.ref CH, .ref CN, .ref CR] = some true := by simp [PySem.W.exmAny, EN.e, xNH, xNR]
  have aR : PySem.W.exmAny K (.ref CR) [.ref CH, .ref CN, .ref CR] = some true := by simp [PySem.W.exmAny, ER.e, xRH, xRN]
  refine ⟨PySem.W.fnOf "law" "law" (defArgs s_law) (defBody s_law) (defScope s_law) .none kV32 dc32 pm32 an32 cd32 ct32, spLaw K, smN, fun s v => .of_eq rfl, ?_, ?_⟩
  · intro H a ns hn sm hS
    exact ⟨a, ns, rfl, hS, sm, hn, fun _ => rfl⟩
  · intro base kb nb
    have gG := K23H.ok_wholeG (P := l.prog) (w := w) (base := base) F6 T
    have gLS := ok_lockedS (mg := mg) (P := l.prog) (w := w) (base := base) F9 TC
    have gis_whole : FnOk l.prog w K mg base CX0 _ f6 _ _ _ := ok_whole F6 T
    have gKeeper : FnOk l.prog w K mg base CX0 _ f7 _ _ _ := ok_init F7 TC
    have glock : FnOk l.prog w K mg base (CX l.prog w) _ f8 _ _ _ := ok_lock F8 T TC ES EH
    have glocked : FnOk l.prog w K mg base CX0 _ f9 _ _ _ := ok_locked F9 TC
    have gis_locked_by : FnOk l.prog w K mg base CX0 _ f10 _ _ _ := ok_by F10 TC ⟨F6, PySem.W.mg_of X G a6, b6⟩ gis_whole
    have gfree : FnOk l.prog w K mg base CX0 _ f11 _ _ _ := ok_free F11 TC
    have gopens : FnOk l.prog w K mg base (CX l.prog w) _ f12 _ _ _ := ok_opens F12 TC ⟨F10, ⟨a10, i10, k10⟩, b10⟩ gis_locked_by
    have gis_open : FnOk l.prog w K mg base CX0 _ f13 _ _ _ := ok_is_open F13 TC
    have gunlock : FnOk l.prog w K mg base (CX l.prog w) _ f14 _ _ _ := ok_unlock F14 TC ES EN ER ⟨F11, ⟨a11, i11, k11⟩, b11⟩ gfree
    have gended : FnOk l.prog w K mg base (CX l.prog w) _ f15 _ _ _ := ok_ended F15 TC ES EN ER ⟨F10, ⟨a10, i10, k10⟩, b10⟩ gis_locked_by ⟨F11, ⟨a11, i11, k11⟩, b11⟩ gfree
    have gtimes : FnOk l.prog w K mg base CX0 _ f16 _ _ _ := ok_times F16 TC
    have gHolder : FnOk l.prog w K mg base CX0 _ f17 _ _ _ := K23H.ok_init F17 TD
    have ggot : FnOk l.prog w K mg base (CX l.prog w) _ f18 _ _ _ := K23H.ok_got F18 T TD ES EM ⟨F6, PySem.W.mg_of X G a6, b6⟩ gG
    have gright : FnOk l.prog w K mg base CX0 _ f19 _ _ _ := K23H.ok_right F19 TD
    have guse : FnOk l.prog w K mg base (CX l.prog w) _ f20 _ _ _ := K23H.ok_use F20 TD ES ER
    have ggive : FnOk l.prog w K mg base (CX l.prog w) _ f21 _ _ _ := K23H.ok_give F21 TD ⟨F20, ⟨a20, i20, k20⟩, b20⟩ guse
    have gnote : FnOk l.prog w K mg base (CX l.prog w) _ f22 _ _ _ := K23H.ok_note F22 TD
    have gseen : FnOk l.prog w K mg base CX0 _ f23 _ _ _ := K23H.ok_seen F23 TD
    have glaw_cell : FnOk l.prog w K mg base CX0 _ f24 _ _ _ := ok_cell F24 T
    have glaw_box : FnOk l.prog w K mg base CX0 _ f25 _ _ _ := ok_box F25 T
    have glaw_take : FnOk l.prog w K mg base CX0 _ f26 _ _ _ := ok_take F26
    have glaw_names : FnOk l.prog w K mg base CX0 _ f27 _ _ _ := ok_names F27 T ⟨F26, PySem.W.mg_of X G a26, b26⟩ glaw_take
    have glaw_tried : FnOk l.prog w K mg base CX0 _ f28 _ _ _ := ok_tried F28 T TC TD ES EH EN ER aH aN aR ⟨F8, ⟨a8, i8, k8⟩, b8⟩ glock ⟨F20, ⟨a20, i20, k20⟩, b20⟩ guse ⟨F21, ⟨a21, i21, k21⟩, b21⟩ ggive ⟨F14, ⟨a14, i14, k14⟩, b14⟩ gunlock
    have glaw_come : FnOk l.prog w K mg base CX0 _ f29 _ _ _ := ok_come F29 T TC TD ⟨F9, ⟨a9, i9, k9⟩, b9⟩ glocked ⟨F13, ⟨a13, i13, k13⟩, b13⟩ gis_open ⟨F12, ⟨a12, i12, k12⟩, b12⟩ gopens ⟨F23, ⟨a23, i23, k23⟩, b23⟩ gseen ⟨F18, ⟨a18, i18, k18⟩, b18⟩ ggot
    have glaw_done : FnOk l.prog w K mg base CX0 _ f30 _ _ _ := ok_done F30 T TC TD ⟨F26, PySem.W.mg_of X G a26, b26⟩ glaw_take ⟨F29, PySem.W.mg_of X G a29, b29⟩ glaw_come ⟨F28, PySem.W.mg_of X G a28, b28⟩ glaw_tried ⟨F15, ⟨a15, i15, k15⟩, b15⟩ gended ⟨F22, ⟨a22, i22, k22⟩, b22⟩ gnote
    have glaw_safe : FnOk l.prog w K mg base CX0 _ f31 _ _ _ := ok_safe F31 T TC TD ⟨F9, ⟨a9, i9, k9⟩, b9⟩ gLS ⟨F19, ⟨a19, i19, k19⟩, b19⟩ gright
    exact gok_of (ok_law F32 T TC TD (PySem.W.mg_of X G aC) ⟨mkC, a7, i7, kcC⟩ gKeeper b7 (PySem.W.mg_of X G aD) ⟨mkD, a17, i17, kcD⟩ gHolder b17 glaw_cell ⟨F24, PySem.W.mg_of X G a24, b24⟩ glaw_box ⟨F25, PySem.W.mg_of X G a25, b25⟩ glaw_take ⟨F26, PySem.W.mg_of X G a26, b26⟩ glaw_names ⟨F27, PySem.W.mg_of X G a27, b27⟩ glaw_come ⟨F29, PySem.W.mg_of X G a29, b29⟩ glaw_done ⟨F30, PySem.W.mg_of X G a30, b30⟩ glaw_safe ⟨F31, PySem.W.mg_of X G a31, b31⟩ ⟨F9, ⟨a9, i9, k9⟩, b9⟩ gLS ⟨F13, ⟨a13, i13, k13⟩, b13⟩ gis_open ⟨F16, ⟨a16, i16, k16⟩, b16⟩ gtimes ⟨F19, ⟨a19, i19, k19⟩, b19⟩ gright ⟨F23, ⟨a23, i23, k23⟩, b23⟩ gseen)
end K23

open PySem PySem.W PyProof.Rows in
set_option maxRecDepth 100000 in
set_option maxHeartbeats 0 in
theorem PySem.Challenge.cw_onestaff_k23_whole_one_right_holds : PySem.Challenge.rw_onestaff_k23_whole_one_right.Holds := by
  w_on; o_law; k_head; (case hw => w_witness2)
  k_fill
  refine Gd.walk_s (no := by first | rfl | decide +kernel) (l := PySem.Challenge.rw_onestaff_k23_whole_one_right) (n := 63) (k := 8) (x := "_law_script") (CX := fun _ => L2.CX0) rfl (by decide) rfl ⟨rfl, by decide, by decide⟩ (fun w h Y => PySem.W.kIn_of Y) ?F (fun _ _ _ _ _ z => z)
  case F =>
    intro w mg fa h Y KX G hmg 
    refine' K23.all_mk KX G hmg  ?QaC ?QpgC ?QhdC ?QpoC ?QsaC ?QmkC ?QkcC ?Qn0C ?Qn1C ?Qn2C ?QaD ?QpgD ?QhdD ?QpoD ?QsaD ?QmkD ?QkcD ?Qn0D ?Qn1D ?Qn2D ?QaCM ?QxlCM ?QsaCM ?QgaCM ?QggCM ?QkcCM ?QexCM ?QtyCM ?QhdCM ?QicCM ?QcoCM ?QmoCM ?Qn0CM ?QaCH ?QxlCH ?QsaCH ?QgaCH ?QggCH ?QkcCH ?QexCH ?QtyCH ?QhdCH ?QicCH ?QcoCH ?QmoCH ?Qn0CH ?QaCR ?QxlCR ?QsaCR ?QgaCR ?QggCR ?QkcCR ?QexCR ?QtyCR ?QhdCR ?QicCR ?QcoCR ?QmoCR ?Qn0CR ?QaCN ?QxlCN ?QsaCN ?QgaCN ?QggCN ?QkcCN ?QexCN ?QtyCN ?QhdCN ?QicCN ?QcoCN ?QmoCN ?Qn0CN ?Qa1 ?Qi1 ?Ql1 ?Qc1 ?Qk1 ?Qa2 ?Qi2 ?Ql2 ?Qc2 ?Qk2 ?Qa3 ?Qi3 ?Ql3 ?Qc3 ?Qk3 ?Qa4 ?Qi4 ?Ql4 ?Qc4 ?Qk4 ?Qa5 ?Qi5 ?Ql5 ?Qc5 ?Qk5 ?Qa6 ?Ql6 ?Qc6 ?Qk6 ?Qa7 ?Qi7 ?Ql7 ?Qc7 ?Qk7 ?Qa8 ?Qi8 ?Ql8 ?Qc8 ?Qk8 ?Qa9 ?Qi9 ?Ql9 ?Qc9 ?Qk9 ?Qa10 ?Qi10 ?Ql10 ?Qc10 ?Qk10 ?Qa11 ?Qi11 ?Ql11 ?Qc11 ?Qk11 ?Qa12 ?Qi12 ?Ql12 ?Qc12 ?Qk12 ?Qa13 ?Qi13 ?Ql13 ?Qc13 ?Qk13 ?Qa14 ?Qi14 ?Ql14 ?Qc14 ?Qk14 ?Qa15 ?Qi15 ?Ql15 ?Qc15 ?Qk15 ?Qa16 ?Qi16 ?Ql16 ?Qc16 ?Qk16 ?Qa17 ?Qi17 ?Ql17 ?Qc17 ?Qk17 ?Qa18 ?Qi18 ?Ql18 ?Qc18 ?Qk18 ?Qa19 ?Qi19 ?Ql19 ?Qc19 ?Qk19 ?Qa20 ?Qi20 ?Ql20 ?Qc20 ?Qk20 ?Qa21 ?Qi21 ?Ql21 ?Qc21 ?Qk21 ?Qa22 ?Qi22 ?Ql22 ?Qc22 ?Qk22 ?Qa23 ?Qi23 ?Ql23 ?Qc23 ?Qk23 ?Qa24 ?Ql24 ?Qc24 ?Qk24 ?Qa25 ?Ql25 ?Qc25 ?Qk25 ?Qa26 ?Ql26 ?Qc26 ?Qk26 ?Qa27 ?Ql27 ?Qc27 ?Qk27 ?Qa28 ?Ql28 ?Qc28 ?Qk28 ?Qa29 ?Ql29 ?Qc29 ?Qk29 ?Qa30 ?Ql30 ?Qc30 ?Qk30 ?Qa31 ?Ql31 ?Qc31 ?Qk31 ?Qa32 ?Ql32 ?Qc32 ?Qk32 ?Qz0 ?Qz1 ?Qz2 ?Qz3 ?Qz4 ?Qz5 ?Qz6 ?Qz7 ?Qz8 ?Qz9 ?Qz10 ?Qz11 ?Qz12 ?Qz13 ?Qz14 ?Qz15 ?QaCS ?QgaCS ?QrdCS ?QatCS ?Qvi ?QxHN ?QxHR ?QxNH ?QxNR ?QxRH ?QxRN ?Qcg ?Qct ?QsmN
    (case QaC => k_is)
    (case QpgC => k_is)
    (case QhdC => k_is)
    (case QpoC => k_is)
    (case QsaC => k_is)
    (case QmkC => k_is)
    (case QkcC => k_is)
    (case Qn0C => k_is)
    (case Qn1C => k_is)
    (case Qn2C => k_is)
    (case QaD => k_is)
    (case QpgD => k_is)
    (case QhdD => k_is)
    (case QpoD => k_is)
    (case QsaD => k_is)
    (case QmkD => k_is)
    (case QkcD => k_is)
    (case Qn0D => k_is)
    (case Qn1D => k_is)
    (case Qn2D => k_is)
    (case QaCM => k_is)
    (case QxlCM => k_is)
    (case QsaCM => k_is)
    (case QgaCM => k_is)
    (case QggCM => k_is)
    (case QkcCM => k_is)
    (case QexCM => k_is)
    (case QtyCM => k_is)
    (case QhdCM => k_is)
    (case QicCM => k_is)
    (case QcoCM => k_is)
    (case QmoCM => k_is)
    (case Qn0CM => k_is)
    (case QaCH => k_is)
    (case QxlCH => k_is)
    (case QsaCH => k_is)
    (case QgaCH => k_is)
    (case QggCH => k_is)
    (case QkcCH => k_is)
    (case QexCH => k_is)
    (case QtyCH => k_is)
    (case QhdCH => k_is)
    (case QicCH => k_is)
    (case QcoCH => k_is)
    (case QmoCH => k_is)
    (case Qn0CH => k_is)
    (case QaCR => k_is)
    (case QxlCR => k_is)
    (case QsaCR => k_is)
    (case QgaCR => k_is)
    (case QggCR => k_is)
    (case QkcCR => k_is)
    (case QexCR => k_is)
    (case QtyCR => k_is)
    (case QhdCR => k_is)
    (case QicCR => k_is)
    (case QcoCR => k_is)
    (case QmoCR => k_is)
    (case Qn0CR => k_is)
    (case QaCN => k_is)
    (case QxlCN => k_is)
    (case QsaCN => k_is)
    (case QgaCN => k_is)
    (case QggCN => k_is)
    (case QkcCN => k_is)
    (case QexCN => k_is)
    (case QtyCN => k_is)
    (case QhdCN => k_is)
    (case QicCN => k_is)
    (case QcoCN => k_is)
    (case QmoCN => k_is)
    (case Qn0CN => k_is)
    (case Qa1 => k_is)
    (case Qi1 => k_is)
    (case Ql1 => k_is)
    (case Qc1 => k_is)
    (case Qk1 => k_is)
    (case Qa2 => k_is)
    (case Qi2 => k_is)
    (case Ql2 => k_is)
    (case Qc2 => k_is)
    (case Qk2 => k_is)
    (case Qa3 => k_is)
    (case Qi3 => k_is)
    (case Ql3 => k_is)
    (case Qc3 => k_is)
    (case Qk3 => k_is)
    (case Qa4 => k_is)
    (case Qi4 => k_is)
    (case Ql4 => k_is)
    (case Qc4 => k_is)
    (case Qk4 => k_is)
    (case Qa5 => k_is)
    (case Qi5 => k_is)
    (case Ql5 => k_is)
    (case Qc5 => k_is)
    (case Qk5 => k_is)
    (case Qa6 => k_is)
    (case Ql6 => k_is)
    (case Qc6 => k_is)
    (case Qk6 => k_is)
    (case Qa7 => k_is)
    (case Qi7 => k_is)
    (case Ql7 => k_is)
    (case Qc7 => k_is)
    (case Qk7 => k_is)
    (case Qa8 => k_is)
    (case Qi8 => k_is)
    (case Ql8 => k_is)
    (case Qc8 => k_is)
    (case Qk8 => k_is)
    (case Qa9 => k_is)
    (case Qi9 => k_is)
    (case Ql9 => k_is)
    (case Qc9 => k_is)
    (case Qk9 => k_is)
    (case Qa10 => k_is)
    (case Qi10 => k_is)
    (case Ql10 => k_is)
    (case Qc10 => k_is)
    (case Qk10 => k_is)
    (case Qa11 => k_is)
    (case Qi11 => k_is)
    (case Ql11 => k_is)
    (case Qc11 => k_is)
    (case Qk11 => k_is)
    (case Qa12 => k_is)
    (case Qi12 => k_is)
    (case Ql12 => k_is)
    (case Qc12 => k_is)
    (case Qk12 => k_is)
    (case Qa13 => k_is)
    (case Qi13 => k_is)
    (case Ql13 => k_is)
    (case Qc13 => k_is)
    (case Qk13 => k_is)
    (case Qa14 => k_is)
    (case Qi14 => k_is)
    (case Ql14 => k_is)
    (case Qc14 => k_is)
    (case Qk14 => k_is)
    (case Qa15 => k_is)
    (case Qi15 => k_is)
    (case Ql15 => k_is)
    (case Qc15 => k_is)
    (case Qk15 => k_is)
    (case Qa16 => k_is)
    (case Qi16 => k_is)
    (case Ql16 => k_is)
    (case Qc16 => k_is)
    (case Qk16 => k_is)
    (case Qa17 => k_is)
    (case Qi17 => k_is)
    (case Ql17 => k_is)
    (case Qc17 => k_is)
    (case Qk17 => k_is)
    (case Qa18 => k_is)
    (case Qi18 => k_is)
    (case Ql18 => k_is)
    (case Qc18 => k_is)
    (case Qk18 => k_is)
    (case Qa19 => k_is)
    (case Qi19 => k_is)
    (case Ql19 => k_is)
    (case Qc19 => k_is)
    (case Qk19 => k_is)
    (case Qa20 => k_is)
    (case Qi20 => k_is)
    (case Ql20 => k_is)
    (case Qc20 => k_is)
    (case Qk20 => k_is)
    (case Qa21 => k_is)
    (case Qi21 => k_is)
    (case Ql21 => k_is)
    (case Qc21 => k_is)
    (case Qk21 => k_is)
    (case Qa22 => k_is)
    (case Qi22 => k_is)
    (case Ql22 => k_is)
    (case Qc22 => k_is)
    (case Qk22 => k_is)
    (case Qa23 => k_is)
    (case Qi23 => k_is)
    (case Ql23 => k_is)
    (case Qc23 => k_is)
    (case Qk23 => k_is)
    (case Qa24 => k_is)
    (case Ql24 => k_is)
    (case Qc24 => k_is)
    (case Qk24 => k_is)
    (case Qa25 => k_is)
    (case Ql25 => k_is)
    (case Qc25 => k_is)
    (case Qk25 => k_is)
    (case Qa26 => k_is)
    (case Ql26 => k_is)
    (case Qc26 => k_is)
    (case Qk26 => k_is)
    (case Qa27 => k_is)
    (case Ql27 => k_is)
    (case Qc27 => k_is)
    (case Qk27 => k_is)
    (case Qa28 => k_is)
    (case Ql28 => k_is)
    (case Qc28 => k_is)
    (case Qk28 => k_is)
    (case Qa29 => k_is)
    (case Ql29 => k_is)
    (case Qc29 => k_is)
    (case Qk29 => k_is)
    (case Qa30 => k_is)
    (case Ql30 => k_is)
    (case Qc30 => k_is)
    (case Qk30 => k_is)
    (case Qa31 => k_is)
    (case Ql31 => k_is)
    (case Qc31 => k_is)
    (case Qk31 => k_is)
    (case Qa32 => k_is)
    (case Ql32 => k_is)
    (case Qc32 => k_is)
    (case Qk32 => k_is)
    (case Qz0 => k_is)
    (case Qz1 => k_is)
    (case Qz2 => k_is)
    (case Qz3 => k_is)
    (case Qz4 => k_is)
    (case Qz5 => k_is)
    (case Qz6 => k_is)
    (case Qz7 => k_is)
    (case Qz8 => k_is)
    (case Qz9 => k_is)
    (case Qz10 => k_is)
    (case Qz11 => k_is)
    (case Qz12 => k_is)
    (case Qz13 => k_is)
    (case Qz14 => k_is)
    (case Qz15 => k_is)
    (case QaCS => k_is)
    (case QgaCS => k_is)
    (case QrdCS => k_is)
    (case QatCS => k_is)
    (case Qvi => k_is)
    (case QxHN => first | kit_is | kernel_rfl | k_is)
    (case QxHR => first | kit_is | kernel_rfl | k_is)
    (case QxNH => first | kit_is | kernel_rfl | k_is)
    (case QxNR => first | kit_is | kernel_rfl | k_is)
    (case QxRH => first | kit_is | kernel_rfl | k_is)
    (case QxRN => first | kit_is | kernel_rfl | k_is)
    (case Qcg => k_is)
    (case Qct => k_is)
    (case QsmN => first | rfl | kernel_rfl)

