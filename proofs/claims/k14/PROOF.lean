import PyProof.Rows.All
import Wide.All
import OpenK.AllK
import Wide.FinOn
import PyProof.EqAt
import PyProof.EqKinds
import PyProof.TupleCall
import HandS.Base
import HandS.Call
import HandS.List
import HandS.Comp
import HandS.Ends
import HandS.Text
import HandS.Exc
import HandS.Words
import HandS.WordsList
import HandS.Iter
import HandS.Dict
import HandS.Wide
import HandS.IsInst
import HandS.AnyAll
import HandS.EndBits
import HandS.EndTab
import PyProof.Rows.RegFStrParts
import PyProof.Rows.ReprShort
import HandS.More
import HandS.SortInts
import HandS.ListItems
import HandS.Walk
import PyProof.DictUpdate
import HandS.Flow
import HandS.TupLe
import PySem.Challenge.RW_onestaff_k14_whole_never_clear_too_soon
set_option Elab.async false
set_option linter.all false
set_option maxRecDepth 100000
set_option maxHeartbeats 4000000
/-! Defs that show lists and tuples: they run where no display is under way. -/
namespace Gd
open PySem PySem.Spec PyProof.Rows L2

/-- a def's promise, kept wherever no display is under way -/
structure GOk (P : Program) (w : World) (K : PySem.W.Frag) (mg : Str → Option Value) (base : Heap) (CX : CXT) (k : Nat) (f : Addr) (fd : FuncData) (ps : List Str) (sp : Sp) : Prop where
  size : ∀ vs H Q E, sp vs H Q E → vs.length = ps.length
  go : ∀ (A : Around) (out : List Env) (s : Shared) (H : Hp) (ar : Args) (us : List Value) (vs : List V) (Q : VK) (E : XK), A.guards = some [] →
    Room k A → Env0 P w K mg base A out s H → BindsTo s fd ar (ps.zip us) → Vals vs us → sp vs H Q E →
    codeAny (model P w) A (.call (.ref f) ar) (CR CX out P w H s Q E) s

section
variable {P : Program} {w : World} {K : PySem.W.Frag} {mg : Str → Option Value} {base : Heap}

/-- by its body -/
theorem gok_body {CX : CXT} {k : Nat} {x qual : Str} {st : Stmt} {f : Addr} {fd : FuncData} {N ps : List Str} {sp : Sp} (F : Fun K x qual st f fd) (S : FnScope N ps (defScope st))
    (size : ∀ vs H Q E, sp vs H Q E → vs.length = ps.length)
    (body : ∀ (cd : Value) (A : Around) (out : List Env) (s : Shared) (H : Hp) (vs : List V) (Q : VK) (E : XK), A.guards = some [] →
      Room k (A.deeper (envOfC qual (defScope st) s.heap.objs.size f cd)) → sp vs H Q E →
      ∃ t, PSs (cxOf CX P w K mg base N qual (defScope st) f cd A out s H E) (defBody st) t ∧ t { nx := fun _ H' => Q .non H', rt := Q } (start N vs) H) :
    GOk P w K mg base CX (k + 1) f fd ps sp := by
  obtain ⟨oc, od, kV, doc, pm, an, cd, ct, osl, rfl, lk, hcd⟩ := F.ex
  refine ⟨size, fun A out s H ar us vs Q E gd hr e0 hb r hsp => ?_⟩
  have hl := size _ _ _ _ hsp
  have KX : K.In s.heap := e0.mod.kin.keeps fun b o z => (e0.bs b o z).1
  have kinds : ∀ y ∈ ps.zip us, (defScope st).names.lookup y.1 = some .local ∨
      ((defScope st).names.lookup y.1 = some .cell ∧ ((cellsFrom (s.heap.objs.size + 1) (defScope st).names []).lookup y.1).isSome = true) := by
    rintro ⟨n, v⟩ hy
    have hm := (List.of_mem_zip hy).1
    cases S.par n hm with
    | inl q => exact .inl q
    | inr q => exact .inr ⟨q, PySem.W.cellsFrom_some _ _ _ (.inl q)⟩
  have Z := PySem.W.codeRec_of KX hcd
  refine codeAny_call_function hr.depth (KX _ _ lk) rfl S.co S.gen rfl Z (hb _ _ _ _ ?_)
  refine wpAny_newFunctionEnv_cells S.kind kinds fun env he s1 ic => ?_
  subst he
  have lim : s.heap.NoLimit := e0.mod.nolimit.keeps fun b o z => (e0.bs b o z).1
  refine ⟨lim.keeps ic.toInCall.keep, codeAny_func ?_⟩
  obtain ⟨t, ht, hq⟩ := body cd A out s H vs Q E gd (hr.deeper _) hsp
  have I := inv_start (CX := CX) (E := E) S hr.hd e0 hl r ic
  refine wpAny_mono (ht.run [] s1 (start N vs) H _ I hq) ?_ (fun _ _ z => z)
  intro fl s' hs
  cases fl with
  | brk => obtain ⟨_, _, _, q⟩ := hs; exact q.elim
  | cont => obtain ⟨_, _, _, q⟩ := hs; exact q.elim
  | next =>
    obtain ⟨σ', H', J, q⟩ := hs
    exact ⟨V.non, H', J.os, J.bare, J.base, J.hok, rfl, q⟩
  | ret u =>
    obtain ⟨v, σ', H', J, rv, q⟩ := hs
    exact ⟨v, H', J.os, J.bare, J.base, J.hok, rv, q⟩
/-- the same where nothing is raised -/
theorem gok {k : Nat} {x qual : Str} {st : Stmt} {f : Addr} {fd : FuncData} {N ps : List Str} {sp : Sp} (F : Fun K x qual st f fd) (S : FnScope N ps (defScope st))
    (size : ∀ vs H Q E, sp vs H Q E → vs.length = ps.length)
    (body : ∀ (cd : Value) (A : Around) (out : List Env) (s : Shared) (H : Hp) (vs : List V) (Q : VK) (E : XK), A.guards = some [] →
      Room k (A.deeper (envOfC qual (defScope st) s.heap.objs.size f cd)) → sp vs H Q E →
      ∃ t, PSs (cxOf CX0 P w K mg base N qual (defScope st) f cd A out s H E).nox (defBody st) t ∧ t { nx := fun _ H' => Q .non H', rt := Q } (start N vs) H) :
    GOk P w K mg base CX0 (k + 1) f fd ps sp := by
  refine gok_body F S size fun cd A out s H vs Q E gd hr q => ?_
  obtain ⟨t, h, z⟩ := body cd A out s H vs Q E gd hr q
  exact ⟨t, h.nox, z⟩
theorem GOk.mono {CX : CXT} {j k : Nat} {f : Addr} {fd : FuncData} {ps : List Str} {sp : Sp} (F : GOk P w K mg base CX j f fd ps sp) (h : j ≤ k) : GOk P w K mg base CX k f fd ps sp :=
  ⟨F.size, fun A out s H ar us vs Q E gd hr => F.go A out s H ar us vs Q E gd (hr.mono h)⟩
theorem gok_of {CX : CXT} {k : Nat} {f : Addr} {fd : FuncData} {ps : List Str} {sp : Sp} (F : FnOk P w K mg base CX k f fd ps sp) : GOk P w K mg base CX k f fd ps sp :=
  ⟨F.len, fun A out s H ar us vs Q E _ hr => F.run A out s H ar us vs Q E hr⟩
end

section
variable {X : Cx} {CX : CXT} {k : Nat} {f : Addr} {fd : FuncData} {ps : List Str} {sp : Sp} {dvs : List V} {ds : List Value} {E : XK} {x : Str} {p pos : Pos} {e : Expr} {es : List Expr} {t : TA}
/-- f(e, ..), f such a def, from a body of such a def -/
theorem pe_gcall (gd : X.A.guards = some []) (F : GOk X.prog X.w X.K X.mg X.base CX k f fd ps sp) (hr : Room k X.A) (hg : Gl X x) (hm : X.mg x = some (.ref f)) (hk : PySem.W.keepIn X.K (.ref f) = true)
    (hb : Binds X.K fd ps ds) (hd : Vals dvs ds) (hx : Passes CX X E) (ha : PA X (e :: es) t) (hdb : (x == ("__debug__" : Str)) = false := by decide)
    (he : starEach (e :: es) X.env = (false, eval e X.env) :: starEach es X.env := by rfl) (hpl : (backTo pos (starEach es X.env)).any (·.1) = false := by rfl) :
    PE X (.Call (.Name x p) (e :: es) [] pos) (tCall sp dvs E t) := by
  refine ⟨fun pins s σ H Q I h => wpAny_Call_Name_kw (ld_glob I hg hm ?_ hdb)⟩
  have A1 := ha.run pos pins s σ H _ I h
  refine PySem.W.callWith_K (h₀ := X.base) I.ok.mod.kin hk (thn A1 ?_) he hpl
  rintro us s1 ⟨vs, H1, I1, r, q⟩
  refine ⟨I1.kIn, ?_⟩
  have both := r.append hd
  have hl : (us ++ ds).length = ps.length := (both.length).symm.trans (F.size _ _ _ _ q)
  have run1 := F.go X.A X.stack s1 H1 ⟨us, []⟩ (us ++ ds) (vs ++ dvs) Q E gd hr I1.env0 (hb s1 us I1.kIn hl) both q
  refine wpAny_call (codeAny_mono run1 ?_)
  intro res s' hq
  match res, hq with
  | .error e, hq => exact hx pins σ H1 s1 e s' I1 hq
  | .ok (.ret u), hq => exact I1.after hq
  | .ok .next, hq => exact hq.elim
  | .ok .brk, hq => exact hq.elim
  | .ok .cont, hq => exact hq.elim

/-! ### repr of data -/
mutual
theorem dp_noDict {K : PySem.W.Frag} {H : Hp} : ∀ {v : V} {d : PyData}, Dp K H v d → d.hasDict = false
  | _, _, .non => by simp only [PyData.hasDict]
  | _, _, .bl _ => by simp only [PyData.hasDict]
  | _, _, .int _ => by simp only [PyData.hasDict]
  | _, _, .str _ => by simp only [PyData.hasDict]
  | _, _, .lst _ h => by simp only [PyData.hasDict]; exact dpAll_noDict h
  | _, _, .tup _ h => by simp only [PyData.hasDict]; exact dpAll_noDict h
theorem dpAll_noDict {K : PySem.W.Frag} {H : Hp} : ∀ {vs : List V} {ds : List PyData}, DpAll K H vs ds → PyData.hasDictAll ds = false
  | _, _, .nil => by simp only [PyData.hasDictAll]
  | _, _, .cons h t => by simp only [PyData.hasDictAll, dp_noDict h, dpAll_noDict t, Bool.or_self]
end
/-- repr(v), v some data d -/
def rRepr (K : PySem.W.Frag) : List V → Hp → VK → Prop := fun xs H Q => ∃ v d, xs = [v] ∧ Dp K H v d ∧ d.showable = true ∧ d.depth ≤ 100 ∧ d.shown.length ≤ sizeLine ∧ Q (.str d.shown) H
theorem call_repr (gd : X.A.guards = some []) (hr : Room k X.A) : CallR X (.builtin "repr") (rRepr X.K) := by
  intro pins s σ H xs us Q I r h
  obtain ⟨v, d, rfl, dp, hs, hdep, hsz, q⟩ := h
  cases r with
  | cons rv rn =>
    cases rn
    have hun := hr.un
    cases dp with
    | non =>
      cases rv
      refine PySem.P.repr_of_none ⟨.str _, H, I.tok _, ⟨_, rfl⟩, ?_⟩
      simpa only [PyData.shown] using q
    | bl b =>
      cases rv
      refine PySem.P.repr_of_bool ⟨.str _, H, I.tok _, ⟨_, rfl⟩, ?_⟩
      simpa only [PyData.shown] using q
    | int i =>
      obtain ⟨t, rfl⟩ := rv
      refine PySem.P.repr_of_int (by simpa [PyData.showable] using hs) ⟨.str _, H, I.tok _, ⟨_, rfl⟩, ?_⟩
      simpa only [PyData.shown] using q
    | str z =>
      obtain ⟨t, rfl⟩ := rv
      refine PySem.P.repr_of_str ⟨.str _, H, I.tok _, ⟨_, rfl⟩, ?_⟩ (by simpa only [PyData.shown] using hsz)
      simpa only [PyData.shown] using q
    | lst hl ha =>
      cases rv
      obtain ⟨as, rd⟩ := Dp.reads I _ _ _ (.lst hl ha) rfl
      refine repr_of_reads' rd hs (PyData.noDict_hsm (dp_noDict (.lst hl ha))) gd (by omega) (fun _ _ z => z) (fun h' u tk hk => ?_) hsz
      exact ⟨.str _, H, I.kept hk, ⟨_, rfl⟩, q⟩
    | tup hl ha =>
      cases rv
      obtain ⟨as, rd⟩ := Dp.reads I _ _ _ (.tup hl ha) rfl
      refine repr_of_reads' rd hs (PyData.noDict_hsm (dp_noDict (.tup hl ha))) gd (by omega) (fun _ _ z => z) (fun h' u tk hk => ?_) hsz
      exact ⟨.str _, H, I.kept hk, ⟨_, rfl⟩, q⟩
end
end Gd

set_option maxRecDepth 100000
set_option maxHeartbeats 4000000
/-! The end of a law whose own def shows data: no display is under way at its call. -/
namespace Gd
open PySem PySem.Spec PyProof.Rows L2 GxR

/-- the script's own object -/
def scriptO (vs : List Value) : Obj := { cls := .type "list", data := .seq vs.toArray }
def tabO : Obj := { cls := .none, data := .fields #[] }
open Classical in
/-- what is tracked at the law's call: the script (where the written part hasn't it), the tables -/
noncomputable def h0 (K : PySem.W.Frag) (a : Addr) (vs : List Value) (ns : List Int) (T : List Addr) : Hp := fun b =>
  if b = a ∧ K.lookup a = none then some (.frz (scriptO vs) (.lst (ns.map V.int))) else if b ∈ T then some (.tbl #[]) else none

theorem h0_inv {K : PySem.W.Frag} {a b : Addr} {vs : List Value} {ns : List Int} {T : List Addr} {u : HO} (h : h0 K a vs ns T b = some u) :
    (b = a ∧ K.lookup a = none ∧ u = .frz (scriptO vs) (.lst (ns.map V.int))) ∨ (b ∈ T ∧ u = .tbl #[]) := by
  unfold h0 at h
  by_cases c1 : b = a ∧ K.lookup a = none
  · rw [if_pos c1] at h
    exact .inl ⟨c1.1, c1.2, (Option.some.inj h).symm⟩
  · rw [if_neg c1] at h
    by_cases c2 : b ∈ T
    · rw [if_pos c2] at h
      exact .inr ⟨c2, (Option.some.inj h).symm⟩
    · rw [if_neg c2] at h
      cases h

section
variable {P : Program} {w : World} {K : PySem.W.Frag} {mg mb : Str → Option Value} {CX : CXT} {k : Nat} {fa a : Addr} {cs : List (Addr × Addr)} {fd : FuncData} {x : Str} {sp : Sp} {s1 : Shared} {vs : List Value} {ns : List Int}
theorem law_gcall (KX : K.In s1.heap) (nsG : s1.heap.Ns mainGlobals mg) (nsB : s1.heap.Ns builtinsNs mb) (isB : ∀ x : Str, x ≠ "__name__" → mb x = bootBuiltins x) (lim : s1.heap.NoLimit) (gens : s1.gens = #[])
    (tabs : ∀ p ∈ cs, s1.heap.get? p.2 = some tabO) (tabK : ∀ p ∈ cs, K.lookup p.2 = none) (codes : ∀ p ∈ cs, PySem.W.CodeHd s1.heap p.1 p.2)
    (bmain : ∃ (bm : Addr) (ob : Obj), mg "__builtins__" = some (.ref bm) ∧ bm ≠ builtinsNs ∧ s1.heap.get? bm = some ob ∧ ob.cls = .type "module" ∧ ob.dict = some builtinsNs ∧ ob.data = .plain)
    (ha : s1.heap.get? a = some (scriptO vs)) (hi : IntsAre vs ns) (hl : ns.length ≤ sizeLine) (hr : Room k callerA)
    (F : ∀ base : Heap, K.In base → base.Ns mainGlobals mg → (∀ p ∈ cs, TabB base mg p.1 p.2) → GOk P w K mg base CX k fa fd [x] sp)
    (hbind : ∀ (s : Shared) (u : Value), BindsTo s fd ⟨[u], []⟩ [(x, u)])
    (hsp : ∀ H : Hp, (∀ p ∈ cs, H p.2 = some (.tbl #[])) → SqL K H a (ns.map V.int) → sp [.ref a] H (fun v _ => v = .bl true) fun _ _ _ => False)
    (hCX : ∀ H e s', CX [] H s1 (fun _ _ _ => False) e s' → False) :
    codeAny (model P w) callerA (.call (.ref fa) ⟨[.ref a], []⟩) (fun r s' => r = .ok (.ret (.bool true)) ∧ OldK s1.heap s'.heap ∧ s'.os = s1.os ∧ AllBare s'.gens) s1 := by
  have rv := vals_ints hi
  have hlen := hi.length
  let T := cs.map Prod.snd
  have inT : ∀ p ∈ cs, p.2 ∈ T := fun p hp => List.mem_map.mpr ⟨p, hp, rfl⟩
  have ofT : ∀ b ∈ T, s1.heap.get? b = some tabO ∧ K.lookup b = none := by
    intro b hb
    obtain ⟨p, hp, rfl⟩ := List.mem_map.mp hb
    exact ⟨tabs p hp, tabK p hp⟩
  have neT : a ∉ T := fun z => by
    have q := (ofT a z).1
    rw [ha] at q
    cases q
  let H := h0 K a vs ns T
  -- a tracked object is the script or a table
  have seen : ∀ {b : Addr} {o : Obj}, s1.heap.get? b = some o → (∀ us n, o.data ≠ .seq us n) → o.data ≠ .fields #[] → H b = none := by
    intro b o e n1 n2
    cases q : H b with
    | none => rfl
    | some u =>
      exfalso
      rcases h0_inv q with ⟨rfl, _, _⟩ | ⟨hb, _⟩
      · rw [ha] at e
        cases e
        exact n1 _ _ rfl
      · rw [(ofT b hb).1] at e
        cases e
        exact n2 rfl
  have keepHid : ∀ {b : Addr} {o : Obj}, s1.heap.get? b = some o → H b = none → (hidT s1.heap H).get? b = some o := fun e n => hidT_get e n
  have dictHid : ∀ {b : Addr} {o : Obj} {es : Array DictEntry} {ep : Nat}, s1.heap.get? b = some o → o.data = .dict es ep → (hidT s1.heap H).get? b = some o := by
    intro b o es ep e d
    refine keepHid e (seen e (fun us n z => ?_) fun z => ?_) <;> (rw [d] at z; cases z)
  have nsHid : ∀ {b : Addr} {m : Str → Option Value}, s1.heap.Ns b m → (hidT s1.heap H).Ns b m := by
    rintro b m ⟨o, es, ep, e, d, rest⟩
    exact ⟨o, es, ep, dictHid e d, d, rest⟩
  have KH : K.In (hidT s1.heap H) := by
    intro b o e
    refine keepHid (KX b o e) ?_
    cases q : H b with
    | none => rfl
    | some u =>
      exfalso
      rcases h0_inv q with ⟨rfl, z, _⟩ | ⟨hb, _⟩
      · rw [z] at e
        cases e
      · rw [(ofT b hb).2] at e
        cases e
  have limH : (hidT s1.heap H).NoLimit := by
    obtain ⟨mc, h1, h2⟩ := lim
    exact ⟨mc, nsHid h1, h2⟩
  have M : L2.Mod K mg (hidT s1.heap H) := ⟨KH, nsHid nsG, ⟨mb, nsHid nsB, isB⟩, limH⟩
  have TB : ∀ p ∈ cs, TabB (hidT s1.heap H) mg p.1 p.2 := by
    intro p hp
    have tp := tabs p hp
    refine ⟨?_, ?_, ?_⟩
    · obtain ⟨o, us, file, tf, flags, tg, inF, text, tt, e1, r1, r2, r3, rest⟩ := codes p hp
      refine ⟨o, us, file, tf, flags, tg, inF, text, tt, keepHid e1 (seen e1 (fun vs n z => ?_) fun z => ?_), r1, r2, r3, rest⟩
      · rw [r2] at z
        cases z
      · rw [r2] at z
        cases z
        simp at r3
    · obtain ⟨bm, ob, b1, b2, b3, b4, b5, b6⟩ := bmain
      have g1 : bm ≠ mainGlobals := by
        rintro rfl
        obtain ⟨o, es, ep, e, d, _⟩ := nsG
        rw [b3] at e
        cases e
        rw [b6] at d
        cases d
      have g2 : bm ≠ p.2 := by
        rintro rfl
        rw [tp] at b3
        cases b3
        cases b6
      refine ⟨bm, ob, b1, b2, g1, g2, keepHid b3 (seen b3 (fun vs n z => ?_) fun z => ?_), b4, b5, b6⟩ <;> (rw [b6] at z; cases z)
    · intro z
      obtain ⟨o, es, ep, e, d, _⟩ := nsG
      rw [z, tp] at e
      cases e
      cases d
  have hH : ∀ p ∈ cs, H p.2 = some (.tbl #[]) := by
    intro p hp
    have n1 : ¬ (p.2 = a ∧ K.lookup a = none) := fun z => neT (z.1 ▸ inT p hp)
    exact (if_neg n1).trans (if_pos (inT p hp))
  have hS : SqL K H a (ns.map V.int) := by
    cases q : K.lookup a with
    | none => exact .inl (.inr ⟨scriptO vs, if_pos ⟨rfl, q⟩⟩)
    | some o =>
      have e := KX a o q
      rw [ha] at e
      cases e
      exact .inr ⟨_, vs.toArray, _, q, rfl, rfl, rfl, by rw [List.size_toArray, hlen]; exact hl, by simpa using rv⟩
  have hok : HOk P w H s1.heap := by
    intro b u q
    rcases h0_inv q with ⟨rfl, _, rfl⟩ | ⟨hb, rfl⟩
    · exact ⟨ha, by rw [List.length_map]; exact hl, vs, _, rv, ha⟩
    · exact (ofT b hb).1
  have e0 : Env0 P w K mg (hidT s1.heap H) callerA [] s1 H :=
    ⟨rfl, M, fun b o e => of_hidT e, Nat.le_of_eq (hidT_size _ _), trivial, (fun b hb => by cases (show b ∈ ([] : List Addr) from hb)), hok, .of_eq gens⟩
  have run := (F _ KH (nsHid nsG) TB).go callerA [] s1 H ⟨[.ref a], []⟩ [.ref a] [.ref a] (fun v _ => v = .bl true) (fun _ _ _ => False) rfl hr e0 (hbind s1 (.ref a)) (.cons rfl .nil) (hsp H hH hS)
  refine codeAny_mono run ?_
  intro r s' h
  match r, h with
  | .error e, h => exact (hCX H e s' h).elim
  | .ok .next, h => exact h.elim
  | .ok .brk, h => exact h.elim
  | .ok .cont, h => exact h.elim
  | .ok (.ret u), h =>
    obtain ⟨v, H', os, bare, un, hok', r', q⟩ := h
    obtain rfl : v = .bl true := q
    obtain rfl : u = Value.bool true := r'
    have plain : ∀ b o, b ∉ T → s1.heap.get? b = some o → s'.heap.get? b = some o := by
      intro b o nb e
      cases q : H b with
      | none => exact un.keep b o e q (fun z => by cases (show b ∈ ([] : List Addr) from z)) (by simp)
      | some y =>
        rcases h0_inv q with ⟨rfl, _, rfl⟩ | ⟨hb, _⟩
        · obtain ⟨e2, _⟩ := hok' b _ (un.frzs b _ _ q)
          rw [ha] at e
          cases e
          exact e2
        · exact absurd hb nb
    have grown : ∀ p ∈ cs, ∃ more : Array Value, s'.heap.get? p.2 = some { cls := .none, data := .fields more } := by
      intro p hp
      obtain ⟨more, z⟩ := un.tbls p.2 #[] (hH p hp)
      exact ⟨_, hok' p.2 _ z⟩
    refine ⟨rfl, ⟨fun b o e => ?_, fun b o e => ?_⟩, os, bare⟩ <;> by_cases hb : b ∈ T
    · obtain ⟨p, hp, rfl⟩ := List.mem_map.mp hb
      obtain ⟨more, hm⟩ := grown p hp
      rw [tabs p hp] at e
      cases e
      exact .inr (.inl ⟨((codes p hp).tab (tabs p hp)).isCodeTable, rfl, #[], more, rfl, by rw [Array.empty_append]; exact hm⟩)
    · exact .inl (plain b o hb e)
    · obtain ⟨p, hp, rfl⟩ := List.mem_map.mp hb
      obtain ⟨more, hm⟩ := grown p hp
      exact ⟨_, hm⟩
    · exact ⟨o, plain b o hb e⟩
end

/-- the tables of the text's own defs are empty behind the top -/
def Empt (q : Program) (K : PySem.W.Frag) (h : Heap) : Prop := ∀ (x : Str) (f c t : Addr) (o : Obj) (fd : FuncData) (e : Value) (dd : Option Addr) (us : Array Value) (sl : Array (Option Value)),
  ((PyProof.Rows.recsOf q).any fun r => r.name == x) = true → PySem.W.nsIn K mainGlobals x = some (some (.ref f)) → K.lookup f = some o → o.data = .func fd → fd.code = .ref c →
  K.lookup c = some ⟨e, dd, .fields us, sl⟩ → us[11]? = some (.ref t) → PySem.W.CodeHd h c t ∧ h.get? t = some tabO
/-- what is to be known of the law at the head's heap -/
def GLaw (l : PySem.W.OpenLaw) (w : World) (K : PySem.W.Frag) (CX : CXT) (k n : Nat) (x : Str) (mg : Str → Option Value) (fa : Addr) (h : Heap) : Prop :=
  ∃ (fd : FuncData) (cs : List (Addr × Addr)) (sp : Sp), (∀ p ∈ cs, h.get? p.2 = some tabO) ∧ (∀ p ∈ cs, K.lookup p.2 = none) ∧ (∀ p ∈ cs, PySem.W.CodeHd h p.1 p.2) ∧
    (∀ (s : Shared) (u : Value), BindsTo s fd ⟨[u], []⟩ [(x, u)]) ∧
    (∀ (H : Hp) (a : Addr) (ns : List Int), ns.length ≤ n → (∀ z ∈ ns, Builtin.Int.intBits z ≤ 1048576) → (∀ p ∈ cs, H p.2 = some (.tbl #[])) → SqL K H a (ns.map V.int) →
      sp [.ref a] H (fun v _ => v = .bl true) fun _ _ _ => False) ∧
    ∀ base : Heap, K.In base → base.Ns mainGlobals mg → (∀ p ∈ cs, TabB base mg p.1 p.2) → GOk l.prog w K mg base CX k fa fd [x] sp
theorem walk_g {l : PySem.W.OpenLaw} {n k : Nat} {q : Program} {loose : List Str} {XP : (Str → Option Value) → Heap → Prop} {YP : World → Heap → Prop} {d : DefRec} {K : Params → PySem.W.Frag} {CX : World → CXT} {x : Str}
    (hn : l.most = some n) (small : n ≤ sizeLine) (hdf : d.params.defaults = []) (hr : Room k callerA) (hY : ∀ (w : World) (h : Heap), YP w h → (K w.params).In h)
    (F : ∀ (w : World) (mg : Str → Option Value) (fa : Addr) (h : Heap), YP w h → (K w.params).In h → h.Ns mainGlobals mg → mg d.name = some (.ref fa) → Empt q (K w.params) h → GLaw l w (K w.params) (CX w) k n x mg fa h)
    (hCX : ∀ (w : World) (H : Hp) (s : Shared) (e : Value) (s' : Shared), CX w [] H s (fun _ _ _ => False) e s' → False) :
    PySem.W.WalkO q loose XP YP l.row.toRowW d [] (fun f vs => PySem.call f vs) := by
  refine Att.attach_callB hn hdf ?_
  intro w sA s1 mg mb fa o pm cd doc a vs ns G Y ho hd hcd hmg hobj hints hlen hbits hg
  have KX := hY w _ Y
  have em : Empt q (K w.params) s1.heap := by
    intro x f c t o1 fd1 e dd us sl hx k1 k2 k3 k4 k5 k6
    obtain ⟨r, hr1, hr2⟩ := List.any_eq_true.mp hx
    have hn1 : r.name = x := beq_iff_eq.mp hr2
    obtain ⟨a1, o2, fd2, c2, t2, y1, y2, y3, y4, y5, y6⟩ := G.T.tab r hr1
    have z1 := PySem.W.mg_of KX G.T.g k1
    rw [hn1, z1] at y1
    cases y1
    have z2 := KX _ _ k2
    rw [z2] at y2
    cases y2
    rw [k3] at y3
    cases y3
    rw [k4] at y4
    cases y4
    have y6b := y6
    obtain ⟨⟨oc, vc, e1, e2, e3, e4⟩, hP⟩ := y6b
    have z5 := KX _ _ k5
    rw [z5] at e1
    cases e1
    cases e3
    rw [k6] at e4
    cases e4
    exact ⟨PySem.W.CodeHd.of y5 y6, hP⟩
  obtain ⟨fd, cs, sp, t1, t2, t3, hb, hsp, hF⟩ := F w mg fa _ Y KX G.T.g hmg em
  exact law_gcall KX G.T.g G.T.b G.T.builtins G.T.nolimit hg t1 t2 t3 G.T.bmain hobj hints (Nat.le_trans hlen small) hr hF hb (fun H a1 a2 => hsp H a ns hlen hbits a1 a2) (fun H e s' => hCX w H s1 e s')
end Gd

set_option maxRecDepth 100000
set_option maxHeartbeats 4000000
/-! Things, boxes, texts: what the laws share, over no program. -/
namespace My
open PySem PySem.Spec PyProof.Rows L2 GxR Gd TL
/-! ### things -/
def Good (z : Str) : Prop := ∀ c ∈ z.cps.toList, c < 1114112
inductive Th (H : Hp) : V → Prop
  | non : Th H .non
  | bl (b : Bool) : Th H (.bl b)
  | int (i : Int) : Th H (.int i)
  | str (z : Str) (h : z.length ≤ 1000000) (g : Good z) : Th H (.str z)
  | lst (a : Addr) (xs : List V) (h : H a = some (.lst xs)) : Th H (.ref a)
  | tup (a : Addr) (xs : List V) (h : H a = some (.tup xs)) : Th H (.ref a)
  | dic (a : Addr) {kvs : List (Key × V)} (h : H a = some (.dK kvs)) : Th H (.ref a)
def lc (c : Nat) : Bool := decide (97 ≤ c) && decide (c ≤ 122)
def nm : V → Bool
  | .str z => decide (1 ≤ z.length) && decide (z.length ≤ 6) && z.cps.toList.all lc
  | _ => false
def wh (lo hi : Int) : V → Bool
  | .int i => decide (lo ≤ i) && decide (i ≤ hi)
  | _ => false
/-- its kind -/
theorem Th.ty {K : PySem.W.Frag} {H : Hp} {v : V} (h : Th H v) : ∃ t, TyX K H v (.type t) ∧
    ((∃ i, v = .int i ∧ t = "int") ∨ (∃ b, v = .bl b ∧ t = "bool") ∨ (∃ z, v = .str z ∧ (z.length ≤ 1000000 ∧ Good z) ∧ t = "str") ∨
     ((∀ i, v ≠ .int i) ∧ (∀ b, v ≠ .bl b) ∧ (∀ z, v ≠ .str z) ∧ (t = "NoneType" ∨ t = "list" ∨ t = "tuple" ∨ t = "dict"))) := by
  cases h with
  | non => exact ⟨_, .base .non, .inr (.inr (.inr ⟨by simp, by simp, by simp, .inl rfl⟩))⟩
  | bl b => exact ⟨_, .base (.bl b), .inr (.inl ⟨b, rfl, rfl⟩)⟩
  | int i => exact ⟨_, .base (.int i), .inl ⟨i, rfl, rfl⟩⟩
  | str z h g => exact ⟨_, .base (.str z), .inr (.inr (.inl ⟨z, rfl, ⟨h, g⟩, rfl⟩))⟩
  | lst a xs h => exact ⟨_, .base (.lst h), .inr (.inr (.inr ⟨by simp, by simp, by simp, .inr (.inl rfl)⟩))⟩
  | tup a xs h => exact ⟨_, .base (.tup h), .inr (.inr (.inr ⟨by simp, by simp, by simp, .inr (.inr (.inl rfl))⟩))⟩
  | dic a h => exact ⟨_, .base (.dK h), .inr (.inr (.inr ⟨by simp, by simp, by simp, .inr (.inr (.inr rfl))⟩))⟩
/-- all but the table stays -/
structure KT (P : Addr) (H H' : Hp) : Prop where
  keep : ∀ c o, c ≠ P → H c = some o → H' c = some o
  tab : TabG H' P
theorem TabG.at {H : Hp} {P : Addr} (t : TabG H P) : ∃ ps, H P = some (.tbl ps) := let ⟨ps, h, _⟩ := t; ⟨ps, h⟩
theorem ne_tab {H : Hp} {P a : Addr} {o : HO} (t : TabG H P) (h : H a = some o) (n : ∀ ps, o ≠ .tbl ps) : a ≠ P := by
  rintro rfl
  obtain ⟨ps, e⟩ := TabG.at t
  rw [h] at e
  exact n ps (Option.some.inj e)
theorem KT.refl {P : Addr} {H : Hp} (t : TabG H P) : KT P H H := ⟨fun _ _ _ h => h, t⟩
theorem KT.trans {P : Addr} {H H1 H2 : Hp} (a : KT P H H1) (b : KT P H1 H2) : KT P H H2 := ⟨fun c o n h => b.keep c o n (a.keep c o n h), b.tab⟩
theorem KT.of {P : Addr} {H H' : Hp} (t : Tabbed P H H') : KT P H H' := ⟨fun c o n h => by rw [t.2 c n]; exact h, t.1⟩
theorem KT.alloc {P p : Addr} {H : Hp} {o : HO} (t : TabG H P) (n : H p = none) : KT P H (upd H p o) := by
  obtain ⟨ps, e, ht⟩ := t
  refine ⟨fun c q _ h => by rw [upd_ne (ne_of_none h n)]; exact h, ps, by rw [upd_ne (ne_of_none e n)]; exact e, ht⟩
theorem Th.kt {P : Addr} {H H' : Hp} (t : TabG H P) (k : KT P H H') {v : V} (h : Th H v) : Th H' v := by
  cases h with
  | non => exact .non
  | bl b => exact .bl b
  | int i => exact .int i
  | str z h g => exact .str z h g
  | lst a xs h => exact .lst a xs (k.keep _ _ (ne_tab t h (by simp)) h)
  | tup a xs h => exact .tup a xs (k.keep _ _ (ne_tab t h (by simp)) h)
  | dic a h => exact .dic a (k.keep _ _ (ne_tab t h (by simp)) h)

theorem elt_between {prog : Program} {w : World} {scope : Scope} {x a b : Str} {j1 j2 : Nat} {p1 p2 p3 p4 : Pos} (hk : scope.kind = .function) (hl : scope.names.lookup x = some .local)
    (hd : (x == ("__debug__" : Str)) = false := by decide) :
    EltP prog w scope x (.Compare (.Constant (.str a) j1 p1) [.LtE, .LtE] [.Name x p2, .Constant (.str b) j2 p3] p4) (fun c => !decide ([c] < a.cps.toList) && !decide (b.cps.toList < [c])) := by
  intro cenv A' E' c t s2 m2 hs hn hm
  refine Compare_chain ?_ (by with_unfolding_all rfl)
  refine Calls.Constant_str (chain_link ?_)
  refine wpAny_Name (wpAny_loadName_local (by rw [hs]; exact hk) (show cenv.scope.names.lookup x = some .local by rw [hs]; exact hl) hn hm ?_) hd
  refine PySem.P.le_str ?_
  refine wpAny_truthy_bool ?_
  cases q : decide ([c] < a.cps.toList) with
  | true =>
    refine ite_ff ⟨?_, keeps_tok _ _⟩
    have q' : decide ((⟨#[c]⟩ : Str).cps.toList < a.cps.toList) = true := q
    simp [q']
  | false =>
    refine ite_tt (chain_last ?_)
    refine Calls.Constant_str ?_
    refine PySem.P.le_str ⟨?_, keeps_tok _ _⟩
    have q2 : ¬ [c] < a.cps.toList := of_decide_eq_false q
    simp [List.not_lt.mp q2]
def genSc : Scope := { kind := ScopeKind.function, names := [(Str.ofString ".0", NameKind.local), (Str.ofString "sign", NameKind.local)], isGenerator := true, isCoroutine := false }
theorem no_free : ∀ y ∈ genSc.names, y.2 ≠ NameKind.free := by decide +kernel
theorem one_lt (c d : Nat) : [c] < [d] ↔ c < d := by
  rw [List.cons_lt_cons_iff]
  constructor
  · rintro (h | ⟨_, h⟩)
    · exact h
    · exact absurd h (List.not_lt_nil _)
  · exact .inl
theorem lc_eq (c : Nat) : (!decide ([c] < [97]) && !decide ([122] < [c])) = lc c := by
  unfold lc
  rw [Bool.eq_iff_iff]
  simp only [Bool.and_eq_true, Bool.not_eq_true', decide_eq_false_iff_not, decide_eq_true_eq, one_lt]
  omega
/-! ### the box -/
def Bx (b : Addr) (n : Int) (H : Hp) : Prop := ∃ x y z : Int, H b = some (.lst [.int x, .int y, .int z]) ∧ 0 ≤ x ∧ 0 ≤ y ∧ y < 2147483629 ∧ 0 ≤ z ∧ z ≤ n
theorem Bx.same {b : Addr} {n : Int} {H H' : Hp} (h : Bx b n H) (e : H' b = H b) : Bx b n H' := by
  obtain ⟨x, y, z, h1, r⟩ := h
  exact ⟨x, y, z, e.trans h1, r⟩
theorem Bx.mono {b : Addr} {n m : Int} {H : Hp} (h : Bx b n H) (e : n ≤ m) : Bx b m H := by
  obtain ⟨x, y, z, h1, h2, h3, h4, h5, h6⟩ := h
  exact ⟨x, y, z, h1, h2, h3, h4, h5, by omega⟩
theorem i0 (a b c : V) : atI [a, b, c] 0 = some a := rfl
theorem i1 (a b c : V) : atI [a, b, c] 1 = some b := rfl
theorem i2 (a b c : V) : atI [a, b, c] 2 = some c := rfl
theorem j0 : ixN 3 0 = some 0 := rfl
theorem j2 : ixN 3 2 = some 2 := rfl
/-! ### lists and texts -/
theorem atI_ex {α : Type} {xs : List α} {d : Int} (h0 : 0 ≤ d) (h1 : d < xs.length) : ∃ v, v ∈ xs ∧ atI xs d = some v := by
  obtain ⟨j, rfl⟩ := Int.eq_ofNat_of_zero_le h0
  have hj : j < xs.length := by omega
  exact ⟨xs[j], List.getElem_mem hj, atI_nat (List.getElem?_eq_getElem hj)⟩
theorem joinL_len (S : List Nat) : ∀ ps : List (List Nat), (joinL S ps).length ≤ (ps.map List.length).sum + ps.length * S.length
  | [] => by simp [joinL]
  | [p] => by simp [joinL]
  | p :: q :: r => by
    have ih := joinL_len S (q :: r)
    have e : joinL S (p :: q :: r) = p ++ (S ++ joinL S (q :: r)) := rfl
    rw [e, List.length_append, List.length_append, List.map_cons, List.sum_cons, List.length_cons, Nat.succ_mul]
    omega
theorem tl_len (z : Str) : (tl z).length = z.length := by
  show z.cps.toList.length = z.cps.size
  simp
theorem join_len (y : Str) (ps : List Str) : (Txt.join y ps).length ≤ (ps.map (·.length)).sum + ps.length * y.length := by
  have h := joinL_len (tl y) (ps.map tl)
  rw [← tl_len, join_eq, tl_join]
  have e : (ps.map tl).map List.length = ps.map (·.length) := by
    rw [List.map_map]
    exact List.map_congr_left fun z _ => tl_len z
  rw [e, List.length_map, tl_len] at h
  exact h
theorem sum_ones (ps : List Str) (h : ∀ z ∈ ps, z.length ≤ 1) : (ps.map (·.length)).sum ≤ ps.length := by
  induction ps with
  | nil => simp
  | cons a r ih =>
    have h1 := h a List.mem_cons_self
    have h2 := ih fun z hz => h z (List.mem_cons_of_mem _ hz)
    simp only [List.map_cons, List.sum_cons, List.length_cons]
    omega
theorem lcY {A : TE} {σ : L2.St} {H : Hp} {G : VK} {B : Hp → Prop} (h : A σ H G) : tYes σ H (fun b H3 => if b = true then A σ H3 G else B H3) := by
  show if true = true then A σ H G else B H
  exact iteT h
theorem good_app {a b : Str} (h : Good a) (k : Good b) : Good (a ++ b) := fun c hc => by
  have e : (a ++ b).cps.toList = a.cps.toList ++ b.cps.toList := tl_append a b
  rw [e] at hc
  exact (List.mem_append.mp hc).elim (h c) (k c)
theorem good_cut {a : Str} (h : Good a) (lo hi : Option Int) : Good (cutS a lo hi) := fun c hc => by
  unfold cutS at hc
  exact h c (List.mem_of_mem_drop (List.mem_of_mem_take (by simpa using hc)))
theorem good_joinL {S : List Nat} (hS : ∀ c ∈ S, c < 1114112) : ∀ ps : List (List Nat), (∀ p ∈ ps, ∀ c ∈ p, c < 1114112) → ∀ c ∈ joinL S ps, c < 1114112
  | [], _, c, h => by simp [joinL] at h
  | [p], hp, c, h => hp p List.mem_cons_self c (by simpa [joinL] using h)
  | p :: q :: r, hp, c, h => by
    have e : joinL S (p :: q :: r) = p ++ (S ++ joinL S (q :: r)) := rfl
    rw [e, List.mem_append, List.mem_append] at h
    rcases h with h | h | h
    · exact hp p List.mem_cons_self c h
    · exact hS c h
    · exact good_joinL hS (q :: r) (fun z hz => hp z (List.mem_cons_of_mem _ hz)) c h
theorem good_join {y : Str} {ps : List Str} (hy : Good y) (h : ∀ z ∈ ps, Good z) : Good (Txt.join y ps) := fun c hc => by
  have e : (Txt.join y ps).cps.toList = joinL (tl y) (ps.map tl) := by rw [join_eq]; exact tl_join y ps
  rw [e] at hc
  refine good_joinL hy _ (fun p hp => ?_) c hc
  obtain ⟨z, hz, rfl⟩ := List.mem_map.mp hp
  exact h z hz
theorem good_of (x : String) : Good (Str.ofString x) := fun c hc => by
  have e : (Str.ofString x).cps.toList = x.toList.map Char.toNat := by
    rw [Str.ofString_eq_toList]
  rw [e] at hc
  obtain ⟨d, _, rfl⟩ := List.mem_map.mp hc
  have := d.valid
  unfold UInt32.isValidChar Nat.isValidChar at this
  show d.val.toNat < 1114112
  omega
theorem good_one {z : Str} {c : Nat} (h : Good z) (hc : c ∈ z.cps.toList) : Good ⟨#[c]⟩ := fun d hd => by
  have e : d = c := by simpa using hd
  rw [e]
  exact h c hc
/-- all but the box stays -/
def KB (b : Addr) (H H' : Hp) : Prop := ∀ c o, c ≠ b → H c = some o → H' c = some o
theorem KB.refl (b : Addr) (H : Hp) : KB b H H := fun _ _ _ h => h
theorem KB.trans {b : Addr} {H H1 H2 : Hp} (a : KB b H H1) (c : KB b H1 H2) : KB b H H2 := fun x o n h => c x o n (a x o n h)
theorem KB.off {b : Addr} {H H' : Hp} (h : ∀ a, a ≠ b → H' a = H a) : KB b H H' := fun c o n e => (h c n).trans e
theorem KB.alloc {b p : Addr} {H : Hp} {o : HO} (n : H p = none) : KB b H (upd H p o) := fun c u _ h => by rw [upd_ne (ne_of_none h n)]; exact h
theorem Bx.alloc {b p : Addr} {n : Int} {H : Hp} {o : HO} (h : Bx b n H) (f : H p = none) : Bx b n (upd H p o) := by
  obtain ⟨x, y, z, h1, r⟩ := h
  exact ⟨x, y, z, by rw [upd_ne (ne_of_none h1 f)]; exact h1, r⟩
theorem Bx.put {b p : Addr} {n : Int} {H : Hp} {o : HO} (h : Bx b n H) (f : p ≠ b) : Bx b n (upd H p o) := by
  obtain ⟨x, y, z, h1, r⟩ := h
  exact ⟨x, y, z, by rw [upd_ne f.symm]; exact h1, r⟩
/-- a comprehension over a text's signs -/
theorem lc_text {z : Str} {g : TG} {tt : TT} {te : TE} {vs : List Nat} {σ : L2.St} {H1 : Hp} {D : Addr} {Qd : Hp → Prop} (Pv : Nat → Hp → Prop) (h0 : Pv 0 (upd H1 D (.lst [])))
    (hs : ∀ i c H, z.cps.toList[i]? = some c → Pv i H → g (.str ⟨#[c]⟩) (wipe σ vs) H fun σ2 H2 => wipe σ2 vs = wipe σ vs ∧ tt σ2 H2 fun b H3 =>
      if b = true then te σ2 H3 fun y H4 => ∃ acc, H4 D = some (.lst acc) ∧ acc.length < sizeLine ∧ Pv (i + 1) (upd H4 D (.lst (acc ++ [y]))) else Pv (i + 1) H3) (hd : ∀ H, Pv z.length H → Qd H) :
    ∃ W : Nat → Nat → Hp → Prop, (∃ m, W 0 m (upd H1 D (.lst []))) ∧ ∀ i m H, W i m H →
      ((Its z).stop i H ∧ Qd H) ∨ ((Its z).go i H ∧ ∃ Nx : Hp → Prop, (∀ H', Nx H' → ∃ m', m' < m ∧ W (i + 1) m' H') ∧ ∀ x H', (Its z).yld i H x H' → g x (wipe σ vs) H' fun σ2 H2 => wipe σ2 vs = wipe σ vs ∧ tt σ2 H2 fun b H3 =>
        if b = true then te σ2 H3 fun y H4 => ∃ acc, H4 D = some (.lst acc) ∧ acc.length < sizeLine ∧ Nx (upd H4 D (.lst (acc ++ [y]))) else Nx H3) := by
  refine ⟨fun i m H => i + m = z.cps.size ∧ Pv i H, ⟨z.cps.size, by simp, h0⟩, fun i m H hW => ?_⟩
  obtain ⟨e, p⟩ := hW
  cases m with
  | zero =>
    have ei : i = z.cps.size := e
    subst ei
    exact .inl ⟨Nat.le_refl _, hd H p⟩
  | succ m =>
    refine .inr ⟨show i < z.cps.size by omega, Pv (i + 1), fun H' q => ⟨m, Nat.lt_succ_self m, by omega, q⟩, ?_⟩
    rintro x H' ⟨rfl, c, hc, rfl⟩
    exact hs i c _ (by rw [← hc]; simp) p
def badOf (l : List Nat) : List V := (l.filter fun c => !lc c).map fun c => V.str ⟨#[c]⟩
theorem bad_data {K : PySem.W.Frag} {H : Hp} : ∀ l : List Nat, DpAll K H (l.map fun c => V.str ⟨#[c]⟩) (l.map fun c => PyData.str ⟨#[c]⟩)
  | [] => .nil
  | c :: r => .cons (.str _) (bad_data r)
theorem one_ok {c : Nat} (h : c < 1114112) : PyData.strOk ⟨#[c]⟩ = true := by
  simp [PyData.strOk, h]
theorem bad_shaped : ∀ l : List Nat, (∀ c ∈ l, c < 1114112) → PyData.canLayAll0 (l.map fun c => PyData.str ⟨#[c]⟩) = true
  | [], _ => by simp [PyData.canLayAll0]
  | c :: r, h => by
    simp only [List.map_cons, PyData.canLayAll0, PyData.canLay0, Bool.and_eq_true]
    exact ⟨one_ok (h c List.mem_cons_self), bad_shaped r fun d hd => h d (List.mem_cons_of_mem _ hd)⟩
theorem bad_depth : ∀ l : List Nat, PyData.depthAll (l.map fun c => PyData.str ⟨#[c]⟩) = 0
  | [] => by simp [PyData.depthAll]
  | c :: r => by
    simp only [List.map_cons, PyData.depthAll, PyData.depth, bad_depth r]
    rfl
theorem letters_mem (c : Nat) : decide (c ∈ (Str.ofString "abcdefghijklmnopqrstuvwxyz").cps.toList) = lc c := by
  have e : (Str.ofString "abcdefghijklmnopqrstuvwxyz").cps.toList = (List.range 26).map (· + 97) := by decide +kernel
  rw [e]
  unfold lc
  rw [Bool.eq_iff_iff]
  simp only [decide_eq_true_eq, List.mem_map, List.mem_range, Bool.and_eq_true]
  constructor
  · rintro ⟨a, h, rfl⟩
    omega
  · intro h
    exact ⟨c - 97, by omega, by omega⟩
/-- a fresh place is no box -/
theorem Bx.fresh {b p : Addr} {n : Int} {H : Hp} (h : Bx b n H) (f : H p = none) : p ≠ b := by
  rintro rfl
  obtain ⟨x, y, z, e, _⟩ := h
  rw [f] at e
  cases e
theorem dec9000 {m : Int} (h0 : 0 < m) (h : m ≤ 10 ^ 30) : m.natAbs.log2 < 9000 := by
  have h1 : m.natAbs ≤ 10 ^ 30 := by omega
  have h2 : m.natAbs < 2 ^ 100 := Nat.lt_of_le_of_lt h1 (by decide)
  have h3 := (Nat.log2_lt (by omega)).mpr h2
  omega
theorem log1900 {m : Int} (h : m.natAbs ≤ 10 ^ 31) : m.natAbs.log2 < 1900 := by
  by_cases h0 : m.natAbs = 0
  · rw [h0]
    decide
  · have h2 : m.natAbs < 2 ^ 110 := Nat.lt_of_le_of_lt h (by decide)
    have h3 := (Nat.log2_lt h0).mpr h2
    omega
/-- a place in a list of the script stays -/
theorem seq_kt {K : PySem.W.Frag} {P a : Addr} {H H' : Hp} {xs : List V} (t : TabG H P) (k : KT P H H') (h : SqL K H a xs) : SqL K H' a xs := by
  rcases h with (h | ⟨o, h⟩) | h
  · exact .inl (.inl (k.keep _ _ (ne_tab t h (by simp)) h))
  · exact .inl (.inr ⟨o, k.keep _ _ (ne_tab t h (by simp)) h⟩)
  · exact .inr h
/-- what a row of steps with the box does to all else -/
theorem KT.box {P b : Addr} {H H' H1 : Hp} (t : TabG H P) (f : H b = none) (e : ∀ a, a ≠ b → H1 a = H a) (k : KB b H1 H') : KT P H H' := by
  obtain ⟨ps, ht, tr⟩ := t
  have nb : P ≠ b := ne_of_none ht f
  exact ⟨fun c o _ h => k c o (ne_of_none h f) ((e c (ne_of_none h f)).trans h), ps, k P _ nb ((e P nb).trans ht), tr⟩
theorem two_bools (a b : Bool) : (PyData.list [.bool a, .bool b]).shown.length ≤ sizeLine := by
  cases a <;> cases b <;> decide +kernel
end My

set_option maxRecDepth 100000
set_option maxHeartbeats 4000000
namespace K14
open PySem PySem.Spec PyProof.Rows L2 GxR Gd TL My
/-! ### the text -/
def top (i : Nat) : Stmt := PySem.Challenge.pw_onestaff_k14_whole_never_clear_too_soon.main.body.getD i (.Pass ⟨0, 0, 0, 0⟩)
abbrev sWhole : Stmt := top 6
abbrev sCell : Stmt := top 12
abbrev sBox : Stmt := top 13
abbrev sTake : Stmt := top 14
structure Txt (mg : Str → Option Value) : Prop where
  isinstance_ : mg "isinstance" = none
  int_ : mg "int" = none
  bool_ : mg "bool" = none
  str_ : mg "str" = none
  len_ : mg "len" = none
  all_ : mg "all" = none
  max_ : mg "max" = none
  min_ : mg "min" = none
  range_ : mg "range" = none
  repr_ : mg "repr" = none
  list_ : mg "list" = none
  tuple_ : mg "tuple" = none
  enumerate_ : mg "enumerate" = none
  sorted_ : mg "sorted" = none
  dict_ : mg "dict" = none
structure Fn (K : PySem.W.Frag) (mg : Str → Option Value) (x : Str) (st : Stmt) (ps : List Str) (f : Addr) (fd : FuncData) : Prop where
  fn : Fun K x x st f fd
  g : mg x = some (.ref f)
  b : Binds K fd ps []
theorem Fn.kp {K : PySem.W.Frag} {mg : Str → Option Value} {x : Str} {st : Stmt} {ps : List Str} {f : Addr} {fd : FuncData} (h : Fn K mg x st ps f fd) : PySem.W.keepIn K (.ref f) = true := h.fn.kp
section
variable {P : Program} {w : World} {K : PySem.W.Frag} {mg : Str → Option Value} {base : Heap}
def spWhole : Sp := fun vs H Q _ => ∃ (v : V) (lo hi : Int), vs = [v, .int lo, .int hi] ∧ Th H v ∧ Q (.bl (wh lo hi v)) H
theorem scWhole : FnScope ["thing", "low", "high"] ["thing", "low", "high"] (defScope sWhole) := ⟨rfl, rfl, rfl, by decide +kernel, rfl, by decide +kernel, by decide +kernel⟩
theorem ok_whole {f : Addr} {fd : FuncData} (F : Fun K "is_whole" "is_whole" sWhole f fd) (T : Txt mg) : FnOk P w K mg base CX0 1 f fd ["thing", "low", "high"] spWhole := by
  refine F.ok scWhole (fun vs H Q E h => ?_) (fun cdv A outer s H vs Q E hr h => ?_)
  · obtain ⟨v, lo, hi, rfl, _⟩ := h
    rfl
  · obtain ⟨v, lo, hi, rfl, th, k⟩ := h
    obtain ⟨t, ty, cs⟩ := th.ty (K := K)
    refine ⟨_, pss_cons (ps_if (PW.pt (pw_or (pt_not (pt_val (pe_callB call_isi (by rfl) T.isinstance_ (by decide +kernel) (pa_cons (pv 0) (pa_cons (pe_bltn (v := .ty "int") (by rfl) T.int_ (by decide +kernel) rfl) pa_nil)))))
        (pw_or1 (pt_val (pe_callB call_isi (by rfl) T.isinstance_ (by decide +kernel) (pa_cons (pv 0) (pa_cons (pe_bltn (v := .ty "bool") (by rfl) T.bool_ (by decide +kernel) rfl) pa_nil)))))))
        (pss_one (ps_ret pe_bl)) pss_nil)
      (pss_one (ps_ret (pe_chain op_le op_le (pv 1) (pv 0) (pv 2)))), ?_⟩
    rcases cs with ⟨i, rfl, rfl⟩ | ⟨b, rfl, rfl⟩ | ⟨z, rfl, _, rfl⟩ | ⟨n1, n2, n3, ht⟩
    · refine ⟨_, rfl, _, _, _, _, true, rfl, .ty "int", ty, (by rfl), _, rfl, iteF ?_⟩
      refine ⟨_, rfl, _, _, _, _, false, rfl, .ty "bool", ty, (by rfl), _, rfl, iteF ?_⟩
      refine ⟨_, rfl, _, rfl, _, _, rfl, rfl, _, rfl, ?_⟩
      refine ite2 (fun c => ?_) (fun c => ?_)
      · refine ⟨_, rfl, _, _, rfl, rfl, ?_⟩
        have e : (decide (i ≤ hi)) = wh lo hi (.int i) := by simp [wh, of_decide_eq_true c]
        show Q (.bl (decide (i ≤ hi))) H
        rw [e]; exact k
      · have e : false = wh lo hi (.int i) := by simp at c; simp [wh]; omega
        rw [e]; exact k
    · refine ⟨_, rfl, _, _, _, _, true, rfl, .ty "int", ty, (by rfl), _, rfl, iteF ?_⟩
      refine ⟨_, rfl, _, _, _, _, true, rfl, .ty "bool", ty, (by rfl), _, rfl, iteT ?_⟩
      exact k
    · refine ⟨_, rfl, _, _, _, _, false, rfl, .ty "int", ty, (by rfl), _, rfl, iteT (iteT ?_)⟩
      exact k
    · have e : wh lo hi v = false := by
        cases v with
        | int i => exact absurd rfl (n1 i)
        | _ => rfl
      rw [e] at k
      rcases ht with rfl | rfl | rfl | rfl
      · exact ⟨_, rfl, _, _, _, _, false, rfl, .ty "int", ty, (by rfl), _, rfl, iteT (iteT k)⟩
      · exact ⟨_, rfl, _, _, _, _, false, rfl, .ty "int", ty, (by rfl), _, rfl, iteT (iteT k)⟩
      · exact ⟨_, rfl, _, _, _, _, false, rfl, .ty "int", ty, (by rfl), _, rfl, iteT (iteT k)⟩
      · exact ⟨_, rfl, _, _, _, _, false, rfl, .ty "int", ty, (by rfl), _, rfl, iteT (iteT k)⟩

def spCell (K : PySem.W.Frag) : Sp := fun vs H Q _ => ∃ (l : Addr) (ns : List Int) (j : Nat), vs = [.ref l, .int (j : Int)] ∧ SqL K H l (ns.map V.int) ∧ ∀ i : Int, Q (.int i) H
theorem scCell : FnScope ["_law_script", "_law_k"] ["_law_script", "_law_k"] (defScope sCell) := ⟨rfl, rfl, rfl, by decide +kernel, rfl, by decide +kernel, by decide +kernel⟩
theorem ok_cell {f : Addr} {fd : FuncData} (F : Fun K "_law_cell" "_law_cell" sCell f fd) (T : Txt mg) : FnOk P w K mg base CX0 1 f fd ["_law_script", "_law_k"] (spCell K) := by
  refine F.ok scCell (fun vs H Q E h => ?_) (fun cdv A outer s H vs Q E hr h => ?_)
  · obtain ⟨l, ns, j, rfl, _⟩ := h
    rfl
  · obtain ⟨l, ns, j, rfl, hS, k⟩ := h
    refine ⟨_, pss_cons (ps_if (pt_cmpR op_lt (pv 1) (pe_callB call_len_seq (by rfl) T.len_ PySem.boot_len (pa_cons (pv 0) pa_nil)) (nomark _)) (pss_one (ps_ret (pe_ix ix_list (pv 0) (pv 1) (fun _ _ => rfl)))) pss_nil)
      (pss_one (ps_ret (pe_op op_add (pe_op op_mul pe_int (pv 1)) pe_int))), ?_⟩
    refine ⟨_, rfl, _, rfl, l, _, rfl, .inl hS, _, _, rfl, rfl, _, rfl, ite2 (fun c => ?_) (fun c => ?_)⟩
    · have c1 : (j : Int) < ((ns.map V.int).length : Nat) := of_decide_eq_true c
      have c2 : j < ns.length := by rw [List.length_map] at c1; omega
      refine ⟨_, rfl, _, rfl, l, _, _, _, rfl, rfl, hS, atI_nat (v := .int ns[j]) ?_, k _⟩
      rw [List.getElem?_map, List.getElem?_eq_getElem c2]
      rfl
    · exact ⟨_, rfl, _, _, rfl, rfl, .inl ⟨by decide, by decide⟩, _, _, rfl, rfl, k _⟩
def spBox : Sp := fun vs H Q _ => ∃ c : Int, vs = [.int c] ∧ ∀ b H', H b = none → (∀ a, a ≠ b → H' a = H a) → Bx b 0 H' → Q (.ref b) H'
theorem scBox : FnScope ["_law_cell_here"] ["_law_cell_here"] (defScope sBox) := ⟨rfl, rfl, rfl, by decide +kernel, rfl, by decide +kernel, by decide +kernel⟩
theorem ok_box {f : Addr} {fd : FuncData} (F : Fun K "_law_box" "_law_box" sBox f fd) (T : Txt mg) : FnOk P w K mg base CX0 1 f fd ["_law_cell_here"] spBox := by
  refine F.ok scBox (fun vs H Q E h => ?_) (fun cdv A outer s H vs Q E hr h => ?_)
  · obtain ⟨c, rfl, _⟩ := h
    rfl
  · obtain ⟨c, rfl, k⟩ := h
    refine ⟨_, pss_one (ps_ret (pe_lst (pa_cons (pe_callB (call_max2 rfl) (by rfl) T.max_ (by decide +kernel) (pa_cons pe_int (pa_cons (pe_op op_sub (pv 0) (pe_op op_pow pe_int pe_int)) pa_nil))) (pa_cons (pe_op op_mod (pv 0) pe_int) (pa_cons pe_int pa_nil))))), ?_⟩
    refine ⟨_, rfl, _, _, rfl, rfl, ⟨by decide, by decide, by decide⟩, _, _, rfl, rfl, _, _, rfl, ?_⟩
    refine ⟨_, rfl, _, _, rfl, rfl, (by show (0 : Int) < 2147483629; decide), ?_⟩
    refine ⟨(by show 3 ≤ sizeLine; decide), fun b hb => ?_⟩
    refine k b _ hb (fun a na => upd_ne na) ⟨_, _, 0, upd_same, ?_, ?_, ?_, Int.le_refl _, Int.le_refl _⟩
    · split <;> omega
    · exact Int.emod_nonneg _ (by decide)
    · exact Int.emod_lt_of_pos _ (by decide)
def spTake : Sp := fun vs H Q _ => ∃ (b : Addr) (many n : Int), vs = [.ref b, .int many] ∧ Bx b n H ∧ n ≤ 100000 ∧ 0 < many ∧ many.natAbs.log2 < 9000 ∧
  ∀ d H', 0 ≤ d → d < many → (∀ a, a ≠ b → H' a = H a) → Bx b (n + 1) H' → Q (.int d) H'
theorem scTake : FnScope ["_law_box_here", "_law_many", "_law_digit", "_law_number"] ["_law_box_here", "_law_many"] (defScope sTake) := ⟨rfl, rfl, rfl, by decide +kernel, rfl, by decide +kernel, by decide +kernel⟩
theorem ok_take {f : Addr} {fd : FuncData} (F : Fun K "_law_take" "_law_take" sTake f fd) : FnOk P w K mg base CX0 1 f fd ["_law_box_here", "_law_many"] spTake := by
  refine F.ok scTake (fun vs H Q E h => ?_) (fun cdv A outer s H vs Q E hr h => ?_)
  · obtain ⟨b, many, n, rfl, _⟩ := h
    rfl
  · obtain ⟨b, many, n, rfl, ⟨x, y, z, hb, x0, y0, y1, z0, zn⟩, hn, m0, ml, k⟩ := h
    refine ⟨_, pss_cons (ps_if (pt_cmpR op_gt (pe_ix ix_list (pv 0) pe_int (fun _ _ => rfl)) pe_int (nomark _))
        (pss_cons (ps_set (i := 2) scTake.nd rfl (Or.inl rfl) (pe_op op_mod (pe_ix ix_list (pv 0) pe_int (fun _ _ => rfl)) (pv 1)))
        (pss_cons (ps_asg (pe_op op_fdivW (pe_ix ix_list (pv 0) pe_int (fun _ _ => rfl)) (pv 1)) (pg_sub (pv 0) pe_int set_list))
        (pss_one (ps_ret (pv 2))))) pss_nil)
      (pss_cons (ps_asg (pe_op op_add (pe_ix ix_list (pv 0) pe_int (fun _ _ => rfl)) pe_int) (pg_sub (pv 0) pe_int set_list))
      (pss_cons (ps_set (i := 3) scTake.nd rfl (Or.inl rfl) (pe_op op_mod (pe_op op_pow (pe_op op_add (pe_op op_add (pe_ix ix_list (pv 0) pe_int (fun _ _ => rfl)) (pe_op op_mul pe_int (pe_ix ix_list (pv 0) pe_int (fun _ _ => rfl)))) pe_int) pe_int) pe_int))
      (pss_cons (ps_set (i := 3) scTake.nd rfl (Or.inl rfl) (pe_op op_mod (pe_op op_pow (pe_op op_add (pv 3) (pe_op op_mul pe_int (pe_ix ix_list (pv 0) pe_int (fun _ _ => rfl)))) pe_int) pe_int))
      (pss_one (ps_ret (pe_op op_mod (pe_op op_fdiv (pv 3) pe_int) (pv 1))))))), ?_⟩
    have hL : SqL K H b [.int x, .int y, .int z] := SqL.of hb
    refine ⟨_, rfl, b, _, _, _, rfl, rfl, hL, i0 _ _ _, _, _, rfl, rfl, _, rfl, ite2 (fun c => ?_) (fun c => ?_)⟩
    · refine ⟨_, rfl, b, _, _, _, rfl, rfl, hL, i0 _ _ _, _, rfl, _, _, rfl, rfl, m0, ?_⟩
      refine ⟨_, rfl, b, _, _, _, rfl, rfl, hL, i0 _ _ _, _, rfl, _, _, rfl, rfl, ⟨m0, ml⟩, ?_⟩
      refine ⟨_, rfl, b, _, _, _, rfl, rfl, hb, j0, ?_⟩
      refine ⟨_, rfl, ?_⟩
      exact k _ _ (Int.emod_nonneg _ (by omega)) (Int.emod_lt_of_pos _ m0) (fun a na => upd_ne na) ⟨_, _, _, upd_same, Int.ediv_nonneg x0 (by omega), y0, y1, z0, by omega⟩
    · refine ⟨_, rfl, b, _, _, _, rfl, rfl, hL, i2 _ _ _, _, _, rfl, rfl, ?_⟩
      refine ⟨_, rfl, b, _, _, _, rfl, rfl, hb, j2, ?_⟩
      have h1 : upd H b (.lst ([V.int x, .int y, .int z].set 2 (.int (z + 1)))) b = some (.lst [.int x, .int y, .int (z + 1)]) := upd_same
      have hL1 : SqL K (upd H b (.lst ([V.int x, .int y, .int z].set 2 (.int (z + 1))))) b [.int x, .int y, .int (z + 1)] := SqL.of h1
      refine ⟨_, rfl, b, _, _, _, rfl, rfl, hL1, i1 _ _ _, _, rfl, b, _, _, _, rfl, rfl, hL1, i2 _ _ _, _, _, rfl, rfl, .inl ⟨by decide, by decide⟩, _, _, rfl, rfl, _, _, rfl, rfl,
        _, _, rfl, rfl, ⟨by decide, by decide, ?_⟩, _, _, rfl, rfl, (by show (0 : Int) < 2147483647; decide), ?_⟩
      · omega
      refine ⟨_, rfl, _, rfl, b, _, _, _, rfl, rfl, hL1, i2 _ _ _, _, _, rfl, rfl, .inl ⟨by decide, by decide⟩, _, _, rfl, rfl,
        _, _, rfl, rfl, ⟨by decide, by decide, ?_⟩, _, _, rfl, rfl, (by show (0 : Int) < 2147483587; decide), ?_⟩
      · have g0 := Int.emod_nonneg ((y + 7919 * (z + 1) + 59) ^ (5 : Int).toNat) (show (2147483647 : Int) ≠ 0 by decide)
        have g1 := Int.emod_lt_of_pos ((y + 7919 * (z + 1) + 59) ^ (5 : Int).toNat) (show (0 : Int) < 2147483647 by decide)
        generalize (y + 7919 * (z + 1) + 59) ^ (5 : Int).toNat % 2147483647 = q at g0 g1 ⊢
        omega
      refine ⟨_, rfl, _, _, rfl, rfl, ⟨by decide, by decide⟩, _, rfl, _, _, rfl, rfl, m0, ?_⟩
      exact k _ _ (Int.emod_nonneg _ (by omega)) (Int.emod_lt_of_pos _ m0) (fun a na => upd_ne na) ⟨_, _, _, h1, x0, y0, y1, by omega, by omega⟩
end
end K14


set_option maxRecDepth 100000
set_option maxHeartbeats 4000000
/-! Data in the heap, kept by steps that change a box, a table. -/
namespace My
open PySem PySem.Spec PyProof.Rows L2 GxR Gd TL
/-- all but tables stays -/
def Nt (H H' : Hp) : Prop := ∀ c o, (∀ ps, o ≠ .tbl ps) → H c = some o → H' c = some o
theorem Nt.refl (H : Hp) : Nt H H := fun _ _ _ h => h
theorem Nt.trans {H H1 H2 : Hp} (a : Nt H H1) (b : Nt H1 H2) : Nt H H2 := fun c o n h => b c o n (a c o n h)
theorem KT.nt {P : Addr} {H H' : Hp} (t : TabG H P) (k : KT P H H') : Nt H H' := fun c o n h => k.keep c o (ne_tab t h n) h
theorem Nt.alloc {H : Hp} {p : Addr} {o : HO} (n : H p = none) : Nt H (upd H p o) := fun c u _ h => by rw [upd_ne (ne_of_none h n)]; exact h
/-- the heap but the box -/
def hide (b : Addr) (H : Hp) : Hp := fun c => if c = b then none else H c
theorem hide_ne {b c : Addr} {H : Hp} (h : c ≠ b) : hide b H c = H c := if_neg h
theorem hide_some {b c : Addr} {H : Hp} {o : HO} (h : hide b H c = some o) : c ≠ b ∧ H c = some o := by
  unfold hide at h
  by_cases q : c = b
  · rw [if_pos q] at h
    cases h
  · rw [if_neg q] at h
    exact ⟨q, h⟩
theorem KB.nt {b : Addr} {H H' : Hp} (k : KB b H H') : Nt (hide b H) (hide b H') := fun c o _ h => by
  obtain ⟨n, h⟩ := hide_some h
  rw [hide_ne n]
  exact k c o n h
theorem hide_nt (b : Addr) (H : Hp) : Nt (hide b H) H := fun c o _ h => (hide_some h).2
theorem Nt.seq {K : PySem.W.Frag} {H H' : Hp} {a : Addr} {xs : List V} (e : Nt H H') (h : SqL K H a xs) : SqL K H' a xs := by
  rcases h with (h | ⟨o, h⟩) | h
  · exact .inl (.inl (e _ _ (by simp) h))
  · exact .inl (.inr ⟨o, e _ _ (by simp) h⟩)
  · exact .inr h
theorem Nt.seqT {K : PySem.W.Frag} {H H' : Hp} {a : Addr} {xs : List V} (e : Nt H H') (h : SqT K H a xs) : SqT K H' a xs := by
  rcases h with (h | ⟨o, h⟩) | h
  · exact .inl (.inl (e _ _ (by simp) h))
  · exact .inl (.inr ⟨o, e _ _ (by simp) h⟩)
  · exact .inr h
section
variable {K : PySem.W.Frag} {H H' : Hp}
mutual
theorem dp_nt (e : Nt H H') : ∀ {v : V} {d : PyData}, Dp K H v d → Dp K H' v d
  | _, _, .non => .non
  | _, _, .bl b => .bl b
  | _, _, .int i => .int i
  | _, _, .str z => .str z
  | _, _, .lst h a => .lst (e.seq h) (dpAll_nt e a)
  | _, _, .tup h a => .tup (e.seqT h) (dpAll_nt e a)
theorem dpAll_nt (e : Nt H H') : ∀ {vs : List V} {ds : List PyData}, DpAll K H vs ds → DpAll K H' vs ds
  | _, _, .nil => .nil
  | _, _, .cons h t => .cons (dp_nt e h) (dpAll_nt e t)
end
theorem dp_list {v : V} {ds : List PyData} (h : Dp K H v (.list ds)) : ∃ a xs, v = .ref a ∧ SqL K H a xs ∧ DpAll K H xs ds := by
  cases h with
  | lst h a => exact ⟨_, _, rfl, h, a⟩
theorem dp_tuple {v : V} {ds : List PyData} (h : Dp K H v (.tuple ds)) : ∃ a xs, v = .ref a ∧ SqT K H a xs ∧ DpAll K H xs ds := by
  cases h with
  | tup h a => exact ⟨_, _, rfl, h, a⟩
theorem dp_str {v : V} {z : Str} (h : Dp K H v (.str z)) : v = .str z := by
  cases h
  rfl
theorem dp_int {v : V} {i : Int} (h : Dp K H v (.int i)) : v = .int i := by
  cases h
  rfl
theorem dp_none {v : V} (h : Dp K H v .none) : v = .non := by
  cases h
  rfl
theorem dpAll_len : ∀ {xs : List V} {ds : List PyData}, DpAll K H xs ds → xs.length = ds.length
  | _, _, .nil => rfl
  | _, _, .cons _ t => congrArg (· + 1) (dpAll_len t)
theorem dpAll_get : ∀ {xs : List V} {ds : List PyData}, DpAll K H xs ds → ∀ {i : Nat} {x : V}, xs[i]? = some x → ∃ d, ds[i]? = some d ∧ Dp K H x d
  | _, _, .nil, _, _, h => by simp at h
  | _, _, .cons a _, 0, _, h => by simp at h; subst h; exact ⟨_, rfl, a⟩
  | _, _, .cons _ t, i + 1, x, h => by
    obtain ⟨d, h1, h2⟩ := dpAll_get t (i := i) (x := x) (by simpa using h)
    exact ⟨d, by simpa using h1, h2⟩
theorem dpAll_at : ∀ {xs : List V} {ds : List PyData}, DpAll K H xs ds → ∀ {i : Nat} {d : PyData}, ds[i]? = some d → ∃ x, xs[i]? = some x ∧ Dp K H x d
  | _, _, .nil, _, _, h => by simp at h
  | _, _, .cons a _, 0, _, h => by simp at h; subst h; exact ⟨_, rfl, a⟩
  | _, _, .cons _ t, i + 1, d, h => by
    obtain ⟨x, h1, h2⟩ := dpAll_at t (i := i) (d := d) (by simpa using h)
    exact ⟨x, by simpa using h1, h2⟩
theorem dpAll_app : ∀ {xs ys : List V} {ds es : List PyData}, DpAll K H xs ds → DpAll K H ys es → DpAll K H (xs ++ ys) (ds ++ es)
  | _, _, _, _, .nil, h => h
  | _, _, _, _, .cons a t, h => .cons a (dpAll_app t h)
theorem dp_two {v : V} {c d : PyData} (h : Dp K H v (.tuple [c, d])) : ∃ a x y, v = .ref a ∧ SqT K H a [x, y] ∧ Dp K H x c ∧ Dp K H y d := by
  obtain ⟨a, xs, rfl, h1, h2⟩ := dp_tuple h
  cases h2 with
  | cons p t =>
    cases t with
    | cons q t =>
      cases t
      exact ⟨a, _, _, rfl, h1, p, q⟩
theorem dp_three {v : V} {c d e : PyData} (h : Dp K H v (.tuple [c, d, e])) : ∃ a x y z, v = .ref a ∧ SqT K H a [x, y, z] ∧ Dp K H x c ∧ Dp K H y d ∧ Dp K H z e := by
  obtain ⟨a, xs, rfl, h1, h2⟩ := dp_tuple h
  cases h2 with
  | cons p t =>
    cases t with
    | cons q t =>
      cases t with
      | cons r t =>
        cases t
        exact ⟨a, _, _, _, rfl, h1, p, q, r⟩
theorem dp_four {v : V} {c d e f : PyData} (h : Dp K H v (.list [c, d, e, f])) : ∃ a x y z u, v = .ref a ∧ SqL K H a [x, y, z, u] ∧ Dp K H x c ∧ Dp K H y d ∧ Dp K H z e ∧ Dp K H u f := by
  obtain ⟨a, xs, rfl, h1, h2⟩ := dp_list h
  cases h2 with
  | cons p t =>
    cases t with
    | cons q t =>
      cases t with
      | cons r t =>
        cases t with
        | cons s t =>
          cases t
          exact ⟨a, _, _, _, _, rfl, h1, p, q, r, s⟩
end
/-! ### names that are good, worlds of lines -/
def NameOk (z : Str) : Prop := 1 ≤ z.length ∧ z.length ≤ 6 ∧ z.cps.toList.all lc = true
theorem NameOk.good {z : Str} (h : NameOk z) : Good z := fun c hc => by
  have := List.all_eq_true.mp h.2.2 c hc
  unfold lc at this
  simp at this
  omega
theorem NameOk.nm {z : Str} (h : NameOk z) : nm (.str z) = true := by
  obtain ⟨h1, h2, h3⟩ := h
  simp [My.nm, h1, h2, h3]
theorem NameOk.th {z : Str} {H : Hp} (h : NameOk z) : Th H (.str z) := .str z (by have := h.2.1; omega) h.good
structure Wd where
  ps : List (Str × Int)
  st : List (Str × Int)
  lo : List (Int × Int × Int)
  sp : Str
def longsOk (top : Int) : Int → List (Int × Int × Int) → Prop
  | _, [] => True
  | low, (f, l, h) :: r => low ≤ f ∧ f + 2 ≤ l ∧ l ≤ top ∧ 0 ≤ h ∧ h ≤ 1 ∧ longsOk top l r
structure Wd.Ok (w : Wd) : Prop where
  p2 : 2 ≤ w.ps.length
  p6 : w.ps.length ≤ 6
  nm : ∀ p ∈ w.ps, NameOk p.1 ∧ 1 ≤ p.2 ∧ p.2 ≤ 3
  nd : (w.ps.map (·.1)).Nodup
  sl : w.st.length + 1 = w.ps.length
  st : ∀ p ∈ w.st, (p.1 = "staff" ∨ p.1 = "ticket") ∧ 0 ≤ p.2 ∧ p.2 ≤ 1
  ll : w.lo.length ≤ 2
  lo : longsOk (w.ps.length - 1 : Nat) 0 w.lo
  sn : NameOk w.sp
  s0 : w.sp ∉ w.ps.map (·.1)
def dP (p : Str × Int) : PyData := .tuple [.str p.1, .int p.2]
def dL (p : Int × Int × Int) : PyData := .tuple [.int p.1, .int p.2.1, .int p.2.2]
def Wd.data (w : Wd) : PyData := .list [.list (w.ps.map dP), .list (w.st.map dP), .list (w.lo.map dL), .str w.sp]
end My

set_option maxRecDepth 100000
set_option maxHeartbeats 400000
/-! small data: what repr asks of them -/
namespace My
open PySem PySem.Spec PyProof.Rows L2 GxR Gd TL
structure Sm (d : PyData) (k m : Nat) : Prop where
  lay : d.canLay0 = true
  dep : d.depth ≤ k
  wt : d.weight ≤ m
  ish : d.intsShort 13 = true
  sh : d.showable = true
theorem Sm.rep {d : PyData} {k m : Nat} (h : Sm d k m) (hk : k ≤ 64) (hm : m ≤ 2 ^ 20) : d.showable = true ∧ d.depth ≤ 100 ∧ d.shown.length ≤ sizeLine := by
  refine ⟨h.sh, Nat.le_trans h.dep (by omega), Nat.le_trans (shown_le13 ?_ h.ish) (by rw [sizeLine_eq]; decide)⟩
  unfold PyData.layable0
  rw [Bool.and_eq_true, Bool.and_eq_true, decide_eq_true_eq, decide_eq_true_eq]
  exact ⟨⟨h.lay, Nat.le_trans h.dep hk⟩, Nat.le_trans h.wt hm⟩
theorem Sm.mono {d : PyData} {k m k' m' : Nat} (h : Sm d k m) (hk : k ≤ k') (hm : m ≤ m') : Sm d k' m' := ⟨h.lay, Nat.le_trans h.dep hk, Nat.le_trans h.wt hm, h.ish, h.sh⟩
theorem sm_none : Sm .none 0 0 := ⟨rfl, Nat.le_refl 0, Nat.le_refl 0, rfl, rfl⟩
theorem sm_bool (b : Bool) : Sm (.bool b) 0 0 := ⟨rfl, Nat.le_refl 0, Nat.le_refl 0, rfl, rfl⟩
theorem sm_int {i : Int} (h : i.natAbs ≤ 1000) : Sm (.int i) 0 20 := by
  have hl : i.natAbs.log2 ≤ 10 := by
    by_cases z : i.natAbs = 0
    · rw [z]; decide
    · have : i.natAbs.log2 < 11 := (Nat.log2_lt z).mpr (by omega)
      omega
  refine ⟨rfl, Nat.le_refl 0, ?_, ?_, ?_⟩
  · unfold PyData.weight
    split
    · omega
    · omega
  · exact intsShort_of_noneOrIn (lo := -2000) (hi := 2000) (by decide) (by decide) (.int i) (by simp [noneOrIn]; omega)
  · unfold PyData.showable
    rw [decide_eq_true_eq]
    omega
theorem sm_str {z : Str} (g : Good z) (h : z.length ≤ 6) : Sm (.str z) 0 6 := by
  refine ⟨?_, Nat.le_refl 0, h, rfl, rfl⟩
  unfold PyData.canLay0
  unfold PyData.strOk
  rw [Array.all_eq_true_iff_forall_mem]
  intro c hc
  exact decide_eq_true (g c (Array.mem_toList_iff.mpr hc))
theorem sm_all {k m : Nat} : ∀ {ds : List PyData}, (∀ d ∈ ds, Sm d k m) → PyData.canLayAll0 ds = true ∧ PyData.depthAll ds ≤ k ∧ PyData.weightAll ds ≤ ds.length * (m + 1) ∧ PyData.intsShortAll 13 ds = true ∧ PyData.showableAll ds = true
  | [], _ => ⟨rfl, Nat.zero_le _, Nat.zero_le _, rfl, rfl⟩
  | d :: r, h => by
    obtain ⟨a1, a2, a3, a4, a5⟩ := sm_all (ds := r) fun x hx => h x (List.mem_cons_of_mem _ hx)
    have b := h d List.mem_cons_self
    refine ⟨?_, ?_, ?_, ?_, ?_⟩
    · unfold PyData.canLayAll0; rw [b.lay, a1]; rfl
    · unfold PyData.depthAll; exact Nat.max_le.mpr ⟨b.dep, a2⟩
    · unfold PyData.weightAll
      have := b.wt
      rw [List.length_cons, Nat.succ_mul]
      omega
    · unfold PyData.intsShortAll; rw [b.ish, a4]; rfl
    · unfold PyData.showableAll; rw [b.sh, a5]; rfl
theorem sm_list {k m : Nat} {ds : List PyData} (h : ∀ d ∈ ds, Sm d k m) : Sm (.list ds) (k + 1) (ds.length * (m + 1)) := by
  obtain ⟨a1, a2, a3, a4, a5⟩ := sm_all h
  exact ⟨by unfold PyData.canLay0; exact a1, by unfold PyData.depth; omega, by unfold PyData.weight; exact a3, by unfold PyData.intsShort; exact a4, by unfold PyData.showable; exact a5⟩
theorem sm_tuple {k m : Nat} {ds : List PyData} (h : ∀ d ∈ ds, Sm d k m) : Sm (.tuple ds) (k + 1) (ds.length * (m + 1)) := by
  obtain ⟨a1, a2, a3, a4, a5⟩ := sm_all h
  exact ⟨by unfold PyData.canLay0; exact a1, by unfold PyData.depth; omega, by unfold PyData.weight; exact a3, by unfold PyData.intsShort; exact a4, by unfold PyData.showable; exact a5⟩
theorem sm_dP {p : Str × Int} (g : Good p.1) (h : p.1.length ≤ 6) (hr : p.2.natAbs ≤ 1000) : Sm (dP p) 1 42 :=
  sm_tuple (k := 0) (m := 20) (ds := [.str p.1, .int p.2]) fun d hd => by
    simp only [List.mem_cons, List.not_mem_nil, or_false] at hd
    rcases hd with rfl | rfl
    · exact (sm_str g h).mono (Nat.le_refl 0) (by decide)
    · exact sm_int hr
theorem sm_names {a b : Str} (ha : NameOk a) (hb : NameOk b) : Sm (.tuple [.str a, .str b]) 1 14 :=
  sm_tuple (k := 0) (m := 6) (ds := [.str a, .str b]) fun d hd => by
    simp only [List.mem_cons, List.not_mem_nil, or_false] at hd
    rcases hd with rfl | rfl
    · exact sm_str ha.good ha.2.1
    · exact sm_str hb.good hb.2.1
end My

set_option maxRecDepth 100000
set_option maxHeartbeats 400000
/-! data with longer texts and numbers: what repr asks of them -/
namespace My
open PySem PySem.Spec PyProof.Rows L2 GxR Gd TL
structure Sb (d : PyData) (k m : Nat) : Prop where
  lv : d.leavesShort 40 = true
  dep : d.depth ≤ k
  wt : d.weight ≤ m
  sh : d.showable = true
theorem Sb.rep {d : PyData} {k m : Nat} (h : Sb d k m) (hk : k ≤ 100) (hm : m ≤ 390000) : d.showable = true ∧ d.depth ≤ 100 ∧ d.shown.length ≤ sizeLine := by
  refine ⟨h.sh, Nat.le_trans h.dep hk, ?_⟩
  have h1 := PyData.shown_le 40 (by decide) d h.lv
  have h2 := h.wt
  refine Nat.le_trans h1 (Nat.le_trans (m := 42 * 390000 + 40) (by omega) (by rw [sizeLine_eq]; decide))
theorem Sb.mono {d : PyData} {k m k' m' : Nat} (h : Sb d k m) (hk : k ≤ k') (hm : m ≤ m') : Sb d k' m' := ⟨h.lv, Nat.le_trans h.dep hk, Nat.le_trans h.wt hm, h.sh⟩
theorem sb_none : Sb .none 0 0 := ⟨rfl, Nat.le_refl 0, Nat.le_refl 0, rfl⟩
theorem sb_bool (b : Bool) : Sb (.bool b) 0 0 := ⟨rfl, Nat.le_refl 0, Nat.le_refl 0, rfl⟩
theorem text_int {i : Int} (h : i.natAbs < 10 ^ 31) : (Str.ofString (toString i)).length ≤ 32 := by
  have e := int_text_length_le10 (k := 31) (by decide) h
  rw [PySem.ofString_length]
  exact e
theorem sb_int {i : Int} (h : i.natAbs < 10 ^ 31) : Sb (.int i) 0 110 := by
  have hl : i.natAbs.log2 ≤ 109 := by
    by_cases z : i.natAbs = 0
    · rw [z]; decide
    · have : i.natAbs.log2 < 110 := (Nat.log2_lt z).mpr (Nat.lt_of_lt_of_le h (by decide))
      omega
  refine ⟨?_, Nat.le_refl 0, ?_, ?_⟩
  · unfold PyData.leavesShort
    rw [decide_eq_true_eq]
    exact Nat.le_trans (text_int h) (by decide)
  · unfold PyData.weight
    split <;> omega
  · unfold PyData.showable
    rw [decide_eq_true_eq]
    omega
theorem sb_str {z : Str} {m : Nat} (g : Good z) (h : z.length ≤ m) : Sb (.str z) 0 m := by
  refine ⟨?_, Nat.le_refl 0, h, rfl⟩
  unfold PyData.leavesShort
  rw [List.all_eq_true]
  intro c hc
  have := g c hc
  rw [decide_eq_true_eq]
  exact Nat.lt_trans this (by decide)
theorem sb_all {k m : Nat} : ∀ {ds : List PyData}, (∀ d ∈ ds, Sb d k m) → PyData.leavesShortAll 40 ds = true ∧ PyData.depthAll ds ≤ k ∧ PyData.weightAll ds ≤ ds.length * (m + 1) ∧ PyData.showableAll ds = true
  | [], _ => ⟨rfl, Nat.zero_le _, Nat.zero_le _, rfl⟩
  | d :: r, h => by
    obtain ⟨a1, a2, a3, a4⟩ := sb_all (ds := r) fun x hx => h x (List.mem_cons_of_mem _ hx)
    have b := h d List.mem_cons_self
    refine ⟨?_, ?_, ?_, ?_⟩
    · unfold PyData.leavesShortAll; rw [b.lv, a1]; rfl
    · unfold PyData.depthAll; exact Nat.max_le.mpr ⟨b.dep, a2⟩
    · unfold PyData.weightAll
      have := b.wt
      rw [List.length_cons, Nat.succ_mul]
      omega
    · unfold PyData.showableAll; rw [b.sh, a4]; rfl
theorem sb_list {k m : Nat} {ds : List PyData} (h : ∀ d ∈ ds, Sb d k m) : Sb (.list ds) (k + 1) (ds.length * (m + 1)) := by
  obtain ⟨a1, a2, a3, a4⟩ := sb_all h
  exact ⟨by unfold PyData.leavesShort; exact a1, by unfold PyData.depth; omega, by unfold PyData.weight; exact a3, by unfold PyData.showable; exact a4⟩
theorem sb_tuple {k m : Nat} {ds : List PyData} (h : ∀ d ∈ ds, Sb d k m) : Sb (.tuple ds) (k + 1) (ds.length * (m + 1)) := by
  obtain ⟨a1, a2, a3, a4⟩ := sb_all h
  exact ⟨by unfold PyData.leavesShort; exact a1, by unfold PyData.depth; omega, by unfold PyData.weight; exact a3, by unfold PyData.showable; exact a4⟩
theorem good_int (i : Int) : Good (Str.ofString (toString i)) := good_of _
end My

set_option maxRecDepth 100000
set_option maxHeartbeats 400000
namespace K14C
open PySem PySem.Spec PyProof.Rows L2 GxR Gd TL My K14
/-- a method of the class -/
structure Me (K : PySem.W.Frag) (C : Addr) (m qual : Str) (st : Stmt) (ps : List Str) (f : Addr) (fd : FuncData) : Prop where
  fn : Fun K m qual st f fd
  m : Meth K C m f
  b : Binds K fd ps []
/-! ### a count -/
theorem lt_ : ¬ (("_last" : Str) = "_told") := by decide +kernel
theorem tl_ : ¬ (("_told" : Str) = "_last") := by decide +kernel
def cf (l t : Int) : List (Str × V) := putF "_told" (.int t) (putF "_last" (.int l) [])
theorem cf_eq (l t : Int) : cf l t = ([("_last", V.int l), ("_told", V.int t)] : List (Str × V)) := by
  show (if ("_last" : Str) = "_told" then [(("_last" : Str), V.int t)] else (("_last" : Str), V.int l) :: putF "_told" (V.int t) []) = _
  rw [if_neg lt_]
  rfl
theorem cf_last (l t : Int) : (cf l t).lookup ("_last" : Str) = some (.int l) := by
  unfold cf
  rw [lookup_putF, if_neg lt_, lookup_putF, if_pos rfl]
theorem cf_told (l t : Int) : (cf l t).lookup ("_told" : Str) = some (.int t) := by
  unfold cf
  rw [lookup_putF, if_pos rfl]
theorem cf_no (l t : Int) {m : Str} (h1 : ¬ m = "_told") (h2 : ¬ m = "_last") : (cf l t).lookup m = none := by
  unfold cf
  rw [lookup_putF, if_neg h1, lookup_putF, if_neg h2]
  rfl
theorem cf_put_told (l t u : Int) : putF "_told" (.int u) (cf l t) = cf l u := by
  rw [cf_eq, cf_eq]
  show (if ("_last" : Str) = "_told" then _ else (("_last" : Str), V.int l) :: (if ("_told" : Str) = "_told" then [(("_told" : Str), V.int u)] else _)) = _
  rw [if_neg lt_, if_pos rfl]
theorem cf_put_last (l t u : Int) : putF "_last" (.int u) (cf l t) = cf u t := by
  rw [cf_eq, cf_eq]
  show (if ("_last" : Str) = "_last" then (("_last" : Str), V.int u) :: [(("_told" : Str), V.int t)] else _) = _
  rw [if_pos rfl]
theorem cf_len (l t : Int) : (cf l t).length < 1000 := by rw [cf_eq]; simp
theorem dec_int (t l : Int) : decide (V.int t = V.int l) = decide (t = l) := by simp
/-- what the written part says of the class -/
structure CntT (K : PySem.W.Frag) (C : Addr) : Prop where
  cl : Cls K C
  nl : NoAttr K C "_last"
  nt : NoAttr K C "_told"
section
variable {P : Program} {w : World} {K : PySem.W.Frag} {mg : Str → Option Value} {base : Heap} {C : Addr}
abbrev s_init : Stmt := inClass (top 8) 0
theorem sc_init : FnScope ["self"] ["self"] (defScope s_init) := ⟨rfl, rfl, rfl, by decide +kernel, rfl, by decide +kernel, by decide +kernel⟩
def spInit (C : Addr) : Sp := fun vs H Q _ => ∃ c dx, vs = [.ref c] ∧ H c = some (.ins C dx []) ∧ Q .non (upd (upd H c (.ins C dx (putF "_last" (.int 0) []))) c (.ins C dx (cf 0 0)))
theorem ok_init {f : Addr} {fd : FuncData} (F : Fun K "__init__" "Count.__init__" s_init f fd) (T : CntT K C) : FnOk P w K mg base CX0 1 f fd ["self"] (spInit C) := by
  refine F.ok sc_init (fun vs H Q E h => ?_) (fun cdv A outer s H vs Q E hr h => ?_)
  · obtain ⟨c, dx, rfl, _⟩ := h
    rfl
  · obtain ⟨c, dx, rfl, e, k⟩ := h
    refine ⟨_, pss_cons (ps_fld (pv 0) pe_int rfl) (pss_one (ps_fld (pv 0) pe_int rfl)), ?_⟩
    exact ⟨_, rfl, c, C, dx, _, rfl, e, T.cl, T.nl, (by decide), _, rfl, c, C, dx, _, rfl, upd_same, T.cl, T.nt, (by show 1 < 1000; decide), k⟩
abbrev s_out : Stmt := inClass (top 8) 1
theorem sc_out : FnScope ["self"] ["self"] (defScope s_out) := ⟨rfl, rfl, rfl, by decide +kernel, rfl, by decide +kernel, by decide +kernel⟩
def spOut (C : Addr) : Sp := fun vs H Q _ => ∃ c dx l t, vs = [.ref c] ∧ H c = some (.ins C dx (cf l t)) ∧ Q (.int (l + 1)) (upd H c (.ins C dx (cf (l + 1) t)))
theorem ok_out {f : Addr} {fd : FuncData} (F : Fun K "out" "Count.out" s_out f fd) (T : CntT K C) : FnOk P w K mg base CX0 1 f fd ["self"] (spOut C) := by
  refine F.ok sc_out (fun vs H Q E h => ?_) (fun cdv A outer s H vs Q E hr h => ?_)
  · obtain ⟨c, dx, l, t, rfl, _⟩ := h
    rfl
  · obtain ⟨c, dx, l, t, rfl, e, k⟩ := h
    refine ⟨_, pss_cons (ps_fldaug (pv 0) pe_int in_add) (pss_one (ps_ret (pe_fld (pv 0) rfl))), ?_⟩
    refine ⟨_, rfl, c, C, _, _, _, rfl, e, T.cl, T.nl, cf_last l t, _, _, rfl, rfl, _, _, e, cf_len _ _, ?_⟩
    rw [cf_put_last]
    exact ⟨_, rfl, c, C, dx, _, _, rfl, upd_same, T.cl, T.nl, cf_last _ _, k⟩
abbrev s_last : Stmt := inClass (top 8) 4
theorem sc_last : FnScope ["self"] ["self"] (defScope s_last) := ⟨rfl, rfl, rfl, by decide +kernel, rfl, by decide +kernel, by decide +kernel⟩
def spLast (C : Addr) : Sp := fun vs H Q _ => ∃ c dx l t, vs = [.ref c] ∧ H c = some (.ins C dx (cf l t)) ∧ Q (.int l) H
theorem ok_last {f : Addr} {fd : FuncData} (F : Fun K "last" "Count.last" s_last f fd) (T : CntT K C) : FnOk P w K mg base CX0 1 f fd ["self"] (spLast C) := by
  refine F.ok sc_last (fun vs H Q E h => ?_) (fun cdv A outer s H vs Q E hr h => ?_)
  · obtain ⟨c, dx, l, t, rfl, _⟩ := h
    rfl
  · obtain ⟨c, dx, l, t, rfl, e, k⟩ := h
    refine ⟨_, pss_one (ps_ret (pe_fld (pv 0) rfl)), ?_⟩
    exact ⟨_, rfl, c, C, dx, _, _, rfl, e, T.cl, T.nl, cf_last l t, k⟩
abbrev s_clear : Stmt := inClass (top 8) 6
theorem sc_clear : FnScope ["self"] ["self"] (defScope s_clear) := ⟨rfl, rfl, rfl, by decide +kernel, rfl, by decide +kernel, by decide +kernel⟩
def spClear (C : Addr) : Sp := fun vs H Q _ => ∃ c dx l t, vs = [.ref c] ∧ H c = some (.ins C dx (cf l t)) ∧ Q (.bl (decide (t = l))) H
theorem ok_clear {f : Addr} {fd : FuncData} (F : Fun K "clear" "Count.clear" s_clear f fd) (T : CntT K C) : FnOk P w K mg base CX0 1 f fd ["self"] (spClear C) := by
  refine F.ok sc_clear (fun vs H Q E h => ?_) (fun cdv A outer s H vs Q E hr h => ?_)
  · obtain ⟨c, dx, l, t, rfl, _⟩ := h
    rfl
  · obtain ⟨c, dx, l, t, rfl, e, k⟩ := h
    refine ⟨_, pss_one (ps_ret (pe_cmpR op_eq (pe_fld (pv 0) rfl) (pe_fld (pv 0) rfl) (nomark _))), ?_⟩
    refine ⟨_, rfl, c, C, dx, _, _, rfl, e, T.cl, T.nt, cf_told l t, _, rfl, c, C, dx, _, _, rfl, e, T.cl, T.nl, cf_last l t, rfl, ?_⟩
    show Q (.bl (decide (V.int t = V.int l))) H
    rw [dec_int]
    exact k
abbrev s_through : Stmt := inClass (top 8) 2
theorem sc_through : FnScope ["self", "number"] ["self", "number"] (defScope s_through) := ⟨rfl, rfl, rfl, by decide +kernel, rfl, by decide +kernel, by decide +kernel⟩
def spThrough (C : Addr) : Sp := fun vs H Q _ => ∃ c dx l t i, vs = [.ref c, .int i] ∧ H c = some (.ins C dx (cf l t)) ∧ 1 ≤ i ∧ i ≤ l ∧ Q .non (upd H c (.ins C dx (cf l (max t i))))
theorem ok_through {f fW : Addr} {fd fdW : FuncData} (F : Fun K "through" "Count.through" s_through f fd) (T : Txt mg) (TC : CntT K C)
    (Gis_whole : FnOk P w K mg base CX0 1 fW fdW ["thing", "low", "high"] spWhole) (Nis_whole : Fn K mg "is_whole" sWhole ["thing", "low", "high"] fW fdW) :
    FnOk P w K mg base CX0 2 f fd ["self", "number"] (spThrough C) := by
  refine F.ok sc_through (fun vs H Q E h => ?_) (fun cdv A outer s H vs Q E hr h => ?_)
  · obtain ⟨c, dx, l, t, i, rfl, _⟩ := h
    rfl
  · obtain ⟨c, dx, l, t, i, rfl, e, h1, h2, k⟩ := h
    refine ⟨_, pss_cons (ps_if (pt_not (pt_val (pe_call Gis_whole (hr.mono (by decide)) (by rfl) Nis_whole.g Nis_whole.kp Nis_whole.b .nil pass0 (pa_cons (pv 1) (pa_cons pe_int (pa_cons (pe_fld (pv 0) rfl) pa_nil)))))) (pss_one ps_never) pss_nil)
      (pss_one (ps_fld (pv 0) (pe_callB (call_max2 rfl) (by rfl) T.max_ (by decide +kernel) (pa_cons (pe_fld (pv 0) rfl) (pa_cons (pv 1) pa_nil))) rfl)), ?_⟩
    refine ⟨_, rfl, _, rfl, c, C, dx, _, _, rfl, e, TC.cl, TC.nl, cf_last l t, .int i, 1, l, rfl, .int i, ?_⟩
    rw [show wh 1 l (.int i) = true by simp [wh, h1, h2]]
    refine ⟨_, rfl, iteF ?_⟩
    refine ⟨_, rfl, c, C, dx, _, _, rfl, e, TC.cl, TC.nt, cf_told l t, _, rfl, _, _, rfl, ?_⟩
    refine ⟨_, rfl, c, C, dx, _, rfl, e, TC.cl, TC.nt, cf_len _ _, ?_⟩
    rw [cf_put_told, show (if i > t then i else t) = max t i by omega]
    exact k
end
end K14C

set_option maxRecDepth 100000
set_option maxHeartbeats 1000000
/-! sorted(d) of a dict whose keys are ints, any number of them -/
namespace My
open PySem PySem.Spec PyProof.Rows L2 GxR Gd
theorem call_sortedDA {X : Cx} (hcalm : X.calm = true) : CallR X (.builtin "sorted") (fun xs H Q => ∃ (a : Addr) (kvs : List (Key × V)) (ks : List Int), xs = [.ref a] ∧ Rd H a (.dK kvs) ∧ kvs.map (·.1) = ks.map Sum.inl ∧
    ∀ (ys : List Int) (p : Addr), ys.Perm ks → ys.Pairwise (· ≤ ·) → H p = none → Q (.ref p) (upd H p (.lst (ys.map V.int)))) := by
  intro pins s σ H xs us Q I r fin
  obtain ⟨a, kvs, ks, ex, dRd, keyS, fin⟩ := fin
  subst ex
  obtain ⟨u, eu, rx⟩ := vals1 r
  subst eu
  cases rx
  obtain ⟨big, nsm, prs, rl, dct⟩ := dk_rd I.hok dRd
  obtain ⟨epo, dAt⟩ := dct.dictAt
  have keyE : prs.map (·.1) = ks.map Sum.inl := rl.keys.symm.trans keyS
  have lenE : prs.length = ks.length := by
    have e := congrArg List.length keyE
    rw [List.length_map, List.length_map] at e
    exact e
  have fit : prs.length ≤ sizeLine := by rw [← rl.length]; exact big
  refine Calls.call_function_entry PyProof.Rows.kind_sorted PyProof.Rows.plain_sorted PyProof.Rows.entry_sorted (PyProof.Rows.args_sorted1 _) ?_
  unfold Builtin.«sorted»
  refine wpAny_bind (m := checkCount "sorted" 1 1 _) (wpAny_pure ?_)
  refine wpAny_bind (PySem.W.kdu_collect (A := X.A.in1) (PySem.W.kdl_dict (knd := mixKind X.prog X.w) (kvs := prs) (ep := epo) nsm) (I.ok.hd hcalm) dAt fit fun hp1 tok got old gotE => ?_)
  have gotL : got.toList.length = ks.length := by rw [Array.length_toList, gotE.1, lenE]
  have isI : IntsAre got.toList ks := ints_each gotL fun j v e => by
    obtain ⟨k, x, e1, e2⟩ := gotE.2 j v (by rw [← Array.getElem?_toList]; exact e)
    have pk : (prs.map (·.1))[j]? = some k := by rw [List.getElem?_map, e1]; rfl
    rw [keyE, List.getElem?_map] at pk
    cases pj : ks[j]? with
    | none => rw [pj] at pk; cases pk
    | some y =>
      rw [pj] at pk
      have pe : Sum.inl y = k := Option.some.inj pk
      subst pe
      rcases keyIs_shape (show keyIs (Sum.inl y) v = true from e2) with ⟨i, t, qk, qv⟩ | ⟨big, t, qk, qv⟩
      · cases qk
        exact ⟨y, t, rfl, qv⟩
      · cases qk
  have J : Inv X pins σ H { s with heap := hp1, toks := tok } := I.kept old
  refine wpAny_bind (wpAny_newList ?_ (by rw [gotL, ← lenE]; exact fit))
  have fresh0 : (hp1.push (seqObj "list" got.toList.toArray 0)).get? hp1.objs.size = some (seqObj "list" got.toList.toArray 0) := Heap.get?_push_size _ rfl
  show wpAny _ _ _ _ _ { s with heap := hp1.push (seqObj "list" got.toList.toArray 0), toks := tok }
  refine wpAny_bind (wpAny_holding (wpAny_call_entry PyProof.Rows.slot_list_sort ⟨_, fresh0, rfl⟩ PyProof.Rows.entry_list_sort
    (SrtO.list_sort_ord (s := { s with heap := hp1.push (seqObj "list" got.toList.toArray 0), toks := tok }) SrtO.swo_int fresh0 (by rw [gotL, ← lenE]; exact fit) (fun h2 => SrtO.ints_sortable isI h2) fun res sr sb => ⟨_, rfl, ?_⟩) (PyProof.Rows.args_list_sort _)))
  obtain ⟨r1, r2, r3⟩ := SrtO.ints_out isI sr sb
  obtain ⟨epB, dAt2⟩ := PyProof.Rows.sortedHeap_at (vs := got.toList) (out := res.toArray) fresh0
  have fitB : ((res.map SrtO.iv).map V.int).length ≤ sizeLine := by
    rw [List.length_map, r2.length_eq, ← lenE]
    exact fit
  refine wpAny_pure ⟨_, rfl, .ref hp1.objs.size, upd H hp1.objs.size (.lst ((res.map SrtO.iv).map V.int)), J.laid (t' := tok) (fun b u e => ?_) (Nat.le_refl _)
    (show ObjOk X.prog X.w _ _ _ (.lst ((res.map SrtO.iv).map V.int)) from ⟨fitB, res, epB, vals_of_ints r1, dAt2⟩), rfl, fin _ _ r2 r3 (J.hok.fresh (Nat.le_refl _))⟩
  have low : b < hp1.objs.size := Heap.lt_size e
  rw [PyProof.Rows.sortedHeap_old (Nat.ne_of_lt low) (by rw [size_push']; exact Nat.lt_succ_of_lt low)]
  exact Heap.get?_push_of_some _ e
end My

set_option maxRecDepth 100000
set_option maxHeartbeats 1000000
/-! The end of a law whose own def shows dicts: the module table is tracked, so that no new thing is it. For laws without tables. -/
namespace Gd
open PySem PySem.Spec PyProof.Rows L2 GxR
/-- the module table: it is there -/
def smU : HO := .ext fun h => ∃ o, h.get? sysModules = some o
def SmAt (H : Hp) : Prop := ∃ o, H sysModules = some (.frz o smU)
theorem SmAt.same {H H' : Hp} (h : SmAt H) (s : Same H H') : SmAt H' := let ⟨o, e⟩ := h; ⟨o, s _ _ e⟩
theorem smU_ne {u : HO} (n : ∀ φ, u ≠ .ext φ) : smU ≠ u := fun z => n _ z.symm
open Classical in
noncomputable def hs0 (K : PySem.W.Frag) (a : Addr) (vs : List Value) (ns : List Int) (o1 : Obj) : Hp := fun b =>
  if b = sysModules then some (.frz o1 smU) else if b = a ∧ K.lookup a = none then some (.frz (scriptO vs) (.lst (ns.map V.int))) else none
theorem hs0_inv {K : PySem.W.Frag} {a b : Addr} {vs : List Value} {ns : List Int} {o1 : Obj} {u : HO} (h : hs0 K a vs ns o1 b = some u) :
    (b = sysModules ∧ u = .frz o1 smU) ∨ (b = a ∧ K.lookup a = none ∧ u = .frz (scriptO vs) (.lst (ns.map V.int))) := by
  unfold hs0 at h
  split at h
  · rename_i c
    exact .inl ⟨c, (Option.some.inj h).symm⟩
  · split at h
    · rename_i c
      exact .inr ⟨c.1, c.2, (Option.some.inj h).symm⟩
    · cases h
section
variable {P : Program} {w : World} {K : PySem.W.Frag} {mg mb : Str → Option Value} {CX : CXT} {k : Nat} {fa a : Addr} {fd : FuncData} {x : Str} {sp : Sp} {s1 : Shared} {vs : List Value} {ns : List Int}
theorem law_scall (KX : K.In s1.heap) (nsG : s1.heap.Ns mainGlobals mg) (nsB : s1.heap.Ns builtinsNs mb) (isB : ∀ x : Str, x ≠ "__name__" → mb x = bootBuiltins x) (lim : s1.heap.NoLimit) (gens : s1.gens = #[])
    (hsm : ∃ o, s1.heap.get? sysModules = some o) (k1 : K.lookup sysModules = none) (na : a ≠ sysModules) (ha : s1.heap.get? a = some (scriptO vs)) (hi : IntsAre vs ns) (hl : ns.length ≤ sizeLine) (hr : Room k callerA)
    (F : ∀ base : Heap, K.In base → base.Ns mainGlobals mg → GOk P w K mg base CX k fa fd [x] sp) (hbind : ∀ (s : Shared) (u : Value), BindsTo s fd ⟨[u], []⟩ [(x, u)])
    (hsp : ∀ H : Hp, SmAt H → SqL K H a (ns.map V.int) → sp [.ref a] H (fun v _ => v = .bl true) fun _ _ _ => False) (hCX : ∀ H e s', CX [] H s1 (fun _ _ _ => False) e s' → False) :
    codeAny (model P w) callerA (.call (.ref fa) ⟨[.ref a], []⟩) (fun r s' => r = .ok (.ret (.bool true)) ∧ OldK s1.heap s'.heap ∧ s'.os = s1.os ∧ AllBare s'.gens) s1 := by
  have rv := vals_ints hi
  have hlen := hi.length
  obtain ⟨o1, ho1⟩ := hsm
  let H := hs0 K a vs ns o1
  have off : ∀ {b : Addr}, b ≠ sysModules → b ≠ a → H b = none := fun {b} n1 n2 => by
    cases q : H b with
    | none => rfl
    | some u =>
      rcases hs0_inv q with ⟨e, _⟩ | ⟨e, _⟩
      · exact absurd e n1
      · exact absurd e n2
  have dic : ∀ {b : Addr} {m : Str → Option Value}, b ≠ sysModules → s1.heap.Ns b m → (hidT s1.heap H).Ns b m := by
    rintro b m n1 ⟨o, es, ep, e, d, rest⟩
    refine ⟨o, es, ep, hidT_get e (off n1 ?_), d, rest⟩
    rintro rfl
    rw [ha] at e
    obtain rfl := Option.some.inj e
    cases d
  have KH : K.In (hidT s1.heap H) := by
    intro b o e
    refine hidT_get (KX b o e) ?_
    cases q : H b with
    | none => rfl
    | some u =>
      rcases hs0_inv q with ⟨rfl, _⟩ | ⟨rfl, z, _⟩
      · rw [k1] at e
        cases e
      · rw [z] at e
        cases e
  have limH : (hidT s1.heap H).NoLimit := let ⟨mc, h1, h2⟩ := lim; ⟨mc, dic (by decide) h1, h2⟩
  have M : L2.Mod K mg (hidT s1.heap H) := ⟨KH, dic (by decide) nsG, ⟨mb, dic (by decide) nsB, isB⟩, limH⟩
  have hS : SqL K H a (ns.map V.int) := by
    cases q : K.lookup a with
    | none => exact .inl (.inr ⟨scriptO vs, (if_neg na).trans (if_pos ⟨rfl, q⟩)⟩)
    | some o =>
      have e := KX a o q
      rw [ha] at e
      obtain rfl := Option.some.inj e
      exact .inr ⟨_, vs.toArray, _, q, rfl, rfl, rfl, by rw [List.size_toArray, hlen]; exact hl, by simpa using rv⟩
  have hok : HOk P w H s1.heap := by
    intro b u q
    rcases hs0_inv q with ⟨rfl, rfl⟩ | ⟨rfl, _, rfl⟩
    · exact ⟨ho1, ⟨_, ho1⟩, ⟨_, ho1⟩, fun h1 h2 ⟨o, z⟩ k => ⟨o, k _ z⟩⟩
    · exact ⟨ha, by rw [List.length_map]; exact hl, vs, _, rv, ha⟩
  have e0 : Env0 P w K mg (hidT s1.heap H) callerA [] s1 H :=
    ⟨rfl, M, fun b o e => of_hidT e, Nat.le_of_eq (hidT_size _ _), trivial, (fun b hb => by cases (show b ∈ ([] : List Addr) from hb)), hok, .of_eq gens⟩
  refine codeAny_mono ((F _ KH (dic (by decide) nsG)).go callerA [] s1 H ⟨[.ref a], []⟩ [.ref a] [.ref a] (fun v _ => v = .bl true) (fun _ _ _ => False) rfl hr e0 (hbind s1 (.ref a)) (.cons rfl .nil) (hsp H ⟨o1, if_pos rfl⟩ hS)) ?_
  intro r z h
  match r, h with
  | .ok .next, h => exact h.elim
  | .ok .brk, h => exact h.elim
  | .ok .cont, h => exact h.elim
  | .error e, h => exact (hCX H e z h).elim
  | .ok (.ret u), h =>
    obtain ⟨v, G, os, bare, un, hokG, rv', q⟩ := h
    obtain rfl : v = .bl true := q
    obtain rfl : u = Value.bool true := rv'
    have plain : ∀ b o, s1.heap.get? b = some o → z.heap.get? b = some o := by
      intro b o e
      cases q : H b with
      | none => exact un.keep b o e q (fun y => by cases (show b ∈ ([] : List Addr) from y)) (by simp)
      | some y =>
        rcases hs0_inv q with ⟨rfl, rfl⟩ | ⟨rfl, _, rfl⟩
        · obtain ⟨e2, _⟩ := hokG sysModules _ (un.frzs _ _ _ q)
          rw [ho1] at e
          exact Option.some.inj e ▸ e2
        · obtain ⟨e2, _⟩ := hokG b _ (un.frzs b _ _ q)
          rw [ha] at e
          exact Option.some.inj e ▸ e2
    exact ⟨rfl, ⟨fun b o e => .inl (plain b o e), fun b o e => ⟨o, plain b o e⟩⟩, os, bare⟩
end
/-- what is to be known of such a law -/
def GLawS (l : PySem.W.OpenLaw) (w : World) (K : PySem.W.Frag) (CX : CXT) (k n : Nat) (x : Str) (mg : Str → Option Value) (fa : Addr) : Prop :=
  ∃ (fd : FuncData) (sp : Sp), K.lookup sysModules = none ∧ (∀ (s : Shared) (u : Value), BindsTo s fd ⟨[u], []⟩ [(x, u)]) ∧
    (∀ (H : Hp) (a : Addr) (ns : List Int), ns.length ≤ n → SmAt H → SqL K H a (ns.map V.int) → sp [.ref a] H (fun v _ => v = .bl true) fun _ _ _ => False) ∧
    ∀ base : Heap, K.In base → base.Ns mainGlobals mg → GOk l.prog w K mg base CX k fa fd [x] sp
open PySem.W in
theorem walk_s {l : PySem.W.OpenLaw} {n k : Nat} {q : Program} {loose : List Str} {XP : (Str → Option Value) → Heap → Prop} {YP : World → Heap → Prop} {d : DefRec} {K : Params → PySem.W.Frag} {CX : World → CXT} {x : Str}
    (no : importsNone q = true) (hn : l.most = some n) (small : n ≤ sizeLine) (hdf : d.params.defaults = []) (hr : Room k callerA) (hY : ∀ (w : World) (h : Heap), YP w h → (K w.params).In h)
    (F : ∀ (w : World) (mg : Str → Option Value) (fa : Addr) (h : Heap), YP w h → (K w.params).In h → h.Ns mainGlobals mg → mg d.name = some (.ref fa) → GLawS l w (K w.params) (CX w) k n x mg fa)
    (hCX : ∀ (w : World) (H : Hp) (s : Shared) (e : Value) (s' : Shared), CX w [] H s (fun _ _ _ => False) e s' → False) :
    PySem.W.WalkO q loose XP YP l.row.toRowW d [] (fun f vs => PySem.call f vs) := by
  intro w s0 s1 mg mb G Y fa o pm cd doc dV kV ho hd hcd hD hmg hg args vals as pre lay rd well low
  obtain ⟨a, vs, ns, rfl, rfl, hobj, hints, hlen⟩ := Att.script_of hn pre well
  have na : a ≠ sysModules := by
    cases rd with
    | cons r1 r2 =>
      cases r1 with
      | list _ _ _ _ => exact beq_eq_false_iff_ne.mp (low a (by simp))
  have KX := hY w _ Y
  obtain ⟨fd, sp, k1, hb, hsp, hF⟩ := F w mg fa _ Y KX G.T.g hmg
  have run := law_scall KX G.T.g G.T.b G.T.builtins G.T.nolimit hg (let ⟨_, ⟨o, _, _, e, _⟩, _⟩ := (G.T.seer no).mods; ⟨o, e⟩) k1 na hobj hints (Nat.le_trans hlen small) hr hF hb (fun H a1 a2 => hsp H a ns hlen a1 a2) (fun H e s' => hCX w H s1 e s')
  refine enter_call (codeAny_mono run ?_)
  rintro r z ⟨rfl, old, os, bare⟩
  exact ⟨.inl ⟨.bool true, .bool true, [], rfl, fun _ => rfl, .bool true, Att.post_true l _, fun _ => ⟨List.Pairwise.nil, fun _ m => (nomatch m)⟩⟩, old, os, bare⟩
end Gd

set_option maxRecDepth 100000
set_option maxHeartbeats 1000000
/-! Data with dicts: what repr asks of them. -/
namespace My
open PySem PySem.Spec PyProof.Rows L2 GxR Gd TL
theorem same_new {H : Hp} {p : Addr} {o : HO} (n : H p = none) : Same H (upd H p o) := fun b u e => by rw [upd_ne (ne_of_none e n)]; exact e
theorem sameT {K : PySem.W.Frag} {H H' : Hp} {a : Addr} {xs : List V} (s : Same H H') (h : SqT K H a xs) : SqT K H' a xs := by
  rcases h with (h | ⟨o, h⟩) | h
  · exact .inl (.inl (s _ _ h))
  · exact .inl (.inr ⟨o, s _ _ h⟩)
  · exact .inr h
def keyD : Key → PyData
  | .inl i => .int i
  | .inr x => .str x
mutual
/-- v is the data d, dicts too -/
inductive Dq (K : PySem.W.Frag) (H : Hp) : V → PyData → Prop
  | non : Dq K H .non .none
  | bl (b : Bool) : Dq K H (.bl b) (.bool b)
  | int (i : Int) : Dq K H (.int i) (.int i)
  | str (z : Str) : Dq K H (.str z) (.str z)
  | lst {a : Addr} {xs : List V} {ds : List PyData} (e : SqL K H a xs) (h : DqAll K H xs ds) : Dq K H (.ref a) (.list ds)
  | tup {a : Addr} {xs : List V} {ds : List PyData} (e : SqT K H a xs) (h : DqAll K H xs ds) : Dq K H (.ref a) (.tuple ds)
  | dic {a : Addr} {kvs : List (Key × V)} {ds : List (PyData × PyData)} (e : H a = some (.dK kvs)) (h : DqKv K H kvs ds) : Dq K H (.ref a) (.dict ds)
inductive DqAll (K : PySem.W.Frag) (H : Hp) : List V → List PyData → Prop
  | nil : DqAll K H [] []
  | cons {v : V} {vs : List V} {d : PyData} {ds : List PyData} (h : Dq K H v d) (t : DqAll K H vs ds) : DqAll K H (v :: vs) (d :: ds)
inductive DqKv (K : PySem.W.Frag) (H : Hp) : List (Key × V) → List (PyData × PyData) → Prop
  | nil : DqKv K H [] []
  | cons {k : Key} {v : V} {r : List (Key × V)} {d : PyData} {ds : List (PyData × PyData)} (h : Dq K H v d) (t : DqKv K H r ds) : DqKv K H ((k, v) :: r) ((keyD k, d) :: ds)
end
mutual
theorem Dq.of {K : PySem.W.Frag} {H : Hp} : ∀ {v : V} {d : PyData}, Dp K H v d → Dq K H v d
  | _, _, .non => .non
  | _, _, .bl b => .bl b
  | _, _, .int i => .int i
  | _, _, .str z => .str z
  | _, _, .lst e h => .lst e (DqAll.of h)
  | _, _, .tup e h => .tup e (DqAll.of h)
theorem DqAll.of {K : PySem.W.Frag} {H : Hp} : ∀ {vs : List V} {ds : List PyData}, DpAll K H vs ds → DqAll K H vs ds
  | _, _, .nil => .nil
  | _, _, .cons h t => .cons (Dq.of h) (DqAll.of t)
end
mutual
theorem Dq.same {K : PySem.W.Frag} {H H' : Hp} (s : Same H H') : ∀ {v : V} {d : PyData}, Dq K H v d → Dq K H' v d
  | _, _, .non => .non
  | _, _, .bl b => .bl b
  | _, _, .int i => .int i
  | _, _, .str z => .str z
  | _, _, .lst e h => .lst (s.seq e) (DqAll.same s h)
  | _, _, .tup e h => .tup (sameT s e) (DqAll.same s h)
  | _, _, .dic e h => .dic (s _ _ e) (DqKv.same s h)
theorem DqAll.same {K : PySem.W.Frag} {H H' : Hp} (s : Same H H') : ∀ {vs : List V} {ds : List PyData}, DqAll K H vs ds → DqAll K H' vs ds
  | _, _, .nil => .nil
  | _, _, .cons h t => .cons (Dq.same s h) (DqAll.same s t)
theorem DqKv.same {K : PySem.W.Frag} {H H' : Hp} (s : Same H H') : ∀ {kvs : List (Key × V)} {ds : List (PyData × PyData)}, DqKv K H kvs ds → DqKv K H' kvs ds
  | _, _, .nil => .nil
  | _, _, .cons h t => .cons (Dq.same s h) (DqKv.same s t)
end
theorem keyD_reads {h : Heap} {k : Key} {v : Value} (e : keyIs k v = true) : Reads h v (keyD k) [] := by
  rcases keyIs_shape e with ⟨i, t, rfl, rfl⟩ | ⟨x, t, rfl, rfl⟩
  · exact .int i t
  · exact .str x t
section
variable {X : Cx} {pins : List (Addr × Obj)} {σ : L2.St} {H : Hp} {s : Shared}
theorem ne_sm {K : PySem.W.Frag} {H : Hp} {a : Addr} {xs : List V} (n : K.lookup sysModules = none) (sm : SmAt H) (h : SqL K H a xs) : a ≠ sysModules := by
  rintro rfl
  obtain ⟨o, e⟩ := sm
  rcases h with (h | ⟨u, h⟩) | ⟨u, _, _, h, _⟩
  · rw [e] at h
    cases h
  · rw [e] at h
    cases h
  · rw [n] at h
    cases h
mutual
theorem Dq.reads (n : X.K.lookup sysModules = none) (sm : SmAt H) (I : Inv X pins σ H s) : ∀ (d : PyData) (v : V) (u : Value), Dq X.K H v d → RelV v u → ∃ as, Reads s.heap u d as ∧ sysModules ∉ as
  | .none, _, _, h, r => by
    cases h
    cases r
    exact ⟨_, .none, by simp⟩
  | .bool b, _, _, h, r => by
    cases h
    cases r
    exact ⟨_, .bool b, by simp⟩
  | .int i, _, _, h, r => by
    cases h
    obtain ⟨t, rfl⟩ := r
    exact ⟨_, .int i t, by simp⟩
  | .str z, _, _, h, r => by
    cases h
    obtain ⟨t, rfl⟩ := r
    exact ⟨_, .str z t, by simp⟩
  | .list ds, _, _, h, r => by
    cases h with
    | lst hs ha =>
      cases r
      obtain ⟨its, rv, ⟨o, m, ho, hc, _, hd⟩, _⟩ := I.list hs
      obtain ⟨as, hr, no⟩ := Dq.readsAll n sm I ds _ its ha rv
      exact ⟨_, .list ho hc hd hr, fun m => (List.mem_cons.mp m).elim (ne_sm n sm hs).symm no⟩
  | .tuple ds, _, _, h, r => by
    cases h with
    | tup hs ha =>
      cases r
      obtain ⟨its, rv, ⟨o, ho, hc, m, hd⟩, _⟩ := I.tuple hs
      obtain ⟨as, hr, no⟩ := Dq.readsAll n sm I ds _ its ha rv
      exact ⟨_, .tuple ho hc hd hr, no⟩
  | .dict ds, _, _, h, r => by
    cases h with
    | dic e hk =>
      cases r
      obtain ⟨_, ne, vs, rel, o, es, ep, ho, hx, hd, _, hp, _⟩ := dk_of I.hok e
      obtain ⟨as, bs, h1, h2, n1, n2⟩ := Dq.readsKv n sm I ds _ vs es.toList hk rel hp
      refine ⟨_, .dict ho hx.1 hd h1 h2, fun m => ?_⟩
      rw [List.cons_append] at m
      rcases List.mem_cons.mp m with m | m
      · exact (beq_eq_false_iff_ne.mp ne) m.symm
      · exact (List.mem_append.mp m).elim n1 n2
theorem Dq.readsAll (n : X.K.lookup sysModules = none) (sm : SmAt H) (I : Inv X pins σ H s) : ∀ (ds : List PyData) (vs : List V) (us : List Value), DqAll X.K H vs ds → Vals vs us → ∃ as, ReadsAll s.heap us ds as ∧ sysModules ∉ as
  | [], _, _, h, r => by
    cases h
    cases r
    exact ⟨_, .nil, by simp⟩
  | d :: ds, _, _, h, r => by
    cases h with
    | cons h1 h2 =>
      cases r with
      | cons r1 r2 =>
        obtain ⟨as, q1, n1⟩ := Dq.reads n sm I d _ _ h1 r1
        obtain ⟨bs, q2, n2⟩ := Dq.readsAll n sm I ds _ _ h2 r2
        exact ⟨_, .cons q1 q2, fun m => (List.mem_append.mp m).elim n1 n2⟩
theorem Dq.readsKv (n : X.K.lookup sysModules = none) (sm : SmAt H) (I : Inv X pins σ H s) : ∀ (ds : List (PyData × PyData)) (kvs : List (Key × V)) (vs : List (Key × Value)) (es : List DictEntry), DqKv X.K H kvs ds → KV kvs vs → Pairs (mixKind X.prog X.w) es vs →
    ∃ as bs, ReadsAll s.heap (es.map (·.key)) (ds.map (·.1)) as ∧ ReadsAll s.heap (es.map (·.val)) (ds.map (·.2)) bs ∧ sysModules ∉ as ∧ sysModules ∉ bs
  | [], _, _, _, h, r, p => by
    cases h
    cases r
    cases p
    exact ⟨_, _, .nil, .nil, by simp, by simp⟩
  | (_, d) :: ds, _, _, _, h, r, p => by
    cases h with
    | cons h1 h2 =>
      cases r with
      | cons r1 r2 =>
        cases p with
        | cons p1 p2 p3 =>
          obtain ⟨as, q1, n1⟩ := Dq.reads n sm I d _ _ h1 r1.2
          obtain ⟨bs, cs, q2, q3, n2, n3⟩ := Dq.readsKv n sm I ds _ _ _ h2 r2 p3
          refine ⟨_, _, .cons (keyD_reads ?_) q2, .cons ?_ q3, by simpa using n2, fun m => (List.mem_append.mp m).elim n1 n3⟩
          · have e := r1.1
            dsimp only at e ⊢
            rw [e]
            exact p1
          · dsimp only
            rw [p2]
            exact q1
end
end
/-- repr(v), v data with dicts -/
def rReprQ (K : PySem.W.Frag) : List V → Hp → VK → Prop := fun xs H Q => ∃ v d, xs = [v] ∧ SmAt H ∧ Dq K H v d ∧ d.showable = true ∧ d.depth ≤ 100 ∧ d.shown.length ≤ sizeLine ∧ Q (.str d.shown) H
theorem call_reprQ {X : Cx} {k : Nat} (n : X.K.lookup sysModules = none) (gd : X.A.guards = some []) (hr : Room k X.A) : CallR X (.builtin "repr") (rReprQ X.K) := by
  rintro pins s σ H xs us Q I r ⟨v, d, rfl, sm, dq, hs, hdep, hsz, q⟩
  have whole : ∀ {a : Addr} {as : List Addr}, Reads s.heap (.ref a) d as → sysModules ∉ as → wpAny (model X.prog X.w) X.A (call (.builtin "repr") [.ref a]) (EP X pins σ Q) X.xe s := by
    intro a as rd no
    have hun := hr.un
    exact repr_of_reads' rd hs (fun _ => no) gd (by omega) (fun _ _ z => z) (fun h' u tk hk => ⟨.str _, H, I.kept hk, ⟨_, rfl⟩, q⟩) hsz
  cases dq with
  | non => exact call_repr gd hr pins s σ H _ us Q I r ⟨_, _, rfl, .non, hs, hdep, hsz, q⟩
  | bl b => exact call_repr gd hr pins s σ H _ us Q I r ⟨_, _, rfl, .bl b, hs, hdep, hsz, q⟩
  | int i => exact call_repr gd hr pins s σ H _ us Q I r ⟨_, _, rfl, .int i, hs, hdep, hsz, q⟩
  | str z => exact call_repr gd hr pins s σ H _ us Q I r ⟨_, _, rfl, .str z, hs, hdep, hsz, q⟩
  | lst e h =>
    obtain ⟨as, rd, no⟩ := Dq.reads n sm I _ _ us.head! (.lst e h) (by cases r with | cons a b => cases b; exact a)
    cases r with
    | cons a b => cases b; cases a; exact whole rd no
  | tup e h =>
    obtain ⟨as, rd, no⟩ := Dq.reads n sm I _ _ us.head! (.tup e h) (by cases r with | cons a b => cases b; exact a)
    cases r with
    | cons a b => cases b; cases a; exact whole rd no
  | dic e h =>
    obtain ⟨as, rd, no⟩ := Dq.reads n sm I _ _ us.head! (.dic e h) (by cases r with | cons a b => cases b; exact a)
    cases r with
    | cons a b => cases b; cases a; exact whole rd no
end My

set_option maxRecDepth 100000
set_option maxHeartbeats 400000
namespace K14W
open PySem PySem.Spec PyProof.Rows L2 GxR Gd TL My K14
/-! ### a wire -/
theorem ws_ : ¬ (("_words" : Str) = "_sent") := by decide +kernel
theorem sw_ : ¬ (("_sent" : Str) = "_words") := by decide +kernel
def wf (d : Addr) (s : Int) : List (Str × V) := putF "_sent" (.int s) (putF "_words" (.ref d) [])
theorem wf_eq (d : Addr) (s : Int) : wf d s = ([("_words", V.ref d), ("_sent", V.int s)] : List (Str × V)) := by
  show (if ("_words" : Str) = "_sent" then [(("_words" : Str), V.int s)] else (("_words" : Str), V.ref d) :: putF "_sent" (V.int s) []) = _
  rw [if_neg ws_]
  rfl
theorem wf_words (d : Addr) (s : Int) : (wf d s).lookup ("_words" : Str) = some (.ref d) := by
  unfold wf
  rw [lookup_putF, if_neg ws_, lookup_putF, if_pos rfl]
theorem wf_sent (d : Addr) (s : Int) : (wf d s).lookup ("_sent" : Str) = some (.int s) := by
  unfold wf
  rw [lookup_putF, if_pos rfl]
theorem wf_no (d : Addr) (s : Int) {m : Str} (h1 : ¬ m = "_sent") (h2 : ¬ m = "_words") : (wf d s).lookup m = none := by
  unfold wf
  rw [lookup_putF, if_neg h1, lookup_putF, if_neg h2]
  rfl
theorem wf_put_sent (d : Addr) (s u : Int) : putF "_sent" (.int u) (wf d s) = wf d u := by
  rw [wf_eq, wf_eq]
  show (if ("_words" : Str) = "_sent" then _ else (("_words" : Str), V.ref d) :: (if ("_sent" : Str) = "_sent" then [(("_sent" : Str), V.int u)] else _)) = _
  rw [if_neg ws_, if_pos rfl]
theorem wf_put_words (d e : Addr) (s : Int) : putF "_words" (.ref e) (wf d s) = wf e s := by
  rw [wf_eq, wf_eq]
  show (if ("_words" : Str) = "_words" then (("_words" : Str), V.ref e) :: [(("_sent" : Str), V.int s)] else _) = _
  rw [if_pos rfl]
theorem wf_len (d : Addr) (s : Int) : (wf d s).length < 1000 := by
  rw [wf_eq]
  show 2 < 1000
  decide
structure WirT (K : PySem.W.Frag) (C : Addr) : Prop where
  cl : Cls K C
  nw : NoAttr K C "_words"
  ns : NoAttr K C "_sent"
/-- a method of the class -/
structure Me (K : PySem.W.Frag) (C : Addr) (m qual : Str) (st : Stmt) (ps : List Str) (f : Addr) (fd : FuncData) : Prop where
  fn : Fun K m qual st f fd
  m : Meth K C m f
  b : Binds K fd ps []
section
variable {P : Program} {w : World} {K : PySem.W.Frag} {mg : Str → Option Value} {base : Heap} {C : Addr}
abbrev s_init : Stmt := inClass (top 10) 0
theorem sc_init : FnScope ["self"] ["self"] (defScope s_init) := ⟨rfl, rfl, rfl, by decide +kernel, rfl, by decide +kernel, by decide +kernel⟩
def spInit (C : Addr) : Sp := fun vs H Q _ => ∃ c dx, vs = [.ref c] ∧ H c = some (.ins C dx []) ∧
  ∀ d H', H d = none → (∀ x, x ≠ c → x ≠ d → H' x = H x) → H' c = some (.ins C dx (wf d 0)) → H' d = some (.dK []) → Q .non H'
theorem ok_init {f : Addr} {fd : FuncData} (F : Fun K "__init__" "Wire.__init__" s_init f fd) (TC : WirT K C) : FnOk P w K mg base CX0 1 f fd ["self"] (spInit C) := by
  refine F.ok sc_init (fun vs H Q E h => ?_) (fun cdv A outer s H vs Q E hr h => ?_)
  · obtain ⟨c, dx, rfl, _⟩ := h
    rfl
  · obtain ⟨c, dx, rfl, e, k⟩ := h
    refine ⟨_, pss_cons (ps_fld (pv 0) pe_dnewK rfl)
      (pss_one (ps_fld (pv 0) pe_int rfl)), ?_⟩
    intro d nd
    have ncd : c ≠ d := ne_of_none e nd
    refine ⟨_, rfl, c, C, dx, _, rfl, (by rw [upd_ne ncd]; exact e), TC.cl, TC.nw, (by decide), ?_⟩
    refine ⟨_, rfl, c, C, dx, _, rfl, upd_same, TC.cl, TC.ns, (by show 1 < 1000; decide), ?_⟩
    refine k d _ nd (fun x x1 x2 => ?_) upd_same ?_
    · rw [upd_ne x1, upd_ne x1, upd_ne x2]
    · rw [upd_ne ncd.symm, upd_ne ncd.symm, upd_same]
abbrev s_send : Stmt := inClass (top 10) 1
theorem sc_send : FnScope ["self", "word", "number"] ["self", "word"] (defScope s_send) := ⟨rfl, rfl, rfl, by decide +kernel, rfl, by decide +kernel, by decide +kernel⟩
def spSend (C : Addr) : Sp := fun vs H Q _ => ∃ c dx d s kvs v, vs = [.ref c, v] ∧ H c = some (.ins C dx (wf d s)) ∧ H d = some (.dK kvs) ∧ kvs.length < sizeLine ∧
  Q (.int s) (upd (upd H d (.dK (putK kvs (Sum.inl s) v))) c (.ins C dx (wf d (s + 1))))
theorem ok_send {f : Addr} {fd : FuncData} (F : Fun K "send" "Wire.send" s_send f fd) (TC : WirT K C) : FnOk P w K mg base CX0 1 f fd ["self", "word"] (spSend C) := by
  refine F.ok sc_send (fun vs H Q E h => ?_) (fun cdv A outer s H vs Q E hr h => ?_)
  · obtain ⟨c, dx, d, s, kvs, v, rfl, _⟩ := h
    rfl
  · obtain ⟨c, dx, d, s, kvs, v, rfl, e, ed, hl, k⟩ := h
    refine ⟨_, pss_cons (ps_set (i := 2) sc_send.nd rfl (Or.inl rfl) (pe_fld (pv 0) rfl))
      (pss_cons (ps_dput (hu_of hr) (pe_fld (pv 0) rfl) (pv 2) (pv 1) rfl)
      (pss_cons (ps_fldaug (pv 0) pe_int in_add)
      (pss_one (ps_ret (pv 2))))), ?_⟩
    have ncd : c ≠ d := ne_of e ed (by intro z; cases z)
    refine ⟨_, rfl, c, C, dx, _, _, rfl, e, TC.cl, TC.ns, wf_sent d s, ?_⟩
    refine ⟨_, rfl, _, rfl, c, C, dx, _, _, rfl, e, TC.cl, TC.nw, wf_words d s, _, rfl, d, _, rfl, DPut.k (k := Sum.inl s) ed hl, ?_⟩
    have e2 : upd H d (.dK (putK kvs (Sum.inl s) v)) c = some (.ins C dx (wf d s)) := by rw [upd_ne ncd]; exact e
    refine ⟨_, rfl, c, C, dx, _, _, rfl, e2, TC.cl, TC.ns, wf_sent d s, _, _, rfl, rfl, _, _, e2, wf_len _ _, ?_⟩
    rw [wf_put_sent]
    exact ⟨_, rfl, k⟩
abbrev s_word : Stmt := inClass (top 10) 2
theorem sc_word : FnScope ["self", "number"] ["self", "number"] (defScope s_word) := ⟨rfl, rfl, rfl, by decide +kernel, rfl, by decide +kernel, by decide +kernel⟩
def spWord (C : Addr) : Sp := fun vs H Q _ => ∃ c dx d s kvs n v, vs = [.ref c, .int n] ∧ H c = some (.ins C dx (wf d s)) ∧ H d = some (.dK kvs) ∧ 0 ≤ n ∧ n ≤ s ∧ valV kvs (Sum.inl n) = some v ∧ Q v H
theorem ok_word {f fW : Addr} {fd fdW : FuncData} (F : Fun K "word" "Wire.word" s_word f fd) (TC : WirT K C)
    (Nis_whole : Fn K mg "is_whole" sWhole ["thing", "low", "high"] fW fdW) (Gis_whole : FnOk P w K mg base CX0 1 fW fdW ["thing", "low", "high"] spWhole) : FnOk P w K mg base CX0 2 f fd ["self", "number"] (spWord C) := by
  refine F.ok sc_word (fun vs H Q E h => ?_) (fun cdv A outer s H vs Q E hr h => ?_)
  · obtain ⟨c, dx, d, s, kvs, n, v, rfl, _⟩ := h
    rfl
  · obtain ⟨c, dx, d, s, kvs, n, v, rfl, e, ed, n0, n1, hv, k⟩ := h
    refine ⟨_, pss_cons (ps_if (PW.pt (pw_or (pt_not (pt_val (pe_call Gis_whole (hr.mono (by decide)) (by rfl) Nis_whole.g Nis_whole.kp Nis_whole.b .nil pass0 (pa_cons (pv 1) (pa_cons pe_int (pa_cons (pe_fld (pv 0) rfl) pa_nil)))))) (pw_or1 (pt_cmp (pc_dnotin (hu_of hr) (pv 1) (pe_fld (pv 0) rfl)))))) (pss_one ps_never) pss_nil)
      (pss_one (ps_ret (pe_dget (hu_of hr) (pe_fld (pv 0) rfl) (pv 1) (fun _ _ => rfl)))), ?_⟩
    refine ⟨_, rfl, _, rfl, c, C, dx, _, _, rfl, e, TC.cl, TC.ns, wf_sent d s, .int n, 0, s, rfl, .int n, ?_⟩
    rw [show wh 0 s (.int n) = true by simp [wh, n0, n1]]
    refine ⟨_, rfl, iteF ?_⟩
    refine ⟨_, rfl, _, rfl, c, C, dx, _, _, rfl, e, TC.cl, TC.nw, wf_words d s, d, _, rfl, DGet.k (k := Sum.inl n) ed, _, rfl, ?_⟩
    rw [hv]
    refine iteF ?_
    exact ⟨_, rfl, c, C, dx, _, _, rfl, e, TC.cl, TC.nw, wf_words d s, _, rfl, d, _, rfl, hv ▸ DGet.k (k := Sum.inl n) ed, k⟩
abbrev s_get : Stmt := inClass (top 10) 3
theorem sc_get : FnScope ["self", "number", "word"] ["self", "number"] (defScope s_get) := ⟨rfl, rfl, rfl, by decide +kernel, rfl, by decide +kernel, by decide +kernel⟩
def spGet (C : Addr) : Sp := fun vs H Q _ => ∃ c dx d s kvs n v, vs = [.ref c, .int n] ∧ H c = some (.ins C dx (wf d s)) ∧ H d = some (.dK kvs) ∧ 0 ≤ n ∧ n ≤ s ∧ valV kvs (Sum.inl n) = some v ∧ Q v (upd H d (.dK (dropK kvs (Sum.inl n))))
theorem ok_get {f fW : Addr} {fd fdW : FuncData} (F : Fun K "get" "Wire.get" s_get f fd) (TC : WirT K C)
    (Mword : Me K C "word" "Wire.word" s_word ["self", "number"] fW fdW) (Gword : FnOk P w K mg base CX0 2 fW fdW ["self", "number"] (spWord C)) : FnOk P w K mg base CX0 3 f fd ["self", "number"] (spGet C) := by
  refine F.ok sc_get (fun vs H Q E h => ?_) (fun cdv A outer s H vs Q E hr h => ?_)
  · obtain ⟨c, dx, d, s, kvs, n, v, rfl, _⟩ := h
    rfl
  · obtain ⟨c, dx, d, s, kvs, n, v, rfl, e, ed, n0, n1, hv, k⟩ := h
    refine ⟨_, pss_cons (ps_set (i := 2) sc_get.nd rfl (Or.inl rfl) (pe_meth (pv 0) TC.cl Mword.m Gword (hr.mono (by decide)) Mword.b .nil pass0 (pa_cons (pv 1) pa_nil)))
      (pss_cons (ps_ddel (pe_fld (pv 0) rfl) (pv 1))
      (pss_one (ps_ret (pv 2)))), ?_⟩
    refine ⟨_, rfl, c, dx, _, rfl, e, wf_no _ _ (by decide +kernel) (by decide +kernel), _, rfl, c, dx, d, s, kvs, n, v, rfl, e, ed, n0, n1, hv, ?_⟩
    refine ⟨_, rfl, c, C, dx, _, _, rfl, e, TC.cl, TC.nw, wf_words d s, _, rfl, d, kvs, Sum.inl n, rfl, ed, rfl, (by rw [hv]; rfl), ?_⟩
    exact ⟨_, rfl, k⟩
abbrev s_lose : Stmt := inClass (top 10) 4
theorem sc_lose : FnScope ["self", "number"] ["self", "number"] (defScope s_lose) := ⟨rfl, rfl, rfl, by decide +kernel, rfl, by decide +kernel, by decide +kernel⟩
def spLose (C : Addr) : Sp := fun vs H Q _ => ∃ c dx d s kvs n v, vs = [.ref c, .int n] ∧ H c = some (.ins C dx (wf d s)) ∧ H d = some (.dK kvs) ∧ 0 ≤ n ∧ n ≤ s ∧ valV kvs (Sum.inl n) = some v ∧ Q .non (upd H d (.dK (dropK kvs (Sum.inl n))))
theorem ok_lose {f fG : Addr} {fd fdG : FuncData} (F : Fun K "lose" "Wire.lose" s_lose f fd) (TC : WirT K C)
    (Mget : Me K C "get" "Wire.get" s_get ["self", "number"] fG fdG) (Gget : FnOk P w K mg base CX0 3 fG fdG ["self", "number"] (spGet C)) : FnOk P w K mg base CX0 4 f fd ["self", "number"] (spLose C) := by
  refine F.ok sc_lose (fun vs H Q E h => ?_) (fun cdv A outer s H vs Q E hr h => ?_)
  · obtain ⟨c, dx, d, s, kvs, n, v, rfl, _⟩ := h
    rfl
  · obtain ⟨c, dx, d, s, kvs, n, v, rfl, e, ed, n0, n1, hv, k⟩ := h
    refine ⟨_, pss_one (ps_expr (pe_meth (pv 0) TC.cl Mget.m Gget (hr.mono (by decide)) Mget.b .nil pass0 (pa_cons (pv 1) pa_nil))), ?_⟩
    exact ⟨_, rfl, c, dx, _, rfl, e, wf_no _ _ (by decide +kernel) (by decide +kernel), _, rfl, c, dx, d, s, kvs, n, v, rfl, e, ed, n0, n1, hv, k⟩
abbrev s_under_way : Stmt := inClass (top 10) 5
theorem sc_under_way : FnScope ["self"] ["self"] (defScope s_under_way) := ⟨rfl, rfl, rfl, by decide +kernel, rfl, by decide +kernel, by decide +kernel⟩
def spUnder (C : Addr) : Sp := fun vs H Q _ => ∃ c dx d s kvs, vs = [.ref c] ∧ H c = some (.ins C dx (wf d s)) ∧ H d = some (.dK kvs) ∧
  ∀ (H' : Hp) (p : Addr) (ts : List Addr), Same H H' → H p = none → (∀ t ∈ ts, H t = none) → p ∉ ts → H' p = some (.lst (ts.map V.ref)) → Paired (fun (t : Addr) (q : Key × V) => H' t = some (.tup [kV q.1, q.2])) ts kvs → Q (.ref p) H'
theorem ok_under {f : Addr} {fd : FuncData} (F : Fun K "under_way" "Wire.under_way" s_under_way f fd) (T : Txt mg) (TC : WirT K C) : FnOk P w K mg base CX0 1 f fd ["self"] (spUnder C) := by
  refine F.ok sc_under_way (fun vs H Q E h => ?_) (fun cdv A outer s H vs Q E hr h => ?_)
  · obtain ⟨c, dx, d, s, kvs, rfl, _⟩ := h
    rfl
  · obtain ⟨c, dx, d, s, kvs, rfl, e, ed, k⟩ := h
    refine ⟨_, pss_one (ps_ret (LiI.pe_listItems rfl (pe_fld (pv 0) rfl) (by rfl) T.list_ (by decide +kernel))), ?_⟩
    refine ⟨_, rfl, c, C, dx, _, _, rfl, e, TC.cl, TC.nw, wf_words d s, d, kvs, rfl, ed, ?_⟩
    exact k
end
end K14W

set_option maxRecDepth 100000
set_option maxHeartbeats 1000000
/-! d.update(e), e another dict -/
namespace My
open PySem PySem.Spec PyProof.Rows L2 GxR Gd
section
variable {X : Cx} {pins : List (Addr × Obj)} {σ : L2.St} {H : Hp} {s : Shared} {a o : Addr} {A : Around} {E : Value → Shared → Prop} {kvs more : List (Key × V)}
theorem d_update {Q : Value → Shared → Prop} (I : Inv X pins σ H s) (e : H a = some (.dK kvs)) (e2 : H o = some (.dK more)) (n : a ≠ o) (hz : kvs.length + more.length ≤ sizeLine) (h : ∀ s', Inv X pins σ (upd H a (.dK (mergeK kvs more))) s' → Q .none s') :
    wpAny (model X.prog X.w) A (call (.builtin "dict.update") [.ref a, .ref o]) Q E s := by
  obtain ⟨z, hd, vs, rel, dd⟩ := dk_of I.hok e
  obtain ⟨z2, hd2, ws, rel2, dd2⟩ := dk_of I.hok e2
  refine call_meetsIn PySem.F.slot_dict_update dd.typeIs PySem.F.entry_dict_update (PySem.F.args_dict_update_2 _ _) (meets_dict_update (mixKind X.prog X.w) a o n hd2)
    ⟨vs, ws, dd, dd2, by rw [← rel.length, ← rel2.length]; exact hz, fun h' dd' _ hs => h _ ?_⟩
  have he : ∃ q, h'.get? a = some q := let ⟨q, _, _, hq, _⟩ := dd'; ⟨q, hq⟩
  exact d_write (t' := s.toks) I (by rw [e]; exact True.intro) hs he (dk_new (Nat.le_trans (length_mergeK more kvs) hz) hd (rel2.merge rel) dd')
end
def tDUpd (td ty : TE) : TE := fun σ H Q => td σ H fun x H1 => ∃ a, x = .ref a ∧ IsD H1 a ∧ ty σ H1 fun y H2 => ∃ o kvs more, y = .ref o ∧ a ≠ o ∧ H2 a = some (.dK kvs) ∧ H2 o = some (.dK more) ∧ kvs.length + more.length ≤ sizeLine ∧
  Q .non (upd H2 a (.dK (mergeK kvs more)))
theorem pe_dupd {X : Cx} {o e : Expr} {apos cpos : Pos} {td ty : TE} (ho : PE X o td) (he : PE X e ty) (m : M1 X o "update" apos e cpos) : PE X (.Call (.Attribute o "update" apos) [e] [] cpos) (tDUpd td ty) := by
  refine ⟨fun pins s σ H Q I h => ?_⟩
  refine wpAny_Call_method m.base m.few m.line PySem.F.plainAttrs_dict PySem.F.slot_dict_update PySem.F.type_dict_update (thn (ho.run pins s σ H _ I h) fun u s1 ⟨x, H1, I1, rx, a, ex, d, q1⟩ => ?_)
  subst ex
  obtain rfl : u = Value.ref a := rx
  obtain ⟨t1, t2, _⟩ := isD_at I1 d
  refine ⟨t1, t2, ?_⟩
  rw [m.trees]
  refine Calls.callWith_builtin rfl (Calls.evalArgs_plain (Calls.spliced_cons (thn (he.run pins s1 σ H1 _ I1 q1) fun iv s2 ⟨y, H2, I2, ry, o, kvs, more, ey, n, ea, eo, hz, q2⟩ => Calls.spliced_nil ?_)))
  subst ey
  obtain rfl : iv = Value.ref o := ry
  exact d_update I2 ea eo n hz fun s3 I3 => ⟨.non, _, I3, rfl, q2⟩
end My

set_option maxRecDepth 100000
set_option maxHeartbeats 400000
namespace K14
open PySem PySem.Spec PyProof.Rows L2 GxR Gd TL My
open K14C (cf CntT cf_last cf_told cf_no cf_len)
open K14W (wf WirT wf_words wf_sent wf_no wf_len)
theorem ixL {X : Cx} {K : PySem.W.Frag} (h : X.K = K) : IxR X (rIxL K) := h ▸ ix_list
theorem eqDK {X : Cx} {K : PySem.W.Frag} (h : X.K = K) (hu : X.A.units + 64 < cLine) : OpR X (compareOp .Eq) (rEqD K) := h ▸ op_eqD hu
theorem neDK {X : Cx} {K : PySem.W.Frag} (h : X.K = K) (hu : X.A.units + 64 < cLine) : OpR X (compareOp .NotEq) (rNeD K) := h ▸ op_neD hu
theorem lt_line (i : Nat) (h : i ≤ 1000) : i < sizeLine := Nat.lt_of_le_of_lt h (by decide)
theorem same_nt {H H' : Hp} (s : Same H H') : Nt H H' := fun c o _ h => s c o h
theorem paired_mono {α β : Type} {F G : α → β → Prop} (h : ∀ a b, F a b → G a b) : ∀ {xs : List α} {ys : List β}, Paired F xs ys → Paired G xs ys
  | _, _, .nil => .nil
  | _, _, .cons a r => .cons (h _ _ a) (paired_mono h r)
/-! ### entries: number, word, what it tells -/
abbrev En := Int × Addr × Int
def entK (e : En) : Key × V := (Sum.inl e.1, .ref e.2.1)
def wdV (k : Int) : List V := [.str "through", .int k]
def wdD (k : Int) : PyData := .tuple [.str "through", .int k]
def enD (e : En) : PyData := .tuple [.int e.1, wdD e.2.2]
structure Es (H : Hp) (s o : Int) (es : List En) : Prop where
  asc : es.Pairwise fun a b => a.1 < b.1
  bd : ∀ e ∈ es, 0 ≤ e.1 ∧ e.1 < s
  wr : ∀ e ∈ es, H e.2.1 = some (.tup (wdV e.2.2)) ∧ 1 ≤ e.2.2 ∧ e.2.2 ≤ o
  sn : (es.length : Int) ≤ s
theorem Es.same {H H' : Hp} {s o : Int} {es : List En} (h : Es H s o es) (k : ∀ x ys, H x = some (.tup ys) → H' x = some (.tup ys)) : Es H' s o es :=
  ⟨h.asc, h.bd, fun e he => ⟨k _ _ (h.wr e he).1, (h.wr e he).2⟩, h.sn⟩
theorem Es.up {H : Hp} {s o o' : Int} {es : List En} (h : Es H s o es) (k : o ≤ o') : Es H s o' es :=
  ⟨h.asc, h.bd, fun e he => ⟨(h.wr e he).1, (h.wr e he).2.1, Int.le_trans (h.wr e he).2.2 k⟩, h.sn⟩
theorem val_ent {n : Int} : ∀ {es : List En} {e : En}, es.Pairwise (fun a b => a.1 < b.1) → e ∈ es → e.1 = n → valV (es.map entK) (Sum.inl n) = some (.ref e.2.1)
  | a :: r, e, hp, he, hn => by
    rw [List.pairwise_cons] at hp
    rcases List.mem_cons.mp he with rfl | he
    · rw [List.map_cons, valV_pos (by rw [← hn]; rfl)]
      rfl
    · have := hp.1 e he
      rw [List.map_cons, valV_neg (by intro z; have : a.1 = n := Sum.inl.inj z; omega)]
      exact val_ent hp.2 he hn
theorem val_none {n : Int} : ∀ {es : List En}, (∀ e ∈ es, e.1 ≠ n) → valV (es.map entK) (Sum.inl n) = none
  | [], _ => rfl
  | a :: r, h => by
    rw [List.map_cons, valV_neg (by intro z; exact h a List.mem_cons_self (Sum.inl.inj z))]
    exact val_none fun e he => h e (List.mem_cons_of_mem _ he)
theorem drop_ent (n : Int) (es : List En) : dropK (es.map entK) (Sum.inl n) = (es.filter fun e => decide (e.1 ≠ n)).map entK := by
  unfold dropK
  rw [List.filter_map]
  congr 1
  refine List.filter_congr fun e _ => ?_
  show decide ((Sum.inl e.1 : Key) ≠ Sum.inl n) = _
  simp
theorem Es.drop {H : Hp} {s o : Int} {es : List En} (h : Es H s o es) (n : Int) : Es H s o (es.filter fun e => decide (e.1 ≠ n)) :=
  ⟨h.asc.filter _, fun e he => h.bd e (List.mem_filter.mp he).1, fun e he => h.wr e (List.mem_filter.mp he).1, by have := List.length_filter_le (fun e : En => decide (e.1 ≠ n)) es; have := h.sn; omega⟩
theorem put_ent {H : Hp} {s o : Int} {es : List En} (h : Es H s o es) (t : Addr) (k : Int) : putK (es.map entK) (Sum.inl s) (.ref t) = (es ++ [(s, t, k)]).map entK := by
  rw [putK_new _ (val_none fun e he z => by have := (h.bd e he).2; omega), List.map_append]
  rfl
theorem Es.put {H : Hp} {s o : Int} {es : List En} (h : Es H s o es) {t : Addr} {k : Int} (w : H t = some (.tup (wdV k))) (k1 : 1 ≤ k) (k2 : k ≤ o) (s0 : 0 ≤ s) : Es H (s + 1) o (es ++ [(s, t, k)]) := by
  refine ⟨?_, ?_, ?_, ?_⟩
  · rw [List.pairwise_append]
    refine ⟨h.asc, List.pairwise_singleton _ _, fun a ha b hb => ?_⟩
    obtain rfl := List.mem_singleton.mp hb
    exact (h.bd a ha).2
  · intro e he
    rcases List.mem_append.mp he with q | q
    · have := h.bd e q
      omega
    · obtain rfl := List.mem_singleton.mp q
      show 0 ≤ s ∧ s < s + 1
      omega
  · intro e he
    rcases List.mem_append.mp he with q | q
    · exact h.wr e q
    · obtain rfl := List.mem_singleton.mp q
      exact ⟨w, k1, k2⟩
  · have := h.sn
    rw [List.length_append]
    simp
    omega
theorem en_kv {H : Hp} : ∀ {ts : List Addr} {es : List En}, Paired (fun (t : Addr) (q : Key × V) => H t = some (.tup [kV q.1, q.2])) ts (es.map entK) → Paired (fun t (e : En) => H t = some (.tup [.int e.1, .ref e.2.1])) ts es
  | [], [], _ => .nil
  | _ :: _, _ :: _, .cons a r => .cons a (en_kv r)
theorem wd_dp {K : PySem.W.Frag} {H : Hp} {t : Addr} {k : Int} (h : H t = some (.tup (wdV k))) : Dp K H (.ref t) (wdD k) := .tup (SqT.of h) (.cons (.str _) (.cons (.int _) .nil))
theorem en_dp {K : PySem.W.Frag} {H : Hp} : ∀ {ts : List Addr} {es : List En}, Paired (fun t (e : En) => H t = some (.tup [.int e.1, .ref e.2.1])) ts es → (∀ e ∈ es, H e.2.1 = some (.tup (wdV e.2.2))) → DpAll K H (ts.map V.ref) (es.map enD)
  | _, _, .nil, _ => .nil
  | _, _, .cons a r, h => .cons (.tup (SqT.of a) (.cons (.int _) (.cons (wd_dp (h _ List.mem_cons_self)) .nil))) (en_dp r fun e he => h e (List.mem_cons_of_mem _ he))
theorem wd_lay (k : Int) : (wdD k).canLay0 = true := by
  simp only [wdD, PyData.canLay0, PyData.canLayAll0, Bool.and_true]
  decide +kernel
theorem en_lay (e : En) : (enD e).canLay0 = true := by
  simp only [enD, PyData.canLay0, PyData.canLayAll0, Bool.and_true, Bool.true_and, wd_lay]
theorem wd_shaped (k : Int) : SeqAt.shaped (wdD k) = true := by
  unfold SeqAt.shaped
  rw [wd_lay]
  rfl
theorem en_shaped (es : List En) : SeqAt.shaped (.list (es.map enD)) = true := by
  have h1 : ∀ l : List En, PyData.canLayAll0 (l.map enD) = true := fun l => by
    induction l with
    | nil => rfl
    | cons a r ih =>
      rw [List.map_cons]
      unfold PyData.canLayAll0
      rw [ih, en_lay]
      rfl
  have h2 : ∀ l : List En, PyData.depthAll (l.map enD) ≤ 2 := fun l => by
    induction l with
    | nil => exact Nat.zero_le _
    | cons a r ih =>
      rw [List.map_cons]
      unfold PyData.depthAll
      exact Nat.max_le.mpr ⟨(by decide : (2 : Nat) ≤ 2), ih⟩
  unfold SeqAt.shaped
  rw [Bool.and_eq_true]
  refine ⟨by unfold PyData.canLay0; exact h1 es, decide_eq_true ?_⟩
  unfold PyData.depth
  have := h2 es
  omega
theorem eqv_ents {es : List En} : PyData.eqv (.list (es.map enD)) (.list []) = decide (es = []) := by
  cases es with
  | nil => simp [PyData.eqv, PyData.eqvAll]
  | cons a r => simp [PyData.eqv, PyData.eqvAll]
/-! ### the law's state -/
def sd (o : Int) (i g : Bool) : List (Key × V) := [(Sum.inr "out", .int o), (Sum.inr "in", .bl i), (Sum.inr "got", .bl g)]
theorem oi_ : ¬ (("out" : Str) = "in") := by decide +kernel
theorem og_ : ¬ (("out" : Str) = "got") := by decide +kernel
theorem ig_ : ¬ (("in" : Str) = "got") := by decide +kernel
theorem io_ : ¬ (("in" : Str) = "out") := by decide +kernel
theorem go_ : ¬ (("got" : Str) = "out") := by decide +kernel
theorem gi_ : ¬ (("got" : Str) = "in") := by decide +kernel
theorem sd_out (o : Int) (i g : Bool) : valV (sd o i g) (Sum.inr "out") = some (.int o) := valV_pos rfl
theorem sd_in (o : Int) (i g : Bool) : valV (sd o i g) (Sum.inr "in") = some (.bl i) := by
  unfold sd
  rw [valV_neg (fun z => oi_ (Sum.inr.inj z)), valV_pos rfl]
theorem sd_got (o : Int) (i g : Bool) : valV (sd o i g) (Sum.inr "got") = some (.bl g) := by
  unfold sd
  rw [valV_neg (fun z => og_ (Sum.inr.inj z)), valV_neg (fun z => ig_ (Sum.inr.inj z)), valV_pos rfl]
theorem sd_put_in (o : Int) (i j g : Bool) : putK (sd o i g) (Sum.inr "in") (.bl j) = sd o j g := by
  unfold putK sd
  simp [oi_, og_, ig_, io_, go_, gi_]
theorem sd_put_got (o : Int) (i g j : Bool) : putK (sd o i g) (Sum.inr "got") (.bl j) = sd o i j := by
  unfold putK sd
  simp [oi_, og_, ig_, io_, go_, gi_]
theorem sd_put_out (o u : Int) (i g : Bool) : putK (sd o i g) (Sum.inr "out") (.int u) = sd u i g := by
  unfold putK sd
  simp [oi_, og_, ig_, io_, go_, gi_]
theorem sd_merge (o u : Int) (i g j k : Bool) : mergeK (sd o i g) (sd u j k) = sd u j k := by
  show putK (putK (putK (sd o i g) (Sum.inr "out") (.int u)) (Sum.inr "in") (.bl j)) (Sum.inr "got") (.bl k) = _
  rw [sd_put_out, sd_put_in, sd_put_got]
theorem sd_new (o : Int) (i g : Bool) : mergeK [] (sd o i g) = sd o i g := by
  unfold mergeK sd
  simp [putK, oi_, og_, ig_, io_, go_, gi_]
theorem sd_ne (o : Int) (i g : Bool) (es : List En) : (.dK (sd o i g) : HO) ≠ .dK (es.map entK) := by
  intro z
  injection z with z
  cases es with
  | nil => cases z
  | cons a r =>
    have := (List.cons.inj z).1
    cases this
/-! ### count, wire, state -/
structure St where
  d : Addr
  o : Int
  t : Int
  s : Int
  i : Bool
  es : List En
structure Wo (C W : Addr) (H0 H : Hp) (c w st : Addr) (x : St) : Prop where
  c_ : ∃ dx, H c = some (.ins C dx (cf x.o x.t))
  w_ : ∃ dy, H w = some (.ins W dy (wf x.d x.s))
  d_ : H x.d = some (.dK (x.es.map entK))
  s_ : H st = some (.dK (sd x.o x.i (decide (x.t = x.o))))
  es_ : Es H x.s x.o x.es
  t0 : 0 ≤ x.t
  t1 : x.t ≤ x.o
  s0 : 0 ≤ x.s
  same : Same H0 H
  z : ∀ y ∈ [c, w, st, x.d], H0 y = none
  cw : c ≠ w
  io : x.i = true → 1 ≤ x.o
section
variable {C W : Addr} {H0 H H' : Hp} {c w st b : Addr} {n : Int} {x : St}
theorem Wo.ns (h : Wo C W H0 H c w st x) : c ≠ x.d ∧ c ≠ st ∧ w ≠ x.d ∧ w ≠ st ∧ st ≠ x.d := by
  obtain ⟨⟨dx, a⟩, ⟨dy, b⟩, e, f, _⟩ := h
  exact ⟨ne_of a e (by simp), ne_of a f (by simp), ne_of b e (by simp), ne_of b f (by simp), ne_of f e (sd_ne _ _ _ _)⟩
theorem Wo.go (h : Wo C W H0 H c w st x) (s : Same H H') : Wo C W H0 H' c w st x :=
  ⟨let ⟨dx, e⟩ := h.c_; ⟨dx, s _ _ e⟩, let ⟨dx, e⟩ := h.w_; ⟨dx, s _ _ e⟩, s _ _ h.d_, s _ _ h.s_, h.es_.same fun y ys e => s _ _ e, h.t0, h.t1, h.s0, h.same.trans s, h.z, h.cw, h.io⟩
theorem Wo.off (h : Wo C W H0 H c w st x) (hb : Bx b n H) (zb : H0 b = none) (k : KB b H H') : Wo C W H0 H' c w st x := by
  obtain ⟨x1, y, z', q, r⟩ := hb
  have kk : ∀ y o, (∀ xs, o ≠ .lst xs) → H y = some o → H' y = some o := fun y o n e => k y o (fun z => by rw [z, q] at e; exact n _ (Option.some.inj e).symm) e
  exact ⟨let ⟨dx, e⟩ := h.c_; ⟨dx, kk _ _ (by simp) e⟩, let ⟨dx, e⟩ := h.w_; ⟨dx, kk _ _ (by simp) e⟩, kk _ _ (by simp) h.d_, kk _ _ (by simp) h.s_, h.es_.same fun y ys e => kk _ _ (by simp) e, h.t0, h.t1, h.s0, fun y o e => k y o (ne_of_none e zb) (h.same y o e), h.z, h.cw, h.io⟩
/-- what changes the four alone keeps a box, and the words -/
def K4 (c w st d : Addr) (H H' : Hp) : Prop := ∀ y o, y ≠ c → y ≠ w → y ≠ st → y ≠ d → H y = some o → H' y = some o
theorem Wo.bx (h : Wo C W H0 H c w st x) (k : K4 c w st x.d H H') (hb : Bx b n H) : Bx b n H' := by
  obtain ⟨⟨dx, a⟩, ⟨dy, e⟩, f, g, _⟩ := h
  obtain ⟨x1, y, z', q, r⟩ := hb
  exact ⟨x1, y, z', k _ _ (ne_of q a (by simp)) (ne_of q e (by simp)) (ne_of q g (by simp)) (ne_of q f (by simp)) q, r⟩
theorem Wo.tup (h : Wo C W H0 H c w st x) (k : K4 c w st x.d H H') {y : Addr} {ys : List V} (q : H y = some (.tup ys)) : H' y = some (.tup ys) := by
  obtain ⟨⟨dx, a⟩, ⟨dy, e⟩, f, g, _⟩ := h
  exact k _ _ (ne_of q a (by simp)) (ne_of q e (by simp)) (ne_of q g (by simp)) (ne_of q f (by simp)) q
theorem Wo.upd (h : Wo C W H0 H c w st x) (k : K4 c w st x.d H H') {x' : St} (ed : x'.d = x.d) (hc : ∃ dx, H' c = some (.ins C dx (cf x'.o x'.t))) (hw : ∃ dy, H' w = some (.ins W dy (wf x'.d x'.s))) (hd : H' x'.d = some (.dK (x'.es.map entK)))
    (hs : H' st = some (.dK (sd x'.o x'.i (decide (x'.t = x'.o))))) (he : Es H x'.s x'.o x'.es) (t0 : 0 ≤ x'.t) (t1 : x'.t ≤ x'.o) (s0 : 0 ≤ x'.s) (io : x'.i = true → 1 ≤ x'.o) : Wo C W H0 H' c w st x' :=
  ⟨hc, hw, hd, hs, he.same fun y ys e => h.tup k e, t0, t1, s0, fun y o e => k y o (ne_of_none e (h.z _ (by simp))) (ne_of_none e (h.z _ (by simp))) (ne_of_none e (h.z _ (by simp))) (ne_of_none e (h.z _ (by simp))) (h.same y o e), by rw [ed]; exact h.z, h.cw, io⟩
end
end K14

set_option maxRecDepth 100000
set_option maxHeartbeats 400000
namespace K14
open PySem PySem.Spec PyProof.Rows L2 GxR Gd TL My
open K14C (cf CntT cf_last cf_told cf_no cf_len spOut spThrough)
open K14W (wf WirT wf_words wf_sent wf_no wf_len spUnder spSend spGet spLose)
section
variable {P : Program} {w : World} {K : PySem.W.Frag} {mg : Str → Option Value} {base : Heap} {C W : Addr}
abbrev s_law_deed : Stmt := top 15
theorem sc_law_deed : FnScope ["_law_box_here", "_law_count", "_law_wire", "_law_state", "_law_way", "_law_some", "_law_number", "_law_word"] ["_law_box_here", "_law_count", "_law_wire", "_law_state"] (defScope s_law_deed) := ⟨rfl, rfl, rfl, by decide +kernel, rfl, by decide +kernel, by decide +kernel⟩
def spDeed (C W : Addr) : Sp := fun vs H Q _ => ∃ (H0 : Hp) (b c w st : Addr) (x : St) (n B : Int), vs = [.ref b, .ref c, .ref w, .ref st] ∧ Bx b n H ∧ n ≤ 70000 ∧ H0 b = none ∧ Wo C W H0 H c w st x ∧ x.o ≤ B ∧ x.s ≤ B ∧ B ≤ 280 ∧
  ∀ H' x', Bx b (n + 2) H' → Wo C W H0 H' c w st x' → x'.o ≤ B + 1 → x'.s ≤ B + 1 → Q (.bl true) H'
theorem ok_deed {f fT f1 f2 f3 f4 f5 f6 : Addr} {fd fdT fd1 fd2 fd3 fd4 fd5 fd6 : FuncData} (F : Fun K "_law_deed" "_law_deed" s_law_deed f fd) (T : Txt mg) (TC : CntT K C) (TW : WirT K W)
    (Glaw_take : FnOk P w K mg base CX0 1 fT fdT ["_law_box_here", "_law_many"] spTake) (Nlaw_take : Fn K mg "_law_take" sTake ["_law_box_here", "_law_many"] fT fdT)
    (Mout : K14C.Me K C "out" "Count.out" K14C.s_out ["self"] f1 fd1) (Gout : FnOk P w K mg base CX0 1 f1 fd1 ["self"] (spOut C))
    (Mthrough : K14C.Me K C "through" "Count.through" K14C.s_through ["self", "number"] f2 fd2) (Gthrough : FnOk P w K mg base CX0 2 f2 fd2 ["self", "number"] (spThrough C))
    (Munder_way : K14W.Me K W "under_way" "Wire.under_way" K14W.s_under_way ["self"] f3 fd3) (Gunder_way : FnOk P w K mg base CX0 1 f3 fd3 ["self"] (spUnder W))
    (Msend : K14W.Me K W "send" "Wire.send" K14W.s_send ["self", "word"] f4 fd4) (Gsend : FnOk P w K mg base CX0 1 f4 fd4 ["self", "word"] (spSend W))
    (Mget : K14W.Me K W "get" "Wire.get" K14W.s_get ["self", "number"] f5 fd5) (Gget : FnOk P w K mg base CX0 3 f5 fd5 ["self", "number"] (spGet W))
    (Mlose : K14W.Me K W "lose" "Wire.lose" K14W.s_lose ["self", "number"] f6 fd6) (Glose : FnOk P w K mg base CX0 4 f6 fd6 ["self", "number"] (spLose W)) :
    FnOk P w K mg base CX0 5 f fd ["_law_box_here", "_law_count", "_law_wire", "_law_state"] (spDeed C W) := by
  refine F.ok sc_law_deed (fun vs H Q E h => ?_) (fun cdv A outer s H vs Q E hr h => ?_)
  · obtain ⟨H0, b, c, w, st, x, n, B, rfl, _⟩ := h
    rfl
  · obtain ⟨H0, b, c, w, st, x, n, B, rfl, hb, hn, zb, wo0, eo, es, B8, k⟩ := h
    have hu := hr.units
    refine ⟨_, pss_cons (ps_set (i := 4) sc_law_deed.nd rfl (Or.inl rfl) (pe_call Glaw_take (hr.mono (by decide)) (by rfl) Nlaw_take.g Nlaw_take.kp Nlaw_take.b .nil pass0 (pa_cons (pv 0) (pa_cons pe_int pa_nil))))
      (pss_cons (ps_set (i := 5) sc_law_deed.nd rfl (Or.inl rfl) (pe_meth0 (pv 2) TW.cl Munder_way.m Gunder_way (hr.mono (by decide)) Munder_way.b .nil pass0))
      (pss_cons (ps_if (PW.pt (pw_and (pt_cmpR op_eq (pv 4) pe_int (nomark _)) (pw_and1 (pt_val (pe_dget (hu_of hr) (pv 3) pe_str (fun _ _ => rfl)))))) (pss_cons (ps_expr (pe_dupd (pv 3) (pe_disp (pps_cons pe_str (pe_op op_add (pe_dget (hu_of hr) (pv 3) pe_str (fun _ _ => rfl)) pe_int) (pps_cons pe_str pe_bl (pps_cons pe_str pe_bl pps_nil))) (by rfl) (by rfl) (fun z => by cases z) (by decide)) ⟨rfl, rfl, rfl, rfl⟩))
          (pss_one (ps_ret (pe_cmpR op_eq (pe_meth0 (pv 1) TC.cl Mout.m Gout (hr.mono (by decide)) Mout.b .nil pass0) (pe_dget (hu_of hr) (pv 3) pe_str (fun _ _ => rfl)) (nomark _))))) pss_nil)
      (pss_cons (ps_if (PW.pt (pw_and (pt_cmpR op_eq (pv 4) pe_int (nomark _)) (pw_and1 (pt_val (pe_dget (hu_of hr) (pv 3) pe_str (fun _ _ => rfl)))))) (pss_cons (ps_dput (hu_of hr) (pv 3) pe_str pe_bl rfl)
          (pss_one (ps_expr (pe_meth (pv 2) TW.cl Msend.m Gsend (hr.mono (by decide)) Msend.b .nil pass0 (pa_cons (pe_tup (pa_cons pe_str (pa_cons (pe_dget (hu_of hr) (pv 3) pe_str (fun _ _ => rfl)) pa_nil))) pa_nil))))) (pss_one (ps_if (PW.pt (pw_and (pt_cmpR op_eq (pv 4) pe_int (nomark _)) (pw_and (pt_not (pt_val (pe_dget (hu_of hr) (pv 3) pe_str (fun _ _ => rfl)))) (pw_and1 (pt_cmpR op_gt (pe_dget (hu_of hr) (pv 3) pe_str (fun _ _ => rfl)) pe_int (nomark _)))))) (pss_one (ps_expr (pe_meth (pv 2) TW.cl Msend.m Gsend (hr.mono (by decide)) Msend.b .nil pass0 (pa_cons (pe_tup (pa_cons pe_str (pa_cons (pe_dget (hu_of hr) (pv 3) pe_str (fun _ _ => rfl)) pa_nil))) pa_nil)))) (pss_one (ps_if (PW.pt (pw_and (pt_cmpR op_gt (pv 4) pe_int (nomark _)) (pw_and1 (pt_cmpR (neDK (K := K) rfl hu) (pv 5) (pe_lst pa_nil) (nomark _))))) (pss_cons (ps_asg (pe_ix ix_list (pv 5) (pe_call Glaw_take (hr.mono (by decide)) (by rfl) Nlaw_take.g Nlaw_take.kp Nlaw_take.b .nil pass0 (pa_cons (pv 0) (pa_cons (pe_callB call_len_seq (by rfl) T.len_ PySem.boot_len (pa_cons (pv 5) pa_nil)) pa_nil))) (fun _ _ => rfl)) (pg_tup (by rfl) (pgs_cons (pg_name (i := 6) sc_law_deed.nd rfl (Or.inl rfl)) (pgs_cons (pg_name (i := 7) sc_law_deed.nd rfl (Or.inl rfl)) pgs_nil))))
                  (pss_cons (ps_if (pt_cmpR op_eq (pv 4) pe_int (nomark _)) (pss_one (ps_ret (pe_cmpR op_isN (pe_meth (pv 2) TW.cl Mlose.m Glose (hr.mono (by decide)) Mlose.b .nil pass0 (pa_cons (pv 6) pa_nil)) pe_non (nomark _)))) pss_nil)
                  (pss_cons (ps_if (pt_cmpR (neDK (K := K) rfl hu) (pe_meth (pv 2) TW.cl Mget.m Gget (hr.mono (by decide)) Mget.b .nil pass0 (pa_cons (pv 6) pa_nil)) (pv 7) (nomark _)) (pss_one (ps_ret pe_bl)) pss_nil)
                  (pss_cons (ps_expr (pe_meth (pv 1) TC.cl Mthrough.m Gthrough (hr.mono (by decide)) Mthrough.b .nil pass0 (pa_cons (pe_ix ix_tup (pv 7) pe_int (fun _ _ => rfl)) pa_nil)))
                  (pss_one (ps_dput (hu_of hr) (pv 3) pe_str (pe_or (pe_dget (hu_of hr) (pv 3) pe_str (fun _ _ => rfl)) (pe_one (pe_cmpR op_eq (pe_ix ix_tup (pv 7) pe_int (fun _ _ => rfl)) (pe_dget (hu_of hr) (pv 3) pe_str (fun _ _ => rfl)) (nomark _)))) rfl)))))) pss_nil)))))
      (pss_one (ps_ret pe_bl))))), ?_⟩
    refine ⟨_, rfl, b, 5, n, rfl, hb, by omega, by decide, by decide, fun way H1 w0 w1 off1 hb1 => ?_⟩
    have wo1 := wo0.off hb zb (KB.off off1)
    clear wo0 hb off1
    obtain ⟨dy, w_⟩ := wo1.w_
    refine ⟨_, rfl, w, dy, _, rfl, w_, wf_no _ _ (by decide +kernel) (by decide +kernel), w, dy, x.d, x.s, x.es.map entK, rfl, w_, wo1.d_, fun H2 p ts s2 np nts nin ep pr => ?_⟩
    have pr := en_kv pr
    have wo := wo1.go s2
    have hb2 : Bx b (n + 1) H2 := by
      obtain ⟨x1, y, z', q, r⟩ := hb1
      exact ⟨x1, y, z', s2 _ _ q, r⟩
    have npb : p ≠ b := hb1.fresh np
    clear wo1 hb1 s2 np nts nin w_ H1
    obtain ⟨⟨dx, c_⟩, ⟨dy, w_⟩, d_, s_, es_, t0, t1, s0, same, z, cw, io⟩ := id wo
    obtain ⟨ncd, ncs, nwd, nws, nsd⟩ := wo.ns
    have go : DGet H2 st (kV (Sum.inr "out")) (some (.int x.o)) := sd_out x.o x.i _ ▸ DGet.k (k := Sum.inr ("out" : Str)) s_
    have gi : DGet H2 st (kV (Sum.inr "in")) (some (.bl x.i)) := sd_in x.o x.i _ ▸ DGet.k (k := Sum.inr ("in" : Str)) s_
    have gg : DGet H2 st (kV (Sum.inr "got")) (some (.bl (decide (x.t = x.o)))) := sd_got x.o x.i _ ▸ DGet.k (k := Sum.inr ("got" : Str)) s_
    have l290 : x.es.length ≤ 290 := by have := es_.sn; omega
    refine ⟨_, rfl, rfl, _, rfl, ?_⟩
    have fin : ∀ H' x', Bx b (n + 2) H' → Wo C W H0 H' c w st x' → x'.o ≤ B + 1 → x'.s ≤ B + 1 → Q (.bl true) H' := k
    -- what a send makes of it
    have snd : ∀ (H3 : Hp) (y : St) (dz t : Addr), Wo C W H0 H3 c w st y → H3 w = some (.ins W dz (wf y.d y.s)) → Bx b (n + 2) H3 → y.o ≤ B → y.s ≤ B → 1 ≤ y.o → H3 t = none →
        Q (.bl true) (upd (upd (upd H3 t (.tup (wdV y.o))) y.d (.dK (putK (y.es.map entK) (Sum.inl y.s) (.ref t)))) w (.ins W dz (wf y.d (y.s + 1)))) := by
      intro H3 y dz t woy hw hb3 yo ys y1 nt
      obtain ⟨⟨dx', c_'⟩, ⟨dy', w_'⟩, d_', s_', es_', t0', t1', s0', same', z', cw', io'⟩ := id woy
      obtain ⟨m1, m2, m3, m4, m5⟩ := woy.ns
      have wo4 := woy.go (same_new (o := .tup (wdV y.o)) nt)
      have e4 : upd H3 t (.tup (wdV y.o)) t = some (.tup (wdV y.o)) := upd_same
      rw [put_ent es_' t y.o]
      have hb4 := hb3.alloc (o := .tup (wdV y.o)) nt
      generalize upd H3 t (.tup (wdV y.o)) = H4 at wo4 e4 hb4 ⊢
      have k4 : K4 c w st y.d H4 (upd (upd H4 y.d (.dK ((y.es ++ [(y.s, t, y.o)]).map entK))) w (.ins W dz (wf y.d (y.s + 1)))) := fun a o a1 a2 a3 a4 e => by
        rw [upd_ne a2, upd_ne a4]
        exact e
      refine fin _ { y with s := y.s + 1, es := y.es ++ [(y.s, t, y.o)] } (wo4.bx k4 hb4) (wo4.upd k4 rfl ?_ ⟨dz, upd_same⟩ ?_ ?_ (wo4.es_.put e4 y1 (Int.le_refl _) s0') t0' t1' (by show 0 ≤ y.s + 1; omega) io') (by show y.o ≤ B + 1; omega) (by show y.s + 1 ≤ B + 1; omega)
      · obtain ⟨dq, e⟩ := wo4.c_
        exact ⟨dq, by rw [upd_ne cw', upd_ne m1]; exact e⟩
      · show upd _ w _ y.d = _
        rw [upd_ne m3.symm, upd_same]
      · rw [upd_ne m4.symm, upd_ne m5]
        exact wo4.s_
    have hb2' : Bx b (n + 2) H2 := hb2.mono (by omega)
    have rest1 : ∀ (D : Ends), D.rt = Q → D.nx = (fun _ H' => Q (.bl true) H') → True := fun _ _ _ => trivial
    refine (fun (rest : (?G : Prop)) => ?main) ?last
    case main =>
      refine ite2 (fun c1 => ?_) (fun c1 => iteF ?_)
      rotate_left
      · exact rest
      refine ⟨_, rfl, st, _, rfl, gg, _, rfl, ite2 (fun c2 => ?_) (fun c2 => ?_)⟩
      rotate_left
      · exact rest
      have eg : x.t = x.o := of_decide_eq_true c2
      refine ⟨_, rfl, st, rfl, .inl ⟨_, .inl s_⟩, fun q nq => ?_⟩
      have nqs : st ≠ q := ne_of_none s_ nq
      have go' : DGet (upd H2 q (.dK [])) st (kV (Sum.inr "out")) (some (.int x.o)) := sd_out x.o x.i _ ▸ DGet.k (k := Sum.inr ("out" : Str)) (by rw [upd_ne nqs]; exact s_)
      refine ⟨_, rfl, st, _, rfl, go', _, _, rfl, rfl, upd_same, sd (x.o + 1) true false, rfl, by simp [sd, oi_, og_, ig_], ?_⟩
      rw [sd_new]
      have e3 : upd (upd H2 q (.dK [])) q (.dK (sd (x.o + 1) true false)) q = some (.dK (sd (x.o + 1) true false)) := upd_same
      have s3 : Same H2 (upd (upd H2 q (.dK [])) q (.dK (sd (x.o + 1) true false))) := fun a o e => by
        rw [upd_ne (ne_of_none e nq), upd_ne (ne_of_none e nq)]
        exact e
      have wo3 := wo.go s3
      have hb3 : Bx b (n + 2) (upd (upd H2 q (.dK [])) q (.dK (sd (x.o + 1) true false))) := by
        obtain ⟨x1, y, z', r, rr⟩ := hb2'
        exact ⟨x1, y, z', s3 _ _ r, rr⟩
      generalize upd (upd H2 q (.dK [])) q (.dK (sd (x.o + 1) true false)) = H3 at e3 s3 wo3 hb3 ⊢
      refine ⟨q, _, _, rfl, nqs, wo3.s_, e3, by show 3 + 3 ≤ sizeLine; decide, ?_⟩
      rw [sd_merge]
      have c3 : upd H3 st (.dK (sd (x.o + 1) true false)) c = some (.ins C dx (cf x.o x.t)) := by rw [upd_ne ncs]; exact s3 _ _ c_
      refine ⟨_, rfl, c, dx, _, rfl, c3, cf_no _ _ (by decide +kernel) (by decide +kernel), c, dx, x.o, x.t, rfl, c3, ?_⟩
      have k4 : K4 c w st x.d H3 (upd (upd H3 st (.dK (sd (x.o + 1) true false))) c (.ins C dx (cf (x.o + 1) x.t))) := fun a o a1 a2 a3 a4 e => by
        rw [upd_ne a1, upd_ne a3]
        exact e
      have st4 : upd (upd H3 st (.dK (sd (x.o + 1) true false))) c (.ins C dx (cf (x.o + 1) x.t)) st = some (.dK (sd (x.o + 1) true false)) := by rw [upd_ne ncs.symm, upd_same]
      have go4 : DGet (upd (upd H3 st (.dK (sd (x.o + 1) true false))) c (.ins C dx (cf (x.o + 1) x.t))) st (kV (Sum.inr "out")) (some (.int (x.o + 1))) := sd_out (x.o + 1) true _ ▸ DGet.k (k := Sum.inr ("out" : Str)) st4
      refine ⟨_, rfl, st, _, rfl, go4, rfl, ?_⟩
      show Q (.bl (decide (_ = _))) _
      rw [decide_eq_true rfl]
      refine fin _ { x with o := x.o + 1, i := true } (wo3.bx k4 hb3) (wo3.upd k4 rfl ⟨dx, upd_same⟩ ?_ ?_ ?_ (wo3.es_.up (by show x.o ≤ x.o + 1; omega)) t0 (by show x.t ≤ x.o + 1; omega) s0 (fun _ => by show 1 ≤ x.o + 1; omega)) (by show x.o + 1 ≤ B + 1; omega) (by show x.s ≤ B + 1; omega)
      · obtain ⟨dq, e⟩ := wo3.w_
        exact ⟨dq, by rw [upd_ne cw.symm, upd_ne nws]; exact e⟩
      · show upd _ c _ x.d = _
        rw [upd_ne ncd.symm, upd_ne nsd.symm]
        exact wo3.d_
      · rw [st4]
        show some (HO.dK (sd (x.o + 1) true false)) = some (HO.dK (sd (x.o + 1) true (decide (x.t = x.o + 1))))
        rw [decide_eq_false (by omega : ¬ x.t = x.o + 1)]
    clear rest1
    refine ⟨_, rfl, rfl, _, rfl, ?_⟩
    refine (fun (rest : (?G2 : Prop)) => ?main2) ?last2
    case main2 =>
      refine ite2 (fun c1 => ?_) (fun c1 => iteF ?_)
      rotate_left
      · exact rest
      refine ⟨_, rfl, st, _, rfl, gi, _, rfl, ite2 (fun c2 => ?_) (fun c2 => ?_)⟩
      rotate_left
      · exact rest
      -- a train comes out
      refine ⟨_, rfl, st, _, rfl, DPut.k (k := Sum.inr ("in" : Str)) s_ (by show 3 < sizeLine; decide), ?_⟩
      rw [sd_put_in]
      have k3 : K4 c w st x.d H2 (upd H2 st (.dK (sd x.o false (decide (x.t = x.o))))) := fun a o _ _ a3 _ e => by rw [upd_ne a3]; exact e
      have wo3 : Wo C W H0 (upd H2 st (.dK (sd x.o false (decide (x.t = x.o))))) c w st { x with i := false } :=
        wo.upd k3 rfl ⟨dx, by rw [upd_ne ncs]; exact c_⟩ ⟨dy, by rw [upd_ne nws]; exact w_⟩ (by show upd _ st _ x.d = _; rw [upd_ne nsd.symm]; exact d_) upd_same es_ t0 t1 s0 (fun z => by cases z)
      have hb3 := wo.bx k3 hb2'
      have w3 : upd H2 st (.dK (sd x.o false (decide (x.t = x.o)))) w = some (.ins W dy (wf x.d x.s)) := by rw [upd_ne nws]; exact w_
      generalize upd H2 st (.dK (sd x.o false (decide (x.t = x.o)))) = H3 at wo3 hb3 w3 ⊢
      have go3 : DGet H3 st (kV (Sum.inr "out")) (some (.int x.o)) := sd_out x.o false _ ▸ DGet.k (k := Sum.inr ("out" : Str)) wo3.s_
      refine ⟨_, rfl, w, dy, _, rfl, w3, wf_no _ _ (by decide +kernel) (by decide +kernel), _, rfl, st, _, rfl, go3, (by show 2 ≤ sizeLine; decide), fun t nt => ?_⟩
      refine ⟨w, dy, x.d, x.s, x.es.map entK, .ref t, rfl, (by rw [upd_ne (ne_of_none w3 nt)]; exact w3), (by rw [upd_ne (ne_of_none wo3.d_ nt)]; exact wo3.d_), (by rw [List.length_map]; exact lt_line _ (by omega)), ?_⟩
      exact snd H3 { x with i := false } dy t wo3 w3 hb3 eo es (io c2) nt
    refine ⟨_, rfl, rfl, _, rfl, ?_⟩
    refine (fun (rest : (?G3 : Prop)) => ?main3) ?last3
    case main3 =>
      refine ite2 (fun c1 => ?_) (fun c1 => iteF ?_)
      rotate_left
      · exact rest
      refine ⟨_, rfl, st, _, rfl, gi, _, rfl, ite2 (fun c2 => ?_) (fun c2 => iteF ?_)⟩
      rotate_left
      · exact rest
      refine ⟨_, rfl, st, _, rfl, go, _, _, rfl, rfl, _, rfl, ite2 (fun c3 => ?_) (fun c3 => ?_)⟩
      rotate_left
      · exact rest
      have o1 : 1 ≤ x.o := by
        have : x.o > 0 := of_decide_eq_true c3
        omega
      refine ⟨_, rfl, w, dy, _, rfl, w_, wf_no _ _ (by decide +kernel) (by decide +kernel), _, rfl, st, _, rfl, go, (by show 2 ≤ sizeLine; decide), fun t nt => ?_⟩
      refine ⟨w, dy, x.d, x.s, x.es.map entK, .ref t, rfl, (by rw [upd_ne (ne_of_none w_ nt)]; exact w_), (by rw [upd_ne (ne_of_none d_ nt)]; exact d_), (by rw [List.length_map]; exact lt_line _ (by omega)), ?_⟩
      exact snd H2 x dy t wo w_ hb2' eo es o1 nt
    refine (fun (rest : Q (.bl true) H2) => ?_) (fin H2 x hb2' wo (by omega) (by omega))
    have dpE : ∀ {H'}, Same H2 H' → Dp K H' (.ref p) (.list (x.es.map enD)) := fun s => dp_nt (same_nt s) (.lst (SqL.of ep) (en_dp pr fun e he => (es_.wr e he).1))
    refine ⟨_, rfl, _, _, rfl, rfl, _, rfl, ite2 (fun c1 => ?_) (fun c1 => iteF ?_)⟩
    rotate_left
    · exact rest
    refine ⟨_, rfl, Nat.zero_le _, fun u nu => ?_⟩
    have s3 : Same H2 (upd H2 u (.lst [])) := same_new nu
    refine ⟨.list (x.es.map enD), .list [], dpE s3, .lst (SqL.of upd_same) .nil, en_shaped _, rfl, _, rfl, ?_⟩
    rw [eqv_ents]
    have wo3 := wo.go s3
    have hb3 := hb2.alloc (o := .lst []) nu
    refine ite2 (fun c2 => ?_) (fun c2 => ?_)
    rotate_left
    · exact fin _ x (hb3.mono (by omega)) wo3 (by omega) (by omega)
    have ne : x.es ≠ [] := fun z => by rw [z] at c2; cases c2
    have lts := Paired.length pr
    have pos : 0 < x.es.length := List.length_pos_iff.mpr ne
    have ep3 := s3 _ _ ep
    refine ⟨_, rfl, _, rfl, _, rfl, p, _, rfl, .inl (SqL.of ep3), b, _, _, rfl, hb3, by omega, by rw [List.length_map]; omega, dec9000 (by rw [List.length_map]; omega) (by rw [List.length_map]; omega), fun r H4 r0 r1 off4 hb4 => ?_⟩
    have wo4 := wo3.off hb3 zb (KB.off off4)
    have ep4 := (off4 p npb).trans ep3
    obtain ⟨r, rfl⟩ := Int.eq_ofNat_of_zero_le r0
    have hr' : r < ts.length := by rw [List.length_map] at r1; omega
    have ht : ts[r]? = some ts[r] := List.getElem?_eq_getElem hr'
    obtain ⟨e, he, hp⟩ := LiI.paired_get pr ht
    have me := List.mem_of_getElem? he
    generalize ts[r] = tt at ht hp
    have ev : atI (ts.map V.ref) ((r : Nat) : Int) = some (.ref tt) := atI_nat (by rw [List.getElem?_map, ht]; rfl)
    have hb4' : Bx b (n + 2) H4 := hb4.mono (by omega)
    have lst : ∀ {y : Addr} {ys : List V}, H2 y = some (.tup ys) → H4 y = some (.tup ys) := fun q => by
      obtain ⟨x1, y1, z', r', rr⟩ := hb3
      rw [off4 _ (ne_of (s3 _ _ q) r' (by simp))]
      exact s3 _ _ q
    have hp4 := lst hp
    have hw4 := lst (es_.wr e me).1
    have hk := (es_.wr e me).2
    have be := es_.bd e me
    have ve := val_ent es_.asc me rfl
    refine ⟨p, _, _, _, rfl, rfl, SqL.of ep4, ev, tt, _, rfl, SqT.of hp4, rfl, _, _, rfl, _, _, rfl, rfl, ?_⟩
    clear ev ep4 ep3 ep dpE s3 wo3 hb3 hb4 off4 rest r1 hr' ht he hp pr nu lst c_ w_ d_ s_ go gi gg es_ snd wo hb2 hb2'
    obtain ⟨⟨dx, c_⟩, ⟨dy, w_⟩, d_, s_, es_, _⟩ := id wo4
    generalize hes : (x.es.filter fun a => decide (a.1 ≠ e.1)) = es'
    have es4 : Es H4 x.s x.o es' := hes ▸ es_.drop e.1
    have k4 : K4 c w st x.d H4 (upd H4 x.d (.dK (es'.map entK))) := fun a o _ _ _ a4 h => by rw [upd_ne a4]; exact h
    have wo5 : Wo C W H0 (upd H4 x.d (.dK (es'.map entK))) c w st { x with es := es' } :=
      wo4.upd k4 rfl ⟨dx, by rw [upd_ne ncd]; exact c_⟩ ⟨dy, by show upd _ x.d _ w = _; rw [upd_ne nwd]; exact w_⟩ upd_same (by rw [upd_ne nsd]; exact s_) es4 t0 t1 s0 io
    have hb5 := wo4.bx k4 hb4'
    refine ⟨_, rfl, rfl, _, rfl, ite2 (fun c3 => ?_) (fun c3 => ?_)⟩
    · refine ⟨_, rfl, w, dy, _, rfl, w_, wf_no _ _ (by decide +kernel) (by decide +kernel), _, rfl, w, dy, x.d, x.s, x.es.map entK, e.1, _, rfl, w_, d_, be.1, by omega, ve, ?_⟩
      rw [drop_ent, hes]
      refine ⟨rfl, ?_⟩
      exact fin _ _ hb5 wo5 (by show x.o ≤ B + 1; omega) (by show x.s ≤ B + 1; omega)
    refine ⟨_, rfl, w, dy, _, rfl, w_, wf_no _ _ (by decide +kernel) (by decide +kernel), _, rfl, w, dy, x.d, x.s, x.es.map entK, e.1, _, rfl, w_, d_, be.1, by omega, ve, ?_⟩
    rw [drop_ent, hes]
    have hw5 := wo4.tup k4 hw4
    refine ⟨_, rfl, wdD e.2.2, wdD e.2.2, wd_dp hw5, wd_dp hw5, wd_shaped _, wd_shaped _, _, rfl, ?_⟩
    rw [SeqAt.eqv_refl _ (wd_lay _)]
    refine iteF ?_
    generalize upd H4 x.d (.dK (es'.map entK)) = H5 at wo5 hb5 hw5 ⊢
    clear k4 wo4 hp4 hw4 c_ w_ d_ s_ es_ es4
    obtain ⟨⟨dx, c_⟩, ⟨dy, w_⟩, d_, s_, es_, _⟩ := id wo5
    refine ⟨_, rfl, c, dx, _, rfl, c_, cf_no _ _ (by decide +kernel) (by decide +kernel), _, rfl, e.2.1, _, 1, .int e.2.2, rfl, rfl, SqT.of hw5, rfl, c, dx, x.o, x.t, e.2.2, rfl, c_, hk.1, hk.2, ?_⟩
    have k5 : K4 c w st x.d H5 (upd (upd H5 c (.ins C dx (cf x.o (max x.t e.2.2)))) st (.dK (sd x.o x.i (decide (max x.t e.2.2 = x.o))))) := fun a o a1 _ a3 _ h => by rw [upd_ne a3, upd_ne a1]; exact h
    have s5 : upd H5 c (.ins C dx (cf x.o (max x.t e.2.2))) st = some (.dK (sd x.o x.i (decide (x.t = x.o)))) := by rw [upd_ne ncs.symm]; exact s_
    have last : Q (.bl true) (upd (upd H5 c (.ins C dx (cf x.o (max x.t e.2.2)))) st (.dK (sd x.o x.i (decide (max x.t e.2.2 = x.o))))) := by
      refine fin _ { x with t := max x.t e.2.2, es := es' } (wo5.bx k5 hb5) (wo5.upd k5 rfl ⟨dx, by rw [upd_ne ncs, upd_same]⟩ ⟨dy, ?_⟩ ?_ upd_same es_ (by show 0 ≤ max x.t e.2.2; omega) (by show max x.t e.2.2 ≤ x.o; omega) s0 io) (by show x.o ≤ B + 1; omega) (by show x.s ≤ B + 1; omega)
      · rw [upd_ne nws, upd_ne cw.symm]
        exact w_
      · show upd _ st _ x.d = _
        rw [upd_ne nsd.symm, upd_ne ncd.symm]
        exact d_
    have gg5 : DGet (upd H5 c (.ins C dx (cf x.o (max x.t e.2.2)))) st (kV (Sum.inr "got")) (some (.bl (decide (x.t = x.o)))) := sd_got x.o x.i _ ▸ DGet.k (k := Sum.inr ("got" : Str)) s5
    have go5 : DGet (upd H5 c (.ins C dx (cf x.o (max x.t e.2.2)))) st (kV (Sum.inr "out")) (some (.int x.o)) := sd_out x.o x.i _ ▸ DGet.k (k := Sum.inr ("out" : Str)) s5
    have hw6 : upd H5 c (.ins C dx (cf x.o (max x.t e.2.2))) e.2.1 = some (.tup (wdV e.2.2)) := by rw [upd_ne (ne_of hw5 c_ (by simp))]; exact hw5
    refine ⟨_, rfl, st, _, rfl, gg5, _, rfl, ite2 (fun c4 => ?_) (fun c4 => ?_)⟩
    · have c4' : x.t = x.o := of_decide_eq_true c4
      refine ⟨_, rfl, st, _, rfl, DPut.k (k := Sum.inr ("got" : Str)) s5 (by show 3 < sizeLine; decide), ?_⟩
      rw [sd_put_got, show sd x.o x.i true = sd x.o x.i (decide (max x.t e.2.2 = x.o)) by rw [decide_eq_true (by omega : max x.t e.2.2 = x.o)]]
      exact last
    · have c4' : ¬ x.t = x.o := fun z => c4 (decide_eq_true z)
      refine ⟨_, rfl, e.2.1, _, 1, .int e.2.2, rfl, rfl, SqT.of hw6, rfl, _, rfl, st, _, rfl, go5, rfl, _, rfl, st, _, rfl, DPut.k (k := Sum.inr ("got" : Str)) s5 (by show 3 < sizeLine; decide), ?_⟩
      rw [sd_put_got, show decide (V.int e.2.2 = V.int x.o) = decide (max x.t e.2.2 = x.o) from by
        rw [Bool.eq_iff_iff, decide_eq_true_eq, decide_eq_true_eq]
        constructor
        · intro z
          have := V.int.inj z
          omega
        · intro z
          have : e.2.2 = x.o := by omega
          rw [this]]
      exact last
end
end K14

set_option maxRecDepth 100000
set_option maxHeartbeats 400000
namespace K14
open PySem PySem.Spec PyProof.Rows L2 GxR Gd TL My
open K14C (cf CntT cf_last cf_told cf_no cf_len spOut spThrough spLast spClear)
open K14W (wf WirT wf_words wf_sent wf_no wf_len spUnder spSend spGet spLose)
theorem drop_step {es : List En} {j : Nat} {e : En} (h : es.Pairwise fun a b => a.1 < b.1) (he : es[j]? = some e) : (es.drop j).filter (fun a => decide (a.1 ≠ e.1)) = es.drop (j + 1) := by
  obtain ⟨hj, rfl⟩ := List.getElem?_eq_some_iff.mp he
  rw [List.drop_eq_getElem_cons hj, List.filter_cons_of_neg (by simp)]
  refine List.filter_eq_self.mpr fun a ha => ?_
  have h2 := h.sublist (List.drop_sublist j es)
  rw [List.drop_eq_getElem_cons hj, List.pairwise_cons] at h2
  have := h2.1 a ha
  exact decide_eq_true (by omega)
theorem Es.tail {H : Hp} {s o : Int} {es : List En} (h : Es H s o es) (j : Nat) : Es H s o (es.drop j) :=
  ⟨h.asc.sublist (List.drop_sublist j es), fun e he => h.bd e (List.mem_of_mem_drop he), fun e he => h.wr e (List.mem_of_mem_drop he), by have := h.sn; rw [List.length_drop]; omega⟩
section
variable {P : Program} {w : World} {K : PySem.W.Frag} {mg : Str → Option Value} {base : Heap} {C W : Addr}
abbrev s_law : Stmt := top 16
theorem sc_law : FnScope ["_law_script", "_law_count", "_law_wire", "_law_state", "_law_many", "_law_quiet", "_law_k", "_law_box_here", "_law_turn", "_law_number", "_law_word"] ["_law_script"] (defScope s_law) := ⟨rfl, rfl, rfl, by decide +kernel, rfl, by decide +kernel, by decide +kernel⟩
def spLaw (K : PySem.W.Frag) : Sp := fun vs H Q _ => ∃ (a : Addr) (ns : List Int), vs = [.ref a] ∧ SqL K H a (ns.map V.int) ∧ SmAt H ∧ ns.length ≤ 63 ∧ ∀ H', Q (.bl true) H'
theorem ok_law {f fC fW f1 f2 f3 f4 f5 f6 f7 f8 f9 f10 f11 : Addr} {fd fdC fdW fd1 fd2 fd3 fd4 fd5 fd6 fd7 fd8 fd9 fd10 fd11 : FuncData} (F : Fun K "law" "law" s_law f fd) (T : Txt mg) (TC : CntT K C) (TW : WirT K W)
    (gCount : mg "Count" = some (.ref C)) (MCount : Mk K C fC) (GCount : FnOk P w K mg base CX0 1 fC fdC ["self"] (K14C.spInit C)) (bCount : Binds K fdC ["self"] [])
    (gWire : mg "Wire" = some (.ref W)) (MWire : Mk K W fW) (GWire : FnOk P w K mg base CX0 1 fW fdW ["self"] (K14W.spInit W)) (bWire : Binds K fdW ["self"] [])
    (Glaw_cell : FnOk P w K mg base CX0 1 f1 fd1 ["_law_script", "_law_k"] (spCell K)) (Nlaw_cell : Fn K mg "_law_cell" sCell ["_law_script", "_law_k"] f1 fd1)
    (Glaw_box : FnOk P w K mg base CX0 1 f2 fd2 ["_law_cell_here"] spBox) (Nlaw_box : Fn K mg "_law_box" sBox ["_law_cell_here"] f2 fd2)
    (Glaw_take : FnOk P w K mg base CX0 1 f3 fd3 ["_law_box_here", "_law_many"] spTake) (Nlaw_take : Fn K mg "_law_take" sTake ["_law_box_here", "_law_many"] f3 fd3)
    (Glaw_deed : FnOk P w K mg base CX0 5 f4 fd4 ["_law_box_here", "_law_count", "_law_wire", "_law_state"] (spDeed C W)) (Nlaw_deed : Fn K mg "_law_deed" s_law_deed ["_law_box_here", "_law_count", "_law_wire", "_law_state"] f4 fd4)
    (Mclear : K14C.Me K C "clear" "Count.clear" K14C.s_clear ["self"] f5 fd5) (Gclear : FnOk P w K mg base CX0 1 f5 fd5 ["self"] (spClear C))
    (Mlast : K14C.Me K C "last" "Count.last" K14C.s_last ["self"] f6 fd6) (Glast : FnOk P w K mg base CX0 1 f6 fd6 ["self"] (spLast C))
    (Mthrough : K14C.Me K C "through" "Count.through" K14C.s_through ["self", "number"] f7 fd7) (Gthrough : FnOk P w K mg base CX0 2 f7 fd7 ["self", "number"] (spThrough C))
    (Munder_way : K14W.Me K W "under_way" "Wire.under_way" K14W.s_under_way ["self"] f8 fd8) (Gunder_way : FnOk P w K mg base CX0 1 f8 fd8 ["self"] (spUnder W))
    (Msend : K14W.Me K W "send" "Wire.send" K14W.s_send ["self", "word"] f9 fd9) (Gsend : FnOk P w K mg base CX0 1 f9 fd9 ["self", "word"] (spSend W))
    (Mget : K14W.Me K W "get" "Wire.get" K14W.s_get ["self", "number"] f10 fd10) (Gget : FnOk P w K mg base CX0 3 f10 fd10 ["self", "number"] (spGet W))
    (Mlose : K14W.Me K W "lose" "Wire.lose" K14W.s_lose ["self", "number"] f11 fd11) (Glose : FnOk P w K mg base CX0 4 f11 fd11 ["self", "number"] (spLose W)) :
    GOk P w K mg base CX0 6 f fd ["_law_script"] (spLaw K) := by
  refine gok F sc_law (fun vs H Q E h => ?_) (fun cdv A outer s H vs Q E gd hr h => ?_)
  · obtain ⟨a, ns, rfl, _⟩ := h
    rfl
  · obtain ⟨a, ns, rfl, hS, sm, hl, k⟩ := h
    refine ⟨_, pss_cons (ps_set (i := 1) sc_law.nd rfl (Or.inl rfl) (pe_make0 MCount GCount (hr.mono (by decide)) (by rfl) gCount bCount .nil pass0))
      (pss_cons (ps_set (i := 2) sc_law.nd rfl (Or.inl rfl) (pe_make0 MWire GWire (hr.mono (by decide)) (by rfl) gWire bWire .nil pass0))
      (pss_cons (ps_set (i := 3) sc_law.nd rfl (Or.inl rfl) (pe_disp (pps_cons pe_str pe_int (pps_cons pe_str pe_bl (pps_cons pe_str pe_bl pps_nil))) (by rfl) (by rfl) (fun z => by cases z) (by decide)))
      (pss_cons (ps_set (i := 4) sc_law.nd rfl (Or.inl rfl) (pe_callB (call_max2 rfl) (by rfl) T.max_ (by decide +kernel) (pa_cons pe_int (pa_cons (pe_callB (call_min2 rfl) (by rfl) T.min_ (by decide +kernel) (pa_cons pe_int (pa_cons (pe_callB call_len_seq (by rfl) T.len_ PySem.boot_len (pa_cons (pv 0) pa_nil)) pa_nil))) pa_nil))))
      (pss_cons (ps_set (i := 5) sc_law.nd rfl (Or.inl rfl) (pe_cmpR op_eq (pe_call Glaw_take (hr.mono (by decide)) (by rfl) Nlaw_take.g Nlaw_take.kp Nlaw_take.b .nil pass0 (pa_cons (pe_call Glaw_box (hr.mono (by decide)) (by rfl) Nlaw_box.g Nlaw_box.kp Nlaw_box.b .nil pass0 (pa_cons (pe_call Glaw_cell (hr.mono (by decide)) (by rfl) Nlaw_cell.g Nlaw_cell.kp Nlaw_cell.b .nil pass0 (pa_cons (pv 0) (pa_cons (pe_op op_sub (pv 4) pe_int) pa_nil))) pa_nil)) (pa_cons pe_int pa_nil))) pe_int (nomark _)))
      (pss_cons (ps_for PassesOwn.never rfl (pi_range1 (by rfl) T.range_ (pa_cons (pv 4) pa_nil)) (pg_name (i := 6) sc_law.nd rfl (Or.inl rfl)) (pss_cons (ps_set (i := 7) sc_law.nd rfl (Or.inl rfl) (pe_call Glaw_box (hr.mono (by decide)) (by rfl) Nlaw_box.g Nlaw_box.kp Nlaw_box.b .nil pass0 (pa_cons (pe_call Glaw_cell (hr.mono (by decide)) (by rfl) Nlaw_cell.g Nlaw_cell.kp Nlaw_cell.b .nil pass0 (pa_cons (pv 0) (pa_cons (pv 6) pa_nil))) pa_nil)))
          (pss_one (ps_for PassesOwn.never rfl (pi_range1 (by rfl) T.range_ (pa_cons (pe_op op_add pe_int (pe_call Glaw_take (hr.mono (by decide)) (by rfl) Nlaw_take.g Nlaw_take.kp Nlaw_take.b .nil pass0 (pa_cons (pv 7) (pa_cons pe_int pa_nil)))) pa_nil)) (pg_name (i := 8) sc_law.nd rfl (Or.inl rfl)) (pss_cons (ps_if (pt_not (pt_val (pe_call Glaw_deed (hr.mono (by decide)) (by rfl) Nlaw_deed.g Nlaw_deed.kp Nlaw_deed.b .nil pass0 (pa_cons (pv 7) (pa_cons (pv 1) (pa_cons (pv 2) (pa_cons (pv 3) pa_nil))))))) (pss_one (ps_ret pe_bl)) pss_nil)
              (pss_one (ps_if (PW.pt (pw_and (pt_not (pt_val (pv 5))) (pw_and1 (pt_cmpR op_ne (pe_callB (call_repr gd hr) (by rfl) T.repr_ (by decide +kernel) (pa_cons (pe_lst (pa_cons (pe_meth0 (pv 1) TC.cl Mclear.m Gclear (hr.mono (by decide)) Mclear.b .nil pass0) (pa_cons (pe_meth0 (pv 1) TC.cl Mlast.m Glast (hr.mono (by decide)) Mlast.b .nil pass0) pa_nil))) pa_nil)) (pe_callB (call_repr gd hr) (by rfl) T.repr_ (by decide +kernel) (pa_cons (pe_lst (pa_cons (pe_dget (hu_of hr) (pv 3) pe_str (fun _ _ => rfl)) (pa_cons (pe_dget (hu_of hr) (pv 3) pe_str (fun _ _ => rfl)) pa_nil))) pa_nil)) (nomark _))))) (pss_one (ps_ret pe_bl)) pss_nil)))))))
      (pss_cons (ps_if (pt_cmpR op_ne (pe_callB (call_repr gd hr) (by rfl) T.repr_ (by decide +kernel) (pa_cons (pe_lst (pa_cons (pe_meth0 (pv 1) TC.cl Mclear.m Gclear (hr.mono (by decide)) Mclear.b .nil pass0) (pa_cons (pe_meth0 (pv 1) TC.cl Mlast.m Glast (hr.mono (by decide)) Mlast.b .nil pass0) pa_nil))) pa_nil)) (pe_callB (call_repr gd hr) (by rfl) T.repr_ (by decide +kernel) (pa_cons (pe_lst (pa_cons (pe_dget (hu_of hr) (pv 3) pe_str (fun _ _ => rfl)) (pa_cons (pe_dget (hu_of hr) (pv 3) pe_str (fun _ _ => rfl)) pa_nil))) pa_nil)) (nomark _)) (pss_one (ps_ret pe_bl)) pss_nil)
      (pss_cons (ps_if (PW.pt (pw_or (pt_val (pe_dget (hu_of hr) (pv 3) pe_str (fun _ _ => rfl))) (pw_or1 (pt_cmpR op_eq (pe_dget (hu_of hr) (pv 3) pe_str (fun _ _ => rfl)) pe_int (nomark _))))) (pss_one (ps_ret pe_bl)) pss_nil)
      (pss_cons (ps_for PassesOwn.never rfl (pi_list (pe_meth0 (pv 2) TW.cl Munder_way.m Gunder_way (hr.mono (by decide)) Munder_way.b .nil pass0)) (pg_tup (by rfl) (pgs_cons (pg_name (i := 9) sc_law.nd rfl (Or.inl rfl)) (pgs_cons (pg_name (i := 10) sc_law.nd rfl (Or.inl rfl)) pgs_nil))) (pss_one (ps_expr (pe_meth (pv 2) TW.cl Mlose.m Glose (hr.mono (by decide)) Mlose.b .nil pass0 (pa_cons (pv 9) pa_nil)))))
      (pss_cons (ps_expr (pe_meth (pv 2) TW.cl Msend.m Gsend (hr.mono (by decide)) Msend.b .nil pass0 (pa_cons (pe_tup (pa_cons pe_str (pa_cons (pe_dget (hu_of hr) (pv 3) pe_str (fun _ _ => rfl)) pa_nil))) pa_nil)))
      (pss_cons (ps_asg (pe_ix ix_list (pe_meth0 (pv 2) TW.cl Munder_way.m Gunder_way (hr.mono (by decide)) Munder_way.b .nil pass0) pe_int (fun _ _ => rfl)) (pg_tup (by rfl) (pgs_cons (pg_name (i := 9) sc_law.nd rfl (Or.inl rfl)) (pgs_cons (pg_name (i := 10) sc_law.nd rfl (Or.inl rfl)) pgs_nil))))
      (pss_cons (ps_expr (pe_meth (pv 1) TC.cl Mthrough.m Gthrough (hr.mono (by decide)) Mthrough.b .nil pass0 (pa_cons (pe_ix ix_tup (pe_meth (pv 2) TW.cl Mget.m Gget (hr.mono (by decide)) Mget.b .nil pass0 (pa_cons (pv 9) pa_nil)) pe_int (fun _ _ => rfl)) pa_nil)))
      (pss_one (ps_ret (pe_cmpR op_is_bl (pe_meth0 (pv 1) TC.cl Mclear.m Gclear (hr.mono (by decide)) Mclear.b .nil pass0) pe_bl (nomark _))))))))))))))), ?_⟩
    intro c dyc nc ndc _
    refine ⟨c, dyc, rfl, upd_same, rfl, ?_⟩
    have s1 : Same H (upd (upd (upd (upd H dyc (.own c)) c (.ins C dyc [])) c (.ins C dyc (putF "_last" (.int 0) []))) c (.ins C dyc (cf 0 0))) := fun z o e => by
      have q := ne_of_none e nc
      rw [upd_ne q, upd_ne q, upd_ne q, upd_ne (ne_of_none e ndc)]
      exact e
    have e1 : upd (upd (upd (upd H dyc (.own c)) c (.ins C dyc [])) c (.ins C dyc (putF "_last" (.int 0) []))) c (.ins C dyc (cf 0 0)) c = some (.ins C dyc (cf 0 0)) := upd_same
    generalize upd (upd (upd (upd H dyc (.own c)) c (.ins C dyc [])) c (.ins C dyc (putF "_last" (.int 0) []))) c (.ins C dyc (cf 0 0)) = H1 at s1 e1 ⊢
    intro w dyw nw ndw _
    refine ⟨w, dyw, rfl, upd_same, fun d H2 ndd off2 e2 f2 => ⟨rfl, ?_⟩⟩
    have ndw' : d ≠ w := (ne_of_none upd_same ndd).symm
    have nd : H1 d = none := by
      rw [upd_ne ndw'] at ndd
      by_cases z : d = dyw
      · rw [z, upd_same] at ndd; cases ndd
      · rw [upd_ne z] at ndd; exact ndd
    have s2 : Same H1 H2 := fun z o h => by
      have z1 := ne_of_none h nw
      rw [off2 z z1 (ne_of_none h nd), upd_ne z1, upd_ne (ne_of_none h ndw)]
      exact h
    clear off2 ndd ndw ndc
    intro st nst
    refine ⟨upd_same, sd 0 false true, rfl, by simp [sd, oi_, og_, ig_], ?_⟩
    rw [sd_new]
    have s3 : Same H2 (upd (upd H2 st (.dK [])) st (.dK (sd 0 false true))) := fun a o e => by
      rw [upd_ne (ne_of_none e nst), upd_ne (ne_of_none e nst)]
      exact e
    have e3 : upd (upd H2 st (.dK [])) st (.dK (sd 0 false true)) st = some (.dK (sd 0 false true)) := upd_same
    generalize upd (upd H2 st (.dK [])) st (.dK (sd 0 false true)) = H6 at s3 e3 ⊢
    have wo : Wo C W H H6 c w st ⟨d, 0, 0, 0, false, []⟩ := by
      refine ⟨⟨dyc, s3 _ _ (s2 _ _ e1)⟩, ⟨dyw, s3 _ _ e2⟩, s3 _ _ f2, e3, ⟨.nil, by simp, by simp, by simp⟩, Int.le_refl _, Int.le_refl _, Int.le_refl _, s1.trans (s2.trans s3), ?_, ne_of_none e1 nw, fun z => by cases z⟩
      intro y hy
      simp only [List.mem_cons, List.not_mem_nil, or_false] at hy
      rcases hy with rfl | rfl | rfl | rfl
      · exact nc
      · exact s1.free nw
      · exact s1.free (s2.free nst)
      · exact s1.free nd
    clear s1 s2 s3 e1 e2 e3 f2 nc nw nst nd ndw'
    have hlen : (ns.map V.int).length = ns.length := List.length_map ..
    refine ⟨_, rfl, a, _, rfl, .inl (wo.same.seq hS), _, _, rfl, _, _, rfl, ?_⟩
    obtain ⟨N, hN, N2, N60⟩ : ∃ N : Nat, (if (if (((ns.map V.int).length : Nat) : Int) < 60 then (((ns.map V.int).length : Nat) : Int) else 60) > 2 then (if (((ns.map V.int).length : Nat) : Int) < 60 then (((ns.map V.int).length : Nat) : Int) else 60) else 2) = (N : Int) ∧ 2 ≤ N ∧ N ≤ 60 := by
      rw [hlen]
      refine ⟨max 2 (min 60 ns.length), ?_, by omega, by omega⟩
      split <;> split <;> omega
    rw [hN]
    refine ⟨_, rfl, _, rfl, _, _, rfl, rfl, a, ns, N - 1, ?_, wo.same.seq hS, fun cell => ?_⟩
    · show [V.ref a, V.int ((N : Int) - 1)] = [V.ref a, V.int ((N - 1 : Nat) : Int)]
      rw [show ((N : Int) - 1) = ((N - 1 : Nat) : Int) by omega]
    refine ⟨cell, rfl, fun b1 H7 nb1 off1 hb1 => ?_⟩
    refine ⟨b1, 2, 0, rfl, hb1, by omega, by decide, by decide, fun quiet H8 q0 q1 off2 hb2 => ?_⟩
    have wo8 := wo.go (H' := H8) fun x o e => (off2 x (ne_of_none e nb1)).trans ((off1 x (ne_of_none e nb1)).trans e)
    clear wo off1 off2 hb1 hb2
    refine ⟨rfl, ?_⟩
    generalize decide (V.int quiet = V.int 0) = bq
    -- both are shown
    have cmp : ∀ (H9 : Hp) (x : St) (σ : L2.St) (G : Bool → Hp → Prop), σ[1]? = some (some (.ref c)) → σ[3]? = some (some (.ref st)) → Wo C W H H9 c w st x → x.o ≤ 400 → (∀ H', Same H9 H' → G false H') →
        tTest (tOp rNe (tCB (rRepr K) (tCons (tLst (tCons (tMeth C "clear" (spClear C) [] E0 (tVar 1) tNil) (tCons (tMeth C "last" (spLast C) [] E0 (tVar 1) tNil) tNil))) tNil)) (tCB (rRepr K) (tCons (tLst (tCons (tDGet (tVar 3) (tC (V.str "got"))) (tCons (tDGet (tVar 3) (tC (V.str "out"))) tNil))) tNil))) σ H9 G := by
      intro H9 x σ G h1 h3 wo9 o4 g
      obtain ⟨dx, e⟩ := wo9.c_
      have t0 := wo9.t0
      have t1 := wo9.t1
      obtain ⟨m1, m2, m3⟩ := (sm_list (k := 0) (m := 20) (ds := [.bool (decide (x.t = x.o)), .int x.o]) (by
        intro d hd
        simp only [List.mem_cons, List.not_mem_nil, or_false] at hd
        rcases hd with rfl | rfl
        · exact (sm_bool _).mono (Nat.le_refl _) (by decide)
        · exact sm_int (by omega))).rep (by decide) (by simp)
      refine ⟨_, h1, c, dx, _, rfl, e, cf_no _ _ (by decide +kernel) (by decide +kernel), c, dx, x.o, x.t, rfl, e, _, h1, c, dx, _, rfl, e, cf_no _ _ (by decide +kernel) (by decide +kernel), c, dx, x.o, x.t, rfl, e, (by show 2 ≤ sizeLine; decide), fun u nu => ?_⟩
      refine ⟨_, .list [.bool (decide (x.t = x.o)), .int x.o], rfl, .lst (SqL.of upd_same) (.cons (.bl _) (.cons (.int _) .nil)), m1, m2, m3, ?_⟩
      have s5 : Same H9 (upd H9 u (.lst [.bl (decide (x.t = x.o)), .int x.o])) := same_new nu
      have e5 := s5 _ _ wo9.s_
      have gg : DGet (upd H9 u (.lst [.bl (decide (x.t = x.o)), .int x.o])) st (kV (Sum.inr "got")) (some (.bl (decide (x.t = x.o)))) := sd_got x.o x.i _ ▸ DGet.k (k := Sum.inr ("got" : Str)) e5
      have go : DGet (upd H9 u (.lst [.bl (decide (x.t = x.o)), .int x.o])) st (kV (Sum.inr "out")) (some (.int x.o)) := sd_out x.o x.i _ ▸ DGet.k (k := Sum.inr ("out" : Str)) e5
      refine ⟨_, h3, st, _, rfl, gg, _, h3, st, _, rfl, go, (by show 2 ≤ sizeLine; decide), fun v nv => ?_⟩
      refine ⟨_, .list [.bool (decide (x.t = x.o)), .int x.o], rfl, .lst (SqL.of upd_same) (.cons (.bl _) (.cons (.int _) .nil)), m1, m2, m3, rfl, false, by simp, ?_⟩
      exact g _ (s5.trans (same_new nv))
    refine ⟨_, rfl, _, rfl, by omega, by omega, for_range (lo := 0) (n := N) (fun i σ H' => ∃ (v6 v7 v8 : Option V) (x : St), σ = [some (.ref a), some (.ref c), some (.ref w), some (.ref st), some (.int (N : Int)), some (.bl bq), v6, v7, v8, none, none] ∧
      Wo C W H H' c w st x ∧ x.o ≤ 3 * i ∧ x.s ≤ 3 * i) ⟨_, _, _, _, rfl, wo8, by simp, by simp⟩ ?_ ?_⟩
    · clear wo8
      rintro i σ H1 hi ⟨v6, v7, v8, x, rfl, wo, L0, L1⟩
      refine ⟨_, rfl, _, rfl, a, ns, i, ?_, wo.same.seq hS, fun cell => ?_⟩
      · show [V.ref a, V.int (0 + (i : Int))] = [V.ref a, V.int i]
        rw [Int.zero_add]
      refine ⟨cell, rfl, fun b H2 nb off hb => ?_⟩
      have zb : H b = none := wo.same.free nb
      have wo2 := wo.go (H' := H2) fun x o e => (off x (ne_of_none e nb)).trans e
      clear wo off nb
      refine ⟨_, rfl, b, 3, 0, rfl, hb, by omega, by decide, by decide, fun D0 H3 d0 d1 off3 hb3 => ?_⟩
      have wo3 := wo2.off hb zb (KB.off off3)
      clear wo2 hb off3
      obtain ⟨D, rfl⟩ := Int.eq_ofNat_of_zero_le d0
      have eD : ((1 : Int) + (D : Int)).toNat = 1 + D := by omega
      refine ⟨_, _, rfl, rfl, _, rfl, by omega, by omega, ?_⟩
      rw [eD]
      refine for_range (lo := 0) (n := 1 + D) (fun j σ H' => ∃ (v8 : Option V) (x : St), σ = [some (.ref a), some (.ref c), some (.ref w), some (.ref st), some (.int (N : Int)), some (.bl bq), some (.int (0 + (i : Int))), some (.ref b), v8, none, none] ∧
        Wo C W H H' c w st x ∧ Bx b (1 + 2 * j) H' ∧ x.o ≤ 3 * i + j ∧ x.s ≤ 3 * i + j) ⟨_, x, rfl, wo3, hb3.mono (by omega), by omega, by omega⟩ ?_ ?_
      · clear wo3 hb3 L0 L1
        rintro j σ H4 hj ⟨v8, x, rfl, wo, hb, L0, L1⟩
        have hi' : i < N := hi
        refine ⟨_, rfl, _, rfl, _, rfl, _, rfl, H, b, c, w, st, x, 1 + 2 * j, 3 * i + j, rfl, hb, by omega, zb, wo, L0, L1, by omega, fun H5 x' hb5 wo5 r0 r1 => ?_⟩
        refine ⟨_, rfl, iteF ?_⟩
        have nxt : ∀ H9, Same H5 H9 → ∃ (v8 : Option V) (x : St), ([some (.ref a), some (.ref c), some (.ref w), some (.ref st), some (.int (N : Int)), some (.bl bq), some (.int (0 + (i : Int))), some (.ref b), some (.int (0 + (j : Int))), none, none] : L2.St) =
            [some (.ref a), some (.ref c), some (.ref w), some (.ref st), some (.int (N : Int)), some (.bl bq), some (.int (0 + (i : Int))), some (.ref b), v8, none, none] ∧ Wo C W H H9 c w st x ∧ Bx b (1 + 2 * (j + 1 : Nat)) H9 ∧ x.o ≤ 3 * i + (j + 1 : Nat) ∧ x.s ≤ 3 * i + (j + 1 : Nat) := fun H9 s9 => by
          obtain ⟨x1, y, z, q, r1, r2, r3, r4, r5⟩ := hb5
          exact ⟨_, x', rfl, wo5.go s9, ⟨x1, y, z, s9 _ _ q, r1, r2, r3, r4, by push_cast; omega⟩, by push_cast; omega, by push_cast; omega⟩
        cases bq with
        | true =>
          refine ⟨_, rfl, _, rfl, iteF (iteF ?_)⟩
          exact nxt H5 (Same.refl _)
        | false =>
          refine ⟨_, rfl, _, rfl, iteT ?_⟩
          refine cmp H5 x' _ _ rfl rfl wo5 (by omega) fun H9 s9 => iteF ?_
          exact nxt H9 s9
      · rintro σ H4 ⟨v8, x, rfl, wo, hb, L0, L1⟩
        have hi' : i < N := hi
        exact ⟨_, _, _, x, rfl, wo, by push_cast; omega, by push_cast; omega⟩
    · rintro σ H1 ⟨v6, v7, v8, x, rfl, wo, L0, L1⟩
      refine cmp H1 x _ _ rfl rfl wo (by omega) fun H2 s2 => iteF ?_
      have wo2 := wo.go s2
      clear wo s2 cmp wo8 nb1
      have go : DGet H2 st (kV (Sum.inr "out")) (some (.int x.o)) := sd_out x.o x.i _ ▸ DGet.k (k := Sum.inr ("out" : Str)) wo2.s_
      have gi : DGet H2 st (kV (Sum.inr "in")) (some (.bl x.i)) := sd_in x.o x.i _ ▸ DGet.k (k := Sum.inr ("in" : Str)) wo2.s_
      refine ⟨_, rfl, st, _, rfl, gi, _, rfl, ite2 (fun c1 => k _) (fun c1 => ?_)⟩
      refine ⟨_, rfl, st, _, rfl, go, rfl, _, rfl, ite2 (fun c2 => k _) (fun c2 => ?_)⟩
      have o1 : 1 ≤ x.o := by
        have t0 := wo2.t0
        have t1 := wo2.t1
        have : ¬ x.o = 0 := fun z => c2 (decide_eq_true (congrArg V.int z))
        omega
      clear go gi c1 c2
      obtain ⟨⟨dx, c_⟩, ⟨dy, w_⟩, d_, s_, es_, t0, t1, s0, same, z, cw, io⟩ := id wo2
      obtain ⟨ncd, ncs, nwd, nws, nsd⟩ := wo2.ns
      refine ⟨_, rfl, w, dy, _, rfl, w_, wf_no _ _ (by decide +kernel) (by decide +kernel), w, dy, x.d, x.s, x.es.map entK, rfl, w_, d_, fun H3 p ts s3 np nts nin ep pr => ?_⟩
      have pr := en_kv pr
      have lts := Paired.length pr
      have wo3 := wo2.go s3
      have l200 : x.es.length ≤ 200 := by have := es_.sn; omega
      refine ⟨p, rfl, ⟨_, SqL.of ep⟩, for_list (K := K) (a := p) (xs := ts.map V.ref) (fun j σ H' => ∃ v9 v10 : Option V, σ = [some (.ref a), some (.ref c), some (.ref w), some (.ref st), some (.int (N : Int)), some (.bl bq), v6, v7, v8, v9, v10] ∧
        Wo C W H H' c w st { x with es := x.es.drop j } ∧ H' p = some (.lst (ts.map V.ref)) ∧ Paired (fun t (e : En) => H' t = some (.tup [.int e.1, .ref e.2.1])) ts x.es) ⟨_, _, rfl, by rw [List.drop_zero]; exact wo3, ep, pr⟩ (fun j σ H' _ ⟨_, _, _, _, q, _⟩ => SqL.of q) ?_ ?_⟩
      · rintro j y σ H4 hy ⟨v9, v10, rfl, wo4, ep4, pr4⟩
        obtain ⟨tt, ht, rfl⟩ : ∃ tt, ts[j]? = some tt ∧ y = .ref tt := by
          rw [List.getElem?_map] at hy
          cases q : ts[j]? with
          | none => rw [q] at hy; cases hy
          | some u => rw [q] at hy; exact ⟨u, rfl, (Option.some.inj hy).symm⟩
        obtain ⟨e, he, hp⟩ := LiI.paired_get pr4 ht
        have hj := (List.getElem?_eq_some_iff.mp he).1
        have med : e ∈ x.es.drop j := by
          obtain ⟨hj, rfl⟩ := List.getElem?_eq_some_iff.mp he
          rw [List.drop_eq_getElem_cons hj]
          exact List.mem_cons_self
        obtain ⟨⟨dx4, c4⟩, ⟨dy4, w4⟩, d4, s4, es4, _⟩ := id wo4
        have ve := val_ent es4.asc med rfl
        have be := es4.bd e med
        refine ⟨tt, _, rfl, SqT.of hp, rfl, _, _, rfl, _, _, rfl, rfl, ?_⟩
        refine ⟨_, rfl, w, dy4, _, rfl, w4, wf_no _ _ (by decide +kernel) (by decide +kernel), _, rfl, w, dy4, x.d, x.s, _, e.1, _, rfl, w4, d4, be.1, Int.le_of_lt be.2, ve, ?_⟩
        show ∃ _ _, _
        rw [show dropK ((x.es.drop j).map entK) (Sum.inl e.1) = (x.es.drop (j + 1)).map entK by rw [drop_ent, drop_step es_.asc he]]
        have k4 : K4 c w st x.d H4 (upd H4 x.d (.dK ((x.es.drop (j + 1)).map entK))) := fun a o _ _ _ a4 h => by rw [upd_ne a4]; exact h
        have e4' : Es H4 x.s x.o (x.es.drop (j + 1)) := by
          have := es4.tail 1
          rw [show (x.es.drop j).drop 1 = x.es.drop (j + 1) by rw [List.drop_drop]] at this
          exact this
        refine ⟨_, _, rfl, wo4.upd k4 rfl ⟨dx4, by rw [upd_ne ncd]; exact c4⟩ ⟨dy4, by show upd _ x.d _ w = _; rw [upd_ne nwd]; exact w4⟩ upd_same (by rw [upd_ne nsd]; exact s4) e4' t0 t1 s0 io, ?_, ?_⟩
        · rw [upd_ne (ne_of ep4 d4 (by simp))]
          exact ep4
        · exact paired_mono (fun u f hu => by rw [upd_ne (ne_of hu d4 (by simp))]; exact hu) pr4
      · rintro σ H4 ⟨v9, v10, rfl, wo4, _, _⟩
        rw [List.length_map, lts, List.drop_length] at wo4
        clear wo2 wo3 c_ w_ d_ s_ es_ ep pr s3 np nts nin lts
        obtain ⟨⟨dx, c_⟩, ⟨dy, w_⟩, d_, s_, es_, _⟩ := id wo4
        have go : DGet H4 st (kV (Sum.inr "out")) (some (.int x.o)) := sd_out x.o x.i _ ▸ DGet.k (k := Sum.inr ("out" : Str)) s_
        refine ⟨_, rfl, w, dy, _, rfl, w_, wf_no _ _ (by decide +kernel) (by decide +kernel), _, rfl, st, _, rfl, go, (by show 2 ≤ sizeLine; decide), fun t nt => ?_⟩
        have s5 : Same H4 (upd H4 t (.tup [.str "through", .int x.o])) := same_new nt
        have e5 : upd H4 t (.tup [.str "through", .int x.o]) t = some (.tup (wdV x.o)) := upd_same
        have c5 := s5 _ _ c_
        have w5 := s5 _ _ w_
        have d5 := s5 _ _ d_
        show ∃ c dx d s kvs v, _
        refine ⟨w, dy, x.d, x.s, [], .ref t, rfl, w5, d5, by decide, ?_⟩
        have ntd : t ≠ x.d := ne_of e5 d5 (by simp)
        have ntw : t ≠ w := ne_of e5 w5 (by simp)
        generalize upd H4 t (.tup [.str "through", .int x.o]) = H5 at e5 c5 w5 d5 ⊢
        have c6 : upd (upd H5 x.d (.dK (putK [] (Sum.inl x.s) (.ref t)))) w (.ins W dy (wf x.d (x.s + 1))) c = some (.ins C dx (cf x.o x.t)) := by rw [upd_ne cw, upd_ne ncd]; exact c5
        have w6 : upd (upd H5 x.d (.dK (putK [] (Sum.inl x.s) (.ref t)))) w (.ins W dy (wf x.d (x.s + 1))) w = some (.ins W dy (wf x.d (x.s + 1))) := upd_same
        have d6 : upd (upd H5 x.d (.dK (putK [] (Sum.inl x.s) (.ref t)))) w (.ins W dy (wf x.d (x.s + 1))) x.d = some (.dK [(Sum.inl x.s, .ref t)]) := by rw [upd_ne nwd.symm, upd_same]; rfl
        have e6 : upd (upd H5 x.d (.dK (putK [] (Sum.inl x.s) (.ref t)))) w (.ins W dy (wf x.d (x.s + 1))) t = some (.tup (wdV x.o)) := by rw [upd_ne ntw, upd_ne ntd]; exact e5
        generalize upd (upd H5 x.d (.dK (putK [] (Sum.inl x.s) (.ref t)))) w (.ins W dy (wf x.d (x.s + 1))) = H6 at c6 w6 d6 e6 ⊢
        refine ⟨_, rfl, w, dy, _, rfl, w6, wf_no _ _ (by decide +kernel) (by decide +kernel), w, dy, x.d, x.s + 1, _, rfl, w6, d6, fun H7 p ts s7 np nts nin ep pr => ?_⟩
        cases pr with
        | cons q1 q2 =>
        cases q2
        rename_i tt
        refine ⟨p, _, 0, .ref tt, rfl, rfl, SqL.of ep, rfl, tt, _, rfl, SqT.of q1, rfl, _, _, rfl, _, _, rfl, rfl, ?_⟩
        have c7 := s7 _ _ c6
        have w7 := s7 _ _ w6
        have d7 := s7 _ _ d6
        have e7 := s7 _ _ e6
        refine ⟨_, rfl, c, dx, _, rfl, c7, cf_no _ _ (by decide +kernel) (by decide +kernel), _, rfl, w, dy, _, rfl, w7, wf_no _ _ (by decide +kernel) (by decide +kernel), _, rfl, w, dy, x.d, x.s + 1, _, x.s, .ref t, rfl, w7, d7, s0, by omega, valV_pos rfl, ?_⟩
        have e8 : upd H7 x.d (.dK (dropK [(Sum.inl x.s, .ref t)] (Sum.inl x.s))) t = some (.tup (wdV x.o)) := by rw [upd_ne ntd]; exact e7
        have c8 : upd H7 x.d (.dK (dropK [(Sum.inl x.s, .ref t)] (Sum.inl x.s))) c = some (.ins C dx (cf x.o x.t)) := by rw [upd_ne ncd]; exact c7
        generalize upd H7 x.d (.dK (dropK [(Sum.inl x.s, .ref t)] (Sum.inl x.s))) = H8 at e8 c8 ⊢
        refine ⟨t, _, 1, .int x.o, rfl, rfl, SqT.of e8, rfl, c, dx, x.o, x.t, x.o, rfl, c8, o1, Int.le_refl _, ?_⟩
        have c9 : upd H8 c (.ins C dx (cf x.o (max x.t x.o))) c = some (.ins C dx (cf x.o (max x.t x.o))) := upd_same
        generalize upd H8 c (.ins C dx (cf x.o (max x.t x.o))) = H9 at c9 ⊢
        refine ⟨_, rfl, c, dx, _, rfl, c9, cf_no _ _ (by decide +kernel) (by decide +kernel), c, dx, x.o, max x.t x.o, rfl, c9, ?_⟩
        rw [decide_eq_true (by omega : max x.t x.o = x.o)]
        refine ⟨true, true, rfl, rfl, ?_⟩
        exact k _
end
end K14

set_option maxRecDepth 100000
set_option maxHeartbeats 4000000
namespace K14
open PySem PySem.Spec PyProof.Rows L2 GxR Gd TL My
theorem all_mk {l : PySem.W.OpenLaw}  {w : World} {K : PySem.W.Frag} {h : Heap} {mg : Str → Option Value} {fa C W f1 f2 f3 f4 f5 f6 f7 f8 f9 f10 f11 f12 f13 f14 f15 f16 f17  : Addr} 
    (X : K.In h) (G : h.Ns mainGlobals mg) (hfa : mg "law" = some (.ref fa)) 
     {od1 an1 : Option Addr} {sl1 : Array (Option Value)} {oc1 kV1 dc1 pm1 cd1 ct1 : Value} {od2 an2 : Option Addr} {sl2 : Array (Option Value)} {oc2 kV2 dc2 pm2 cd2 ct2 : Value} {od3 an3 : Option Addr} {sl3 : Array (Option Value)} {oc3 kV3 dc3 pm3 cd3 ct3 : Value} {od4 an4 : Option Addr} {sl4 : Array (Option Value)} {oc4 kV4 dc4 pm4 cd4 ct4 : Value} {od5 an5 : Option Addr} {sl5 : Array (Option Value)} {oc5 kV5 dc5 pm5 cd5 ct5 : Value} {od6 an6 : Option Addr} {sl6 : Array (Option Value)} {oc6 kV6 dc6 pm6 cd6 ct6 : Value} {od7 an7 : Option Addr} {sl7 : Array (Option Value)} {oc7 kV7 dc7 pm7 cd7 ct7 : Value} {od8 an8 : Option Addr} {sl8 : Array (Option Value)} {oc8 kV8 dc8 pm8 cd8 ct8 : Value} {od9 an9 : Option Addr} {sl9 : Array (Option Value)} {oc9 kV9 dc9 pm9 cd9 ct9 : Value} {od10 an10 : Option Addr} {sl10 : Array (Option Value)} {oc10 kV10 dc10 pm10 cd10 ct10 : Value} {od11 an11 : Option Addr} {sl11 : Array (Option Value)} {oc11 kV11 dc11 pm11 cd11 ct11 : Value} {od12 an12 : Option Addr} {sl12 : Array (Option Value)} {oc12 kV12 dc12 pm12 cd12 ct12 : Value} {od13 an13 : Option Addr} {sl13 : Array (Option Value)} {oc13 kV13 dc13 pm13 cd13 ct13 : Value} {od14 an14 : Option Addr} {sl14 : Array (Option Value)} {oc14 kV14 dc14 pm14 cd14 ct14 : Value} {od15 an15 : Option Addr} {sl15 : Array (Option Value)} {oc15 kV15 dc15 pm15 cd15 ct15 : Value} {od16 an16 : Option Addr} {sl16 : Array (Option Value)} {oc16 kV16 dc16 pm16 cd16 ct16 : Value} {od17 an17 : Option Addr} {sl17 : Array (Option Value)} {oc17 kV17 dc17 pm17 cd17 ct17 : Value}
    (aC : PySem.W.nsIn K mainGlobals "Count" = some (some (.ref C))) (pgC : PySem.W.plainGet K C Str.empty = true) (hdC : PySem.W.hasDictIn K C = true) (poC : PySem.W.plainOver K C = true) (saC : PySem.W.findIn K (.ref C) "__setattr__" = some (some (.builtin "object.__setattr__"))) (mkC : PySem.W.makesIn K C = true) (kcC : PySem.W.keepIn K (.ref C) = true) (n0C : PySem.W.findIn K (.ref C) "_last" = some none) (n1C : PySem.W.findIn K (.ref C) "_told" = some none) (aW : PySem.W.nsIn K mainGlobals "Wire" = some (some (.ref W))) (pgW : PySem.W.plainGet K W Str.empty = true) (hdW : PySem.W.hasDictIn K W = true) (poW : PySem.W.plainOver K W = true) (saW : PySem.W.findIn K (.ref W) "__setattr__" = some (some (.builtin "object.__setattr__"))) (mkW : PySem.W.makesIn K W = true) (kcW : PySem.W.keepIn K (.ref W) = true) (n0W : PySem.W.findIn K (.ref W) "_words" = some none) (n1W : PySem.W.findIn K (.ref W) "_sent" = some none) (a1 : PySem.W.nsIn K mainGlobals "is_whole" = some (some (.ref f1))) (l1 : K.lookup f1 = some ⟨oc1, od1, .func (PySem.W.fnOf "is_whole" "is_whole" (defArgs sWhole) (defBody sWhole) (defScope sWhole) .none kV1 dc1 pm1 an1 cd1 ct1), sl1⟩) (c1 : PySem.W.codeIn K cd1 "is_whole" = true) (k1 : PySem.W.keepIn K (.ref f1) = true) (a2 : PySem.W.findIn K (.ref C) "__init__" = some (some (.ref f2))) (i2 : PySem.W.isFn K (.ref f2) = true) (l2 : K.lookup f2 = some ⟨oc2, od2, .func (PySem.W.fnOf "__init__" "Count.__init__" (defArgs K14C.s_init) (defBody K14C.s_init) (defScope K14C.s_init) .none kV2 dc2 pm2 an2 cd2 ct2), sl2⟩) (c2 : PySem.W.codeIn K cd2 "Count.__init__" = true) (k2 : PySem.W.keepIn K (.ref f2) = true) (a3 : PySem.W.findIn K (.ref C) "out" = some (some (.ref f3))) (i3 : PySem.W.isFn K (.ref f3) = true) (l3 : K.lookup f3 = some ⟨oc3, od3, .func (PySem.W.fnOf "out" "Count.out" (defArgs K14C.s_out) (defBody K14C.s_out) (defScope K14C.s_out) .none kV3 dc3 pm3 an3 cd3 ct3), sl3⟩) (c3 : PySem.W.codeIn K cd3 "Count.out" = true) (k3 : PySem.W.keepIn K (.ref f3) = true) (a4 : PySem.W.findIn K (.ref C) "through" = some (some (.ref f4))) (i4 : PySem.W.isFn K (.ref f4) = true) (l4 : K.lookup f4 = some ⟨oc4, od4, .func (PySem.W.fnOf "through" "Count.through" (defArgs K14C.s_through) (defBody K14C.s_through) (defScope K14C.s_through) .none kV4 dc4 pm4 an4 cd4 ct4), sl4⟩) (c4 : PySem.W.codeIn K cd4 "Count.through" = true) (k4 : PySem.W.keepIn K (.ref f4) = true) (a5 : PySem.W.findIn K (.ref C) "last" = some (some (.ref f5))) (i5 : PySem.W.isFn K (.ref f5) = true) (l5 : K.lookup f5 = some ⟨oc5, od5, .func (PySem.W.fnOf "last" "Count.last" (defArgs K14C.s_last) (defBody K14C.s_last) (defScope K14C.s_last) .none kV5 dc5 pm5 an5 cd5 ct5), sl5⟩) (c5 : PySem.W.codeIn K cd5 "Count.last" = true) (k5 : PySem.W.keepIn K (.ref f5) = true) (a6 : PySem.W.findIn K (.ref C) "clear" = some (some (.ref f6))) (i6 : PySem.W.isFn K (.ref f6) = true) (l6 : K.lookup f6 = some ⟨oc6, od6, .func (PySem.W.fnOf "clear" "Count.clear" (defArgs K14C.s_clear) (defBody K14C.s_clear) (defScope K14C.s_clear) .none kV6 dc6 pm6 an6 cd6 ct6), sl6⟩) (c6 : PySem.W.codeIn K cd6 "Count.clear" = true) (k6 : PySem.W.keepIn K (.ref f6) = true) (a7 : PySem.W.findIn K (.ref W) "__init__" = some (some (.ref f7))) (i7 : PySem.W.isFn K (.ref f7) = true) (l7 : K.lookup f7 = some ⟨oc7, od7, .func (PySem.W.fnOf "__init__" "Wire.__init__" (defArgs K14W.s_init) (defBody K14W.s_init) (defScope K14W.s_init) .none kV7 dc7 pm7 an7 cd7 ct7), sl7⟩) (c7 : PySem.W.codeIn K cd7 "Wire.__init__" = true) (k7 : PySem.W.keepIn K (.ref f7) = true) (a8 : PySem.W.findIn K (.ref W) "send" = some (some (.ref f8))) (i8 : PySem.W.isFn K (.ref f8) = true) (l8 : K.lookup f8 = some ⟨oc8, od8, .func (PySem.W.fnOf "send" "Wire.send" (defArgs K14W.s_send) (defBody K14W.s_send) (defScope K14W.s_send) .none kV8 dc8 pm8 an8 cd8 ct8), sl8⟩) (c8 : PySem.W.codeIn K cd8 "Wire.send" = true) (k8 : PySem.W.keepIn K (.ref f8) = true) (a9 : PySem.W.findIn K (.ref W) "word" = some (some (.ref f9))) (i9 : PySem.W.isFn K (.ref f9) = true) (l9 : K.lookup f9 = some ⟨oc9, od9, .func (PySem.W.fnOf "word" "Wire.word" (defArgs K14W.s_word) (defBody K14W.s_word) (defScope K14W.s_word) .none kV9 dc9 pm9 an9 cd9 ct9), sl9⟩) (c9 : PySem.W.codeIn K cd9 "Wire.word" = true) (k9 : PySem.W.keepIn K (.ref f9) = true) (a10 : PySem.W.findIn K (.ref W) "get" = some (some (.ref f10))) (i10 : PySem.W.isFn K (.ref f10) = true) (l10 : K.lookup f10 = some ⟨oc10, od10, .func (PySem.W.fnOf "get" "Wire.get" (defArgs K14W.s_get) (defBody K14W.s_get) (defScope K14W.s_get) .none kV10 dc10 pm10 an10 cd10 ct10), sl10⟩) (c10 : PySem.W.codeIn K cd10 "Wire.get" = true) (k10 : PySem.W.keepIn K (.ref f10) = true) (a11 : PySem.W.findIn K (.ref W) "lose" = some (some (.ref f11))) (i11 : PySem.W.isFn K (.ref f11) = true) (l11 : K.lookup f11 = some ⟨oc11, od11, .func (PySem.W.fnOf "lose" "Wire.lose" (defArgs K14W.s_lose) (defBody K14W.s_lose) (defScope K14W.s_lose) .none kV11 dc11 pm11 an11 cd11 ct11), sl11⟩) (c11 : PySem.W.codeIn K cd11 "Wire.lose" = true) (k11 : PySem.W.keepIn K (.ref f11) = true) (a12 : PySem.W.findIn K (.ref W) "under_way" = some (some (.ref f12))) (i12 : PySem.W.isFn K (.ref f12) = true) (l12 : K.lookup f12 = some ⟨oc12, od12, .func (PySem.W.fnOf "under_way" "Wire.under_way" (defArgs K14W.s_under_way) (defBody K14W.s_under_way) (defScope K14W.s_under_way) .none kV12 dc12 pm12 an12 cd12 ct12), sl12⟩) (c12 : PySem.W.codeIn K cd12 "Wire.under_way" = true) (k12 : PySem.W.keepIn K (.ref f12) = true) (a13 : PySem.W.nsIn K mainGlobals "_law_cell" = some (some (.ref f13))) (l13 : K.lookup f13 = some ⟨oc13, od13, .func (PySem.W.fnOf "_law_cell" "_law_cell" (defArgs sCell) (defBody sCell) (defScope sCell) .none kV13 dc13 pm13 an13 cd13 ct13), sl13⟩) (c13 : PySem.W.codeIn K cd13 "_law_cell" = true) (k13 : PySem.W.keepIn K (.ref f13) = true) (a14 : PySem.W.nsIn K mainGlobals "_law_box" = some (some (.ref f14))) (l14 : K.lookup f14 = some ⟨oc14, od14, .func (PySem.W.fnOf "_law_box" "_law_box" (defArgs sBox) (defBody sBox) (defScope sBox) .none kV14 dc14 pm14 an14 cd14 ct14), sl14⟩) (c14 : PySem.W.codeIn K cd14 "_law_box" = true) (k14 : PySem.W.keepIn K (.ref f14) = true) (a15 : PySem.W.nsIn K mainGlobals "_law_take" = some (some (.ref f15))) (l15 : K.lookup f15 = some ⟨oc15, od15, .func (PySem.W.fnOf "_law_take" "_law_take" (defArgs sTake) (defBody sTake) (defScope sTake) .none kV15 dc15 pm15 an15 cd15 ct15), sl15⟩) (c15 : PySem.W.codeIn K cd15 "_law_take" = true) (k15 : PySem.W.keepIn K (.ref f15) = true) (a16 : PySem.W.nsIn K mainGlobals "_law_deed" = some (some (.ref f16))) (l16 : K.lookup f16 = some ⟨oc16, od16, .func (PySem.W.fnOf "_law_deed" "_law_deed" (defArgs s_law_deed) (defBody s_law_deed) (defScope s_law_deed) .none kV16 dc16 pm16 an16 cd16 ct16), sl16⟩) (c16 : PySem.W.codeIn K cd16 "_law_deed" = true) (k16 : PySem.W.keepIn K (.ref f16) = true) (a17 : PySem.W.nsIn K mainGlobals "law" = some (some (.ref f17))) (l17 : K.lookup f17 = some ⟨oc17, od17, .func (PySem.W.fnOf "law" "law" (defArgs s_law) (defBody s_law) (defScope s_law) .none kV17 dc17 pm17 an17 cd17 ct17), sl17⟩) (c17 : PySem.W.codeIn K cd17 "law" = true) (k17 : PySem.W.keepIn K (.ref f17) = true) (z0 : PySem.W.nsIn K mainGlobals "isinstance" = some none) (z1 : PySem.W.nsIn K mainGlobals "int" = some none) (z2 : PySem.W.nsIn K mainGlobals "bool" = some none) (z3 : PySem.W.nsIn K mainGlobals "str" = some none) (z4 : PySem.W.nsIn K mainGlobals "len" = some none) (z5 : PySem.W.nsIn K mainGlobals "all" = some none) (z6 : PySem.W.nsIn K mainGlobals "max" = some none) (z7 : PySem.W.nsIn K mainGlobals "min" = some none) (z8 : PySem.W.nsIn K mainGlobals "range" = some none) (z9 : PySem.W.nsIn K mainGlobals "repr" = some none) (z10 : PySem.W.nsIn K mainGlobals "list" = some none) (z11 : PySem.W.nsIn K mainGlobals "tuple" = some none) (z12 : PySem.W.nsIn K mainGlobals "enumerate" = some none) (z13 : PySem.W.nsIn K mainGlobals "sorted" = some none) (z14 : PySem.W.nsIn K mainGlobals "dict" = some none) (smN : K.lookup sysModules = none) :
    GLawS l w K CX0 6 63 "_law_script" mg fa := by
  have e := hfa.symm.trans (PySem.W.mg_of X G a17)
  cases e
  have T : Txt mg := ⟨PySem.W.mg_none_of X G z0, PySem.W.mg_none_of X G z1, PySem.W.mg_none_of X G z2, PySem.W.mg_none_of X G z3, PySem.W.mg_none_of X G z4, PySem.W.mg_none_of X G z5, PySem.W.mg_none_of X G z6, PySem.W.mg_none_of X G z7, PySem.W.mg_none_of X G z8, PySem.W.mg_none_of X G z9, PySem.W.mg_none_of X G z10, PySem.W.mg_none_of X G z11, PySem.W.mg_none_of X G z12, PySem.W.mg_none_of X G z13, PySem.W.mg_none_of X G z14⟩
  have F1 := fun_mk (st := sWhole) l1 c1 k1
  have b1 := F1.binds (ps := ["thing", "low", "high"]) fun _ _ _ _ _ _ us hl => match us, hl with | [_, _, _], _ => rfl
  have F2 := fun_mk (st := K14C.s_init) l2 c2 k2
  have b2 := F2.binds (ps := ["self"]) fun _ _ _ _ _ _ us hl => match us, hl with | [_], _ => rfl
  have F3 := fun_mk (st := K14C.s_out) l3 c3 k3
  have b3 := F3.binds (ps := ["self"]) fun _ _ _ _ _ _ us hl => match us, hl with | [_], _ => rfl
  have F4 := fun_mk (st := K14C.s_through) l4 c4 k4
  have b4 := F4.binds (ps := ["self", "number"]) fun _ _ _ _ _ _ us hl => match us, hl with | [_, _], _ => rfl
  have F5 := fun_mk (st := K14C.s_last) l5 c5 k5
  have b5 := F5.binds (ps := ["self"]) fun _ _ _ _ _ _ us hl => match us, hl with | [_], _ => rfl
  have F6 := fun_mk (st := K14C.s_clear) l6 c6 k6
  have b6 := F6.binds (ps := ["self"]) fun _ _ _ _ _ _ us hl => match us, hl with | [_], _ => rfl
  have F7 := fun_mk (st := K14W.s_init) l7 c7 k7
  have b7 := F7.binds (ps := ["self"]) fun _ _ _ _ _ _ us hl => match us, hl with | [_], _ => rfl
  have F8 := fun_mk (st := K14W.s_send) l8 c8 k8
  have b8 := F8.binds (ps := ["self", "word"]) fun _ _ _ _ _ _ us hl => match us, hl with | [_, _], _ => rfl
  have F9 := fun_mk (st := K14W.s_word) l9 c9 k9
  have b9 := F9.binds (ps := ["self", "number"]) fun _ _ _ _ _ _ us hl => match us, hl with | [_, _], _ => rfl
  have F10 := fun_mk (st := K14W.s_get) l10 c10 k10
  have b10 := F10.binds (ps := ["self", "number"]) fun _ _ _ _ _ _ us hl => match us, hl with | [_, _], _ => rfl
  have F11 := fun_mk (st := K14W.s_lose) l11 c11 k11
  have b11 := F11.binds (ps := ["self", "number"]) fun _ _ _ _ _ _ us hl => match us, hl with | [_, _], _ => rfl
  have F12 := fun_mk (st := K14W.s_under_way) l12 c12 k12
  have b12 := F12.binds (ps := ["self"]) fun _ _ _ _ _ _ us hl => match us, hl with | [_], _ => rfl
  have F13 := fun_mk (st := sCell) l13 c13 k13
  have b13 := F13.binds (ps := ["_law_script", "_law_k"]) fun _ _ _ _ _ _ us hl => match us, hl with | [_, _], _ => rfl
  have F14 := fun_mk (st := sBox) l14 c14 k14
  have b14 := F14.binds (ps := ["_law_cell_here"]) fun _ _ _ _ _ _ us hl => match us, hl with | [_], _ => rfl
  have F15 := fun_mk (st := sTake) l15 c15 k15
  have b15 := F15.binds (ps := ["_law_box_here", "_law_many"]) fun _ _ _ _ _ _ us hl => match us, hl with | [_, _], _ => rfl
  have F16 := fun_mk (st := s_law_deed) l16 c16 k16
  have b16 := F16.binds (ps := ["_law_box_here", "_law_count", "_law_wire", "_law_state"]) fun _ _ _ _ _ _ us hl => match us, hl with | [_, _, _, _], _ => rfl
  have F17 := fun_mk (st := s_law) l17 c17 k17
  have TC : K14C.CntT K C := ⟨⟨pgC, hdC, poC, saC⟩, n0C, n1C⟩
  have TW : K14W.WirT K W := ⟨⟨pgW, hdW, poW, saW⟩, n0W, n1W⟩
  refine ⟨PySem.W.fnOf "law" "law" (defArgs s_law) (defBody s_law) (defScope s_law) .none kV17 dc17 pm17 an17 cd17 ct17, spLaw K, smN, fun s v => .of_eq rfl, ?_, ?_⟩
  · intro H a ns hn sm hS
    exact ⟨a, ns, rfl, hS, sm, hn, fun _ => rfl⟩
  · intro base kb nb
    have gis_whole : FnOk l.prog w K mg base CX0 _ f1 _ _ _ := ok_whole F1 T
    have gCount : FnOk l.prog w K mg base CX0 _ f2 _ _ _ := K14C.ok_init F2 TC
    have gout : FnOk l.prog w K mg base CX0 _ f3 _ _ _ := K14C.ok_out F3 TC
    have gthrough : FnOk l.prog w K mg base CX0 _ f4 _ _ _ := K14C.ok_through F4 T TC gis_whole ⟨F1, PySem.W.mg_of X G a1, b1⟩
    have glast : FnOk l.prog w K mg base CX0 _ f5 _ _ _ := K14C.ok_last F5 TC
    have gclear : FnOk l.prog w K mg base CX0 _ f6 _ _ _ := K14C.ok_clear F6 TC
    have gWire : FnOk l.prog w K mg base CX0 _ f7 _ _ _ := K14W.ok_init F7 TW
    have gsend : FnOk l.prog w K mg base CX0 _ f8 _ _ _ := K14W.ok_send F8 TW
    have gword : FnOk l.prog w K mg base CX0 _ f9 _ _ _ := K14W.ok_word F9 TW ⟨F1, PySem.W.mg_of X G a1, b1⟩ gis_whole
    have gget : FnOk l.prog w K mg base CX0 _ f10 _ _ _ := K14W.ok_get F10 TW ⟨F9, ⟨a9, i9, k9⟩, b9⟩ gword
    have glose : FnOk l.prog w K mg base CX0 _ f11 _ _ _ := K14W.ok_lose F11 TW ⟨F10, ⟨a10, i10, k10⟩, b10⟩ gget
    have gunder_way : FnOk l.prog w K mg base CX0 _ f12 _ _ _ := K14W.ok_under F12 T TW
    have glaw_cell : FnOk l.prog w K mg base CX0 _ f13 _ _ _ := ok_cell F13 T
    have glaw_box : FnOk l.prog w K mg base CX0 _ f14 _ _ _ := ok_box F14 T
    have glaw_take : FnOk l.prog w K mg base CX0 _ f15 _ _ _ := ok_take F15
    have glaw_deed : FnOk l.prog w K mg base CX0 _ f16 _ _ _ := ok_deed F16 T TC TW glaw_take ⟨F15, PySem.W.mg_of X G a15, b15⟩ ⟨F3, ⟨a3, i3, k3⟩, b3⟩ gout ⟨F4, ⟨a4, i4, k4⟩, b4⟩ gthrough ⟨F12, ⟨a12, i12, k12⟩, b12⟩ gunder_way ⟨F8, ⟨a8, i8, k8⟩, b8⟩ gsend ⟨F10, ⟨a10, i10, k10⟩, b10⟩ gget ⟨F11, ⟨a11, i11, k11⟩, b11⟩ glose
    exact ok_law F17 T TC TW (PySem.W.mg_of X G aC) ⟨mkC, a2, i2, kcC⟩ gCount b2 (PySem.W.mg_of X G aW) ⟨mkW, a7, i7, kcW⟩ gWire b7 glaw_cell ⟨F13, PySem.W.mg_of X G a13, b13⟩ glaw_box ⟨F14, PySem.W.mg_of X G a14, b14⟩ glaw_take ⟨F15, PySem.W.mg_of X G a15, b15⟩ glaw_deed ⟨F16, PySem.W.mg_of X G a16, b16⟩ ⟨F6, ⟨a6, i6, k6⟩, b6⟩ gclear ⟨F5, ⟨a5, i5, k5⟩, b5⟩ glast ⟨F4, ⟨a4, i4, k4⟩, b4⟩ gthrough ⟨F12, ⟨a12, i12, k12⟩, b12⟩ gunder_way ⟨F8, ⟨a8, i8, k8⟩, b8⟩ gsend ⟨F10, ⟨a10, i10, k10⟩, b10⟩ gget ⟨F11, ⟨a11, i11, k11⟩, b11⟩ glose
end K14

open PySem PySem.W PyProof.Rows in
set_option maxRecDepth 100000 in
set_option maxHeartbeats 0 in
theorem PySem.Challenge.cw_onestaff_k14_whole_never_clear_too_soon_holds : PySem.Challenge.rw_onestaff_k14_whole_never_clear_too_soon.Holds := by
  w_on; o_law; k_head; (case hw => w_witness2)
  k_fill
  refine Gd.walk_s (no := by first | rfl | decide +kernel) (l := PySem.Challenge.rw_onestaff_k14_whole_never_clear_too_soon) (n := 63) (k := 6) (x := "_law_script") (CX := fun _ => L2.CX0) rfl (by decide) rfl ⟨rfl, by decide, by decide⟩ (fun w h Y => PySem.W.kIn_of Y) ?F (fun _ _ _ _ _ z => z)
  case F =>
    intro w mg fa h Y KX G hmg 
    refine' K14.all_mk KX G hmg  ?QaC ?QpgC ?QhdC ?QpoC ?QsaC ?QmkC ?QkcC ?Qn0C ?Qn1C ?QaW ?QpgW ?QhdW ?QpoW ?QsaW ?QmkW ?QkcW ?Qn0W ?Qn1W ?Qa1 ?Ql1 ?Qc1 ?Qk1 ?Qa2 ?Qi2 ?Ql2 ?Qc2 ?Qk2 ?Qa3 ?Qi3 ?Ql3 ?Qc3 ?Qk3 ?Qa4 ?Qi4 ?Ql4 ?Qc4 ?Qk4 ?Qa5 ?Qi5 ?Ql5 ?Qc5 ?Qk5 ?Qa6 ?Qi6 ?Ql6 ?Qc6 ?Qk6 ?Qa7 ?Qi7 ?Ql7 ?Qc7 ?Qk7 ?Qa8 ?Qi8 ?Ql8 ?Qc8 ?Qk8 ?Qa9 ?Qi9 ?Ql9 ?Qc9 ?Qk9 ?Qa10 ?Qi10 ?Ql10 ?Qc10 ?Qk10 ?Qa11 ?Qi11 ?Ql11 ?Qc11 ?Qk11 ?Qa12 ?Qi12 ?Ql12 ?Qc12 ?Qk12 ?Qa13 ?Ql13 ?Qc13 ?Qk13 ?Qa14 ?Ql14 ?Qc14 ?Qk14 ?Qa15 ?Ql15 ?Qc15 ?Qk15 ?Qa16 ?Ql16 ?Qc16 ?Qk16 ?Qa17 ?Ql17 ?Qc17 ?Qk17 ?Qz0 ?Qz1 ?Qz2 ?Qz3 ?Qz4 ?Qz5 ?Qz6 ?Qz7 ?Qz8 ?Qz9 ?Qz10 ?Qz11 ?Qz12 ?Qz13 ?Qz14 ?QsmN
    (case QaC => k_is)
    (case QpgC => k_is)
    (case QhdC => k_is)
    (case QpoC => k_is)
    (case QsaC => k_is)
    (case QmkC => k_is)
    (case QkcC => k_is)
    (case Qn0C => k_is)
    (case Qn1C => k_is)
    (case QaW => k_is)
    (case QpgW => k_is)
    (case QhdW => k_is)
    (case QpoW => k_is)
    (case QsaW => k_is)
    (case QmkW => k_is)
    (case QkcW => k_is)
    (case Qn0W => k_is)
    (case Qn1W => k_is)
    (case Qa1 => k_is)
    (case Ql1 => k_is)
    (case Qc1 => k_is)
    (case Qk1 => k_is)
    (case Qa2 => k_is)
    (case Qi2 => k_is)
    (case Ql2 => k_is)
    (case Qc2 => k_is)
    (case Qk2 => k_is)
    (case Qa3 => k_is)
    (case Qi3 => k_is)
    (case Ql3 => k_is)
    (case Qc3 => k_is)
    (case Qk3 => k_is)
    (case Qa4 => k_is)
    (case Qi4 => k_is)
    (case Ql4 => k_is)
    (case Qc4 => k_is)
    (case Qk4 => k_is)
    (case Qa5 => k_is)
    (case Qi5 => k_is)
    (case Ql5 => k_is)
    (case Qc5 => k_is)
    (case Qk5 => k_is)
    (case Qa6 => k_is)
    (case Qi6 => k_is)
    (case Ql6 => k_is)
    (case Qc6 => k_is)
    (case Qk6 => k_is)
    (case Qa7 => k_is)
    (case Qi7 => k_is)
    (case Ql7 => k_is)
    (case Qc7 => k_is)
    (case Qk7 => k_is)
    (case Qa8 => k_is)
    (case Qi8 => k_is)
    (case Ql8 => k_is)
    (case Qc8 => k_is)
    (case Qk8 => k_is)
    (case Qa9 => k_is)
    (case Qi9 => k_is)
    (case Ql9 => k_is)
    (case Qc9 => k_is)
    (case Qk9 => k_is)
    (case Qa10 => k_is)
    (case Qi10 => k_is)
    (case Ql10 => k_is)
    (case Qc10 => k_is)
    (case Qk10 => k_is)
    (case Qa11 => k_is)
    (case Qi11 => k_is)
    (case Ql11 => k_is)
    (case Qc11 => k_is)
    (case Qk11 => k_is)
    (case Qa12 => k_is)
    (case Qi12 => k_is)
    (case Ql12 => k_is)
    (case Qc12 => k_is)
    (case Qk12 => k_is)
    (case Qa13 => k_is)
    (case Ql13 => k_is)
    (case Qc13 => k_is)
    (case Qk13 => k_is)
    (case Qa14 => k_is)
    (case Ql14 => k_is)
    (case Qc14 => k_is)
    (case Qk14 => k_is)
    (case Qa15 => k_is)
    (case Ql15 => k_is)
    (case Qc15 => k_is)
    (case Qk15 => k_is)
    (case Qa16 => k_is)
    (case Ql16 => k_is)
    (case Qc16 => k_is)
    (case Qk16 => k_is)
    (case Qa17 => k_is)
    (case Ql17 => k_is)
    (case Qc17 => k_is)
    (case Qk17 => k_is)
    (case Qz0 => k_is)
    (case Qz1 => k_is)
    (case Qz2 => k_is)
    (case Qz3 => k_is)
    (case Qz4 => k_is)
    (case Qz5 => k_is)
    (case Qz6 => k_is)
    (case Qz7 => k_is)
    (case Qz8 => k_is)
    (case Qz9 => k_is)
    (case Qz10 => k_is)
    (case Qz11 => k_is)
    (case Qz12 => k_is)
    (case Qz13 => k_is)
    (case Qz14 => k_is)
    (case QsmN => first | rfl | kernel_rfl)

