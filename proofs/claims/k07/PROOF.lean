import PyProof.Rows.All
import Wide.All
import OpenK.AllK
import Wide.FinOn
import PyProof.EqAt
import PyProof.EqKinds
import PyProof.TupleCall
import HandS.Base
import HandS.Call
import HandS.List
import HandS.Comp
import HandS.Ends
import HandS.Text
import HandS.Exc
import HandS.Words
import HandS.WordsList
import HandS.Iter
import HandS.Dict
import HandS.Wide
import HandS.IsInst
import HandS.AnyAll
import HandS.EndBits
import HandS.EndTab
import KE.GoesMore
import KE.GoesEnum
import HandS.Walk
import HandS.DictComp
import HandS.Conv
import PyProof.Rows.RegFStrParts
import PyProof.Rows.ReprShort
import HandS.NoneIn
import HandS.Deep
import KE.GoesEnumKw
import HandS.SortKw
import HandS.FStr
import HandS.Style
import HandS.Strs
import HandS.CallLocal
import HandS.Codes
import PySem.Challenge.RW_onestaff_k07_lines_as_texts
set_option Elab.async false
set_option linter.all false
set_option maxRecDepth 100000
set_option maxHeartbeats 4000000
/-! Defs that show lists and tuples: they run where no display is under way. -/
namespace Gd
open PySem PySem.Spec PyProof.Rows L2

/-- a def's promise, kept wherever no display is under way -/
structure GOk (P : Program) (w : World) (K : PySem.W.Frag) (mg : Str → Option Value) (base : Heap) (CX : CXT) (k : Nat) (f : Addr) (fd : FuncData) (ps : List Str) (sp : Sp) : Prop where
  size : ∀ vs H Q E, sp vs H Q E → vs.length = ps.length
  go : ∀ (A : Around) (out : List Env) (s : Shared) (H : Hp) (ar : Args) (us : List Value) (vs : List V) (Q : VK) (E : XK), A.guards = some [] →
    Room k A → Env0 P w K mg base A out s H → BindsTo s fd ar (ps.zip us) → Vals vs us → sp vs H Q E →
    codeAny (model P w) A (.call (.ref f) ar) (CR CX out P w H s Q E) s

section
variable {P : Program} {w : World} {K : PySem.W.Frag} {mg : Str → Option Value} {base : Heap}

/-- by its body -/
theorem gok_body {CX : CXT} {k : Nat} {x qual : Str} {st : Stmt} {f : Addr} {fd : FuncData} {N ps : List Str} {sp : Sp} (F : Fun K x qual st f fd) (S : FnScope N ps (defScope st))
    (size : ∀ vs H Q E, sp vs H Q E → vs.length = ps.length)
    (body : ∀ (cd : Value) (A : Around) (out : List Env) (s : Shared) (H : Hp) (vs : List V) (Q : VK) (E : XK), A.guards = some [] →
      Room k (A.deeper (envOfC qual (defScope st) s.heap.objs.size f cd)) → sp vs H Q E →
      ∃ t, PSs (cxOf CX P w K mg base N qual (defScope st) f cd A out s H E) (defBody st) t ∧ t { nx := fun _ H' => Q .non H', rt := Q } (start N vs) H) :
    GOk P w K mg base CX (k + 1) f fd ps sp := by
  obtain ⟨oc, od, kV, doc, pm, an, cd, ct, osl, rfl, lk, hcd⟩ := F.ex
  refine ⟨size, fun A out s H ar us vs Q E gd hr e0 hb r hsp => ?_⟩
  have hl := size _ _ _ _ hsp
  have KX : K.In s.heap := e0.mod.kin.keeps fun b o z => (e0.bs b o z).1
  have kinds : ∀ y ∈ ps.zip us, (defScope st).names.lookup y.1 = some .local ∨
      ((defScope st).names.lookup y.1 = some .cell ∧ ((cellsFrom (s.heap.objs.size + 1) (defScope st).names []).lookup y.1).isSome = true) := by
    rintro ⟨n, v⟩ hy
    have hm := (List.of_mem_zip hy).1
    cases S.par n hm with
    | inl q => exact .inl q
    | inr q => exact .inr ⟨q, PySem.W.cellsFrom_some _ _ _ (.inl q)⟩
  have Z := PySem.W.codeRec_of KX hcd
  refine codeAny_call_function hr.depth (KX _ _ lk) rfl S.co S.gen rfl Z (hb _ _ _ _ ?_)
  refine wpAny_newFunctionEnv_cells S.kind kinds fun env he s1 ic => ?_
  subst he
  have lim : s.heap.NoLimit := e0.mod.nolimit.keeps fun b o z => (e0.bs b o z).1
  refine ⟨lim.keeps ic.toInCall.keep, codeAny_func ?_⟩
  obtain ⟨t, ht, hq⟩ := body cd A out s H vs Q E gd (hr.deeper _) hsp
  have I := inv_start (CX := CX) (E := E) S hr.hd e0 hl r ic
  refine wpAny_mono (ht.run [] s1 (start N vs) H _ I hq) ?_ (fun _ _ z => z)
  intro fl s' hs
  cases fl with
  | brk => obtain ⟨_, _, _, q⟩ := hs; exact q.elim
  | cont => obtain ⟨_, _, _, q⟩ := hs; exact q.elim
  | next =>
    obtain ⟨σ', H', J, q⟩ := hs
    exact ⟨V.non, H', J.os, J.bare, J.base, J.hok, rfl, q⟩
  | ret u =>
    obtain ⟨v, σ', H', J, rv, q⟩ := hs
    exact ⟨v, H', J.os, J.bare, J.base, J.hok, rv, q⟩
/-- the same where nothing is raised -/
theorem gok {k : Nat} {x qual : Str} {st : Stmt} {f : Addr} {fd : FuncData} {N ps : List Str} {sp : Sp} (F : Fun K x qual st f fd) (S : FnScope N ps (defScope st))
    (size : ∀ vs H Q E, sp vs H Q E → vs.length = ps.length)
    (body : ∀ (cd : Value) (A : Around) (out : List Env) (s : Shared) (H : Hp) (vs : List V) (Q : VK) (E : XK), A.guards = some [] →
      Room k (A.deeper (envOfC qual (defScope st) s.heap.objs.size f cd)) → sp vs H Q E →
      ∃ t, PSs (cxOf CX0 P w K mg base N qual (defScope st) f cd A out s H E).nox (defBody st) t ∧ t { nx := fun _ H' => Q .non H', rt := Q } (start N vs) H) :
    GOk P w K mg base CX0 (k + 1) f fd ps sp := by
  refine gok_body F S size fun cd A out s H vs Q E gd hr q => ?_
  obtain ⟨t, h, z⟩ := body cd A out s H vs Q E gd hr q
  exact ⟨t, h.nox, z⟩
theorem GOk.mono {CX : CXT} {j k : Nat} {f : Addr} {fd : FuncData} {ps : List Str} {sp : Sp} (F : GOk P w K mg base CX j f fd ps sp) (h : j ≤ k) : GOk P w K mg base CX k f fd ps sp :=
  ⟨F.size, fun A out s H ar us vs Q E gd hr => F.go A out s H ar us vs Q E gd (hr.mono h)⟩
theorem gok_of {CX : CXT} {k : Nat} {f : Addr} {fd : FuncData} {ps : List Str} {sp : Sp} (F : FnOk P w K mg base CX k f fd ps sp) : GOk P w K mg base CX k f fd ps sp :=
  ⟨F.len, fun A out s H ar us vs Q E _ hr => F.run A out s H ar us vs Q E hr⟩
end

section
variable {X : Cx} {CX : CXT} {k : Nat} {f : Addr} {fd : FuncData} {ps : List Str} {sp : Sp} {dvs : List V} {ds : List Value} {E : XK} {x : Str} {p pos : Pos} {e : Expr} {es : List Expr} {t : TA}
/-- f(e, ..), f such a def, from a body of such a def -/
theorem pe_gcall (gd : X.A.guards = some []) (F : GOk X.prog X.w X.K X.mg X.base CX k f fd ps sp) (hr : Room k X.A) (hg : Gl X x) (hm : X.mg x = some (.ref f)) (hk : PySem.W.keepIn X.K (.ref f) = true)
    (hb : Binds X.K fd ps ds) (hd : Vals dvs ds) (hx : Passes CX X E) (ha : PA X (e :: es) t) (hdb : (x == ("__debug__" : Str)) = false := by decide)
    (he : starEach (e :: es) X.env = (false, eval e X.env) :: starEach es X.env := by rfl) (hpl : (backTo pos (starEach es X.env)).any (·.1) = false := by rfl) :
    PE X (.Call (.Name x p) (e :: es) [] pos) (tCall sp dvs E t) := by
  refine ⟨fun pins s σ H Q I h => wpAny_Call_Name_kw (ld_glob I hg hm ?_ hdb)⟩
  have A1 := ha.run pos pins s σ H _ I h
  refine PySem.W.callWith_K (h₀ := X.base) I.ok.mod.kin hk (thn A1 ?_) he hpl
  rintro us s1 ⟨vs, H1, I1, r, q⟩
  refine ⟨I1.kIn, ?_⟩
  have both := r.append hd
  have hl : (us ++ ds).length = ps.length := (both.length).symm.trans (F.size _ _ _ _ q)
  have run1 := F.go X.A X.stack s1 H1 ⟨us, []⟩ (us ++ ds) (vs ++ dvs) Q E gd hr I1.env0 (hb s1 us I1.kIn hl) both q
  refine wpAny_call (codeAny_mono run1 ?_)
  intro res s' hq
  match res, hq with
  | .error e, hq => exact hx pins σ H1 s1 e s' I1 hq
  | .ok (.ret u), hq => exact I1.after hq
  | .ok .next, hq => exact hq.elim
  | .ok .brk, hq => exact hq.elim
  | .ok .cont, hq => exact hq.elim

/-! ### repr of data -/
mutual
theorem dp_noDict {K : PySem.W.Frag} {H : Hp} : ∀ {v : V} {d : PyData}, Dp K H v d → d.hasDict = false
  | _, _, .non => by simp only [PyData.hasDict]
  | _, _, .bl _ => by simp only [PyData.hasDict]
  | _, _, .int _ => by simp only [PyData.hasDict]
  | _, _, .str _ => by simp only [PyData.hasDict]
  | _, _, .lst _ h => by simp only [PyData.hasDict]; exact dpAll_noDict h
  | _, _, .tup _ h => by simp only [PyData.hasDict]; exact dpAll_noDict h
theorem dpAll_noDict {K : PySem.W.Frag} {H : Hp} : ∀ {vs : List V} {ds : List PyData}, DpAll K H vs ds → PyData.hasDictAll ds = false
  | _, _, .nil => by simp only [PyData.hasDictAll]
  | _, _, .cons h t => by simp only [PyData.hasDictAll, dp_noDict h, dpAll_noDict t, Bool.or_self]
end
/-- repr(v), v some data d -/
def rRepr (K : PySem.W.Frag) : List V → Hp → VK → Prop := fun xs H Q => ∃ v d, xs = [v] ∧ Dp K H v d ∧ d.showable = true ∧ d.depth ≤ 100 ∧ d.shown.length ≤ sizeLine ∧ Q (.str d.shown) H
theorem call_repr (gd : X.A.guards = some []) (hr : Room k X.A) : CallR X (.builtin "repr") (rRepr X.K) := by
  intro pins s σ H xs us Q I r h
  obtain ⟨v, d, rfl, dp, hs, hdep, hsz, q⟩ := h
  cases r with
  | cons rv rn =>
    cases rn
    have hun := hr.un
    cases dp with
    | non =>
      cases rv
      refine PySem.P.repr_of_none ⟨.str _, H, I.tok _, ⟨_, rfl⟩, ?_⟩
      simpa only [PyData.shown] using q
    | bl b =>
      cases rv
      refine PySem.P.repr_of_bool ⟨.str _, H, I.tok _, ⟨_, rfl⟩, ?_⟩
      simpa only [PyData.shown] using q
    | int i =>
      obtain ⟨t, rfl⟩ := rv
      refine PySem.P.repr_of_int (by simpa [PyData.showable] using hs) ⟨.str _, H, I.tok _, ⟨_, rfl⟩, ?_⟩
      simpa only [PyData.shown] using q
    | str z =>
      obtain ⟨t, rfl⟩ := rv
      refine PySem.P.repr_of_str ⟨.str _, H, I.tok _, ⟨_, rfl⟩, ?_⟩ (by simpa only [PyData.shown] using hsz)
      simpa only [PyData.shown] using q
    | lst hl ha =>
      cases rv
      obtain ⟨as, rd⟩ := Dp.reads I _ _ _ (.lst hl ha) rfl
      refine repr_of_reads' rd hs (PyData.noDict_hsm (dp_noDict (.lst hl ha))) gd (by omega) (fun _ _ z => z) (fun h' u tk hk => ?_) hsz
      exact ⟨.str _, H, I.kept hk, ⟨_, rfl⟩, q⟩
    | tup hl ha =>
      cases rv
      obtain ⟨as, rd⟩ := Dp.reads I _ _ _ (.tup hl ha) rfl
      refine repr_of_reads' rd hs (PyData.noDict_hsm (dp_noDict (.tup hl ha))) gd (by omega) (fun _ _ z => z) (fun h' u tk hk => ?_) hsz
      exact ⟨.str _, H, I.kept hk, ⟨_, rfl⟩, q⟩
end
end Gd

set_option maxRecDepth 100000
set_option maxHeartbeats 4000000
/-! The end of a law whose own def shows data: no display is under way at its call. -/
namespace Gd
open PySem PySem.Spec PyProof.Rows L2 GxR

/-- the script's own object -/
def scriptO (vs : List Value) : Obj := { cls := .type "list", data := .seq vs.toArray }
def tabO : Obj := { cls := .none, data := .fields #[] }
open Classical in
/-- what is tracked at the law's call: the script (where the written part hasn't it), the tables -/
noncomputable def h0 (K : PySem.W.Frag) (a : Addr) (vs : List Value) (ns : List Int) (T : List Addr) : Hp := fun b =>
  if b = a ∧ K.lookup a = none then some (.frz (scriptO vs) (.lst (ns.map V.int))) else if b ∈ T then some (.tbl #[]) else none

theorem h0_inv {K : PySem.W.Frag} {a b : Addr} {vs : List Value} {ns : List Int} {T : List Addr} {u : HO} (h : h0 K a vs ns T b = some u) :
    (b = a ∧ K.lookup a = none ∧ u = .frz (scriptO vs) (.lst (ns.map V.int))) ∨ (b ∈ T ∧ u = .tbl #[]) := by
  unfold h0 at h
  by_cases c1 : b = a ∧ K.lookup a = none
  · rw [if_pos c1] at h
    exact .inl ⟨c1.1, c1.2, (Option.some.inj h).symm⟩
  · rw [if_neg c1] at h
    by_cases c2 : b ∈ T
    · rw [if_pos c2] at h
      exact .inr ⟨c2, (Option.some.inj h).symm⟩
    · rw [if_neg c2] at h
      cases h

section
variable {P : Program} {w : World} {K : PySem.W.Frag} {mg mb : Str → Option Value} {CX : CXT} {k : Nat} {fa a : Addr} {cs : List (Addr × Addr)} {fd : FuncData} {x : Str} {sp : Sp} {s1 : Shared} {vs : List Value} {ns : List Int}
theorem law_gcall (KX : K.In s1.heap) (nsG : s1.heap.Ns mainGlobals mg) (nsB : s1.heap.Ns builtinsNs mb) (isB : ∀ x : Str, x ≠ "__name__" → mb x = bootBuiltins x) (lim : s1.heap.NoLimit) (gens : s1.gens = #[])
    (tabs : ∀ p ∈ cs, s1.heap.get? p.2 = some tabO) (tabK : ∀ p ∈ cs, K.lookup p.2 = none) (codes : ∀ p ∈ cs, PySem.W.CodeHd s1.heap p.1 p.2)
    (bmain : ∃ (bm : Addr) (ob : Obj), mg "__builtins__" = some (.ref bm) ∧ bm ≠ builtinsNs ∧ s1.heap.get? bm = some ob ∧ ob.cls = .type "module" ∧ ob.dict = some builtinsNs ∧ ob.data = .plain)
    (ha : s1.heap.get? a = some (scriptO vs)) (hi : IntsAre vs ns) (hl : ns.length ≤ sizeLine) (hr : Room k callerA)
    (F : ∀ base : Heap, K.In base → base.Ns mainGlobals mg → (∀ p ∈ cs, TabB base mg p.1 p.2) → GOk P w K mg base CX k fa fd [x] sp)
    (hbind : ∀ (s : Shared) (u : Value), BindsTo s fd ⟨[u], []⟩ [(x, u)])
    (hsp : ∀ H : Hp, (∀ p ∈ cs, H p.2 = some (.tbl #[])) → SqL K H a (ns.map V.int) → sp [.ref a] H (fun v _ => v = .bl true) fun _ _ _ => False)
    (hCX : ∀ H e s', CX [] H s1 (fun _ _ _ => False) e s' → False) :
    codeAny (model P w) callerA (.call (.ref fa) ⟨[.ref a], []⟩) (fun r s' => r = .ok (.ret (.bool true)) ∧ OldK s1.heap s'.heap ∧ s'.os = s1.os ∧ AllBare s'.gens) s1 := by
  have rv := vals_ints hi
  have hlen := hi.length
  let T := cs.map Prod.snd
  have inT : ∀ p ∈ cs, p.2 ∈ T := fun p hp => List.mem_map.mpr ⟨p, hp, rfl⟩
  have ofT : ∀ b ∈ T, s1.heap.get? b = some tabO ∧ K.lookup b = none := by
    intro b hb
    obtain ⟨p, hp, rfl⟩ := List.mem_map.mp hb
    exact ⟨tabs p hp, tabK p hp⟩
  have neT : a ∉ T := fun z => by
    have q := (ofT a z).1
    rw [ha] at q
    cases q
  let H := h0 K a vs ns T
  -- a tracked object is the script or a table
  have seen : ∀ {b : Addr} {o : Obj}, s1.heap.get? b = some o → (∀ us n, o.data ≠ .seq us n) → o.data ≠ .fields #[] → H b = none := by
    intro b o e n1 n2
    cases q : H b with
    | none => rfl
    | some u =>
      exfalso
      rcases h0_inv q with ⟨rfl, _, _⟩ | ⟨hb, _⟩
      · rw [ha] at e
        cases e
        exact n1 _ _ rfl
      · rw [(ofT b hb).1] at e
        cases e
        exact n2 rfl
  have keepHid : ∀ {b : Addr} {o : Obj}, s1.heap.get? b = some o → H b = none → (hidT s1.heap H).get? b = some o := fun e n => hidT_get e n
  have dictHid : ∀ {b : Addr} {o : Obj} {es : Array DictEntry} {ep : Nat}, s1.heap.get? b = some o → o.data = .dict es ep → (hidT s1.heap H).get? b = some o := by
    intro b o es ep e d
    refine keepHid e (seen e (fun us n z => ?_) fun z => ?_) <;> (rw [d] at z; cases z)
  have nsHid : ∀ {b : Addr} {m : Str → Option Value}, s1.heap.Ns b m → (hidT s1.heap H).Ns b m := by
    rintro b m ⟨o, es, ep, e, d, rest⟩
    exact ⟨o, es, ep, dictHid e d, d, rest⟩
  have KH : K.In (hidT s1.heap H) := by
    intro b o e
    refine keepHid (KX b o e) ?_
    cases q : H b with
    | none => rfl
    | some u =>
      exfalso
      rcases h0_inv q with ⟨rfl, z, _⟩ | ⟨hb, _⟩
      · rw [z] at e
        cases e
      · rw [(ofT b hb).2] at e
        cases e
  have limH : (hidT s1.heap H).NoLimit := by
    obtain ⟨mc, h1, h2⟩ := lim
    exact ⟨mc, nsHid h1, h2⟩
  have M : L2.Mod K mg (hidT s1.heap H) := ⟨KH, nsHid nsG, ⟨mb, nsHid nsB, isB⟩, limH⟩
  have TB : ∀ p ∈ cs, TabB (hidT s1.heap H) mg p.1 p.2 := by
    intro p hp
    have tp := tabs p hp
    refine ⟨?_, ?_, ?_⟩
    · obtain ⟨o, us, file, tf, flags, tg, inF, text, tt, e1, r1, r2, r3, rest⟩ := codes p hp
      refine ⟨o, us, file, tf, flags, tg, inF, text, tt, keepHid e1 (seen e1 (fun vs n z => ?_) fun z => ?_), r1, r2, r3, rest⟩
      · rw [r2] at z
        cases z
      · rw [r2] at z
        cases z
        simp at r3
    · obtain ⟨bm, ob, b1, b2, b3, b4, b5, b6⟩ := bmain
      have g1 : bm ≠ mainGlobals := by
        rintro rfl
        obtain ⟨o, es, ep, e, d, _⟩ := nsG
        rw [b3] at e
        cases e
        rw [b6] at d
        cases d
      have g2 : bm ≠ p.2 := by
        rintro rfl
        rw [tp] at b3
        cases b3
        cases b6
      refine ⟨bm, ob, b1, b2, g1, g2, keepHid b3 (seen b3 (fun vs n z => ?_) fun z => ?_), b4, b5, b6⟩ <;> (rw [b6] at z; cases z)
    · intro z
      obtain ⟨o, es, ep, e, d, _⟩ := nsG
      rw [z, tp] at e
      cases e
      cases d
  have hH : ∀ p ∈ cs, H p.2 = some (.tbl #[]) := by
    intro p hp
    have n1 : ¬ (p.2 = a ∧ K.lookup a = none) := fun z => neT (z.1 ▸ inT p hp)
    exact (if_neg n1).trans (if_pos (inT p hp))
  have hS : SqL K H a (ns.map V.int) := by
    cases q : K.lookup a with
    | none => exact .inl (.inr ⟨scriptO vs, if_pos ⟨rfl, q⟩⟩)
    | some o =>
      have e := KX a o q
      rw [ha] at e
      cases e
      exact .inr ⟨_, vs.toArray, _, q, rfl, rfl, rfl, by rw [List.size_toArray, hlen]; exact hl, by simpa using rv⟩
  have hok : HOk P w H s1.heap := by
    intro b u q
    rcases h0_inv q with ⟨rfl, _, rfl⟩ | ⟨hb, rfl⟩
    · exact ⟨ha, by rw [List.length_map]; exact hl, vs, _, rv, ha⟩
    · exact (ofT b hb).1
  have e0 : Env0 P w K mg (hidT s1.heap H) callerA [] s1 H :=
    ⟨rfl, M, fun b o e => of_hidT e, Nat.le_of_eq (hidT_size _ _), trivial, (fun b hb => by cases (show b ∈ ([] : List Addr) from hb)), hok, .of_eq gens⟩
  have run := (F _ KH (nsHid nsG) TB).go callerA [] s1 H ⟨[.ref a], []⟩ [.ref a] [.ref a] (fun v _ => v = .bl true) (fun _ _ _ => False) rfl hr e0 (hbind s1 (.ref a)) (.cons rfl .nil) (hsp H hH hS)
  refine codeAny_mono run ?_
  intro r s' h
  match r, h with
  | .error e, h => exact (hCX H e s' h).elim
  | .ok .next, h => exact h.elim
  | .ok .brk, h => exact h.elim
  | .ok .cont, h => exact h.elim
  | .ok (.ret u), h =>
    obtain ⟨v, H', os, bare, un, hok', r', q⟩ := h
    obtain rfl : v = .bl true := q
    obtain rfl : u = Value.bool true := r'
    have plain : ∀ b o, b ∉ T → s1.heap.get? b = some o → s'.heap.get? b = some o := by
      intro b o nb e
      cases q : H b with
      | none => exact un.keep b o e q (fun z => by cases (show b ∈ ([] : List Addr) from z)) (by simp)
      | some y =>
        rcases h0_inv q with ⟨rfl, _, rfl⟩ | ⟨hb, _⟩
        · obtain ⟨e2, _⟩ := hok' b _ (un.frzs b _ _ q)
          rw [ha] at e
          cases e
          exact e2
        · exact absurd hb nb
    have grown : ∀ p ∈ cs, ∃ more : Array Value, s'.heap.get? p.2 = some { cls := .none, data := .fields more } := by
      intro p hp
      obtain ⟨more, z⟩ := un.tbls p.2 #[] (hH p hp)
      exact ⟨_, hok' p.2 _ z⟩
    refine ⟨rfl, ⟨fun b o e => ?_, fun b o e => ?_⟩, os, bare⟩ <;> by_cases hb : b ∈ T
    · obtain ⟨p, hp, rfl⟩ := List.mem_map.mp hb
      obtain ⟨more, hm⟩ := grown p hp
      rw [tabs p hp] at e
      cases e
      exact .inr (.inl ⟨((codes p hp).tab (tabs p hp)).isCodeTable, rfl, #[], more, rfl, by rw [Array.empty_append]; exact hm⟩)
    · exact .inl (plain b o hb e)
    · obtain ⟨p, hp, rfl⟩ := List.mem_map.mp hb
      obtain ⟨more, hm⟩ := grown p hp
      exact ⟨_, hm⟩
    · exact ⟨o, plain b o hb e⟩
end

/-- the tables of the text's own defs are empty behind the top -/
def Empt (q : Program) (K : PySem.W.Frag) (h : Heap) : Prop := ∀ (x : Str) (f c t : Addr) (o : Obj) (fd : FuncData) (e : Value) (dd : Option Addr) (us : Array Value) (sl : Array (Option Value)),
  ((PyProof.Rows.recsOf q).any fun r => r.name == x) = true → PySem.W.nsIn K mainGlobals x = some (some (.ref f)) → K.lookup f = some o → o.data = .func fd → fd.code = .ref c →
  K.lookup c = some ⟨e, dd, .fields us, sl⟩ → us[11]? = some (.ref t) → PySem.W.CodeHd h c t ∧ h.get? t = some tabO
/-- what is to be known of the law at the head's heap -/
def GLaw (l : PySem.W.OpenLaw) (w : World) (K : PySem.W.Frag) (CX : CXT) (k n : Nat) (x : Str) (mg : Str → Option Value) (fa : Addr) (h : Heap) : Prop :=
  ∃ (fd : FuncData) (cs : List (Addr × Addr)) (sp : Sp), (∀ p ∈ cs, h.get? p.2 = some tabO) ∧ (∀ p ∈ cs, K.lookup p.2 = none) ∧ (∀ p ∈ cs, PySem.W.CodeHd h p.1 p.2) ∧
    (∀ (s : Shared) (u : Value), BindsTo s fd ⟨[u], []⟩ [(x, u)]) ∧
    (∀ (H : Hp) (a : Addr) (ns : List Int), ns.length ≤ n → (∀ z ∈ ns, Builtin.Int.intBits z ≤ 1048576) → (∀ p ∈ cs, H p.2 = some (.tbl #[])) → SqL K H a (ns.map V.int) →
      sp [.ref a] H (fun v _ => v = .bl true) fun _ _ _ => False) ∧
    ∀ base : Heap, K.In base → base.Ns mainGlobals mg → (∀ p ∈ cs, TabB base mg p.1 p.2) → GOk l.prog w K mg base CX k fa fd [x] sp
theorem walk_g {l : PySem.W.OpenLaw} {n k : Nat} {q : Program} {loose : List Str} {XP : (Str → Option Value) → Heap → Prop} {YP : World → Heap → Prop} {d : DefRec} {K : Params → PySem.W.Frag} {CX : World → CXT} {x : Str}
    (hn : l.most = some n) (small : n ≤ sizeLine) (hdf : d.params.defaults = []) (hr : Room k callerA) (hY : ∀ (w : World) (h : Heap), YP w h → (K w.params).In h)
    (F : ∀ (w : World) (mg : Str → Option Value) (fa : Addr) (h : Heap), YP w h → (K w.params).In h → h.Ns mainGlobals mg → mg d.name = some (.ref fa) → Empt q (K w.params) h → GLaw l w (K w.params) (CX w) k n x mg fa h)
    (hCX : ∀ (w : World) (H : Hp) (s : Shared) (e : Value) (s' : Shared), CX w [] H s (fun _ _ _ => False) e s' → False) :
    PySem.W.WalkO q loose XP YP l.row.toRowW d [] (fun f vs => PySem.call f vs) := by
  refine Att.attach_callB hn hdf ?_
  intro w sA s1 mg mb fa o pm cd doc a vs ns G Y ho hd hcd hmg hobj hints hlen hbits hg
  have KX := hY w _ Y
  have em : Empt q (K w.params) s1.heap := by
    intro x f c t o1 fd1 e dd us sl hx k1 k2 k3 k4 k5 k6
    obtain ⟨r, hr1, hr2⟩ := List.any_eq_true.mp hx
    have hn1 : r.name = x := beq_iff_eq.mp hr2
    obtain ⟨a1, o2, fd2, c2, t2, y1, y2, y3, y4, y5, y6⟩ := G.T.tab r hr1
    have z1 := PySem.W.mg_of KX G.T.g k1
    rw [hn1, z1] at y1
    cases y1
    have z2 := KX _ _ k2
    rw [z2] at y2
    cases y2
    rw [k3] at y3
    cases y3
    rw [k4] at y4
    cases y4
    have y6b := y6
    obtain ⟨⟨oc, vc, e1, e2, e3, e4⟩, hP⟩ := y6b
    have z5 := KX _ _ k5
    rw [z5] at e1
    cases e1
    cases e3
    rw [k6] at e4
    cases e4
    exact ⟨PySem.W.CodeHd.of y5 y6, hP⟩
  obtain ⟨fd, cs, sp, t1, t2, t3, hb, hsp, hF⟩ := F w mg fa _ Y KX G.T.g hmg em
  exact law_gcall KX G.T.g G.T.b G.T.builtins G.T.nolimit hg t1 t2 t3 G.T.bmain hobj hints (Nat.le_trans hlen small) hr hF hb (fun H a1 a2 => hsp H a ns hlen hbits a1 a2) (fun H e s' => hCX w H s1 e s')
end Gd

set_option maxRecDepth 100000
set_option maxHeartbeats 4000000
/-! Things, boxes, texts: what the laws share, over no program. -/
namespace My
open PySem PySem.Spec PyProof.Rows L2 GxR Gd TL
/-! ### things -/
def Good (z : Str) : Prop := ∀ c ∈ z.cps.toList, c < 1114112
inductive Th (H : Hp) : V → Prop
  | non : Th H .non
  | bl (b : Bool) : Th H (.bl b)
  | int (i : Int) : Th H (.int i)
  | str (z : Str) (h : z.length ≤ 1000000) (g : Good z) : Th H (.str z)
  | lst (a : Addr) (xs : List V) (h : H a = some (.lst xs)) : Th H (.ref a)
  | tup (a : Addr) (xs : List V) (h : H a = some (.tup xs)) : Th H (.ref a)
  | dic (a : Addr) {kvs : List (Key × V)} (h : H a = some (.dK kvs)) : Th H (.ref a)
def lc (c : Nat) : Bool := decide (97 ≤ c) && decide (c ≤ 122)
def nm : V → Bool
  | .str z => decide (1 ≤ z.length) && decide (z.length ≤ 6) && z.cps.toList.all lc
  | _ => false
def wh (lo hi : Int) : V → Bool
  | .int i => decide (lo ≤ i) && decide (i ≤ hi)
  | _ => false
/-- its kind -/
theorem Th.ty {K : PySem.W.Frag} {H : Hp} {v : V} (h : Th H v) : ∃ t, TyX K H v (.type t) ∧
    ((∃ i, v = .int i ∧ t = "int") ∨ (∃ b, v = .bl b ∧ t = "bool") ∨ (∃ z, v = .str z ∧ (z.length ≤ 1000000 ∧ Good z) ∧ t = "str") ∨
     ((∀ i, v ≠ .int i) ∧ (∀ b, v ≠ .bl b) ∧ (∀ z, v ≠ .str z) ∧ (t = "NoneType" ∨ t = "list" ∨ t = "tuple" ∨ t = "dict"))) := by
  cases h with
  | non => exact ⟨_, .base .non, .inr (.inr (.inr ⟨by simp, by simp, by simp, .inl rfl⟩))⟩
  | bl b => exact ⟨_, .base (.bl b), .inr (.inl ⟨b, rfl, rfl⟩)⟩
  | int i => exact ⟨_, .base (.int i), .inl ⟨i, rfl, rfl⟩⟩
  | str z h g => exact ⟨_, .base (.str z), .inr (.inr (.inl ⟨z, rfl, ⟨h, g⟩, rfl⟩))⟩
  | lst a xs h => exact ⟨_, .base (.lst h), .inr (.inr (.inr ⟨by simp, by simp, by simp, .inr (.inl rfl)⟩))⟩
  | tup a xs h => exact ⟨_, .base (.tup h), .inr (.inr (.inr ⟨by simp, by simp, by simp, .inr (.inr (.inl rfl))⟩))⟩
  | dic a h => exact ⟨_, .base (.dK h), .inr (.inr (.inr ⟨by simp, by simp, by simp, .inr (.inr (.inr rfl))⟩))⟩
/-- all but the table stays -/
structure KT (P : Addr) (H H' : Hp) : Prop where
  keep : ∀ c o, c ≠ P → H c = some o → H' c = some o
  tab : TabG H' P
theorem TabG.at {H : Hp} {P : Addr} (t : TabG H P) : ∃ ps, H P = some (.tbl ps) := let ⟨ps, h, _⟩ := t; ⟨ps, h⟩
theorem ne_tab {H : Hp} {P a : Addr} {o : HO} (t : TabG H P) (h : H a = some o) (n : ∀ ps, o ≠ .tbl ps) : a ≠ P := by
  rintro rfl
  obtain ⟨ps, e⟩ := TabG.at t
  rw [h] at e
  exact n ps (Option.some.inj e)
theorem KT.refl {P : Addr} {H : Hp} (t : TabG H P) : KT P H H := ⟨fun _ _ _ h => h, t⟩
theorem KT.trans {P : Addr} {H H1 H2 : Hp} (a : KT P H H1) (b : KT P H1 H2) : KT P H H2 := ⟨fun c o n h => b.keep c o n (a.keep c o n h), b.tab⟩
theorem KT.of {P : Addr} {H H' : Hp} (t : Tabbed P H H') : KT P H H' := ⟨fun c o n h => by rw [t.2 c n]; exact h, t.1⟩
theorem KT.alloc {P p : Addr} {H : Hp} {o : HO} (t : TabG H P) (n : H p = none) : KT P H (upd H p o) := by
  obtain ⟨ps, e, ht⟩ := t
  refine ⟨fun c q _ h => by rw [upd_ne (ne_of_none h n)]; exact h, ps, by rw [upd_ne (ne_of_none e n)]; exact e, ht⟩
theorem Th.kt {P : Addr} {H H' : Hp} (t : TabG H P) (k : KT P H H') {v : V} (h : Th H v) : Th H' v := by
  cases h with
  | non => exact .non
  | bl b => exact .bl b
  | int i => exact .int i
  | str z h g => exact .str z h g
  | lst a xs h => exact .lst a xs (k.keep _ _ (ne_tab t h (by simp)) h)
  | tup a xs h => exact .tup a xs (k.keep _ _ (ne_tab t h (by simp)) h)
  | dic a h => exact .dic a (k.keep _ _ (ne_tab t h (by simp)) h)

theorem elt_between {prog : Program} {w : World} {scope : Scope} {x a b : Str} {j1 j2 : Nat} {p1 p2 p3 p4 : Pos} (hk : scope.kind = .function) (hl : scope.names.lookup x = some .local)
    (hd : (x == ("__debug__" : Str)) = false := by decide) :
    EltP prog w scope x (.Compare (.Constant (.str a) j1 p1) [.LtE, .LtE] [.Name x p2, .Constant (.str b) j2 p3] p4) (fun c => !decide ([c] < a.cps.toList) && !decide (b.cps.toList < [c])) := by
  intro cenv A' E' c t s2 m2 hs hn hm
  refine Compare_chain ?_ (by with_unfolding_all rfl)
  refine Calls.Constant_str (chain_link ?_)
  refine wpAny_Name (wpAny_loadName_local (by rw [hs]; exact hk) (show cenv.scope.names.lookup x = some .local by rw [hs]; exact hl) hn hm ?_) hd
  refine PySem.P.le_str ?_
  refine wpAny_truthy_bool ?_
  cases q : decide ([c] < a.cps.toList) with
  | true =>
    refine ite_ff ⟨?_, keeps_tok _ _⟩
    have q' : decide ((⟨#[c]⟩ : Str).cps.toList < a.cps.toList) = true := q
    simp [q']
  | false =>
    refine ite_tt (chain_last ?_)
    refine Calls.Constant_str ?_
    refine PySem.P.le_str ⟨?_, keeps_tok _ _⟩
    have q2 : ¬ [c] < a.cps.toList := of_decide_eq_false q
    simp [List.not_lt.mp q2]
def genSc : Scope := { kind := ScopeKind.function, names := [(Str.ofString ".0", NameKind.local), (Str.ofString "sign", NameKind.local)], isGenerator := true, isCoroutine := false }
theorem no_free : ∀ y ∈ genSc.names, y.2 ≠ NameKind.free := by decide +kernel
theorem one_lt (c d : Nat) : [c] < [d] ↔ c < d := by
  rw [List.cons_lt_cons_iff]
  constructor
  · rintro (h | ⟨_, h⟩)
    · exact h
    · exact absurd h (List.not_lt_nil _)
  · exact .inl
theorem lc_eq (c : Nat) : (!decide ([c] < [97]) && !decide ([122] < [c])) = lc c := by
  unfold lc
  rw [Bool.eq_iff_iff]
  simp only [Bool.and_eq_true, Bool.not_eq_true', decide_eq_false_iff_not, decide_eq_true_eq, one_lt]
  omega
/-! ### the box -/
def Bx (b : Addr) (n : Int) (H : Hp) : Prop := ∃ x y z : Int, H b = some (.lst [.int x, .int y, .int z]) ∧ 0 ≤ x ∧ 0 ≤ y ∧ y < 2147483629 ∧ 0 ≤ z ∧ z ≤ n
theorem Bx.same {b : Addr} {n : Int} {H H' : Hp} (h : Bx b n H) (e : H' b = H b) : Bx b n H' := by
  obtain ⟨x, y, z, h1, r⟩ := h
  exact ⟨x, y, z, e.trans h1, r⟩
theorem Bx.mono {b : Addr} {n m : Int} {H : Hp} (h : Bx b n H) (e : n ≤ m) : Bx b m H := by
  obtain ⟨x, y, z, h1, h2, h3, h4, h5, h6⟩ := h
  exact ⟨x, y, z, h1, h2, h3, h4, h5, by omega⟩
theorem i0 (a b c : V) : atI [a, b, c] 0 = some a := rfl
theorem i1 (a b c : V) : atI [a, b, c] 1 = some b := rfl
theorem i2 (a b c : V) : atI [a, b, c] 2 = some c := rfl
theorem j0 : ixN 3 0 = some 0 := rfl
theorem j2 : ixN 3 2 = some 2 := rfl
/-! ### lists and texts -/
theorem atI_ex {α : Type} {xs : List α} {d : Int} (h0 : 0 ≤ d) (h1 : d < xs.length) : ∃ v, v ∈ xs ∧ atI xs d = some v := by
  obtain ⟨j, rfl⟩ := Int.eq_ofNat_of_zero_le h0
  have hj : j < xs.length := by omega
  exact ⟨xs[j], List.getElem_mem hj, atI_nat (List.getElem?_eq_getElem hj)⟩
theorem joinL_len (S : List Nat) : ∀ ps : List (List Nat), (joinL S ps).length ≤ (ps.map List.length).sum + ps.length * S.length
  | [] => by simp [joinL]
  | [p] => by simp [joinL]
  | p :: q :: r => by
    have ih := joinL_len S (q :: r)
    have e : joinL S (p :: q :: r) = p ++ (S ++ joinL S (q :: r)) := rfl
    rw [e, List.length_append, List.length_append, List.map_cons, List.sum_cons, List.length_cons, Nat.succ_mul]
    omega
theorem tl_len (z : Str) : (tl z).length = z.length := by
  show z.cps.toList.length = z.cps.size
  simp
theorem join_len (y : Str) (ps : List Str) : (Txt.join y ps).length ≤ (ps.map (·.length)).sum + ps.length * y.length := by
  have h := joinL_len (tl y) (ps.map tl)
  rw [← tl_len, join_eq, tl_join]
  have e : (ps.map tl).map List.length = ps.map (·.length) := by
    rw [List.map_map]
    exact List.map_congr_left fun z _ => tl_len z
  rw [e, List.length_map, tl_len] at h
  exact h
theorem sum_ones (ps : List Str) (h : ∀ z ∈ ps, z.length ≤ 1) : (ps.map (·.length)).sum ≤ ps.length := by
  induction ps with
  | nil => simp
  | cons a r ih =>
    have h1 := h a List.mem_cons_self
    have h2 := ih fun z hz => h z (List.mem_cons_of_mem _ hz)
    simp only [List.map_cons, List.sum_cons, List.length_cons]
    omega
theorem lcY {A : TE} {σ : L2.St} {H : Hp} {G : VK} {B : Hp → Prop} (h : A σ H G) : tYes σ H (fun b H3 => if b = true then A σ H3 G else B H3) := by
  show if true = true then A σ H G else B H
  exact iteT h
theorem good_app {a b : Str} (h : Good a) (k : Good b) : Good (a ++ b) := fun c hc => by
  have e : (a ++ b).cps.toList = a.cps.toList ++ b.cps.toList := tl_append a b
  rw [e] at hc
  exact (List.mem_append.mp hc).elim (h c) (k c)
theorem good_cut {a : Str} (h : Good a) (lo hi : Option Int) : Good (cutS a lo hi) := fun c hc => by
  unfold cutS at hc
  exact h c (List.mem_of_mem_drop (List.mem_of_mem_take (by simpa using hc)))
theorem good_joinL {S : List Nat} (hS : ∀ c ∈ S, c < 1114112) : ∀ ps : List (List Nat), (∀ p ∈ ps, ∀ c ∈ p, c < 1114112) → ∀ c ∈ joinL S ps, c < 1114112
  | [], _, c, h => by simp [joinL] at h
  | [p], hp, c, h => hp p List.mem_cons_self c (by simpa [joinL] using h)
  | p :: q :: r, hp, c, h => by
    have e : joinL S (p :: q :: r) = p ++ (S ++ joinL S (q :: r)) := rfl
    rw [e, List.mem_append, List.mem_append] at h
    rcases h with h | h | h
    · exact hp p List.mem_cons_self c h
    · exact hS c h
    · exact good_joinL hS (q :: r) (fun z hz => hp z (List.mem_cons_of_mem _ hz)) c h
theorem good_join {y : Str} {ps : List Str} (hy : Good y) (h : ∀ z ∈ ps, Good z) : Good (Txt.join y ps) := fun c hc => by
  have e : (Txt.join y ps).cps.toList = joinL (tl y) (ps.map tl) := by rw [join_eq]; exact tl_join y ps
  rw [e] at hc
  refine good_joinL hy _ (fun p hp => ?_) c hc
  obtain ⟨z, hz, rfl⟩ := List.mem_map.mp hp
  exact h z hz
theorem good_of (x : String) : Good (Str.ofString x) := fun c hc => by
  have e : (Str.ofString x).cps.toList = x.toList.map Char.toNat := by
    rw [Str.ofString_eq_toList]
  rw [e] at hc
  obtain ⟨d, _, rfl⟩ := List.mem_map.mp hc
  have := d.valid
  unfold UInt32.isValidChar Nat.isValidChar at this
  show d.val.toNat < 1114112
  omega
theorem good_one {z : Str} {c : Nat} (h : Good z) (hc : c ∈ z.cps.toList) : Good ⟨#[c]⟩ := fun d hd => by
  have e : d = c := by simpa using hd
  rw [e]
  exact h c hc
/-- all but the box stays -/
def KB (b : Addr) (H H' : Hp) : Prop := ∀ c o, c ≠ b → H c = some o → H' c = some o
theorem KB.refl (b : Addr) (H : Hp) : KB b H H := fun _ _ _ h => h
theorem KB.trans {b : Addr} {H H1 H2 : Hp} (a : KB b H H1) (c : KB b H1 H2) : KB b H H2 := fun x o n h => c x o n (a x o n h)
theorem KB.off {b : Addr} {H H' : Hp} (h : ∀ a, a ≠ b → H' a = H a) : KB b H H' := fun c o n e => (h c n).trans e
theorem KB.alloc {b p : Addr} {H : Hp} {o : HO} (n : H p = none) : KB b H (upd H p o) := fun c u _ h => by rw [upd_ne (ne_of_none h n)]; exact h
theorem Bx.alloc {b p : Addr} {n : Int} {H : Hp} {o : HO} (h : Bx b n H) (f : H p = none) : Bx b n (upd H p o) := by
  obtain ⟨x, y, z, h1, r⟩ := h
  exact ⟨x, y, z, by rw [upd_ne (ne_of_none h1 f)]; exact h1, r⟩
theorem Bx.put {b p : Addr} {n : Int} {H : Hp} {o : HO} (h : Bx b n H) (f : p ≠ b) : Bx b n (upd H p o) := by
  obtain ⟨x, y, z, h1, r⟩ := h
  exact ⟨x, y, z, by rw [upd_ne f.symm]; exact h1, r⟩
/-- a comprehension over a text's signs -/
theorem lc_text {z : Str} {g : TG} {tt : TT} {te : TE} {vs : List Nat} {σ : L2.St} {H1 : Hp} {D : Addr} {Qd : Hp → Prop} (Pv : Nat → Hp → Prop) (h0 : Pv 0 (upd H1 D (.lst [])))
    (hs : ∀ i c H, z.cps.toList[i]? = some c → Pv i H → g (.str ⟨#[c]⟩) (wipe σ vs) H fun σ2 H2 => wipe σ2 vs = wipe σ vs ∧ tt σ2 H2 fun b H3 =>
      if b = true then te σ2 H3 fun y H4 => ∃ acc, H4 D = some (.lst acc) ∧ acc.length < sizeLine ∧ Pv (i + 1) (upd H4 D (.lst (acc ++ [y]))) else Pv (i + 1) H3) (hd : ∀ H, Pv z.length H → Qd H) :
    ∃ W : Nat → Nat → Hp → Prop, (∃ m, W 0 m (upd H1 D (.lst []))) ∧ ∀ i m H, W i m H →
      ((Its z).stop i H ∧ Qd H) ∨ ((Its z).go i H ∧ ∃ Nx : Hp → Prop, (∀ H', Nx H' → ∃ m', m' < m ∧ W (i + 1) m' H') ∧ ∀ x H', (Its z).yld i H x H' → g x (wipe σ vs) H' fun σ2 H2 => wipe σ2 vs = wipe σ vs ∧ tt σ2 H2 fun b H3 =>
        if b = true then te σ2 H3 fun y H4 => ∃ acc, H4 D = some (.lst acc) ∧ acc.length < sizeLine ∧ Nx (upd H4 D (.lst (acc ++ [y]))) else Nx H3) := by
  refine ⟨fun i m H => i + m = z.cps.size ∧ Pv i H, ⟨z.cps.size, by simp, h0⟩, fun i m H hW => ?_⟩
  obtain ⟨e, p⟩ := hW
  cases m with
  | zero =>
    have ei : i = z.cps.size := e
    subst ei
    exact .inl ⟨Nat.le_refl _, hd H p⟩
  | succ m =>
    refine .inr ⟨show i < z.cps.size by omega, Pv (i + 1), fun H' q => ⟨m, Nat.lt_succ_self m, by omega, q⟩, ?_⟩
    rintro x H' ⟨rfl, c, hc, rfl⟩
    exact hs i c _ (by rw [← hc]; simp) p
def badOf (l : List Nat) : List V := (l.filter fun c => !lc c).map fun c => V.str ⟨#[c]⟩
theorem bad_data {K : PySem.W.Frag} {H : Hp} : ∀ l : List Nat, DpAll K H (l.map fun c => V.str ⟨#[c]⟩) (l.map fun c => PyData.str ⟨#[c]⟩)
  | [] => .nil
  | c :: r => .cons (.str _) (bad_data r)
theorem one_ok {c : Nat} (h : c < 1114112) : PyData.strOk ⟨#[c]⟩ = true := by
  simp [PyData.strOk, h]
theorem bad_shaped : ∀ l : List Nat, (∀ c ∈ l, c < 1114112) → PyData.canLayAll0 (l.map fun c => PyData.str ⟨#[c]⟩) = true
  | [], _ => by simp [PyData.canLayAll0]
  | c :: r, h => by
    simp only [List.map_cons, PyData.canLayAll0, PyData.canLay0, Bool.and_eq_true]
    exact ⟨one_ok (h c List.mem_cons_self), bad_shaped r fun d hd => h d (List.mem_cons_of_mem _ hd)⟩
theorem bad_depth : ∀ l : List Nat, PyData.depthAll (l.map fun c => PyData.str ⟨#[c]⟩) = 0
  | [] => by simp [PyData.depthAll]
  | c :: r => by
    simp only [List.map_cons, PyData.depthAll, PyData.depth, bad_depth r]
    rfl
theorem letters_mem (c : Nat) : decide (c ∈ (Str.ofString "abcdefghijklmnopqrstuvwxyz").cps.toList) = lc c := by
  have e : (Str.ofString "abcdefghijklmnopqrstuvwxyz").cps.toList = (List.range 26).map (· + 97) := by decide +kernel
  rw [e]
  unfold lc
  rw [Bool.eq_iff_iff]
  simp only [decide_eq_true_eq, List.mem_map, List.mem_range, Bool.and_eq_true]
  constructor
  · rintro ⟨a, h, rfl⟩
    omega
  · intro h
    exact ⟨c - 97, by omega, by omega⟩
/-- a fresh place is no box -/
theorem Bx.fresh {b p : Addr} {n : Int} {H : Hp} (h : Bx b n H) (f : H p = none) : p ≠ b := by
  rintro rfl
  obtain ⟨x, y, z, e, _⟩ := h
  rw [f] at e
  cases e
theorem dec9000 {m : Int} (h0 : 0 < m) (h : m ≤ 10 ^ 30) : m.natAbs.log2 < 9000 := by
  have h1 : m.natAbs ≤ 10 ^ 30 := by omega
  have h2 : m.natAbs < 2 ^ 100 := Nat.lt_of_le_of_lt h1 (by decide)
  have h3 := (Nat.log2_lt (by omega)).mpr h2
  omega
theorem log1900 {m : Int} (h : m.natAbs ≤ 10 ^ 31) : m.natAbs.log2 < 1900 := by
  by_cases h0 : m.natAbs = 0
  · rw [h0]
    decide
  · have h2 : m.natAbs < 2 ^ 110 := Nat.lt_of_le_of_lt h (by decide)
    have h3 := (Nat.log2_lt h0).mpr h2
    omega
/-- a place in a list of the script stays -/
theorem seq_kt {K : PySem.W.Frag} {P a : Addr} {H H' : Hp} {xs : List V} (t : TabG H P) (k : KT P H H') (h : SqL K H a xs) : SqL K H' a xs := by
  rcases h with (h | ⟨o, h⟩) | h
  · exact .inl (.inl (k.keep _ _ (ne_tab t h (by simp)) h))
  · exact .inl (.inr ⟨o, k.keep _ _ (ne_tab t h (by simp)) h⟩)
  · exact .inr h
/-- what a row of steps with the box does to all else -/
theorem KT.box {P b : Addr} {H H' H1 : Hp} (t : TabG H P) (f : H b = none) (e : ∀ a, a ≠ b → H1 a = H a) (k : KB b H1 H') : KT P H H' := by
  obtain ⟨ps, ht, tr⟩ := t
  have nb : P ≠ b := ne_of_none ht f
  exact ⟨fun c o _ h => k c o (ne_of_none h f) ((e c (ne_of_none h f)).trans h), ps, k P _ nb ((e P nb).trans ht), tr⟩
theorem two_bools (a b : Bool) : (PyData.list [.bool a, .bool b]).shown.length ≤ sizeLine := by
  cases a <;> cases b <;> decide +kernel
end My

set_option maxRecDepth 100000
set_option maxHeartbeats 4000000
namespace K7
open PySem PySem.Spec PyProof.Rows L2 GxR Gd TL My
/-! ### the text -/
def top (i : Nat) : Stmt := PySem.Challenge.pw_onestaff_k07_lines_as_texts.main.body.getD i (.Pass ⟨0, 0, 0, 0⟩)
abbrev sWhole : Stmt := top 14
abbrev sName : Stmt := top 15
abbrev sList : Stmt := top 16
abbrev sTuple : Stmt := top 17
abbrev sCell : Stmt := top 44
abbrev sBox : Stmt := top 45
abbrev sTake : Stmt := top 46
structure Txt (mg : Str → Option Value) : Prop where
  isinstance_ : mg "isinstance" = none
  int_ : mg "int" = none
  bool_ : mg "bool" = none
  str_ : mg "str" = none
  len_ : mg "len" = none
  all_ : mg "all" = none
  max_ : mg "max" = none
  min_ : mg "min" = none
  range_ : mg "range" = none
  repr_ : mg "repr" = none
  list_ : mg "list" = none
  tuple_ : mg "tuple" = none
  enumerate_ : mg "enumerate" = none
  sorted_ : mg "sorted" = none
structure Fn (K : PySem.W.Frag) (mg : Str → Option Value) (x : Str) (st : Stmt) (ps : List Str) (f : Addr) (fd : FuncData) : Prop where
  fn : Fun K x x st f fd
  g : mg x = some (.ref f)
  b : Binds K fd ps []
theorem Fn.kp {K : PySem.W.Frag} {mg : Str → Option Value} {x : Str} {st : Stmt} {ps : List Str} {f : Addr} {fd : FuncData} (h : Fn K mg x st ps f fd) : PySem.W.keepIn K (.ref f) = true := h.fn.kp
structure FnA (K : PySem.W.Frag) (mg : Str → Option Value) (al x : Str) (st : Stmt) (ps : List Str) (f : Addr) (fd : FuncData) : Prop where
  fn : Fun K x x st f fd
  g : mg al = some (.ref f)
  b : Binds K fd ps []
theorem FnA.kp {K : PySem.W.Frag} {mg : Str → Option Value} {al x : Str} {st : Stmt} {ps : List Str} {f : Addr} {fd : FuncData} (h : FnA K mg al x st ps f fd) : PySem.W.keepIn K (.ref f) = true := h.fn.kp
section
variable {P : Program} {w : World} {K : PySem.W.Frag} {mg : Str → Option Value} {base : Heap}
def spWhole : Sp := fun vs H Q _ => ∃ (v : V) (lo hi : Int), vs = [v, .int lo, .int hi] ∧ Th H v ∧ Q (.bl (wh lo hi v)) H
theorem scWhole : FnScope ["thing", "low", "high"] ["thing", "low", "high"] (defScope sWhole) := ⟨rfl, rfl, rfl, by decide +kernel, rfl, by decide +kernel, by decide +kernel⟩
theorem ok_whole {f : Addr} {fd : FuncData} (F : Fun K "is_whole" "is_whole" sWhole f fd) (T : Txt mg) : FnOk P w K mg base CX0 1 f fd ["thing", "low", "high"] spWhole := by
  refine F.ok scWhole (fun vs H Q E h => ?_) (fun cdv A outer s H vs Q E hr h => ?_)
  · obtain ⟨v, lo, hi, rfl, _⟩ := h
    rfl
  · obtain ⟨v, lo, hi, rfl, th, k⟩ := h
    obtain ⟨t, ty, cs⟩ := th.ty (K := K)
    refine ⟨_, pss_cons (ps_if (PW.pt (pw_or (pt_not (pt_val (pe_callB call_isi (by rfl) T.isinstance_ (by decide +kernel) (pa_cons (pv 0) (pa_cons (pe_bltn (v := .ty "int") (by rfl) T.int_ (by decide +kernel) rfl) pa_nil)))))
        (pw_or1 (pt_val (pe_callB call_isi (by rfl) T.isinstance_ (by decide +kernel) (pa_cons (pv 0) (pa_cons (pe_bltn (v := .ty "bool") (by rfl) T.bool_ (by decide +kernel) rfl) pa_nil)))))))
        (pss_one (ps_ret pe_bl)) pss_nil)
      (pss_one (ps_ret (pe_chain op_le op_le (pv 1) (pv 0) (pv 2)))), ?_⟩
    rcases cs with ⟨i, rfl, rfl⟩ | ⟨b, rfl, rfl⟩ | ⟨z, rfl, _, rfl⟩ | ⟨n1, n2, n3, ht⟩
    · refine ⟨_, rfl, _, _, _, _, true, rfl, .ty "int", ty, (by rfl), _, rfl, iteF ?_⟩
      refine ⟨_, rfl, _, _, _, _, false, rfl, .ty "bool", ty, (by rfl), _, rfl, iteF ?_⟩
      refine ⟨_, rfl, _, rfl, _, _, rfl, rfl, _, rfl, ?_⟩
      refine ite2 (fun c => ?_) (fun c => ?_)
      · refine ⟨_, rfl, _, _, rfl, rfl, ?_⟩
        have e : (decide (i ≤ hi)) = wh lo hi (.int i) := by simp [wh, of_decide_eq_true c]
        show Q (.bl (decide (i ≤ hi))) H
        rw [e]; exact k
      · have e : false = wh lo hi (.int i) := by simp at c; simp [wh]; omega
        rw [e]; exact k
    · refine ⟨_, rfl, _, _, _, _, true, rfl, .ty "int", ty, (by rfl), _, rfl, iteF ?_⟩
      refine ⟨_, rfl, _, _, _, _, true, rfl, .ty "bool", ty, (by rfl), _, rfl, iteT ?_⟩
      exact k
    · refine ⟨_, rfl, _, _, _, _, false, rfl, .ty "int", ty, (by rfl), _, rfl, iteT (iteT ?_)⟩
      exact k
    · have e : wh lo hi v = false := by
        cases v with
        | int i => exact absurd rfl (n1 i)
        | _ => rfl
      rw [e] at k
      rcases ht with rfl | rfl | rfl | rfl
      · exact ⟨_, rfl, _, _, _, _, false, rfl, .ty "int", ty, (by rfl), _, rfl, iteT (iteT k)⟩
      · exact ⟨_, rfl, _, _, _, _, false, rfl, .ty "int", ty, (by rfl), _, rfl, iteT (iteT k)⟩
      · exact ⟨_, rfl, _, _, _, _, false, rfl, .ty "int", ty, (by rfl), _, rfl, iteT (iteT k)⟩
      · exact ⟨_, rfl, _, _, _, _, false, rfl, .ty "int", ty, (by rfl), _, rfl, iteT (iteT k)⟩

/-! ### is_name -/
theorem scName : FnScope ["thing"] ["thing"] (defScope sName) := ⟨rfl, rfl, rfl, by decide +kernel, rfl, by decide +kernel, by decide +kernel⟩
def spName (Pt : Addr) : Sp := fun vs H Q _ => ∃ (v : V), vs = [v] ∧ Th H v ∧ TabG H Pt ∧ ∀ H', KT Pt H H' → Q (.bl (nm v)) H'
theorem ok_name {f Pt c : Addr} {oc kV doc pm ct : Value} {od an : Option Addr} {osl : Array (Option Value)}
    (lk : K.lookup f = some ⟨oc, od, .func (PySem.W.fnOf "is_name" "is_name" (defArgs sName) (defBody sName) (defScope sName) .none kV doc pm an (.ref c) ct), osl⟩) (hcd : PySem.W.codeIn K (.ref c) "is_name" = true)
    (T : Txt mg) (TB : TabB base mg c Pt) : FnOk P w K mg base CX0 2 f (PySem.W.fnOf "is_name" "is_name" (defArgs sName) (defBody sName) (defScope sName) .none kV doc pm an (.ref c) ct) ["thing"] (spName Pt) := by
  refine fn_of lk hcd scName (fun vs H Q E h => ?_) (fun A outer s H vs Q E hr h => ?_)
  · obtain ⟨v, rfl, _⟩ := h
    rfl
  · obtain ⟨v, rfl, th, tb, k⟩ := h
    obtain ⟨t, ty, cs⟩ := th.ty (K := K)
    refine ⟨_, (pss_cons (ps_if (PW.pt (pw_or (pt_not (pt_val (pe_callB call_isi (by rfl) T.isinstance_ (by decide +kernel) (pa_cons (pv 0) (pa_cons (pe_bltn (v := .ty "str") (by rfl) T.str_ (by decide +kernel) rfl) pa_nil)))))
        (pw_or1 (pt_not (pt_chain op_le op_le pe_int (pe_callB call_len_str (by rfl) T.len_ PySem.boot_len (pa_cons (pv 0) pa_nil)) pe_int)))))
        (pss_one (ps_ret pe_bl)) pss_nil)
      (pss_one (ps_ret (pe_allS hr (by rfl) T.all_ (by decide +kernel) TB rfl ⟨rfl, rfl, by decide +kernel, by decide +kernel, by decide +kernel, fun y hy e => absurd e (no_free y hy)⟩ (pv 0) (elt_between (by rfl) (by decide +kernel)) (fun _ => rfl))))).nox, ?_⟩
    have no : ∀ e : nm v = false, Q (.bl false) H := fun e => e ▸ k H (KT.refl tb)
    rcases cs with ⟨i, rfl, rfl⟩ | ⟨b, rfl, rfl⟩ | ⟨z, rfl, ⟨hz, _⟩, rfl⟩ | ⟨n1, n2, n3, ht⟩
    · exact ⟨_, rfl, _, _, _, _, false, rfl, .ty "str", ty, (by rfl), _, rfl, iteT (iteT (no rfl))⟩
    · exact ⟨_, rfl, _, _, _, _, false, rfl, .ty "str", ty, (by rfl), _, rfl, iteT (iteT (no rfl))⟩
    · refine ⟨_, rfl, _, _, _, _, true, rfl, .ty "str", ty, (by rfl), _, rfl, iteF ?_⟩
      have hz2 : z.length ≤ sizeLine := Nat.le_trans hz (by decide)
      refine ⟨_, rfl, z, rfl, hz2, _, _, rfl, rfl, _, rfl, ite2 (fun c1 => ?_) (fun c1 => ?_)⟩
      · have c1' : (1 : Int) ≤ z.length := of_decide_eq_true c1
        refine ⟨_, _, rfl, rfl, _, rfl, ?_⟩
        refine ite2 (fun c2 => ?_) (fun c2 => ?_)
        · refine no ?_
          have c2' : ¬ (z.length : Int) ≤ 6 := by simpa using c2
          have n6 : ¬ z.length ≤ 6 := by omega
          simp [nm, n6]
        · have c2' : (z.length : Int) ≤ 6 := by simpa using c2
          have n6 : z.length ≤ 6 := by omega
          have n1 : 1 ≤ z.length := by omega
          refine ⟨_, rfl, z, rfl, tb, fun H2 ht => ?_⟩
          have e : z.cps.toList.all (fun c => !decide ([c] < (Str.ofString "a").cps.toList) && !decide ((Str.ofString "z").cps.toList < [c])) = nm (.str z) := by
            have ea : (Str.ofString "a").cps.toList = [97] := by decide +kernel
            have ez : (Str.ofString "z").cps.toList = [122] := by decide +kernel
            rw [ea, ez]
            simp only [lc_eq]
            simp [nm, n6, n1]
          show Q (.bl (z.cps.toList.all _)) H2
          rw [e]
          exact k H2 (KT.of ht)
      · refine ⟨_, rfl, iteT (no ?_)⟩
        have c1' : ¬ (1 : Int) ≤ z.length := by simpa using c1
        have n1 : ¬ 1 ≤ z.length := by omega
        simp [nm, n1]
    · have e : nm v = false := by
        cases v with
        | str z => exact absurd rfl (n3 z)
        | _ => rfl
      rcases ht with rfl | rfl | rfl | rfl
      · exact ⟨_, rfl, _, _, _, _, false, rfl, .ty "str", ty, (by rfl), _, rfl, iteT (iteT (no e))⟩
      · exact ⟨_, rfl, _, _, _, _, false, rfl, .ty "str", ty, (by rfl), _, rfl, iteT (iteT (no e))⟩
      · exact ⟨_, rfl, _, _, _, _, false, rfl, .ty "str", ty, (by rfl), _, rfl, iteT (iteT (no e))⟩
      · exact ⟨_, rfl, _, _, _, _, false, rfl, .ty "str", ty, (by rfl), _, rfl, iteT (iteT (no e))⟩
def spCell (K : PySem.W.Frag) : Sp := fun vs H Q _ => ∃ (l : Addr) (ns : List Int) (j : Nat), vs = [.ref l, .int (j : Int)] ∧ SqL K H l (ns.map V.int) ∧ ∀ i : Int, Q (.int i) H
theorem scCell : FnScope ["_law_script", "_law_k"] ["_law_script", "_law_k"] (defScope sCell) := ⟨rfl, rfl, rfl, by decide +kernel, rfl, by decide +kernel, by decide +kernel⟩
theorem ok_cell {f : Addr} {fd : FuncData} (F : Fun K "_law_cell" "_law_cell" sCell f fd) (T : Txt mg) : FnOk P w K mg base CX0 1 f fd ["_law_script", "_law_k"] (spCell K) := by
  refine F.ok scCell (fun vs H Q E h => ?_) (fun cdv A outer s H vs Q E hr h => ?_)
  · obtain ⟨l, ns, j, rfl, _⟩ := h
    rfl
  · obtain ⟨l, ns, j, rfl, hS, k⟩ := h
    refine ⟨_, pss_cons (ps_if (pt_cmpR op_lt (pv 1) (pe_callB call_len_seq (by rfl) T.len_ PySem.boot_len (pa_cons (pv 0) pa_nil)) (nomark _)) (pss_one (ps_ret (pe_ix ix_list (pv 0) (pv 1) (fun _ _ => rfl)))) pss_nil)
      (pss_one (ps_ret (pe_op op_add (pe_op op_mul pe_int (pv 1)) pe_int))), ?_⟩
    refine ⟨_, rfl, _, rfl, l, _, rfl, .inl hS, _, _, rfl, rfl, _, rfl, ite2 (fun c => ?_) (fun c => ?_)⟩
    · have c1 : (j : Int) < ((ns.map V.int).length : Nat) := of_decide_eq_true c
      have c2 : j < ns.length := by rw [List.length_map] at c1; omega
      refine ⟨_, rfl, _, rfl, l, _, _, _, rfl, rfl, hS, atI_nat (v := .int ns[j]) ?_, k _⟩
      rw [List.getElem?_map, List.getElem?_eq_getElem c2]
      rfl
    · exact ⟨_, rfl, _, _, rfl, rfl, .inl ⟨by decide, by decide⟩, _, _, rfl, rfl, k _⟩
def spBox : Sp := fun vs H Q _ => ∃ c : Int, vs = [.int c] ∧ ∀ b H', H b = none → (∀ a, a ≠ b → H' a = H a) → Bx b 0 H' → Q (.ref b) H'
theorem scBox : FnScope ["_law_cell_here"] ["_law_cell_here"] (defScope sBox) := ⟨rfl, rfl, rfl, by decide +kernel, rfl, by decide +kernel, by decide +kernel⟩
theorem ok_box {f : Addr} {fd : FuncData} (F : Fun K "_law_box" "_law_box" sBox f fd) (T : Txt mg) : FnOk P w K mg base CX0 1 f fd ["_law_cell_here"] spBox := by
  refine F.ok scBox (fun vs H Q E h => ?_) (fun cdv A outer s H vs Q E hr h => ?_)
  · obtain ⟨c, rfl, _⟩ := h
    rfl
  · obtain ⟨c, rfl, k⟩ := h
    refine ⟨_, pss_one (ps_ret (pe_lst (pa_cons (pe_callB (call_max2 rfl) (by rfl) T.max_ (by decide +kernel) (pa_cons pe_int (pa_cons (pe_op op_sub (pv 0) (pe_op op_pow pe_int pe_int)) pa_nil))) (pa_cons (pe_op op_mod (pv 0) pe_int) (pa_cons pe_int pa_nil))))), ?_⟩
    refine ⟨_, rfl, _, _, rfl, rfl, ⟨by decide, by decide, by decide⟩, _, _, rfl, rfl, _, _, rfl, ?_⟩
    refine ⟨_, rfl, _, _, rfl, rfl, (by show (0 : Int) < 2147483629; decide), ?_⟩
    refine ⟨(by show 3 ≤ sizeLine; decide), fun b hb => ?_⟩
    refine k b _ hb (fun a na => upd_ne na) ⟨_, _, 0, upd_same, ?_, ?_, ?_, Int.le_refl _, Int.le_refl _⟩
    · split <;> omega
    · exact Int.emod_nonneg _ (by decide)
    · exact Int.emod_lt_of_pos _ (by decide)
def spTake : Sp := fun vs H Q _ => ∃ (b : Addr) (many n : Int), vs = [.ref b, .int many] ∧ Bx b n H ∧ n ≤ 100000 ∧ 0 < many ∧ many.natAbs.log2 < 9000 ∧
  ∀ d H', 0 ≤ d → d < many → (∀ a, a ≠ b → H' a = H a) → Bx b (n + 1) H' → Q (.int d) H'
theorem scTake : FnScope ["_law_box_here", "_law_many", "_law_digit", "_law_number"] ["_law_box_here", "_law_many"] (defScope sTake) := ⟨rfl, rfl, rfl, by decide +kernel, rfl, by decide +kernel, by decide +kernel⟩
theorem ok_take {f : Addr} {fd : FuncData} (F : Fun K "_law_take" "_law_take" sTake f fd) : FnOk P w K mg base CX0 1 f fd ["_law_box_here", "_law_many"] spTake := by
  refine F.ok scTake (fun vs H Q E h => ?_) (fun cdv A outer s H vs Q E hr h => ?_)
  · obtain ⟨b, many, n, rfl, _⟩ := h
    rfl
  · obtain ⟨b, many, n, rfl, ⟨x, y, z, hb, x0, y0, y1, z0, zn⟩, hn, m0, ml, k⟩ := h
    refine ⟨_, pss_cons (ps_if (pt_cmpR op_gt (pe_ix ix_list (pv 0) pe_int (fun _ _ => rfl)) pe_int (nomark _))
        (pss_cons (ps_set (i := 2) scTake.nd rfl (Or.inl rfl) (pe_op op_mod (pe_ix ix_list (pv 0) pe_int (fun _ _ => rfl)) (pv 1)))
        (pss_cons (ps_asg (pe_op op_fdivW (pe_ix ix_list (pv 0) pe_int (fun _ _ => rfl)) (pv 1)) (pg_sub (pv 0) pe_int set_list))
        (pss_one (ps_ret (pv 2))))) pss_nil)
      (pss_cons (ps_asg (pe_op op_add (pe_ix ix_list (pv 0) pe_int (fun _ _ => rfl)) pe_int) (pg_sub (pv 0) pe_int set_list))
      (pss_cons (ps_set (i := 3) scTake.nd rfl (Or.inl rfl) (pe_op op_mod (pe_op op_pow (pe_op op_add (pe_op op_add (pe_ix ix_list (pv 0) pe_int (fun _ _ => rfl)) (pe_op op_mul pe_int (pe_ix ix_list (pv 0) pe_int (fun _ _ => rfl)))) pe_int) pe_int) pe_int))
      (pss_cons (ps_set (i := 3) scTake.nd rfl (Or.inl rfl) (pe_op op_mod (pe_op op_pow (pe_op op_add (pv 3) (pe_op op_mul pe_int (pe_ix ix_list (pv 0) pe_int (fun _ _ => rfl)))) pe_int) pe_int))
      (pss_one (ps_ret (pe_op op_mod (pe_op op_fdiv (pv 3) pe_int) (pv 1))))))), ?_⟩
    have hL : SqL K H b [.int x, .int y, .int z] := SqL.of hb
    refine ⟨_, rfl, b, _, _, _, rfl, rfl, hL, i0 _ _ _, _, _, rfl, rfl, _, rfl, ite2 (fun c => ?_) (fun c => ?_)⟩
    · refine ⟨_, rfl, b, _, _, _, rfl, rfl, hL, i0 _ _ _, _, rfl, _, _, rfl, rfl, m0, ?_⟩
      refine ⟨_, rfl, b, _, _, _, rfl, rfl, hL, i0 _ _ _, _, rfl, _, _, rfl, rfl, ⟨m0, ml⟩, ?_⟩
      refine ⟨_, rfl, b, _, _, _, rfl, rfl, hb, j0, ?_⟩
      refine ⟨_, rfl, ?_⟩
      exact k _ _ (Int.emod_nonneg _ (by omega)) (Int.emod_lt_of_pos _ m0) (fun a na => upd_ne na) ⟨_, _, _, upd_same, Int.ediv_nonneg x0 (by omega), y0, y1, z0, by omega⟩
    · refine ⟨_, rfl, b, _, _, _, rfl, rfl, hL, i2 _ _ _, _, _, rfl, rfl, ?_⟩
      refine ⟨_, rfl, b, _, _, _, rfl, rfl, hb, j2, ?_⟩
      have h1 : upd H b (.lst ([V.int x, .int y, .int z].set 2 (.int (z + 1)))) b = some (.lst [.int x, .int y, .int (z + 1)]) := upd_same
      have hL1 : SqL K (upd H b (.lst ([V.int x, .int y, .int z].set 2 (.int (z + 1))))) b [.int x, .int y, .int (z + 1)] := SqL.of h1
      refine ⟨_, rfl, b, _, _, _, rfl, rfl, hL1, i1 _ _ _, _, rfl, b, _, _, _, rfl, rfl, hL1, i2 _ _ _, _, _, rfl, rfl, .inl ⟨by decide, by decide⟩, _, _, rfl, rfl, _, _, rfl, rfl,
        _, _, rfl, rfl, ⟨by decide, by decide, ?_⟩, _, _, rfl, rfl, (by show (0 : Int) < 2147483647; decide), ?_⟩
      · omega
      refine ⟨_, rfl, _, rfl, b, _, _, _, rfl, rfl, hL1, i2 _ _ _, _, _, rfl, rfl, .inl ⟨by decide, by decide⟩, _, _, rfl, rfl,
        _, _, rfl, rfl, ⟨by decide, by decide, ?_⟩, _, _, rfl, rfl, (by show (0 : Int) < 2147483587; decide), ?_⟩
      · have g0 := Int.emod_nonneg ((y + 7919 * (z + 1) + 29) ^ (5 : Int).toNat) (show (2147483647 : Int) ≠ 0 by decide)
        have g1 := Int.emod_lt_of_pos ((y + 7919 * (z + 1) + 29) ^ (5 : Int).toNat) (show (0 : Int) < 2147483647 by decide)
        generalize (y + 7919 * (z + 1) + 29) ^ (5 : Int).toNat % 2147483647 = q at g0 g1 ⊢
        omega
      refine ⟨_, rfl, _, _, rfl, rfl, ⟨by decide, by decide⟩, _, rfl, _, _, rfl, rfl, m0, ?_⟩
      exact k _ _ (Int.emod_nonneg _ (by omega)) (Int.emod_lt_of_pos _ m0) (fun a na => upd_ne na) ⟨_, _, _, h1, x0, y0, y1, by omega, by omega⟩
end
end K7


set_option maxRecDepth 100000
set_option maxHeartbeats 4000000
/-! Data in the heap, kept by steps that change a box, a table. -/
namespace My
open PySem PySem.Spec PyProof.Rows L2 GxR Gd TL
/-- all but tables stays -/
def Nt (H H' : Hp) : Prop := ∀ c o, (∀ ps, o ≠ .tbl ps) → H c = some o → H' c = some o
theorem Nt.refl (H : Hp) : Nt H H := fun _ _ _ h => h
theorem Nt.trans {H H1 H2 : Hp} (a : Nt H H1) (b : Nt H1 H2) : Nt H H2 := fun c o n h => b c o n (a c o n h)
theorem KT.nt {P : Addr} {H H' : Hp} (t : TabG H P) (k : KT P H H') : Nt H H' := fun c o n h => k.keep c o (ne_tab t h n) h
theorem Nt.alloc {H : Hp} {p : Addr} {o : HO} (n : H p = none) : Nt H (upd H p o) := fun c u _ h => by rw [upd_ne (ne_of_none h n)]; exact h
/-- the heap but the box -/
def hide (b : Addr) (H : Hp) : Hp := fun c => if c = b then none else H c
theorem hide_ne {b c : Addr} {H : Hp} (h : c ≠ b) : hide b H c = H c := if_neg h
theorem hide_some {b c : Addr} {H : Hp} {o : HO} (h : hide b H c = some o) : c ≠ b ∧ H c = some o := by
  unfold hide at h
  by_cases q : c = b
  · rw [if_pos q] at h
    cases h
  · rw [if_neg q] at h
    exact ⟨q, h⟩
theorem KB.nt {b : Addr} {H H' : Hp} (k : KB b H H') : Nt (hide b H) (hide b H') := fun c o _ h => by
  obtain ⟨n, h⟩ := hide_some h
  rw [hide_ne n]
  exact k c o n h
theorem hide_nt (b : Addr) (H : Hp) : Nt (hide b H) H := fun c o _ h => (hide_some h).2
theorem Nt.seq {K : PySem.W.Frag} {H H' : Hp} {a : Addr} {xs : List V} (e : Nt H H') (h : SqL K H a xs) : SqL K H' a xs := by
  rcases h with (h | ⟨o, h⟩) | h
  · exact .inl (.inl (e _ _ (by simp) h))
  · exact .inl (.inr ⟨o, e _ _ (by simp) h⟩)
  · exact .inr h
theorem Nt.seqT {K : PySem.W.Frag} {H H' : Hp} {a : Addr} {xs : List V} (e : Nt H H') (h : SqT K H a xs) : SqT K H' a xs := by
  rcases h with (h | ⟨o, h⟩) | h
  · exact .inl (.inl (e _ _ (by simp) h))
  · exact .inl (.inr ⟨o, e _ _ (by simp) h⟩)
  · exact .inr h
section
variable {K : PySem.W.Frag} {H H' : Hp}
mutual
theorem dp_nt (e : Nt H H') : ∀ {v : V} {d : PyData}, Dp K H v d → Dp K H' v d
  | _, _, .non => .non
  | _, _, .bl b => .bl b
  | _, _, .int i => .int i
  | _, _, .str z => .str z
  | _, _, .lst h a => .lst (e.seq h) (dpAll_nt e a)
  | _, _, .tup h a => .tup (e.seqT h) (dpAll_nt e a)
theorem dpAll_nt (e : Nt H H') : ∀ {vs : List V} {ds : List PyData}, DpAll K H vs ds → DpAll K H' vs ds
  | _, _, .nil => .nil
  | _, _, .cons h t => .cons (dp_nt e h) (dpAll_nt e t)
end
theorem dp_list {v : V} {ds : List PyData} (h : Dp K H v (.list ds)) : ∃ a xs, v = .ref a ∧ SqL K H a xs ∧ DpAll K H xs ds := by
  cases h with
  | lst h a => exact ⟨_, _, rfl, h, a⟩
theorem dp_tuple {v : V} {ds : List PyData} (h : Dp K H v (.tuple ds)) : ∃ a xs, v = .ref a ∧ SqT K H a xs ∧ DpAll K H xs ds := by
  cases h with
  | tup h a => exact ⟨_, _, rfl, h, a⟩
theorem dp_str {v : V} {z : Str} (h : Dp K H v (.str z)) : v = .str z := by
  cases h
  rfl
theorem dp_int {v : V} {i : Int} (h : Dp K H v (.int i)) : v = .int i := by
  cases h
  rfl
theorem dp_none {v : V} (h : Dp K H v .none) : v = .non := by
  cases h
  rfl
theorem dpAll_len : ∀ {xs : List V} {ds : List PyData}, DpAll K H xs ds → xs.length = ds.length
  | _, _, .nil => rfl
  | _, _, .cons _ t => congrArg (· + 1) (dpAll_len t)
theorem dpAll_get : ∀ {xs : List V} {ds : List PyData}, DpAll K H xs ds → ∀ {i : Nat} {x : V}, xs[i]? = some x → ∃ d, ds[i]? = some d ∧ Dp K H x d
  | _, _, .nil, _, _, h => by simp at h
  | _, _, .cons a _, 0, _, h => by simp at h; subst h; exact ⟨_, rfl, a⟩
  | _, _, .cons _ t, i + 1, x, h => by
    obtain ⟨d, h1, h2⟩ := dpAll_get t (i := i) (x := x) (by simpa using h)
    exact ⟨d, by simpa using h1, h2⟩
theorem dpAll_at : ∀ {xs : List V} {ds : List PyData}, DpAll K H xs ds → ∀ {i : Nat} {d : PyData}, ds[i]? = some d → ∃ x, xs[i]? = some x ∧ Dp K H x d
  | _, _, .nil, _, _, h => by simp at h
  | _, _, .cons a _, 0, _, h => by simp at h; subst h; exact ⟨_, rfl, a⟩
  | _, _, .cons _ t, i + 1, d, h => by
    obtain ⟨x, h1, h2⟩ := dpAll_at t (i := i) (d := d) (by simpa using h)
    exact ⟨x, by simpa using h1, h2⟩
theorem dpAll_app : ∀ {xs ys : List V} {ds es : List PyData}, DpAll K H xs ds → DpAll K H ys es → DpAll K H (xs ++ ys) (ds ++ es)
  | _, _, _, _, .nil, h => h
  | _, _, _, _, .cons a t, h => .cons a (dpAll_app t h)
theorem dp_two {v : V} {c d : PyData} (h : Dp K H v (.tuple [c, d])) : ∃ a x y, v = .ref a ∧ SqT K H a [x, y] ∧ Dp K H x c ∧ Dp K H y d := by
  obtain ⟨a, xs, rfl, h1, h2⟩ := dp_tuple h
  cases h2 with
  | cons p t =>
    cases t with
    | cons q t =>
      cases t
      exact ⟨a, _, _, rfl, h1, p, q⟩
theorem dp_three {v : V} {c d e : PyData} (h : Dp K H v (.tuple [c, d, e])) : ∃ a x y z, v = .ref a ∧ SqT K H a [x, y, z] ∧ Dp K H x c ∧ Dp K H y d ∧ Dp K H z e := by
  obtain ⟨a, xs, rfl, h1, h2⟩ := dp_tuple h
  cases h2 with
  | cons p t =>
    cases t with
    | cons q t =>
      cases t with
      | cons r t =>
        cases t
        exact ⟨a, _, _, _, rfl, h1, p, q, r⟩
theorem dp_four {v : V} {c d e f : PyData} (h : Dp K H v (.list [c, d, e, f])) : ∃ a x y z u, v = .ref a ∧ SqL K H a [x, y, z, u] ∧ Dp K H x c ∧ Dp K H y d ∧ Dp K H z e ∧ Dp K H u f := by
  obtain ⟨a, xs, rfl, h1, h2⟩ := dp_list h
  cases h2 with
  | cons p t =>
    cases t with
    | cons q t =>
      cases t with
      | cons r t =>
        cases t with
        | cons s t =>
          cases t
          exact ⟨a, _, _, _, _, rfl, h1, p, q, r, s⟩
end
/-! ### names that are good, worlds of lines -/
def NameOk (z : Str) : Prop := 1 ≤ z.length ∧ z.length ≤ 6 ∧ z.cps.toList.all lc = true
theorem NameOk.good {z : Str} (h : NameOk z) : Good z := fun c hc => by
  have := List.all_eq_true.mp h.2.2 c hc
  unfold lc at this
  simp at this
  omega
theorem NameOk.nm {z : Str} (h : NameOk z) : nm (.str z) = true := by
  obtain ⟨h1, h2, h3⟩ := h
  simp [My.nm, h1, h2, h3]
theorem NameOk.th {z : Str} {H : Hp} (h : NameOk z) : Th H (.str z) := .str z (by have := h.2.1; omega) h.good
structure Wd where
  ps : List (Str × Int)
  st : List (Str × Int)
  lo : List (Int × Int × Int)
  sp : Str
def longsOk (top : Int) : Int → List (Int × Int × Int) → Prop
  | _, [] => True
  | low, (f, l, h) :: r => low ≤ f ∧ f + 2 ≤ l ∧ l ≤ top ∧ 0 ≤ h ∧ h ≤ 1 ∧ longsOk top l r
structure Wd.Ok (w : Wd) : Prop where
  p2 : 2 ≤ w.ps.length
  p6 : w.ps.length ≤ 6
  nm : ∀ p ∈ w.ps, NameOk p.1 ∧ 1 ≤ p.2 ∧ p.2 ≤ 3
  nd : (w.ps.map (·.1)).Nodup
  sl : w.st.length + 1 = w.ps.length
  st : ∀ p ∈ w.st, (p.1 = "staff" ∨ p.1 = "ticket") ∧ 0 ≤ p.2 ∧ p.2 ≤ 1
  ll : w.lo.length ≤ 2
  lo : longsOk (w.ps.length - 1 : Nat) 0 w.lo
  sn : NameOk w.sp
  s0 : w.sp ∉ w.ps.map (·.1)
def dP (p : Str × Int) : PyData := .tuple [.str p.1, .int p.2]
def dL (p : Int × Int × Int) : PyData := .tuple [.int p.1, .int p.2.1, .int p.2.2]
def Wd.data (w : Wd) : PyData := .list [.list (w.ps.map dP), .list (w.st.map dP), .list (w.lo.map dL), .str w.sp]
end My

set_option maxRecDepth 100000
set_option maxHeartbeats 4000000
namespace K7
open PySem PySem.Spec PyProof.Rows L2 GxR Gd TL My
/-- a list or a tuple -/
def SqX (K : PySem.W.Frag) (H : Hp) (a : Addr) (xs : List V) : Prop := SqL K H a xs ∨ SqT K H a xs
theorem same_nt {H H' : Hp} (e : Same H H') : Nt H H' := fun c o _ h => e c o h
theorem same_alloc {H : Hp} {p : Addr} {o : HO} (n : H p = none) : Same H (upd H p o) := fun c u h => by rw [upd_ne (ne_of_none h n)]; exact h
theorem same_kt {Pt : Addr} {H H' : Hp} (t : TabG H Pt) (e : Same H H') : KT Pt H H' := by
  obtain ⟨ps, h1, h2⟩ := t
  exact ⟨fun c o _ h => e c o h, ps, e _ _ h1, h2⟩
theorem SqX.nt {K : PySem.W.Frag} {H H' : Hp} {a : Addr} {xs : List V} (e : Nt H H') (h : SqX K H a xs) : SqX K H' a xs := h.elim (fun q => .inl (e.seq q)) fun q => .inr (e.seqT q)
theorem ty_seqL {K : PySem.W.Frag} {H : Hp} {a : Addr} {xs : List V} (h : SqL K H a xs) : TyX K H (.ref a) (.type "list") := by
  rcases h with (h | ⟨o, h⟩) | ⟨o, its, n, h1, h2, _⟩
  · exact .base (.lst h)
  · exact .base (.frz h)
  · exact .kList h1 h2
theorem ty_seqT {K : PySem.W.Frag} {H : Hp} {a : Addr} {xs : List V} (h : SqT K H a xs) : TyX K H (.ref a) (.type "tuple") := by
  rcases h with (h | ⟨o, h⟩) | ⟨o, its, n, h1, h2, _⟩
  · exact .base (.tup h)
  · exact .fTuple h
  · exact .kTuple h1 h2
section
variable {P : Program} {w : World} {K : PySem.W.Frag} {mg : Str → Option Value} {base : Heap}
abbrev s_is_list : Stmt := top 16
theorem sc_is_list : FnScope ["thing", "low", "high"] ["thing", "low", "high"] (defScope s_is_list) := ⟨rfl, rfl, rfl, by decide +kernel, rfl, by decide +kernel, by decide +kernel⟩
def spIsList (K : PySem.W.Frag) : Sp := fun vs H Q _ => ∃ (a : Addr) (lo hi : Int) (xs : List V), vs = [.ref a, .int lo, .int hi] ∧ SqX K H a xs ∧ ∀ H', Same H H' → Q (.bl (decide (lo ≤ (xs.length : Int)) && decide ((xs.length : Int) ≤ hi))) H'
theorem ok_is_list {f : Addr} {fd : FuncData} (F : Fun K "is_list" "is_list" s_is_list f fd) (T : Txt mg) : FnOk P w K mg base CX0 1 f fd ["thing", "low", "high"] (spIsList K) := by
  refine F.ok sc_is_list (fun vs H Q E h => ?_) (fun cdv A outer s H vs Q E hr h => ?_)
  · obtain ⟨a, lo, hi, xs, rfl, _⟩ := h
    rfl
  · obtain ⟨a, lo, hi, xs, rfl, hX, k⟩ := h
    refine ⟨_, pss_one (ps_ret (pe_and (pe_callB call_isiT (by rfl) T.isinstance_ (by decide +kernel) (pa_cons (pv 0) (pa_cons (pe_tup (pa_cons (pe_bltn (v := .ty "list") (by rfl) T.list_ (by decide +kernel) rfl) (pa_cons (pe_bltn (v := .ty "tuple") (by rfl) T.tuple_ (by decide +kernel) rfl) pa_nil))) pa_nil))) (pe_one (pe_chain op_le op_le (pv 1) (pe_callB call_len_seq (by rfl) T.len_ PySem.boot_len (pa_cons (pv 0) pa_nil)) (pv 2))))), ?_⟩
    refine ⟨_, rfl, (by show 2 ≤ sizeLine; decide), fun t ht => ?_⟩
    have e := same_alloc (o := .tup [.ty "list", .ty "tuple"]) ht
    have hX' := SqX.nt (same_nt e) hX
    have fin : ∃ c, V.bl true = .bl c ∧ if c = true then tChain (rI0 fun i j => .bl (decide (i ≤ j))) (rI0 fun i j => .bl (decide (i ≤ j))) (tVar 1) (tCB (fun xs H Q => ∃ p ys, xs = [.ref p] ∧ (SqL K H p ys ∨ SqT K H p ys) ∧ Q (.int ys.length) H) (tCons (tVar 0) tNil)) (tVar 2) [some (.ref a), some (.int lo), some (.int hi)] (upd H t (.tup [.ty "list", .ty "tuple"])) Q else Q (.bl false) (upd H t (.tup [.ty "list", .ty "tuple"])) := by
      refine ⟨_, rfl, iteT ?_⟩
      refine ⟨_, rfl, _, rfl, a, xs, rfl, hX', _, _, rfl, rfl, _, rfl, ite2 (fun c => ?_) (fun c => ?_)⟩
      · refine ⟨_, rfl, _, _, rfl, rfl, ?_⟩
        have q := k _ e
        rw [c, Bool.true_and] at q
        exact q
      · have q := k _ e
        rw [show decide (lo ≤ (xs.length : Int)) = false by simpa using c, Bool.false_and] at q
        exact q
    rcases hX' with hL | hT
    · exact ⟨_, t, _, _, [.type "list", .type "tuple"], true, rfl, upd_same, .cons (.ty _) (.cons (.ty _) .nil), ty_seqL hL, (by rfl), fin⟩
    · exact ⟨_, t, _, _, [.type "list", .type "tuple"], true, rfl, upd_same, .cons (.ty _) (.cons (.ty _) .nil), ty_seqT hT, (by rfl), fin⟩
abbrev s_is_tuple : Stmt := top 17
theorem sc_is_tuple : FnScope ["thing", "many"] ["thing", "many"] (defScope s_is_tuple) := ⟨rfl, rfl, rfl, by decide +kernel, rfl, by decide +kernel, by decide +kernel⟩
def spIsTuple (K : PySem.W.Frag) : Sp := fun vs H Q _ => ∃ (a : Addr) (n : Int) (xs : List V), vs = [.ref a, .int n] ∧ SqT K H a xs ∧ Q (.bl (decide ((xs.length : Int) = n))) H
theorem ok_is_tuple {f : Addr} {fd : FuncData} (F : Fun K "is_tuple" "is_tuple" s_is_tuple f fd) (T : Txt mg) : FnOk P w K mg base CX0 1 f fd ["thing", "many"] (spIsTuple K) := by
  refine F.ok sc_is_tuple (fun vs H Q E h => ?_) (fun cdv A outer s H vs Q E hr h => ?_)
  · obtain ⟨a, n, xs, rfl, _⟩ := h
    rfl
  · obtain ⟨a, n, xs, rfl, hT, k⟩ := h
    refine ⟨_, pss_one (ps_ret (pe_and (pe_callB call_isi (by rfl) T.isinstance_ (by decide +kernel) (pa_cons (pv 0) (pa_cons (pe_bltn (v := .ty "tuple") (by rfl) T.tuple_ (by decide +kernel) rfl) pa_nil))) (pe_one (pe_cmpR op_eq (pe_callB call_len_seq (by rfl) T.len_ PySem.boot_len (pa_cons (pv 0) pa_nil)) (pv 1) (nomark _))))), ?_⟩
    refine ⟨_, rfl, _, _, _, _, true, rfl, .ty "tuple", ty_seqT hT, (by rfl), _, rfl, iteT ?_⟩
    refine ⟨_, rfl, a, xs, rfl, .inr hT, _, rfl, rfl, ?_⟩
    have e : decide (V.int (xs.length : Int) = V.int n) = decide ((xs.length : Int) = n) := by simp
    show Q (.bl (decide (V.int (xs.length : Int) = V.int n))) H
    rw [e]
    exact k
abbrev s_check_place : Stmt := top 22
theorem sc_check_place : FnScope ["place", "ahead", "name", "roads"] ["place", "ahead"] (defScope s_check_place) := ⟨rfl, rfl, rfl, by decide +kernel, rfl, by decide +kernel, by decide +kernel⟩
def spCheckPlace (K : PySem.W.Frag) (Pt : Addr) : Sp := fun vs H Q _ => ∃ (t l : Addr) (z : Str) (r : Int) (as : List Str), vs = [.ref t, .ref l] ∧ SqT K H t [.str z, .int r] ∧ NameOk z ∧ 1 ≤ r ∧ r ≤ 3 ∧ SqL K H l (as.map V.str) ∧ z ∉ as ∧ TabG H Pt ∧ ∀ H', KT Pt H H' → Q .non H'
theorem flat_strs (as : List Str) : (as.map V.str).all flatV = true := by
  induction as with
  | nil => rfl
  | cons a r ih => simpa [flatV] using ih
theorem inV_strs {z : Str} {as : List Str} (h : z ∉ as) : inV (.str z) (as.map V.str) = false := by
  unfold inV
  rw [List.any_map, ← Bool.not_eq_true, List.any_eq_true]
  rintro ⟨y, hy, e⟩
  have e' : (y == z) = true := e
  exact h (eq_of_beq e' ▸ hy)
theorem ok_check_place {f fTu fNa fWh Pt : Addr} {fd fdTu fdNa fdWh : FuncData} (F : Fun K "_check_place" "_check_place" s_check_place f fd) (T : Txt mg)
    (Nis_tuple : Fn K mg "is_tuple" s_is_tuple ["thing", "many"] fTu fdTu) (Gis_tuple : FnOk P w K mg base CX0 1 fTu fdTu ["thing", "many"] (spIsTuple K))
    (Nis_name : Fn K mg "is_name" sName ["thing"] fNa fdNa) (Gis_name : FnOk P w K mg base CX0 2 fNa fdNa ["thing"] (spName Pt))
    (Nis_whole : Fn K mg "is_whole" sWhole ["thing", "low", "high"] fWh fdWh) (Gis_whole : FnOk P w K mg base CX0 1 fWh fdWh ["thing", "low", "high"] spWhole) :
    FnOk P w K mg base CX0 3 f fd ["place", "ahead"] (spCheckPlace K Pt) := by
  refine F.ok sc_check_place (fun vs H Q E h => ?_) (fun cdv A outer s H vs Q E hr h => ?_)
  · obtain ⟨t, l, z, r, as, rfl, _⟩ := h
    rfl
  · obtain ⟨t, l, z, r, as, rfl, hT, hz, r1, r3, hl, hn, tb, k⟩ := h
    refine ⟨_, pss_cons (ps_if (pt_not (pt_val (pe_call Gis_tuple (hr.mono (by decide)) (by rfl) Nis_tuple.g Nis_tuple.kp Nis_tuple.b .nil pass0 (pa_cons (pv 0) (pa_cons pe_int pa_nil))))) (pss_one ps_never) pss_nil)
      (pss_cons (ps_asg (pv 0) (pg_tup (by rfl) (pgs_cons (pg_name (i := 2) sc_check_place.nd rfl (Or.inl rfl)) (pgs_cons (pg_name (i := 3) sc_check_place.nd rfl (Or.inl rfl)) pgs_nil))))
      (pss_cons (ps_if (pt_not (pt_val (pe_call Gis_name (hr.mono (by decide)) (by rfl) Nis_name.g Nis_name.kp Nis_name.b .nil pass0 (pa_cons (pv 2) pa_nil)))) (pss_one ps_never) pss_nil)
      (pss_cons (ps_if (pt_cmpR op_in_seq (pv 2) (pv 1) rfl) (pss_one ps_never) pss_nil)
      (pss_one (ps_if (pt_not (pt_val (pe_call Gis_whole (hr.mono (by decide)) (by rfl) Nis_whole.g Nis_whole.kp Nis_whole.b .nil pass0 (pa_cons (pv 3) (pa_cons pe_int (pa_cons pe_int pa_nil)))))) (pss_one ps_never) pss_nil))))), ?_⟩
    refine ⟨_, rfl, t, 2, _, rfl, hT, _, rfl, iteF ?_⟩
    refine ⟨_, rfl, t, _, rfl, hT, rfl, _, _, rfl, _, _, rfl, rfl, ?_⟩
    refine ⟨_, rfl, .str z, rfl, hz.th, tb, fun H1 k1 => ?_⟩
    rw [hz.nm]
    refine ⟨_, rfl, iteF ?_⟩
    have n1 := KT.nt tb k1
    refine ⟨_, rfl, _, rfl, l, _, rfl, .inl (n1.seq hl), rfl, flat_strs as, ?_⟩
    refine ⟨_, rfl, ?_⟩
    show if inV (.str z) (as.map V.str) = true then _ else _
    rw [inV_strs hn]
    refine iteF ?_
    refine ⟨_, rfl, .int r, 1, 3, rfl, .int r, ?_⟩
    have e : wh 1 3 (.int r) = true := by simp [wh, r1, r3]
    rw [e]
    exact ⟨_, rfl, iteF (k H1 k1)⟩
end
end K7

set_option maxRecDepth 100000
set_option maxHeartbeats 4000000
namespace K7
open PySem PySem.Spec PyProof.Rows L2 GxR Gd TL My
theorem get_map {α β : Type} {f : α → β} {l : List α} {i : Nat} {d : β} (h : (l.map f)[i]? = some d) : ∃ p, l[i]? = some p ∧ d = f p := by
  rw [List.getElem?_map] at h
  cases e : l[i]? with
  | none =>
    rw [e] at h
    cases h
  | some p =>
    rw [e] at h
    exact ⟨p, rfl, (Option.some.inj h).symm⟩
theorem take_at {α : Type} {l : List α} {i : Nat} {x : α} (h : l[i]? = some x) : l.take (i + 1) = l.take i ++ [x] := by
  rw [List.take_add_one, h]
  rfl
theorem fresh_name {ps : List (Str × Int)} (nd : (ps.map (·.1)).Nodup) {i : Nat} {p : Str × Int} (h : ps[i]? = some p) : p.1 ∉ (ps.take i).map (·.1) := by
  have hi := (List.getElem?_eq_some_iff.mp h).1
  intro hm
  obtain ⟨q, hq, e⟩ := List.mem_map.mp hm
  obtain ⟨j, hj, eq⟩ := List.getElem_of_mem hq
  have hj' : j < i := by
    have := hj
    rw [List.length_take] at this
    omega
  rw [List.getElem_take] at eq
  have e1 : (ps.map (·.1))[j]? = some p.1 := by
    rw [List.getElem?_map, List.getElem?_eq_getElem (by omega), eq]
    simp [e]
  have e2 : (ps.map (·.1))[i]? = some p.1 := by
    rw [List.getElem?_map, h]
    rfl
  have nd2 : (ps.map (·.1)).Pairwise (· ≠ ·) := nd
  have hjl : j < (ps.map (·.1)).length := by rw [List.length_map]; omega
  have hil : i < (ps.map (·.1)).length := by rw [List.length_map]; exact hi
  have z := List.pairwise_iff_getElem.mp nd2 j i hjl hil hj'
  rw [List.getElem?_eq_getElem hjl] at e1
  rw [List.getElem?_eq_getElem hil] at e2
  exact z ((Option.some.inj e1).trans (Option.some.inj e2).symm)
theorem KT.put {Pt L : Addr} {H H' : Hp} {o : HO} (k : KT Pt H H') (n : H L = none) (np : L ≠ Pt) : KT Pt H (upd H' L o) := by
  obtain ⟨k1, ps, e, t⟩ := k
  exact ⟨fun c u q h => by rw [upd_ne (ne_of_none h n)]; exact k1 c u q h, ps, by rw [upd_ne np.symm]; exact e, t⟩
theorem longs_get {top : Int} : ∀ {low : Int} {lo : List (Int × Int × Int)}, longsOk top low lo → ∀ {i : Nat} {p : Int × Int × Int}, lo[i]? = some p →
    (((lo.take i).getLast?.map fun q => q.2.1).getD low) ≤ p.1 ∧ p.1 + 2 ≤ p.2.1 ∧ p.2.1 ≤ top ∧ 0 ≤ p.2.2 ∧ p.2.2 ≤ 1
  | _, [], _, _, _, h => by simp at h
  | low, (f, l, h) :: r, hk, 0, p, e => by
    simp at e
    subst e
    obtain ⟨h1, h2, h3, h4, h5, _⟩ := hk
    exact ⟨by simpa using h1, h2, h3, h4, h5⟩
  | low, (f, l, h) :: r, hk, i + 1, p, e => by
    obtain ⟨h1, h2, h3, h4, h5, h6⟩ := hk
    have ih := longs_get h6 (i := i) (p := p) (by simpa using e)
    refine ⟨?_, ih.2⟩
    have e1 : ((f, l, h) :: r).take (i + 1) = (f, l, h) :: r.take i := rfl
    rw [e1, List.getLast?_cons]
    cases q : (r.take i).getLast? with
    | none =>
      have := ih.1
      rw [q] at this
      simpa using this
    | some z =>
      have := ih.1
      rw [q] at this
      simpa using this
section
variable {P : Program} {w : World} {K : PySem.W.Frag} {mg : Str → Option Value} {base : Heap}
abbrev s_check_places : Stmt := top 21
theorem sc_check_places : FnScope ["places", "ahead", "place"] ["places"] (defScope s_check_places) := ⟨rfl, rfl, rfl, by decide +kernel, rfl, by decide +kernel, by decide +kernel⟩
def spCheckPlaces (K : PySem.W.Frag) (Pt : Addr) : Sp := fun vs H Q _ => ∃ (a : Addr) (xs : List V) (ps : List (Str × Int)), vs = [.ref a] ∧ SqX K H a xs ∧ DpAll K H xs (ps.map dP) ∧ 2 ≤ ps.length ∧ ps.length ≤ 6 ∧
  (∀ p ∈ ps, NameOk p.1 ∧ 1 ≤ p.2 ∧ p.2 ≤ 3) ∧ (ps.map (·.1)).Nodup ∧ TabG H Pt ∧ ∀ H', KT Pt H H' → Q .non H'
theorem ok_check_places {f fL fC Pt : Addr} {fd fdL fdC : FuncData} (F : Fun K "_check_places" "_check_places" s_check_places f fd) (T : Txt mg)
    (Nis_list : Fn K mg "is_list" s_is_list ["thing", "low", "high"] fL fdL) (Gis_list : FnOk P w K mg base CX0 1 fL fdL ["thing", "low", "high"] (spIsList K))
    (Ncheck_place : Fn K mg "_check_place" s_check_place ["place", "ahead"] fC fdC) (Gcheck_place : FnOk P w K mg base CX0 3 fC fdC ["place", "ahead"] (spCheckPlace K Pt)) :
    FnOk P w K mg base CX0 4 f fd ["places"] (spCheckPlaces K Pt) := by
  refine F.ok sc_check_places (fun vs H Q E h => ?_) (fun cdv A outer s H vs Q E hr h => ?_)
  · obtain ⟨a, xs, ps, rfl, _⟩ := h
    rfl
  · obtain ⟨a, xs, ps, rfl, hX, hd, p2, p6, ok, nd, tb, k⟩ := h
    rcases id hX with hL | hT
    · skip
      refine ⟨_, pss_cons (ps_if (pt_not (pt_val (pe_call Gis_list (hr.mono (by decide)) (by rfl) Nis_list.g Nis_list.kp Nis_list.b .nil pass0 (pa_cons (pv 0) (pa_cons pe_int (pa_cons pe_int pa_nil)))))) (pss_one ps_never) pss_nil)
      (pss_cons (ps_set (i := 1) sc_check_places.nd rfl (Or.inl rfl) (pe_lst pa_nil))
      (pss_one (ps_for PassesOwn.never rfl (pi_list (pv 0)) (pg_name (i := 2) sc_check_places.nd rfl (Or.inl rfl)) (pss_cons (ps_expr (pe_call Gcheck_place (hr.mono (by decide)) (by rfl) Ncheck_place.g Ncheck_place.kp Ncheck_place.b .nil pass0 (pa_cons (pv 2) (pa_cons (pv 1) pa_nil))))
          (pss_one (ps_expr (pe_bm PySem.F.plainAttrs_list PySem.F.slot_list_append PySem.F.type_list_append mt_append (pv 1) (pa_cons (pe_ix ix_tup (pv 2) pe_int (fun _ _ => rfl)) pa_nil)))))))), ?_⟩
      refine ⟨_, rfl, a, 2, 6, xs, rfl, hX, fun H1 s1 => ?_⟩
      have el : (xs.length : Int) = (ps.length : Int) := by rw [dpAll_len hd, List.length_map]
      rw [el, show decide ((2 : Int) ≤ (ps.length : Int)) = true from decide_eq_true (by omega), show decide ((ps.length : Int) ≤ 6) = true from decide_eq_true (by omega)]
      refine ⟨_, rfl, iteF ?_⟩
      refine ⟨Nat.zero_le _, fun L hL0 => ?_⟩
      have hLn : H L = none := s1.free hL0
      have kA := (same_kt tb s1).trans (KT.alloc (o := .lst []) (same_kt tb s1).tab hL0)
      have HX := Nt.seq (KT.nt tb kA) hL
      refine ⟨_, rfl, a, rfl, ⟨_, HX⟩, for_list (K := K) (a := a) (xs := xs) (fun i σ H' => ∃ v : Option V, σ = [some (.ref a), some (.ref L), v] ∧ H' L = some (.lst (((ps.take i).map (·.1)).map V.str)) ∧ KT Pt H H')
        ⟨_, rfl, upd_same, kA⟩ (fun i σ H' _ ⟨_, _, _, q⟩ => Nt.seq (KT.nt tb q) hL) ?_ ?_⟩
      · rintro i x σ H2 hx ⟨v, rfl, eL, k2⟩
        obtain ⟨d, hd1, hd2⟩ := dpAll_get hd hx
        obtain ⟨p, hp, rfl⟩ := get_map hd1
        obtain ⟨t, x1, x2, rfl, ht, q1, q2⟩ := dp_two hd2
        obtain rfl := dp_str q1
        obtain rfl := dp_int q2
        have ht2 := Nt.seqT (KT.nt tb k2) ht
        have hpm := List.mem_of_getElem? hp
        obtain ⟨m1, m2, m3⟩ := ok p hpm
        refine ⟨_, rfl, _, rfl, t, L, p.1, p.2, (ps.take i).map (·.1), rfl, ht2, m1, m2, m3, SqL.of eL, fresh_name nd hp, k2.tab, fun H3 k3 => ?_⟩
        have eL3 : H3 L = some (.lst (((ps.take i).map (·.1)).map V.str)) := KT.nt k2.tab k3 L _ (by simp) eL
        have ht3 := Nt.seqT (KT.nt tb (k2.trans k3)) ht
        have nLP : L ≠ Pt := ne_tab k3.tab eL3 (by simp)
        have hi := (List.getElem?_eq_some_iff.mp hp).1
        refine ⟨_, rfl, .inl ⟨rfl, _, SqL.of eL3⟩, _, rfl, t, _, 0, .str p.1, rfl, rfl, ht3, rfl, L, _, _, rfl, rfl, eL3, ?_, ?_⟩
        · rw [List.length_map, List.length_map, List.length_take]
          exact small1000 (by omega)
        · refine ⟨_, rfl, ?_, KT.put (k2.trans k3) hLn nLP⟩
          rw [upd_same, take_at hp, List.map_append, List.map_append]
          rfl
      · rintro σ H2 ⟨v, rfl, eL, k2⟩
        exact k H2 k2
    · skip
      refine ⟨_, pss_cons (ps_if (pt_not (pt_val (pe_call Gis_list (hr.mono (by decide)) (by rfl) Nis_list.g Nis_list.kp Nis_list.b .nil pass0 (pa_cons (pv 0) (pa_cons pe_int (pa_cons pe_int pa_nil)))))) (pss_one ps_never) pss_nil)
      (pss_cons (ps_set (i := 1) sc_check_places.nd rfl (Or.inl rfl) (pe_lst pa_nil))
      (pss_one (ps_for PassesOwn.never rfl (pi_tup (pv 0)) (pg_name (i := 2) sc_check_places.nd rfl (Or.inl rfl)) (pss_cons (ps_expr (pe_call Gcheck_place (hr.mono (by decide)) (by rfl) Ncheck_place.g Ncheck_place.kp Ncheck_place.b .nil pass0 (pa_cons (pv 2) (pa_cons (pv 1) pa_nil))))
          (pss_one (ps_expr (pe_bm PySem.F.plainAttrs_list PySem.F.slot_list_append PySem.F.type_list_append mt_append (pv 1) (pa_cons (pe_ix ix_tup (pv 2) pe_int (fun _ _ => rfl)) pa_nil)))))))), ?_⟩
      refine ⟨_, rfl, a, 2, 6, xs, rfl, hX, fun H1 s1 => ?_⟩
      have el : (xs.length : Int) = (ps.length : Int) := by rw [dpAll_len hd, List.length_map]
      rw [el, show decide ((2 : Int) ≤ (ps.length : Int)) = true from decide_eq_true (by omega), show decide ((ps.length : Int) ≤ 6) = true from decide_eq_true (by omega)]
      refine ⟨_, rfl, iteF ?_⟩
      refine ⟨Nat.zero_le _, fun L hL0 => ?_⟩
      have hLn : H L = none := s1.free hL0
      have kA := (same_kt tb s1).trans (KT.alloc (o := .lst []) (same_kt tb s1).tab hL0)
      have HX := Nt.seqT (KT.nt tb kA) hT
      refine ⟨_, rfl, a, rfl, ⟨_, HX⟩, for_tup (K := K) (a := a) (xs := xs) (fun i σ H' => ∃ v : Option V, σ = [some (.ref a), some (.ref L), v] ∧ H' L = some (.lst (((ps.take i).map (·.1)).map V.str)) ∧ KT Pt H H')
        ⟨_, rfl, upd_same, kA⟩ (fun i σ H' _ ⟨_, _, _, q⟩ => Nt.seqT (KT.nt tb q) hT) ?_ ?_⟩
      · rintro i x σ H2 hx ⟨v, rfl, eL, k2⟩
        obtain ⟨d, hd1, hd2⟩ := dpAll_get hd hx
        obtain ⟨p, hp, rfl⟩ := get_map hd1
        obtain ⟨t, x1, x2, rfl, ht, q1, q2⟩ := dp_two hd2
        obtain rfl := dp_str q1
        obtain rfl := dp_int q2
        have ht2 := Nt.seqT (KT.nt tb k2) ht
        have hpm := List.mem_of_getElem? hp
        obtain ⟨m1, m2, m3⟩ := ok p hpm
        refine ⟨_, rfl, _, rfl, t, L, p.1, p.2, (ps.take i).map (·.1), rfl, ht2, m1, m2, m3, SqL.of eL, fresh_name nd hp, k2.tab, fun H3 k3 => ?_⟩
        have eL3 : H3 L = some (.lst (((ps.take i).map (·.1)).map V.str)) := KT.nt k2.tab k3 L _ (by simp) eL
        have ht3 := Nt.seqT (KT.nt tb (k2.trans k3)) ht
        have nLP : L ≠ Pt := ne_tab k3.tab eL3 (by simp)
        have hi := (List.getElem?_eq_some_iff.mp hp).1
        refine ⟨_, rfl, .inl ⟨rfl, _, SqL.of eL3⟩, _, rfl, t, _, 0, .str p.1, rfl, rfl, ht3, rfl, L, _, _, rfl, rfl, eL3, ?_, ?_⟩
        · rw [List.length_map, List.length_map, List.length_take]
          exact small1000 (by omega)
        · refine ⟨_, rfl, ?_, KT.put (k2.trans k3) hLn nLP⟩
          rw [upd_same, take_at hp, List.map_append, List.map_append]
          rfl
      · rintro σ H2 ⟨v, rfl, eL, k2⟩
        exact k H2 k2
abbrev s_is_stretch_lines : Stmt := top 24
theorem sc_is_stretch_lines : FnScope ["thing", "kind", "home"] ["thing"] (defScope s_is_stretch_lines) := ⟨rfl, rfl, rfl, by decide +kernel, rfl, by decide +kernel, by decide +kernel⟩
def spIsStretch (K : PySem.W.Frag) : Sp := fun vs H Q _ => ∃ (t : Addr) (z : Str) (h : Int), vs = [.ref t] ∧ SqT K H t [.str z, .int h] ∧ (z = "staff" ∨ z = "ticket") ∧ 0 ≤ h ∧ h ≤ 1 ∧ ∀ H', Same H H' → Q (.bl true) H'
theorem ok_is_stretch_lines {f fTu fWh : Addr} {fd fdTu fdWh : FuncData} (F : Fun K "_is_stretch" "_is_stretch" s_is_stretch_lines f fd) (T : Txt mg)
    (Nis_tuple : Fn K mg "is_tuple" s_is_tuple ["thing", "many"] fTu fdTu) (Gis_tuple : FnOk P w K mg base CX0 1 fTu fdTu ["thing", "many"] (spIsTuple K))
    (Nis_whole : Fn K mg "is_whole" sWhole ["thing", "low", "high"] fWh fdWh) (Gis_whole : FnOk P w K mg base CX0 1 fWh fdWh ["thing", "low", "high"] spWhole) :
    FnOk P w K mg base CX0 2 f fd ["thing"] (spIsStretch K) := by
  refine F.ok sc_is_stretch_lines (fun vs H Q E h => ?_) (fun cdv A outer s H vs Q E hr h => ?_)
  · obtain ⟨t, z, h, rfl, _⟩ := h
    rfl
  · obtain ⟨t, z, h, rfl, hT, hz, h0, h1, k⟩ := h
    refine ⟨_, pss_cons (ps_if (pt_not (pt_val (pe_call Gis_tuple (hr.mono (by decide)) (by rfl) Nis_tuple.g Nis_tuple.kp Nis_tuple.b .nil pass0 (pa_cons (pv 0) (pa_cons pe_int pa_nil))))) (pss_one (ps_ret pe_bl)) pss_nil)
      (pss_cons (ps_asg (pv 0) (pg_tup (by rfl) (pgs_cons (pg_name (i := 1) sc_is_stretch_lines.nd rfl (Or.inl rfl)) (pgs_cons (pg_name (i := 2) sc_is_stretch_lines.nd rfl (Or.inl rfl)) pgs_nil))))
      (pss_one (ps_ret (pe_and (pe_cmpR op_in_seq (pv 1) (pe_tup (pa_cons pe_str (pa_cons pe_str pa_nil))) rfl) (pe_one (pe_call Gis_whole (hr.mono (by decide)) (by rfl) Nis_whole.g Nis_whole.kp Nis_whole.b .nil pass0 (pa_cons (pv 2) (pa_cons pe_int (pa_cons pe_int pa_nil))))))))), ?_⟩
    refine ⟨_, rfl, t, 2, _, rfl, hT, _, rfl, iteF ?_⟩
    refine ⟨_, rfl, t, _, rfl, hT, rfl, _, _, rfl, _, _, rfl, rfl, ?_⟩
    refine ⟨_, rfl, (by show 2 ≤ sizeLine; decide), fun u hu => ?_⟩
    have e := same_alloc (o := .tup [.str "staff", .str "ticket"]) hu
    refine ⟨u, _, rfl, .inr (SqT.of upd_same), rfl, rfl, _, rfl, ?_⟩
    have ei : inV (.str z) [.str "staff", .str "ticket"] = true := by
      rcases hz with rfl | rfl <;> decide +kernel
    show if inV (.str z) [.str "staff", .str "ticket"] = true then _ else _
    rw [ei]
    refine iteT ?_
    refine ⟨_, rfl, .int h, 0, 1, rfl, .int h, ?_⟩
    have e2 : wh 0 1 (.int h) = true := by simp [wh, h0, h1]
    rw [e2]
    exact k _ e
abbrev s_check_stretches : Stmt := top 23
theorem sc_check_stretches : FnScope ["stretches", "many", "stretch"] ["stretches", "many"] (defScope s_check_stretches) := ⟨rfl, rfl, rfl, by decide +kernel, rfl, by decide +kernel, by decide +kernel⟩
def spCheckStretches (K : PySem.W.Frag) : Sp := fun vs H Q _ => ∃ (a : Addr) (n : Int) (xs : List V) (st : List (Str × Int)), vs = [.ref a, .int n] ∧ SqX K H a xs ∧ DpAll K H xs (st.map dP) ∧ n = st.length ∧
  (∀ p ∈ st, (p.1 = "staff" ∨ p.1 = "ticket") ∧ 0 ≤ p.2 ∧ p.2 ≤ 1) ∧ ∀ H', Same H H' → Q .non H'
theorem ok_check_stretches {f fL fC : Addr} {fd fdL fdC : FuncData} (F : Fun K "_check_stretches" "_check_stretches" s_check_stretches f fd) (T : Txt mg)
    (Nis_list : Fn K mg "is_list" s_is_list ["thing", "low", "high"] fL fdL) (Gis_list : FnOk P w K mg base CX0 1 fL fdL ["thing", "low", "high"] (spIsList K))
    (Nis_stretch_lines : FnA K mg "is_stretch_lines" "_is_stretch" s_is_stretch_lines ["thing"] fC fdC) (Gis_stretch_lines : FnOk P w K mg base CX0 2 fC fdC ["thing"] (spIsStretch K)) :
    FnOk P w K mg base CX0 3 f fd ["stretches", "many"] (spCheckStretches K) := by
  refine F.ok sc_check_stretches (fun vs H Q E h => ?_) (fun cdv A outer s H vs Q E hr h => ?_)
  · obtain ⟨a, n, xs, st, rfl, _⟩ := h
    rfl
  · obtain ⟨a, n, xs, st, rfl, hX, hd, hn, ok, k⟩ := h
    rcases id hX with hL | hT
    · skip
      refine ⟨_, pss_cons (ps_if (pt_not (pt_val (pe_call Gis_list (hr.mono (by decide)) (by rfl) Nis_list.g Nis_list.kp Nis_list.b .nil pass0 (pa_cons (pv 0) (pa_cons (pv 1) (pa_cons (pv 1) pa_nil)))))) (pss_one ps_never) pss_nil)
      (pss_one (ps_for PassesOwn.never rfl (pi_list (pv 0)) (pg_name (i := 2) sc_check_stretches.nd rfl (Or.inl rfl)) (pss_one (ps_if (pt_not (pt_val (pe_call Gis_stretch_lines (hr.mono (by decide)) (by rfl) Nis_stretch_lines.g Nis_stretch_lines.kp Nis_stretch_lines.b .nil pass0 (pa_cons (pv 2) pa_nil)))) (pss_one ps_never) pss_nil)))), ?_⟩
      refine ⟨_, rfl, _, rfl, _, rfl, a, n, n, xs, rfl, hX, fun H1 s1 => ?_⟩
      have el : (xs.length : Int) = n := by rw [dpAll_len hd, List.length_map, hn]
      rw [el, show decide (n ≤ n) = true from decide_eq_true (Int.le_refl n)]
      refine ⟨_, rfl, iteF ?_⟩
      refine ⟨_, rfl, a, rfl, ⟨_, Nt.seq (same_nt s1) hL⟩, for_list (K := K) (a := a) (xs := xs) (fun i σ H' => ∃ v : Option V, σ = [some (.ref a), some (.int n), v] ∧ Same H H')
        ⟨_, rfl, s1⟩ (fun i σ H' _ ⟨_, _, q⟩ => Nt.seq (same_nt q) hL) ?_ ?_⟩
      · rintro i x σ H2 hx ⟨v, rfl, k2⟩
        obtain ⟨d, hd1, hd2⟩ := dpAll_get hd hx
        obtain ⟨p, hp, rfl⟩ := get_map hd1
        obtain ⟨t, x1, x2, rfl, ht, q1, q2⟩ := dp_two hd2
        obtain rfl := dp_str q1
        obtain rfl := dp_int q2
        obtain ⟨m1, m2, m3⟩ := ok p (List.mem_of_getElem? hp)
        exact ⟨_, rfl, t, p.1, p.2, rfl, Nt.seqT (same_nt k2) ht, m1, m2, m3, fun H3 k3 => ⟨_, rfl, iteF ⟨_, rfl, k2.trans k3⟩⟩⟩
      · rintro σ H2 ⟨v, rfl, k2⟩
        exact k H2 k2
    · skip
      refine ⟨_, pss_cons (ps_if (pt_not (pt_val (pe_call Gis_list (hr.mono (by decide)) (by rfl) Nis_list.g Nis_list.kp Nis_list.b .nil pass0 (pa_cons (pv 0) (pa_cons (pv 1) (pa_cons (pv 1) pa_nil)))))) (pss_one ps_never) pss_nil)
      (pss_one (ps_for PassesOwn.never rfl (pi_tup (pv 0)) (pg_name (i := 2) sc_check_stretches.nd rfl (Or.inl rfl)) (pss_one (ps_if (pt_not (pt_val (pe_call Gis_stretch_lines (hr.mono (by decide)) (by rfl) Nis_stretch_lines.g Nis_stretch_lines.kp Nis_stretch_lines.b .nil pass0 (pa_cons (pv 2) pa_nil)))) (pss_one ps_never) pss_nil)))), ?_⟩
      refine ⟨_, rfl, _, rfl, _, rfl, a, n, n, xs, rfl, hX, fun H1 s1 => ?_⟩
      have el : (xs.length : Int) = n := by rw [dpAll_len hd, List.length_map, hn]
      rw [el, show decide (n ≤ n) = true from decide_eq_true (Int.le_refl n)]
      refine ⟨_, rfl, iteF ?_⟩
      refine ⟨_, rfl, a, rfl, ⟨_, Nt.seqT (same_nt s1) hT⟩, for_tup (K := K) (a := a) (xs := xs) (fun i σ H' => ∃ v : Option V, σ = [some (.ref a), some (.int n), v] ∧ Same H H')
        ⟨_, rfl, s1⟩ (fun i σ H' _ ⟨_, _, q⟩ => Nt.seqT (same_nt q) hT) ?_ ?_⟩
      · rintro i x σ H2 hx ⟨v, rfl, k2⟩
        obtain ⟨d, hd1, hd2⟩ := dpAll_get hd hx
        obtain ⟨p, hp, rfl⟩ := get_map hd1
        obtain ⟨t, x1, x2, rfl, ht, q1, q2⟩ := dp_two hd2
        obtain rfl := dp_str q1
        obtain rfl := dp_int q2
        obtain ⟨m1, m2, m3⟩ := ok p (List.mem_of_getElem? hp)
        exact ⟨_, rfl, t, p.1, p.2, rfl, Nt.seqT (same_nt k2) ht, m1, m2, m3, fun H3 k3 => ⟨_, rfl, iteF ⟨_, rfl, k2.trans k3⟩⟩⟩
      · rintro σ H2 ⟨v, rfl, k2⟩
        exact k H2 k2
abbrev s_is_long_lines : Stmt := top 27
theorem sc_is_long_lines : FnScope ["thing", "low", "top", "first", "last", "home"] ["thing", "low", "top"] (defScope s_is_long_lines) := ⟨rfl, rfl, rfl, by decide +kernel, rfl, by decide +kernel, by decide +kernel⟩
def spIsLong (K : PySem.W.Frag) : Sp := fun vs H Q _ => ∃ (t : Addr) (f l h low tp : Int), vs = [.ref t, .int low, .int tp] ∧ SqT K H t [.int f, .int l, .int h] ∧ low ≤ f ∧ f + 2 ≤ l ∧ l ≤ tp ∧ 0 ≤ h ∧ h ≤ 1 ∧ Q (.bl true) H
theorem ok_is_long_lines {f fTu fWh : Addr} {fd fdTu fdWh : FuncData} (F : Fun K "_is_long" "_is_long" s_is_long_lines f fd) (T : Txt mg)
    (Nis_tuple : Fn K mg "is_tuple" s_is_tuple ["thing", "many"] fTu fdTu) (Gis_tuple : FnOk P w K mg base CX0 1 fTu fdTu ["thing", "many"] (spIsTuple K))
    (Nis_whole : Fn K mg "is_whole" sWhole ["thing", "low", "high"] fWh fdWh) (Gis_whole : FnOk P w K mg base CX0 1 fWh fdWh ["thing", "low", "high"] spWhole) :
    FnOk P w K mg base CX0 2 f fd ["thing", "low", "top"] (spIsLong K) := by
  refine F.ok sc_is_long_lines (fun vs H Q E h => ?_) (fun cdv A outer s H vs Q E hr h => ?_)
  · obtain ⟨t, fi, la, h, low, tp, rfl, _⟩ := h
    rfl
  · obtain ⟨t, fi, la, h, low, tp, rfl, hT, a1, a2, a3, a4, a5, k⟩ := h
    refine ⟨_, pss_cons (ps_if (pt_not (pt_val (pe_call Gis_tuple (hr.mono (by decide)) (by rfl) Nis_tuple.g Nis_tuple.kp Nis_tuple.b .nil pass0 (pa_cons (pv 0) (pa_cons pe_int pa_nil))))) (pss_one (ps_ret pe_bl)) pss_nil)
      (pss_cons (ps_asg (pv 0) (pg_tup (by rfl) (pgs_cons (pg_name (i := 3) sc_is_long_lines.nd rfl (Or.inl rfl)) (pgs_cons (pg_name (i := 4) sc_is_long_lines.nd rfl (Or.inl rfl)) (pgs_cons (pg_name (i := 5) sc_is_long_lines.nd rfl (Or.inl rfl)) pgs_nil)))))
      (pss_one (ps_ret (pe_and (pe_call Gis_whole (hr.mono (by decide)) (by rfl) Nis_whole.g Nis_whole.kp Nis_whole.b .nil pass0 (pa_cons (pv 3) (pa_cons (pv 1) (pa_cons (pv 2) pa_nil)))) (pe_and (pe_call Gis_whole (hr.mono (by decide)) (by rfl) Nis_whole.g Nis_whole.kp Nis_whole.b .nil pass0 (pa_cons (pv 4) (pa_cons (pe_op op_add (pv 3) pe_int) (pa_cons (pv 2) pa_nil)))) (pe_one (pe_call Gis_whole (hr.mono (by decide)) (by rfl) Nis_whole.g Nis_whole.kp Nis_whole.b .nil pass0 (pa_cons (pv 5) (pa_cons pe_int (pa_cons pe_int pa_nil)))))))))), ?_⟩
    refine ⟨_, rfl, t, 3, _, rfl, hT, _, rfl, iteF ?_⟩
    refine ⟨_, rfl, t, _, rfl, hT, rfl, _, _, rfl, _, _, rfl, _, _, rfl, rfl, ?_⟩
    refine ⟨_, rfl, _, rfl, _, rfl, .int fi, low, tp, rfl, .int fi, ?_⟩
    rw [show wh low tp (.int fi) = true by simp [wh]; omega]
    refine ⟨_, rfl, iteT ?_⟩
    refine ⟨_, rfl, _, rfl, _, _, rfl, rfl, _, rfl, .int la, fi + 2, tp, rfl, .int la, ?_⟩
    rw [show wh (fi + 2) tp (.int la) = true by simp [wh]; omega]
    refine ⟨_, rfl, iteT ?_⟩
    refine ⟨_, rfl, .int h, 0, 1, rfl, .int h, ?_⟩
    rw [show wh 0 1 (.int h) = true by simp [wh]; omega]
    exact k
abbrev s_check_longs : Stmt := top 26
theorem sc_check_longs : FnScope ["longs", "top", "low", "long"] ["longs", "top"] (defScope s_check_longs) := ⟨rfl, rfl, rfl, by decide +kernel, rfl, by decide +kernel, by decide +kernel⟩
def spCheckLongs (K : PySem.W.Frag) : Sp := fun vs H Q _ => ∃ (a : Addr) (tp : Int) (xs : List V) (lo : List (Int × Int × Int)), vs = [.ref a, .int tp] ∧ SqX K H a xs ∧ DpAll K H xs (lo.map dL) ∧ lo.length ≤ 2 ∧ longsOk tp 0 lo ∧ ∀ H', Same H H' → Q .non H'
def lastOf (lo : List (Int × Int × Int)) (i : Nat) : Int := ((lo.take i).getLast?.map fun q => q.2.1).getD 0
theorem ok_check_longs {f fL fC : Addr} {fd fdL fdC : FuncData} (F : Fun K "_check_longs" "_check_longs" s_check_longs f fd) (T : Txt mg)
    (Nis_list : Fn K mg "is_list" s_is_list ["thing", "low", "high"] fL fdL) (Gis_list : FnOk P w K mg base CX0 1 fL fdL ["thing", "low", "high"] (spIsList K))
    (Nis_long_lines : FnA K mg "is_long_lines" "_is_long" s_is_long_lines ["thing", "low", "top"] fC fdC) (Gis_long_lines : FnOk P w K mg base CX0 2 fC fdC ["thing", "low", "top"] (spIsLong K)) :
    FnOk P w K mg base CX0 3 f fd ["longs", "top"] (spCheckLongs K) := by
  refine F.ok sc_check_longs (fun vs H Q E h => ?_) (fun cdv A outer s H vs Q E hr h => ?_)
  · obtain ⟨a, n, xs, st, rfl, _⟩ := h
    rfl
  · obtain ⟨a, tp, xs, lo, rfl, hX, hd, l2, ok, k⟩ := h
    rcases id hX with hL | hT
    · skip
      refine ⟨_, pss_cons (ps_if (pt_not (pt_val (pe_call Gis_list (hr.mono (by decide)) (by rfl) Nis_list.g Nis_list.kp Nis_list.b .nil pass0 (pa_cons (pv 0) (pa_cons pe_int (pa_cons pe_int pa_nil)))))) (pss_one ps_never) pss_nil)
      (pss_cons (ps_set (i := 2) sc_check_longs.nd rfl (Or.inl rfl) pe_int)
      (pss_one (ps_for PassesOwn.never rfl (pi_list (pv 0)) (pg_name (i := 3) sc_check_longs.nd rfl (Or.inl rfl)) (pss_cons (ps_if (pt_not (pt_val (pe_call Gis_long_lines (hr.mono (by decide)) (by rfl) Nis_long_lines.g Nis_long_lines.kp Nis_long_lines.b .nil pass0 (pa_cons (pv 3) (pa_cons (pv 2) (pa_cons (pv 1) pa_nil)))))) (pss_one ps_never) pss_nil)
          (pss_one (ps_set (i := 2) sc_check_longs.nd rfl (Or.inl rfl) (pe_ix ix_tup (pv 3) pe_int (fun _ _ => rfl)))))))), ?_⟩
      refine ⟨_, rfl, a, 0, 2, xs, rfl, hX, fun H1 s1 => ?_⟩
      have el : (xs.length : Int) = (lo.length : Int) := by rw [dpAll_len hd, List.length_map]
      rw [el, show decide ((0 : Int) ≤ (lo.length : Int)) = true from decide_eq_true (by omega), show decide ((lo.length : Int) ≤ 2) = true from decide_eq_true (by omega)]
      refine ⟨_, rfl, iteF ?_⟩
      refine ⟨_, rfl, a, rfl, ⟨_, Nt.seq (same_nt s1) hL⟩, for_list (K := K) (a := a) (xs := xs) (fun i σ H' => ∃ v : Option V, σ = [some (.ref a), some (.int tp), some (.int (lastOf lo i)), v] ∧ Same H H')
        ⟨_, rfl, s1⟩ (fun i σ H' _ ⟨_, _, q⟩ => Nt.seq (same_nt q) hL) ?_ ?_⟩
      · rintro i x σ H2 hx ⟨v, rfl, k2⟩
        obtain ⟨d, hd1, hd2⟩ := dpAll_get hd hx
        obtain ⟨p, hp, rfl⟩ := get_map hd1
        obtain ⟨t, x1, x2, x3, rfl, ht, q1, q2, q3⟩ := dp_three hd2
        obtain rfl := dp_int q1
        obtain rfl := dp_int q2
        obtain rfl := dp_int q3
        obtain ⟨m1, m2, m3, m4, m5⟩ := longs_get ok hp
        have ht2 := Nt.seqT (same_nt k2) ht
        refine ⟨_, rfl, _, rfl, _, rfl, t, _, _, _, _, _, rfl, ht2, m1, m2, m3, m4, m5, _, rfl, iteF ?_⟩
        refine ⟨_, rfl, t, _, 1, .int p.2.1, rfl, rfl, ht2, rfl, some (.ref t), ?_, k2⟩
        have e : lastOf lo (i + 1) = p.2.1 := by
          unfold lastOf
          rw [take_at hp, List.getLast?_append]
          simp
        rw [e]
        rfl
      · rintro σ H2 ⟨v, rfl, k2⟩
        exact k H2 k2
    · skip
      refine ⟨_, pss_cons (ps_if (pt_not (pt_val (pe_call Gis_list (hr.mono (by decide)) (by rfl) Nis_list.g Nis_list.kp Nis_list.b .nil pass0 (pa_cons (pv 0) (pa_cons pe_int (pa_cons pe_int pa_nil)))))) (pss_one ps_never) pss_nil)
      (pss_cons (ps_set (i := 2) sc_check_longs.nd rfl (Or.inl rfl) pe_int)
      (pss_one (ps_for PassesOwn.never rfl (pi_tup (pv 0)) (pg_name (i := 3) sc_check_longs.nd rfl (Or.inl rfl)) (pss_cons (ps_if (pt_not (pt_val (pe_call Gis_long_lines (hr.mono (by decide)) (by rfl) Nis_long_lines.g Nis_long_lines.kp Nis_long_lines.b .nil pass0 (pa_cons (pv 3) (pa_cons (pv 2) (pa_cons (pv 1) pa_nil)))))) (pss_one ps_never) pss_nil)
          (pss_one (ps_set (i := 2) sc_check_longs.nd rfl (Or.inl rfl) (pe_ix ix_tup (pv 3) pe_int (fun _ _ => rfl)))))))), ?_⟩
      refine ⟨_, rfl, a, 0, 2, xs, rfl, hX, fun H1 s1 => ?_⟩
      have el : (xs.length : Int) = (lo.length : Int) := by rw [dpAll_len hd, List.length_map]
      rw [el, show decide ((0 : Int) ≤ (lo.length : Int)) = true from decide_eq_true (by omega), show decide ((lo.length : Int) ≤ 2) = true from decide_eq_true (by omega)]
      refine ⟨_, rfl, iteF ?_⟩
      refine ⟨_, rfl, a, rfl, ⟨_, Nt.seqT (same_nt s1) hT⟩, for_tup (K := K) (a := a) (xs := xs) (fun i σ H' => ∃ v : Option V, σ = [some (.ref a), some (.int tp), some (.int (lastOf lo i)), v] ∧ Same H H')
        ⟨_, rfl, s1⟩ (fun i σ H' _ ⟨_, _, q⟩ => Nt.seqT (same_nt q) hT) ?_ ?_⟩
      · rintro i x σ H2 hx ⟨v, rfl, k2⟩
        obtain ⟨d, hd1, hd2⟩ := dpAll_get hd hx
        obtain ⟨p, hp, rfl⟩ := get_map hd1
        obtain ⟨t, x1, x2, x3, rfl, ht, q1, q2, q3⟩ := dp_three hd2
        obtain rfl := dp_int q1
        obtain rfl := dp_int q2
        obtain rfl := dp_int q3
        obtain ⟨m1, m2, m3, m4, m5⟩ := longs_get ok hp
        have ht2 := Nt.seqT (same_nt k2) ht
        refine ⟨_, rfl, _, rfl, _, rfl, t, _, _, _, _, _, rfl, ht2, m1, m2, m3, m4, m5, _, rfl, iteF ?_⟩
        refine ⟨_, rfl, t, _, 1, .int p.2.1, rfl, rfl, ht2, rfl, some (.ref t), ?_, k2⟩
        have e : lastOf lo (i + 1) = p.2.1 := by
          unfold lastOf
          rw [take_at hp, List.getLast?_append]
          simp
        rw [e]
        rfl
      · rintro σ H2 ⟨v, rfl, k2⟩
        exact k H2 k2
end
end K7

set_option maxRecDepth 100000
set_option maxHeartbeats 4000000
/-! enumerate(a tuple) -/
namespace My
open PySem PySem.Spec PyProof.Rows L2
open Builtin in
set_option maxHeartbeats 1000000 in
theorem meets_enum_of {v : Value} {o : Obj} {H : Heap → Prop} (B : Begins v o H) :
    Meets (Builtin.«enumerate.__new__» ⟨[.type "enumerate", v], []⟩) (fun _ R s => H s.heap ∧
      R (.ok (.ret (.ref (s.heap.push o).objs.size))) { s with heap := (s.heap.push o).push { cls := .type "enumerate", data := .fields #[.none, .bool false, .ref s.heap.objs.size, rawInt 0, .none, .none] } }) :=
  .of_wp fun prog w A R s hh => by
    obtain ⟨hp, g, d, tk, os⟩ := s
    obtain ⟨hB, hR⟩ := hh
    have hsub := sub_enumerate
    have it1 : ∀ {A' : Around} {E : Value → Shared → Prop} {Q : Value → Shared → Prop}, Q (.ref hp.objs.size) ⟨hp.push o, g, d, tk, os⟩ → wpAny (model prog w) A' (pyIter v) Q E ⟨hp, g, d, tk, os⟩ :=
      fun z => B.iter prog w _ _ ⟨hp, g, d, tk, os⟩ _ hB z
    wp_walk using it1
    refine wpAny_stack_any fun st => wpAny_pure ?_
    split
    · rename_i c _ _ _ _ _
      cases (c == Value.type "enumerate") <;> (wp_walk using it1; exact ⟨_, rfl, hR⟩)
    · wp_walk using it1
      exact ⟨_, rfl, hR⟩
theorem call_enum_tuple {prog : Program} {w : World} {A : Around} {E : Value → Shared → Prop} {s : Shared} {a : Addr} {items : Array Value} {Q : Value → Shared → Prop} (ht : s.heap.IsTuple a items)
    (h : ∀ h', IsEnum h' (s.heap.objs.size + 1) s.heap.objs.size 0 .none → h'.IsTupleIter s.heap.objs.size a 0 → (∀ b o, s.heap.get? b = some o → h'.get? b = some o) →
      Q (.ref (s.heap.objs.size + 1)) { s with heap := h' }) : wpAny (model prog w) A (call (.type "enumerate") [.ref a]) Q E s := by
  refine callType_new F.called_enumerate (by decide) (F.typeCall_enumerate_1 _) (F.newCall_enumerate_1 _) (fun obj => F.args_object_init_2 obj _) F.entry_enumerate_new (meets_enum_of (begins_tuple a items)) ⟨ht, ?_⟩
  have z1 : (s.heap.push { cls := .type "tuple_iterator", data := .fields #[.ref a, .int 0 0] }).objs.size = s.heap.objs.size + 1 := Heap.size_push ..
  have ge := Heap.get?_push_size (s.heap.push { cls := .type "tuple_iterator", data := .fields #[.ref a, .int 0 0] }) (o := { cls := .type "enumerate", data := .fields #[.none, .bool false, .ref s.heap.objs.size, rawInt 0, .none, .none] }) rfl
  rw [z1] at ge
  show _ ∧ _
  rw [z1]
  exact ⟨⟨_, ge, rfl⟩, h _ ge ⟨_, Heap.get?_push_of_some _ (Heap.get?_push_size _ rfl), rfl, rfl⟩ fun b o x => Heap.get?_push_of_some _ (Heap.get?_push_of_some _ x)⟩
/-- the tuple at a, each item in a new pair with its number -/
def IteT (K : PySem.W.Frag) (a : Addr) : It :=
  ⟨fun i H => ∃ (xs : List V) (x : V), SqT K H a xs ∧ xs[i]? = some x,
   fun i H v H' => ∃ T x, v = .ref T ∧ H T = none ∧ H' = upd H T (.tup [.int (i : Nat), x]) ∧ ∀ xs, SqT K H a xs → xs[i]? = some x,
   fun i H => ∃ xs : List V, SqT K H a xs ∧ xs.length ≤ i⟩
theorem turn_enumT {P : Program} {w : World} {K : PySem.W.Frag} {elts : List Expr} {kk : Nat} {tp : Pos} (a e it : Addr) :
    Turn P w K (.Tuple elts kk tp) (IteT K a) [e, it] e (fun i h => (∃ old, IsEnum h e it ((i : Nat) : Int) old) ∧ h.IsTupleIter it a i ∧ e ≠ it) := by
  have two : ∀ {b : Addr}, b ∈ [e, it] → b = e ∨ b = it := fun {b} hb => by simpa using hb
  constructor
  case mem => exact List.mem_cons_self
  case obj =>
    rintro i h ⟨⟨old, he⟩, ⟨o, ho, hc, hd⟩, hne⟩ b hb
    rcases two hb with rfl | rfl
    · exact ⟨_, he, fun v q => nomatch q⟩
    · exact ⟨o, ho, fun v q => by rw [hd] at q; cases q⟩
  case keep =>
    rintro i h h' ⟨⟨old, he⟩, ⟨o, ho, r⟩, hne⟩ k
    exact ⟨⟨old, k e List.mem_cons_self _ he⟩, ⟨o, k it (by simp) _ ho, r⟩, hne⟩
  case self =>
    rintro A i s Q E ⟨⟨_, he⟩, _⟩ hQ
    exact wpAny_pyIter_enum he hQ
  case item =>
    rintro X rfl rfl rfl hc i pins s σ H E I hf ⟨⟨old, he⟩, hit, hne⟩ ⟨xs, x, hq, hx⟩
    obtain ⟨its, rv, p, hz⟩ := I.tuple hq
    have pt : s.heap.IsTuple a its.toArray := let ⟨o, h1, h2, n, h3⟩ := p; ⟨o, h1, h2, n, h3⟩
    obtain ⟨u, hu, ru⟩ := rv.get hx
    have hi : i < its.toArray.size := by
      have := (List.getElem?_eq_some_iff.mp hu).1
      simpa using this
    have ane : a ≠ it := by
      rintro rfl
      obtain ⟨o1, h1, h2, _⟩ := hit
      obtain ⟨o2, h3, h4, _⟩ := pt
      rw [h1] at h3
      cases h3
      rw [h2] at h4
      simp at h4
    have aee : a ≠ e := by
      rintro rfl
      obtain ⟨o2, h3, h4, _⟩ := pt
      have h1 : s.heap.get? a = some _ := he
      rw [h1] at h3
      cases h3
      simp at h4
    have le : e < s.heap.objs.size := Heap.lt_size he
    have li : it < s.heap.objs.size := by
      obtain ⟨_, q, _⟩ := hit
      exact Heap.lt_size q
    have D := Draws.tuple (prog := X.prog) (w := X.w) (A := X.A.in1) (show X.A.in1.handled = none from I.ok.hd hc) it a ane its.toArray
    refine wpAny_pyNext_enum_itemD D he ⟨hit, pt⟩ hi hne (fun z => ?_) fun y h' tk hy ho hst hT hsz hk => ?_
    · rcases List.mem_cons.mp z with z | z
      · exact hne z
      · exact aee (List.mem_singleton.mp z).symm
    · have ey : y = u := by
        have z : its.toArray[i]? = some u := by simpa using hu
        exact Option.some.inj (hy.symm.trans z)
      subst ey
      refine ⟨_, rfl, wpAny_letOwnedTupleGo_enum (s := { s with heap := h', toks := tk + 1 }) ho fun h2 he2 sb => ?_⟩
      have hT2 : h2.get? s.heap.objs.size = some { cls := .type "tuple", data := .seq #[.int i tk, y] } := (sb.2 _ (Nat.ne_of_gt le)).trans hT
      have new : ObjOk X.prog X.w (upd H s.heap.objs.size (.tup [.int (i : Nat), x])) h2 s.heap.objs.size (.tup [.int (i : Nat), x]) :=
        ⟨(by show 2 ≤ sizeLine; decide), [.int i tk, y], .cons ⟨_, rfl⟩ (.cons ru .nil), ⟨_, hT2, rfl, _, rfl⟩⟩
      have I1 := I.turnedNew (t' := tk + 1) (ch := [e, it]) (h' := h2) (fun b o hb q => (sb.2 b (fun z => hb (by simp [z]))).trans (hk b o (fun z => hb (by simp [z])) (fun z => hb (by simp [z])) q)) hf (Nat.le_refl _) new
      refine ⟨.ref s.heap.objs.size, _, I1, rfl, ⟨_, x, rfl, I.hok.fresh (Nat.le_refl _), rfl, fun ys hy => by rw [I.tuple_inj hy hq]; exact hx⟩, ⟨⟨y, ?_⟩, ?_, hne⟩, fun b hb => ?_⟩
      · have e1 : ((i + 1 : Nat) : Int) = (i : Int) + 1 := by omega
        rw [e1]
        exact he2
      · obtain ⟨o, q1, q2⟩ := hst.1
        exact ⟨o, (sb.2 it (Ne.symm hne)).trans q1, q2⟩
      · have lb : b < s.heap.objs.size := by
          rcases two hb with rfl | rfl
          · exact le
          · exact li
        rw [upd_ne (Nat.ne_of_lt lb)]
        exact (hf b hb).1
  case done =>
    rintro X rfl rfl rfl hc i pins s σ H E I hf ⟨⟨old, he⟩, hit, hne⟩ ⟨xs, hq, hx⟩
    obtain ⟨its, rv, p, hz⟩ := I.tuple hq
    have pt : s.heap.IsTuple a its.toArray := let ⟨o, h1, h2, n, h3⟩ := p; ⟨o, h1, h2, n, h3⟩
    have ane : a ≠ it := by
      rintro rfl
      obtain ⟨o1, h1, h2, _⟩ := hit
      obtain ⟨o2, h3, h4, _⟩ := pt
      rw [h1] at h3
      cases h3
      rw [h2] at h4
      simp at h4
    obtain ⟨f0, f1, f2, f3, f4, f5⟩ := hf it (by simp)
    have hl := rv.length
    -- at the end the place is not told by Draws (it stands at any i ≥ the size): the library's end of a tuple's iterator
    have D : Draws X.prog X.w X.A.in1 it [it, a] i (fun _ _ => False) (fun j h => j = i ∧ h.IsTupleIter it a i ∧ h.IsTuple a its.toArray) := by
      constructor
      case live => rintro j h ⟨_, ⟨o, ho, _⟩, _⟩; exact ⟨o, ho⟩
      case frame => rintro j h h' ⟨ej, st1, st2⟩ hk; exact ⟨ej, st1.at fun o e => hk it (by simp) o e, st2.at fun o e => hk a (by simp) o e⟩
      case item => rintro j s Q E hj ⟨ej, _⟩ _; exact absurd hj (by omega)
      case done => rintro s Q E ⟨_, st1, st2⟩ hE; exact wpAny_nextOf_tuple_end (show X.A.in1.handled = none from I.ok.hd hc) st1 st2 (by simp; omega) hE
    exact wpAny_pyNext_enum_endD D he ⟨rfl, hit, pt⟩ fun h' eb => ⟨rfl, I.turned (t' := s.toks) (fun b o hb q => eb b o hb q) f0 f1 f3 f4 f5⟩
def iEnumT (K : PySem.W.Frag) (ta : TA) : TI := fun σ H R => ta σ H fun vs H1 => ∃ a xs, vs = [.ref a] ∧ SqT K H1 a xs ∧ R (IteT K a) H1
theorem pi_enumT {X : Cx} {e : Expr} {ta : TA} {p pos tp : Pos} {elts : List Expr} {kk : Nat} (hg : Gl X "enumerate") (hm : X.mg "enumerate" = none) (ha : PA X [e] ta) (hs : starEach [e] X.env = [(false, eval e X.env)] := by rfl) :
    PI X (.Tuple elts kk tp) (.Call (.Name "enumerate" p) [e] [] pos) (iEnumT X.K ta) := by
  refine ⟨fun pins s σ H R I h => Call_ (ld_blt I hg hm boot_enumerate (PyProof.Rows.callWith_type1 (thn (ha.run pos pins s σ H _ I h) ?_) hs rfl))⟩
  rintro us s1 ⟨vs, H1, I1, r1, a, xs, rfl, hq, q⟩
  cases r1 with
  | cons r rr =>
    cases rr
    cases r
    obtain ⟨its, rv, p, hz⟩ := I1.tuple hq
    have pt : s1.heap.IsTuple a its.toArray := let ⟨o, h1, h2, n, h3⟩ := p; ⟨o, h1, h2, n, h3⟩
    refine call_enum_tuple pt fun h' he hit hk => wpAny_pyIter_enum he ?_
    have I2 : Inv X pins σ H1 { s1 with heap := h' } := I1.kept (t' := s1.toks) hk
    refine ⟨s1.heap.objs.size + 1, [s1.heap.objs.size + 1, s1.heap.objs.size], _, _, H1, rfl, I2, turn_enumT a (s1.heap.objs.size + 1) s1.heap.objs.size, ⟨⟨.none, he⟩, hit, Nat.succ_ne_self _⟩, fun b hb => ?_, q⟩
    have lb : s1.heap.objs.size ≤ b := by
      have e' : b = s1.heap.objs.size + 1 ∨ b = s1.heap.objs.size := by simpa using hb
      rcases e' with z | z
      · rw [z]; exact Nat.le_add_right _ _
      · rw [z]; exact Nat.le_refl _
    exact I1.fpOk lb (I1.hok.fresh lb)
theorem walk_enumT {K : PySem.W.Frag} {a : Addr} {xs : List V} : Walk (IteT K a) xs.length (fun H => SqT K H a xs) (YPair (fun i => some (.int (i : Nat))) (fun i => xs[i]?)) := by
  refine ⟨fun i _ hi q => ⟨xs, xs[i], q, by simp [hi]⟩, fun _ q => ⟨xs, q, Nat.le_refl _⟩, ?_⟩
  rintro i H v H' _ q ⟨T, x, h1, h2, h3, h4⟩
  exact ⟨T, .int (i : Nat), x, h1, h2, h3, rfl, h4 xs q⟩
/-- a dict comprehension over a walk -/
theorem dc_it {J : It} {n : Nat} {G : Hp → Prop} {Y : Nat → Hp → V → Hp → Prop} (w : Walk J n G Y) {g : TG} {tt : TT} {tk tv : TE} {vs : List Nat} {σ : L2.St} {H1 : Hp} {D : Addr} {Qd : Hp → Prop} (Pv : Nat → Hp → Prop) (h0 : Pv 0 (upd H1 D (.dK [])))
    (hG : ∀ i H, i ≤ n → Pv i H → G H)
    (hs : ∀ i x H H', i < n → Pv i H → Y i H x H' → g x (wipe σ vs) H' fun σ2 H2 => wipe σ2 vs = wipe σ vs ∧ tt σ2 H2 fun b H3 =>
      if b = true then tk σ2 H3 fun y H4 => tv σ2 H4 fun z H5 => ∃ kvs k, y = kV k ∧ H5 D = some (.dK kvs) ∧ kvs.length < sizeLine ∧ Pv (i + 1) (upd H5 D (.dK (putK kvs k z))) else Pv (i + 1) H3) (hd : ∀ H, Pv n H → Qd H) :
    ∃ W : Nat → Nat → Hp → Prop, (∃ m, W 0 m (upd H1 D (.dK []))) ∧ ∀ i m H, W i m H →
      (J.stop i H ∧ Qd H) ∨ (J.go i H ∧ ∃ Nx : Hp → Prop, (∀ H', Nx H' → ∃ m', m' < m ∧ W (i + 1) m' H') ∧ ∀ x H', J.yld i H x H' → g x (wipe σ vs) H' fun σ2 H2 => wipe σ2 vs = wipe σ vs ∧ tt σ2 H2 fun b H3 =>
        if b = true then tk σ2 H3 fun y H4 => tv σ2 H4 fun z H5 => ∃ kvs k, y = kV k ∧ H5 D = some (.dK kvs) ∧ kvs.length < sizeLine ∧ Nx (upd H5 D (.dK (putK kvs k z))) else Nx H3) := by
  refine ⟨fun i m H => i + m = n ∧ Pv i H, ⟨n, by simp, h0⟩, ?_⟩
  rintro i m H ⟨ei, p⟩
  have g1 := hG i H (by omega) p
  cases m with
  | zero =>
    have e : i = n := by omega
    subst e
    exact .inl ⟨w.stops H g1, hd H p⟩
  | succ m =>
    refine .inr ⟨w.goes i H (by omega) g1, Pv (i + 1), fun H' q => ⟨m, Nat.lt_succ_self m, by omega, q⟩, fun x H' y => hs i x H H' (by omega) p (w.yields i H x H' (by omega) g1 y)⟩
end My

set_option maxRecDepth 100000
set_option maxHeartbeats 4000000
namespace K7
open PySem PySem.Spec PyProof.Rows L2 GxR Gd TL My
/-! ### a line in the heap -/
def lf (p1 p2 p3 d : Addr) : List (Str × V) := putF "_numbers" (.ref d) (putF "_longs" (.ref p3) (putF "_stretches" (.ref p2) (putF "_places" (.ref p1) [])))
theorem lf_get (p1 p2 p3 d : Addr) (g : Str) : (lf p1 p2 p3 d).lookup g = if g = "_numbers" then some (.ref d) else if g = "_longs" then some (.ref p3) else if g = "_stretches" then some (.ref p2) else if g = "_places" then some (.ref p1) else none := by
  unfold lf
  rw [lookup_putF, lookup_putF, lookup_putF, lookup_putF]
  rfl
def posOf (ps : List (Str × Int)) (z : Str) : Option Nat := ps.findIdx? fun p => decide (p.1 = z)
/-- what stands in the dict of numbers -/
def NumsAt (H : Hp) (d : Addr) (ps : List (Str × Int)) : Prop := ∃ kvs : List (Key × V), H d = some (.dK kvs) ∧ kvs.length ≤ ps.length ∧ ∀ z, valV kvs (Sum.inr z) = (posOf ps z).map fun j => V.int (j : Nat)
structure LineAt (K : PySem.W.Frag) (C : Addr) (w : Wd) (H : Hp) (x : Addr) : Prop where
  ex : ∃ dx p1 p2 p3 d xs1 xs2 xs3, H x = some (.ins C dx (lf p1 p2 p3 d)) ∧ SqT K H p1 xs1 ∧ DpAll K H xs1 (w.ps.map dP) ∧ SqT K H p2 xs2 ∧ DpAll K H xs2 (w.st.map dP) ∧ SqT K H p3 xs3 ∧ DpAll K H xs3 (w.lo.map dL) ∧ NumsAt H d w.ps
theorem NumsAt.nt {H H' : Hp} {d : Addr} {ps : List (Str × Int)} (e : Nt H H') (h : NumsAt H d ps) : NumsAt H' d ps := by
  obtain ⟨kvs, h1, h2⟩ := h
  exact ⟨kvs, e _ _ (by simp) h1, h2⟩
theorem LineAt.nt {K : PySem.W.Frag} {C : Addr} {w : Wd} {H H' : Hp} {x : Addr} (e : Nt H H') (h : LineAt K C w H x) : LineAt K C w H' x := by
  obtain ⟨dx, p1, p2, p3, d, xs1, xs2, xs3, h1, h2, h3, h4, h5, h6, h7, h8⟩ := h
  exact ⟨dx, p1, p2, p3, d, xs1, xs2, xs3, e _ _ (by simp) h1, e.seqT h2, dpAll_nt e h3, e.seqT h4, dpAll_nt e h5, e.seqT h6, dpAll_nt e h7, h8.nt e⟩
structure ClsT (K : PySem.W.Frag) (C : Addr) : Prop where
  cl : Cls K C
  n1 : NoAttr K C "_places"
  n2 : NoAttr K C "_stretches"
  n3 : NoAttr K C "_longs"
  n4 : NoAttr K C "_numbers"
theorem tup_of {K : PySem.W.Frag} {H : Hp} {a : Addr} {xs : List V} {G : VK} (h : SqX K H a xs) (k : ∀ p H', Same H H' → SqT K H' p xs → G (.ref p) H') :
    ∃ p ys, [V.ref a] = [V.ref p] ∧ ((SqL K H p ys ∧ ∀ l, H l = none → G (.ref l) (upd H l (.tup ys))) ∨ (SqT K H p ys ∧ G (.ref p) H)) := by
  rcases h with h | h
  · exact ⟨a, xs, rfl, .inl ⟨h, fun l hl => k l _ (same_alloc hl) (SqT.of upd_same)⟩⟩
  · exact ⟨a, xs, rfl, .inr ⟨h, k a H (Same.refl H) h⟩⟩
/-- lists and tuples stay -/
def Ls (H H' : Hp) : Prop := ∀ c o, (∀ ps, o ≠ .tbl ps) → (∀ C d fs, o ≠ .ins C d fs) → H c = some o → H' c = some o
theorem Ls.trans {H H1 H2 : Hp} (a : Ls H H1) (b : Ls H1 H2) : Ls H H2 := fun c o n m h => b c o n m (a c o n m h)
theorem Ls.seq {K : PySem.W.Frag} {H H' : Hp} {a : Addr} {xs : List V} (e : Ls H H') (h : SqL K H a xs) : SqL K H' a xs := by
  rcases h with (h | ⟨o, h⟩) | h
  · exact .inl (.inl (e _ _ (by simp) (by simp) h))
  · exact .inl (.inr ⟨o, e _ _ (by simp) (by simp) h⟩)
  · exact .inr h
theorem Ls.seqT {K : PySem.W.Frag} {H H' : Hp} {a : Addr} {xs : List V} (e : Ls H H') (h : SqT K H a xs) : SqT K H' a xs := by
  rcases h with (h | ⟨o, h⟩) | h
  · exact .inl (.inl (e _ _ (by simp) (by simp) h))
  · exact .inl (.inr ⟨o, e _ _ (by simp) (by simp) h⟩)
  · exact .inr h
theorem Ls.seqX {K : PySem.W.Frag} {H H' : Hp} {a : Addr} {xs : List V} (e : Ls H H') (h : SqX K H a xs) : SqX K H' a xs := h.elim (fun q => .inl (e.seq q)) fun q => .inr (e.seqT q)
section
variable {K : PySem.W.Frag} {H H' : Hp}
mutual
theorem dp_ls (e : Ls H H') : ∀ {v : V} {d : PyData}, Dp K H v d → Dp K H' v d
  | _, _, .non => .non
  | _, _, .bl b => .bl b
  | _, _, .int i => .int i
  | _, _, .str z => .str z
  | _, _, .lst h a => .lst (e.seq h) (dpAll_ls e a)
  | _, _, .tup h a => .tup (e.seqT h) (dpAll_ls e a)
theorem dpAll_ls (e : Ls H H') : ∀ {vs : List V} {ds : List PyData}, DpAll K H vs ds → DpAll K H' vs ds
  | _, _, .nil => .nil
  | _, _, .cons h t => .cons (dp_ls e h) (dpAll_ls e t)
end
end
/-- all but the new line and the table stays -/
structure KI (x Pt : Addr) (H H' : Hp) : Prop where
  keep : ∀ c o, c ≠ x → c ≠ Pt → H c = some o → H' c = some o
  tab : TabG H' Pt
theorem KI.ls {x Pt C dx : Addr} {fs : List (Str × V)} {H H' : Hp} (hx : H x = some (.ins C dx fs)) (t : TabG H Pt) (k : KI x Pt H H') : Ls H H' := fun c o n m h => by
  refine k.keep c o ?_ (ne_tab t h n) h
  rintro rfl
  rw [hx] at h
  exact m _ _ _ (Option.some.inj h).symm
theorem KI.trans {x Pt : Addr} {H H1 H2 : Hp} (a : KI x Pt H H1) (b : KI x Pt H1 H2) : KI x Pt H H2 := ⟨fun c o n1 n2 h => b.keep c o n1 n2 (a.keep c o n1 n2 h), b.tab⟩
theorem KI.of {x Pt : Addr} {H H' : Hp} (k : KT Pt H H') : KI x Pt H H' := ⟨fun c o _ n h => k.keep c o n h, k.tab⟩
theorem KI.same {x Pt : Addr} {H H' : Hp} (t : TabG H Pt) (s : Same H H') : KI x Pt H H' := KI.of (same_kt t s)
theorem KI.put {x Pt : Addr} {H : Hp} {o : HO} (t : TabG H Pt) (n : x ≠ Pt) : KI x Pt H (upd H x o) := by
  obtain ⟨ps, e, ht⟩ := t
  exact ⟨fun c u nx _ h => by rw [upd_ne nx]; exact h, ps, by rw [upd_ne n.symm]; exact e, ht⟩
theorem posOf_nil (z : Str) : posOf [] z = none := rfl
theorem posOf_snoc (ps : List (Str × Int)) (p : Str × Int) (z : Str) (h : p.1 ∉ ps.map (·.1)) : posOf (ps ++ [p]) z = if p.1 = z then some ps.length else posOf ps z := by
  unfold posOf
  rw [List.findIdx?_append]
  by_cases e : p.1 = z
  · rw [if_pos e]
    have n : ps.findIdx? (fun p => decide (p.1 = z)) = none := by
      rw [List.findIdx?_eq_none_iff]
      intro q hq
      have : q.1 ≠ z := fun eq => h (List.mem_map.mpr ⟨q, hq, eq.trans e.symm⟩)
      simpa using this
    rw [n]
    simp [List.findIdx?_cons, e]
  · rw [if_neg e]
    simp [List.findIdx?_cons, e]
theorem same_ls {H H' : Hp} (e : Same H H') : Ls H H' := fun c o _ _ h => e c o h
theorem KB.seq' {D : Addr} {H H' : Hp} (n : H D = none) (k : KB D H H') : Ls H H' := fun c o _ _ h => k c o (fun e => by rw [e, n] at h; cases h) h
section
variable {P : Program} {w : World} {K : PySem.W.Frag} {mg : Str → Option Value} {base : Heap}
abbrev s_init : Stmt := inClass (top 29) 0
theorem sc_init : FnScope ["self", "places", "stretches", "longs", "top", "rows", "number", "name", "_"] ["self", "places", "stretches", "longs"] (defScope s_init) := ⟨rfl, rfl, rfl, by decide +kernel, rfl, by decide +kernel, by decide +kernel⟩
/-- a def that may have defaults -/
structure FunV (K : PySem.W.Frag) (x qual : Str) (st : Stmt) (f : Addr) (fd : FuncData) : Prop where
  ex : ∃ (oc : Value) (od : Option Addr) (dV kV doc pm : Value) (an : Option Addr) (cdv ct : Value) (osl : Array (Option Value)),
    fd = PySem.W.fnOf x qual (defArgs st) (defBody st) (defScope st) dV kV doc pm an cdv ct ∧ K.lookup f = some ⟨oc, od, .func fd, osl⟩ ∧ PySem.W.codeIn K cdv qual = true
theorem FunV.ok {x qual : Str} {st : Stmt} {f : Addr} {fd : FuncData} {N ps : List Str} {k : Nat} {sp : Sp} (F : FunV K x qual st f fd) (S : FnScope N ps (defScope st)) (len : ∀ vs H Q E, sp vs H Q E → vs.length = ps.length)
    (hbody : ∀ (cdv : Value) (A : Around) (outer : List Env) (s : Shared) (H : Hp) (vs : List V) (Q : VK) (E : XK), Room k (A.deeper (envOfC qual (defScope st) s.heap.objs.size f cdv)) → sp vs H Q E →
      ∃ t, PSs (cxOf CX0 P w K mg base N qual (defScope st) f cdv A outer s H E).nox (defBody st) t ∧ t { nx := fun _ H' => Q .non H', rt := Q } (start N vs) H) : FnOk P w K mg base CX0 (k + 1) f fd ps sp := by
  obtain ⟨oc, od, dV, kV, doc, pm, an, cdv, ct, osl, rfl, lk, hcd⟩ := F.ex
  refine fn_of lk hcd S len fun A outer s H vs Q E hr hsp => ?_
  obtain ⟨t, h, q⟩ := hbody cdv A outer s H vs Q E hr hsp
  exact ⟨t, h.nox, q⟩
/-- what is handed in where longs stand -/
def LongsIn (K : PySem.W.Frag) (H : Hp) (v : V) (lo : List (Int × Int × Int)) : Prop := (v = .non ∧ lo = []) ∨ ∃ a xs, v = .ref a ∧ SqX K H a xs ∧ DpAll K H xs (lo.map dL)
/-- the line's own dict is new -/
def NewD (H H' : Hp) (x : Addr) : Prop := ∀ C dx fs d, H' x = some (.ins C dx fs) → fs.lookup (Str.ofString "_numbers") = some (V.ref d) → H d = none
theorem KI.none {x Pt D : Addr} {H H' : Hp} (k : KI x Pt H H') (hx : H' x ≠ none) (h : H' D = none) : H D = none := by
  cases e : H D with
  | none => rfl
  | some o =>
    have h1 : D ≠ x := fun q => hx (q ▸ h)
    have h2 : D ≠ Pt := fun q => by
      obtain ⟨ps, z, _⟩ := k.tab
      rw [← q, h] at z
      cases z
    have := k.keep D o h1 h2 e
    rw [h] at this
    cases this
theorem newD {x Pt C dx p1 p2 p3 D : Addr} {H HA H' : Hp} {o : HO} (k : KI x Pt H HA) (hx : HA x = some o) (h : HA D = none) : NewD H (upd H' x (.ins C dx (lf p1 p2 p3 D))) x := by
  intro C' dx' fs d e l
  rw [upd_same] at e
  injection Option.some.inj e with e1 e2 e3
  subst e3
  rw [lf_get, if_pos rfl] at l
  obtain rfl := V.ref.inj (Option.some.inj l)
  exact k.none (by rw [hx]; simp) h
def spInit (K : PySem.W.Frag) (C Pt : Addr) : Sp := fun vs H Q _ => ∃ (x dx a1 a2 : Addr) (v3 : V) (xs1 xs2 : List V) (wd : Wd), vs = [.ref x, .ref a1, .ref a2, v3] ∧ H x = some (.ins C dx []) ∧
  SqX K H a1 xs1 ∧ DpAll K H xs1 (wd.ps.map dP) ∧ SqX K H a2 xs2 ∧ DpAll K H xs2 (wd.st.map dP) ∧ LongsIn K H v3 wd.lo ∧ wd.Ok ∧ TabG H Pt ∧
  ∀ H', KI x Pt H H' → LineAt K C wd H' x → NewD H H' x → Q .non H'
theorem rows_read {σ : L2.St} {H : Hp} {v : V} {lo : List (Int × Int × Int)} {G : VK} (hv : σ[3]? = some (some v)) (hL : LongsIn K H v lo)
    (k : ∀ a xs H', Same H H' → SqX K H' a xs → DpAll K H' xs (lo.map dL) → G (.ref a) H') :
    tIf (tTest (tOp (fun x y H Q => y = V.non ∧ Q (V.bl (decide (x = V.non))) H) (tVar 3) (tC V.non))) (tTup tNil) (tVar 3) σ H G := by
  refine ⟨v, hv, rfl, _, rfl, ?_⟩
  rcases hL with ⟨rfl, rfl⟩ | ⟨a, xs, rfl, h1, h2⟩
  · refine iteT ⟨Nat.zero_le _, fun p hp => ?_⟩
    exact k p [] _ (same_alloc hp) (.inr (SqT.of upd_same)) .nil
  · have e : decide (V.ref a = V.non) = false := decide_eq_false (by simp)
    rw [e]
    exact iteF ⟨_, hv, k a xs H (Same.refl H) h1 h2⟩
theorem tup_read {σ : L2.St} {H : Hp} {i : Nat} {a : Addr} {xs : List V} {G : VK} (hv : σ[i]? = some (some (.ref a))) (h : SqX K H a xs) (k : ∀ p H', Same H H' → SqT K H' p xs → G (.ref p) H') :
    tCB (fun xs H Q => ∃ p ys, xs = [V.ref p] ∧ ((SqL K H p ys ∧ ∀ l, H l = none → Q (.ref l) (upd H l (.tup ys))) ∨ (SqT K H p ys ∧ Q (.ref p) H))) (tCons (tVar i) tNil) σ H G := by
  refine ⟨_, hv, a, xs, rfl, ?_⟩
  rcases h with h | h
  · exact .inl ⟨h, fun l hl => k l _ (same_alloc hl) (SqT.of upd_same)⟩
  · exact .inr ⟨h, k a H (Same.refl H) h⟩
theorem fld_read {D : Ends} {σ : L2.St} {H : Hp} {i : Nat} {a x C dx : Addr} {xs : List V} {f : Str} {fs : List (Str × V)} (h0 : σ[0]? = some (some (.ref x))) (hv : σ[i]? = some (some (.ref a))) (hx : H x = some (.ins C dx fs)) (c : Cls K C) (n : NoAttr K C f) (l : fs.length < 1000)
    (h : SqX K H a xs) (k : ∀ p H', Same H H' → SqT K H' p xs → D.nx σ (upd H' x (.ins C dx (putF f (.ref p) fs)))) :
    sFld K (tVar 0) (tCB (fun xs H Q => ∃ p ys, xs = [V.ref p] ∧ ((SqL K H p ys ∧ ∀ l, H l = none → Q (.ref l) (upd H l (.tup ys))) ∨ (SqT K H p ys ∧ Q (.ref p) H))) (tCons (tVar i) tNil)) f D σ H :=
  tup_read hv h fun p H' s hp => ⟨_, h0, x, C, dx, fs, rfl, s _ _ hx, c, n, l, k p H' s hp⟩
theorem LongsIn.ls {H H' : Hp} {v : V} {lo : List (Int × Int × Int)} (e : Ls H H') (h : LongsIn K H v lo) : LongsIn K H' v lo := by
  rcases h with ⟨rfl, rfl⟩ | ⟨a, xs, rfl, h1, h2⟩
  · exact .inl ⟨rfl, rfl⟩
  · exact .inr ⟨a, xs, rfl, e.seqX h1, dpAll_ls e h2⟩
theorem ok_init {f fP fS fL C Pt : Addr} {fd fdP fdS fdL : FuncData} (F : FunV K "__init__" "Line.__init__" s_init f fd) (T : Txt mg) (TC : ClsT K C)
    (Ncheck_places : Fn K mg "_check_places" s_check_places ["places"] fP fdP) (Gcheck_places : FnOk P w K mg base CX0 4 fP fdP ["places"] (spCheckPlaces K Pt))
    (Ncheck_stretches : Fn K mg "_check_stretches" s_check_stretches ["stretches", "many"] fS fdS) (Gcheck_stretches : FnOk P w K mg base CX0 3 fS fdS ["stretches", "many"] (spCheckStretches K))
    (Ncheck_longs : Fn K mg "_check_longs" s_check_longs ["longs", "top"] fL fdL) (Gcheck_longs : FnOk P w K mg base CX0 3 fL fdL ["longs", "top"] (spCheckLongs K)) :
    FnOk P w K mg base CX0 5 f fd ["self", "places", "stretches", "longs"] (spInit K C Pt) := by
  refine F.ok sc_init (fun vs H Q E h => ?_) (fun cdv A outer s H vs Q E hr h => ?_)
  · obtain ⟨x, dx, a1, a2, v3, xs1, xs2, wd, rfl, _⟩ := h
    rfl
  · obtain ⟨x, dx, a1, a2, v3, xs1, xs2, wd, rfl, hx, hX1, hd1, hX2, hd2, hX3, ok, tb, k⟩ := h
    have nxP : x ≠ Pt := ne_tab tb hx (by simp)
    have ok' := ok
    have l1 : xs1.length = wd.ps.length := by rw [dpAll_len hd1, List.length_map]
    rcases id hX1 with hL | hT
    · skip
      refine ⟨_, pss_cons (ps_expr (pe_call Gcheck_places (hr.mono (by decide)) (by rfl) Ncheck_places.g Ncheck_places.kp Ncheck_places.b .nil pass0 (pa_cons (pv 1) pa_nil)))
      (pss_cons (ps_set (i := 4) sc_init.nd rfl (Or.inl rfl) (pe_op op_sub (pe_callB call_len_seq (by rfl) T.len_ PySem.boot_len (pa_cons (pv 1) pa_nil)) pe_int))
      (pss_cons (ps_expr (pe_call Gcheck_stretches (hr.mono (by decide)) (by rfl) Ncheck_stretches.g Ncheck_stretches.kp Ncheck_stretches.b .nil pass0 (pa_cons (pv 2) (pa_cons (pv 4) pa_nil))))
      (pss_cons (ps_set (i := 5) sc_init.nd rfl (Or.inl rfl) (pe_ifExp (pt_cmpR op_isN (pv 3) pe_non (nomark _)) (pe_tup pa_nil) (pv 3)))
      (pss_cons (ps_expr (pe_call Gcheck_longs (hr.mono (by decide)) (by rfl) Ncheck_longs.g Ncheck_longs.kp Ncheck_longs.b .nil pass0 (pa_cons (pv 5) (pa_cons (pv 4) pa_nil))))
      (pss_cons (ps_fld (pv 0) (pe_callTy call_tuple_of (by rfl) T.tuple_ (by decide +kernel) (pa_cons (pv 1) pa_nil)) rfl)
      (pss_cons (ps_fld (pv 0) (pe_callTy call_tuple_of (by rfl) T.tuple_ (by decide +kernel) (pa_cons (pv 2) pa_nil)) rfl)
      (pss_cons (ps_fld (pv 0) (pe_callTy call_tuple_of (by rfl) T.tuple_ (by decide +kernel) (pa_cons (pv 5) pa_nil)) rfl)
      (pss_one (ps_fld (pv 0) (pe_dc (own := [("number", 6), ("name", 7), ("_", 8)]) (g := gTup K 2 (gCons (gName 6) (gCons (gTup K 2 (gCons (gName 7) (gCons (gName 8) gNil))) gNil))) (tt := tYes) rfl sc_init.nd (pi_enum (by rfl) T.enumerate_ (pa_cons (pv 1) pa_nil)) (blkOk_by (own := [("number", 6), ("name", 7), ("_", 8)]) (N := ["self", "places", "stretches", "longs", "top", "rows", "number", "name", "_"]) (sc := defScope s_init) (by decide +kernel)) (fun _ _ _ _ _ => (pg_tup (by rfl) (pgs_cons (pg_name (i := 6) sc_init.nd rfl (Or.inl rfl)) (pgs_cons (pg_tup (by rfl) (pgs_cons (pg_name (i := 7) sc_init.nd rfl (Or.inl rfl)) (pgs_cons (pg_name (i := 8) sc_init.nd rfl (Or.inl rfl)) pgs_nil))) pgs_nil)))) (fun _ _ _ _ _ => pts_nil) (fun _ _ _ _ _ => pv 7) (fun _ _ _ _ _ => pv 6)) rfl))))))))), ?_⟩
      refine ⟨_, rfl, a1, xs1, wd.ps, rfl, hX1, hd1, ok.p2, ok.p6, ok.nm, ok.nd, tb, fun H1 k1 => ?_⟩
      have i1 : KI x Pt H H1 := KI.of k1
      have e1 := i1.ls hx tb
      have hx1 := KT.nt tb k1 x _ (by simp) hx
      refine ⟨_, rfl, a1, xs1, rfl, e1.seqX hX1, _, _, rfl, rfl, ?_⟩
      refine ⟨_, rfl, _, rfl, a2, _, xs2, wd.st, rfl, e1.seqX hX2, dpAll_ls e1 hd2, (by have := ok.sl; omega), ok.st, fun H2 s2 => ?_⟩
      have i2 := i1.trans (KI.same (x := x) i1.tab s2)
      have e2 := i2.ls hx tb
      refine rows_read (σ := _) rfl (hX3.ls e2) (fun a3 xs3 H3 s3 hX3' hd3' => ?_)
      have i3 := i2.trans (KI.same (x := x) i2.tab s3)
      refine ⟨_, rfl, _, rfl, a3, _, xs3, wd.lo, rfl, hX3', hd3', ok.ll, (by have q := ok.lo; rw [show ((xs1.length : Int) - 1) = ((wd.ps.length - 1 : Nat) : Int) by have := ok.p2; omega]; exact q), fun H4 s4 => ?_⟩
      have i4 := i3.trans (KI.same (x := x) i3.tab s4)
      have e4 := i4.ls hx tb
      have hx4 := s4 _ _ (s3 _ _ (s2 _ _ hx1))
      refine fld_read (i := 1) rfl rfl hx4 TC.cl TC.n1 (by decide) (e4.seqX hX1) (fun p1 H5 s5 hp1 => ?_)
      have j5 := i4.trans (KI.same (x := x) i4.tab s5)
      have i6 := j5.trans (KI.put (o := .ins C dx (putF "_places" (.ref p1) [])) j5.tab nxP)
      have hx6 : (upd H5 x (.ins C dx (putF "_places" (.ref p1) []))) x = some (.ins C dx (putF "_places" (.ref p1) [])) := upd_same
      have u6 : Ls H5 (upd H5 x (.ins C dx (putF "_places" (.ref p1) []))) := (KI.put j5.tab nxP).ls (s5 _ _ hx4) j5.tab
      generalize upd H5 x (.ins C dx (putF "_places" (.ref p1) [])) = H6 at i6 hx6 u6 ⊢
      have e6 := i6.ls hx tb
      refine fld_read (i := 2) rfl rfl hx6 TC.cl TC.n2 (Nat.lt_of_le_of_lt (length_putF _ _ _) (by decide)) (e6.seqX hX2) (fun p2 H7 s7 hp2 => ?_)
      have j7 := i6.trans (KI.same (x := x) i6.tab s7)
      have i8 := j7.trans (KI.put (o := .ins C dx (putF "_stretches" (.ref p2) (putF "_places" (.ref p1) []))) j7.tab nxP)
      have hx8 : (upd H7 x (.ins C dx (putF "_stretches" (.ref p2) (putF "_places" (.ref p1) [])))) x = some (.ins C dx (putF "_stretches" (.ref p2) (putF "_places" (.ref p1) []))) := upd_same
      have u8 : Ls H7 (upd H7 x (.ins C dx (putF "_stretches" (.ref p2) (putF "_places" (.ref p1) [])))) := (KI.put j7.tab nxP).ls (s7 _ _ hx6) j7.tab
      generalize upd H7 x (.ins C dx (putF "_stretches" (.ref p2) (putF "_places" (.ref p1) []))) = H8 at i8 hx8 u8 ⊢
      have e8 := i8.ls hx tb
      have lf8 : (putF "_stretches" (.ref p2) (putF "_places" (.ref p1) [])).length ≤ 2 := Nat.le_trans (length_putF _ _ _) (Nat.succ_le_succ (length_putF _ _ _))
      have e34 : Ls H3 H8 := (((((same_ls s4).trans (same_ls s5)).trans u6).trans (same_ls s7)).trans u8)
      refine fld_read (i := 5) rfl rfl hx8 TC.cl TC.n3 (Nat.lt_of_le_of_lt lf8 (by decide)) (e34.seqX hX3') (fun p3 H9 s9 hp3 => ?_)
      have j9 := i8.trans (KI.same (x := x) i8.tab s9)
      have iA := j9.trans (KI.put (o := .ins C dx (putF "_longs" (.ref p3) (putF "_stretches" (.ref p2) (putF "_places" (.ref p1) [])))) j9.tab nxP)
      have hxA : (upd H9 x (.ins C dx (putF "_longs" (.ref p3) (putF "_stretches" (.ref p2) (putF "_places" (.ref p1) []))))) x = some (.ins C dx (putF "_longs" (.ref p3) (putF "_stretches" (.ref p2) (putF "_places" (.ref p1) [])))) := upd_same
      have uA : Ls H9 (upd H9 x (.ins C dx (putF "_longs" (.ref p3) (putF "_stretches" (.ref p2) (putF "_places" (.ref p1) []))))) := (KI.put j9.tab nxP).ls (s9 _ _ hx8) j9.tab
      generalize upd H9 x (.ins C dx (putF "_longs" (.ref p3) (putF "_stretches" (.ref p2) (putF "_places" (.ref p1) [])))) = HA at iA hxA uA ⊢
      have eA := iA.ls hx tb
      have hp1A : SqT K HA p1 xs1 := uA.seqT ((same_ls s9).seqT (u8.seqT ((same_ls s7).seqT (u6.seqT hp1))))
      have hp2A : SqT K HA p2 xs2 := uA.seqT ((same_ls s9).seqT (u8.seqT hp2))
      have hp3A : SqT K HA p3 xs3 := uA.seqT hp3
      have hd3A := dpAll_ls (e34.trans ((same_ls s9).trans uA)) hd3'
      have hd1A := dpAll_ls eA hd1
      have hd2A := dpAll_ls eA hd2
      refine ⟨_, rfl, a1, xs1, rfl, eA.seq hL, fun D hD => dc_it (walk_enum (K := K) (xs := xs1)) (fun i H' => KB D HA H' ∧ ∃ kvs : List (Key × V), H' D = some (.dK kvs) ∧ kvs.length ≤ i ∧ ∀ z, valV kvs (Sum.inr z) = (posOf (wd.ps.take i) z).map fun j => V.int (j : Nat)) ?_ ?_ ?_ ?_⟩
      · exact ⟨KB.alloc hD, [], upd_same, Nat.zero_le _, fun z => rfl⟩
      · rintro i H' hi ⟨kb, _⟩
        exact (KB.seq' hD kb).seq (eA.seq hL)
      · rintro i v H' H'' hi ⟨kb, kvs, hk1, hk2, hk3⟩ ⟨T1, X, Y, rfl, hT1, rfl, q1, q2⟩
        obtain rfl := Option.some.inj q1
        obtain ⟨d, hg1, hg2⟩ := dpAll_get hd1A q2
        obtain ⟨p, hp, rfl⟩ := get_map hg1
        obtain ⟨t, x1, x2, rfl, ht, r1, r2⟩ := dp_two hg2
        obtain rfl := dp_str r1
        obtain rfl := dp_int r2
        have nD : D ≠ T1 := fun e => by rw [← e, hk1] at hT1; cases hT1
        have ht1 : SqT K (upd H' T1 (.tup [.int (i : Nat), .ref t])) t [.str p.1, .int p.2] := (same_ls (same_alloc hT1)).seqT ((KB.seq' hD kb).seqT ht)
        refine ⟨T1, _, rfl, SqT.of upd_same, rfl, _, _, rfl, _, _, rfl, t, _, rfl, ht1, rfl, _, _, rfl, _, _, rfl, rfl, rfl, rfl, ?_⟩
        refine lcY ⟨_, rfl, _, rfl, kvs, Sum.inr p.1, rfl, by rw [upd_ne nD]; exact hk1, (by show kvs.length < sizeLine; have := ok.p6; exact Nat.lt_of_le_of_lt hk2 (Nat.lt_trans (Nat.lt_of_lt_of_le hi (by omega : xs1.length ≤ 6)) (by decide))), ?_⟩
        refine ⟨fun c o n h => by rw [upd_ne n]; exact (same_alloc hT1) _ _ (kb c o n h), _, upd_same, Nat.le_trans (length_putK _ _ _) (Nat.succ_le_succ hk2), fun z => ?_⟩
        rw [valV_put, take_at hp, posOf_snoc _ _ _ (fresh_name ok.nd hp)]
        have li : (wd.ps.take i).length = i := by rw [List.length_take]; have := (List.getElem?_eq_some_iff.mp hp).1; omega
        by_cases ez : p.1 = z
        · rw [if_pos ez, if_pos (by rw [ez]), li]
          rfl
        · rw [if_neg ez, if_neg (fun e => ez (Sum.inr.inj e).symm)]
          exact hk3 z
      · rintro H' ⟨kb, kvs, hk1, hk2, hk3⟩
        have nxD : x ≠ D := fun e => by rw [← e, hxA] at hD; cases hD
        have sB : Same HA H' := fun c o h => kb c o (fun e => by rw [e, hD] at h; cases h) h
        have jB := iA.trans (KI.same (x := x) iA.tab sB)
        have iB := jB.trans (KI.put (o := .ins C dx (lf p1 p2 p3 D)) jB.tab nxP)
        have uB : Ls H' (upd H' x (.ins C dx (lf p1 p2 p3 D))) := (KI.put jB.tab nxP).ls (sB _ _ hxA) jB.tab
        have eB := (same_ls sB).trans uB
        refine ⟨_, rfl, x, C, dx, _, rfl, sB _ _ hxA, TC.cl, TC.n4, (Nat.lt_of_le_of_lt (Nat.le_trans (length_putF _ _ _) (Nat.succ_le_succ lf8)) (by decide)), k _ iB ⟨dx, p1, p2, p3, D, xs1, xs2, xs3, upd_same, eB.seqT hp1A, dpAll_ls eB hd1A, eB.seqT hp2A, dpAll_ls eB hd2A, eB.seqT hp3A, dpAll_ls eB hd3A, kvs, ?_, ?_, fun z => ?_⟩ (newD iA hxA hD)⟩
        · rw [upd_ne nxD.symm]
          exact hk1
        · omega
        · rw [hk3 z, List.take_of_length_le (by omega)]
    · skip
      refine ⟨_, pss_cons (ps_expr (pe_call Gcheck_places (hr.mono (by decide)) (by rfl) Ncheck_places.g Ncheck_places.kp Ncheck_places.b .nil pass0 (pa_cons (pv 1) pa_nil)))
      (pss_cons (ps_set (i := 4) sc_init.nd rfl (Or.inl rfl) (pe_op op_sub (pe_callB call_len_seq (by rfl) T.len_ PySem.boot_len (pa_cons (pv 1) pa_nil)) pe_int))
      (pss_cons (ps_expr (pe_call Gcheck_stretches (hr.mono (by decide)) (by rfl) Ncheck_stretches.g Ncheck_stretches.kp Ncheck_stretches.b .nil pass0 (pa_cons (pv 2) (pa_cons (pv 4) pa_nil))))
      (pss_cons (ps_set (i := 5) sc_init.nd rfl (Or.inl rfl) (pe_ifExp (pt_cmpR op_isN (pv 3) pe_non (nomark _)) (pe_tup pa_nil) (pv 3)))
      (pss_cons (ps_expr (pe_call Gcheck_longs (hr.mono (by decide)) (by rfl) Ncheck_longs.g Ncheck_longs.kp Ncheck_longs.b .nil pass0 (pa_cons (pv 5) (pa_cons (pv 4) pa_nil))))
      (pss_cons (ps_fld (pv 0) (pe_callTy call_tuple_of (by rfl) T.tuple_ (by decide +kernel) (pa_cons (pv 1) pa_nil)) rfl)
      (pss_cons (ps_fld (pv 0) (pe_callTy call_tuple_of (by rfl) T.tuple_ (by decide +kernel) (pa_cons (pv 2) pa_nil)) rfl)
      (pss_cons (ps_fld (pv 0) (pe_callTy call_tuple_of (by rfl) T.tuple_ (by decide +kernel) (pa_cons (pv 5) pa_nil)) rfl)
      (pss_one (ps_fld (pv 0) (pe_dc (own := [("number", 6), ("name", 7), ("_", 8)]) (g := gTup K 2 (gCons (gName 6) (gCons (gTup K 2 (gCons (gName 7) (gCons (gName 8) gNil))) gNil))) (tt := tYes) rfl sc_init.nd (pi_enumT (by rfl) T.enumerate_ (pa_cons (pv 1) pa_nil)) (blkOk_by (own := [("number", 6), ("name", 7), ("_", 8)]) (N := ["self", "places", "stretches", "longs", "top", "rows", "number", "name", "_"]) (sc := defScope s_init) (by decide +kernel)) (fun _ _ _ _ _ => (pg_tup (by rfl) (pgs_cons (pg_name (i := 6) sc_init.nd rfl (Or.inl rfl)) (pgs_cons (pg_tup (by rfl) (pgs_cons (pg_name (i := 7) sc_init.nd rfl (Or.inl rfl)) (pgs_cons (pg_name (i := 8) sc_init.nd rfl (Or.inl rfl)) pgs_nil))) pgs_nil)))) (fun _ _ _ _ _ => pts_nil) (fun _ _ _ _ _ => pv 7) (fun _ _ _ _ _ => pv 6)) rfl))))))))), ?_⟩
      refine ⟨_, rfl, a1, xs1, wd.ps, rfl, hX1, hd1, ok.p2, ok.p6, ok.nm, ok.nd, tb, fun H1 k1 => ?_⟩
      have i1 : KI x Pt H H1 := KI.of k1
      have e1 := i1.ls hx tb
      have hx1 := KT.nt tb k1 x _ (by simp) hx
      refine ⟨_, rfl, a1, xs1, rfl, e1.seqX hX1, _, _, rfl, rfl, ?_⟩
      refine ⟨_, rfl, _, rfl, a2, _, xs2, wd.st, rfl, e1.seqX hX2, dpAll_ls e1 hd2, (by have := ok.sl; omega), ok.st, fun H2 s2 => ?_⟩
      have i2 := i1.trans (KI.same (x := x) i1.tab s2)
      have e2 := i2.ls hx tb
      refine rows_read (σ := _) rfl (hX3.ls e2) (fun a3 xs3 H3 s3 hX3' hd3' => ?_)
      have i3 := i2.trans (KI.same (x := x) i2.tab s3)
      refine ⟨_, rfl, _, rfl, a3, _, xs3, wd.lo, rfl, hX3', hd3', ok.ll, (by have q := ok.lo; rw [show ((xs1.length : Int) - 1) = ((wd.ps.length - 1 : Nat) : Int) by have := ok.p2; omega]; exact q), fun H4 s4 => ?_⟩
      have i4 := i3.trans (KI.same (x := x) i3.tab s4)
      have e4 := i4.ls hx tb
      have hx4 := s4 _ _ (s3 _ _ (s2 _ _ hx1))
      refine fld_read (i := 1) rfl rfl hx4 TC.cl TC.n1 (by decide) (e4.seqX hX1) (fun p1 H5 s5 hp1 => ?_)
      have j5 := i4.trans (KI.same (x := x) i4.tab s5)
      have i6 := j5.trans (KI.put (o := .ins C dx (putF "_places" (.ref p1) [])) j5.tab nxP)
      have hx6 : (upd H5 x (.ins C dx (putF "_places" (.ref p1) []))) x = some (.ins C dx (putF "_places" (.ref p1) [])) := upd_same
      have u6 : Ls H5 (upd H5 x (.ins C dx (putF "_places" (.ref p1) []))) := (KI.put j5.tab nxP).ls (s5 _ _ hx4) j5.tab
      generalize upd H5 x (.ins C dx (putF "_places" (.ref p1) [])) = H6 at i6 hx6 u6 ⊢
      have e6 := i6.ls hx tb
      refine fld_read (i := 2) rfl rfl hx6 TC.cl TC.n2 (Nat.lt_of_le_of_lt (length_putF _ _ _) (by decide)) (e6.seqX hX2) (fun p2 H7 s7 hp2 => ?_)
      have j7 := i6.trans (KI.same (x := x) i6.tab s7)
      have i8 := j7.trans (KI.put (o := .ins C dx (putF "_stretches" (.ref p2) (putF "_places" (.ref p1) []))) j7.tab nxP)
      have hx8 : (upd H7 x (.ins C dx (putF "_stretches" (.ref p2) (putF "_places" (.ref p1) [])))) x = some (.ins C dx (putF "_stretches" (.ref p2) (putF "_places" (.ref p1) []))) := upd_same
      have u8 : Ls H7 (upd H7 x (.ins C dx (putF "_stretches" (.ref p2) (putF "_places" (.ref p1) [])))) := (KI.put j7.tab nxP).ls (s7 _ _ hx6) j7.tab
      generalize upd H7 x (.ins C dx (putF "_stretches" (.ref p2) (putF "_places" (.ref p1) []))) = H8 at i8 hx8 u8 ⊢
      have e8 := i8.ls hx tb
      have lf8 : (putF "_stretches" (.ref p2) (putF "_places" (.ref p1) [])).length ≤ 2 := Nat.le_trans (length_putF _ _ _) (Nat.succ_le_succ (length_putF _ _ _))
      have e34 : Ls H3 H8 := (((((same_ls s4).trans (same_ls s5)).trans u6).trans (same_ls s7)).trans u8)
      refine fld_read (i := 5) rfl rfl hx8 TC.cl TC.n3 (Nat.lt_of_le_of_lt lf8 (by decide)) (e34.seqX hX3') (fun p3 H9 s9 hp3 => ?_)
      have j9 := i8.trans (KI.same (x := x) i8.tab s9)
      have iA := j9.trans (KI.put (o := .ins C dx (putF "_longs" (.ref p3) (putF "_stretches" (.ref p2) (putF "_places" (.ref p1) [])))) j9.tab nxP)
      have hxA : (upd H9 x (.ins C dx (putF "_longs" (.ref p3) (putF "_stretches" (.ref p2) (putF "_places" (.ref p1) []))))) x = some (.ins C dx (putF "_longs" (.ref p3) (putF "_stretches" (.ref p2) (putF "_places" (.ref p1) [])))) := upd_same
      have uA : Ls H9 (upd H9 x (.ins C dx (putF "_longs" (.ref p3) (putF "_stretches" (.ref p2) (putF "_places" (.ref p1) []))))) := (KI.put j9.tab nxP).ls (s9 _ _ hx8) j9.tab
      generalize upd H9 x (.ins C dx (putF "_longs" (.ref p3) (putF "_stretches" (.ref p2) (putF "_places" (.ref p1) [])))) = HA at iA hxA uA ⊢
      have eA := iA.ls hx tb
      have hp1A : SqT K HA p1 xs1 := uA.seqT ((same_ls s9).seqT (u8.seqT ((same_ls s7).seqT (u6.seqT hp1))))
      have hp2A : SqT K HA p2 xs2 := uA.seqT ((same_ls s9).seqT (u8.seqT hp2))
      have hp3A : SqT K HA p3 xs3 := uA.seqT hp3
      have hd3A := dpAll_ls (e34.trans ((same_ls s9).trans uA)) hd3'
      have hd1A := dpAll_ls eA hd1
      have hd2A := dpAll_ls eA hd2
      refine ⟨_, rfl, a1, xs1, rfl, eA.seqT hT, fun D hD => dc_it (walk_enumT (K := K) (xs := xs1)) (fun i H' => KB D HA H' ∧ ∃ kvs : List (Key × V), H' D = some (.dK kvs) ∧ kvs.length ≤ i ∧ ∀ z, valV kvs (Sum.inr z) = (posOf (wd.ps.take i) z).map fun j => V.int (j : Nat)) ?_ ?_ ?_ ?_⟩
      · exact ⟨KB.alloc hD, [], upd_same, Nat.zero_le _, fun z => rfl⟩
      · rintro i H' hi ⟨kb, _⟩
        exact (KB.seq' hD kb).seqT (eA.seqT hT)
      · rintro i v H' H'' hi ⟨kb, kvs, hk1, hk2, hk3⟩ ⟨T1, X, Y, rfl, hT1, rfl, q1, q2⟩
        obtain rfl := Option.some.inj q1
        obtain ⟨d, hg1, hg2⟩ := dpAll_get hd1A q2
        obtain ⟨p, hp, rfl⟩ := get_map hg1
        obtain ⟨t, x1, x2, rfl, ht, r1, r2⟩ := dp_two hg2
        obtain rfl := dp_str r1
        obtain rfl := dp_int r2
        have nD : D ≠ T1 := fun e => by rw [← e, hk1] at hT1; cases hT1
        have ht1 : SqT K (upd H' T1 (.tup [.int (i : Nat), .ref t])) t [.str p.1, .int p.2] := (same_ls (same_alloc hT1)).seqT ((KB.seq' hD kb).seqT ht)
        refine ⟨T1, _, rfl, SqT.of upd_same, rfl, _, _, rfl, _, _, rfl, t, _, rfl, ht1, rfl, _, _, rfl, _, _, rfl, rfl, rfl, rfl, ?_⟩
        refine lcY ⟨_, rfl, _, rfl, kvs, Sum.inr p.1, rfl, by rw [upd_ne nD]; exact hk1, (by show kvs.length < sizeLine; have := ok.p6; exact Nat.lt_of_le_of_lt hk2 (Nat.lt_trans (Nat.lt_of_lt_of_le hi (by omega : xs1.length ≤ 6)) (by decide))), ?_⟩
        refine ⟨fun c o n h => by rw [upd_ne n]; exact (same_alloc hT1) _ _ (kb c o n h), _, upd_same, Nat.le_trans (length_putK _ _ _) (Nat.succ_le_succ hk2), fun z => ?_⟩
        rw [valV_put, take_at hp, posOf_snoc _ _ _ (fresh_name ok.nd hp)]
        have li : (wd.ps.take i).length = i := by rw [List.length_take]; have := (List.getElem?_eq_some_iff.mp hp).1; omega
        by_cases ez : p.1 = z
        · rw [if_pos ez, if_pos (by rw [ez]), li]
          rfl
        · rw [if_neg ez, if_neg (fun e => ez (Sum.inr.inj e).symm)]
          exact hk3 z
      · rintro H' ⟨kb, kvs, hk1, hk2, hk3⟩
        have nxD : x ≠ D := fun e => by rw [← e, hxA] at hD; cases hD
        have sB : Same HA H' := fun c o h => kb c o (fun e => by rw [e, hD] at h; cases h) h
        have jB := iA.trans (KI.same (x := x) iA.tab sB)
        have iB := jB.trans (KI.put (o := .ins C dx (lf p1 p2 p3 D)) jB.tab nxP)
        have uB : Ls H' (upd H' x (.ins C dx (lf p1 p2 p3 D))) := (KI.put jB.tab nxP).ls (sB _ _ hxA) jB.tab
        have eB := (same_ls sB).trans uB
        refine ⟨_, rfl, x, C, dx, _, rfl, sB _ _ hxA, TC.cl, TC.n4, (Nat.lt_of_le_of_lt (Nat.le_trans (length_putF _ _ _) (Nat.succ_le_succ lf8)) (by decide)), k _ iB ⟨dx, p1, p2, p3, D, xs1, xs2, xs3, upd_same, eB.seqT hp1A, dpAll_ls eB hd1A, eB.seqT hp2A, dpAll_ls eB hd2A, eB.seqT hp3A, dpAll_ls eB hd3A, kvs, ?_, ?_, fun z => ?_⟩ (newD iA hxA hD)⟩
        · rw [upd_ne nxD.symm]
          exact hk1
        · omega
        · rw [hk3 z, List.take_of_length_le (by omega)]
end
end K7

set_option maxRecDepth 100000
set_option maxHeartbeats 4000000
namespace K7
open PySem PySem.Spec PyProof.Rows L2 GxR Gd TL My
structure Mt (K : PySem.W.Frag) (C : Addr) (m q : Str) (st : Stmt) (ps : List Str) (f : Addr) (fd : FuncData) : Prop where
  fn : Fun K m q st f fd
  m : Meth K C m f
  b : Binds K fd ps []
def betw (i j : Nat) : V := if j = i + 1 then .int (i : Nat) else if i = j + 1 then .int (j : Nat) else .non
def lbt (lo : List (Int × Int × Int)) (a b : Int) : V := match lo.findIdx? fun p => decide (p.1 = a) && decide (p.2.1 = b) with
  | some j => .int (j : Nat)
  | none => .non
theorem lf_numbers (p1 p2 p3 d : Addr) : (lf p1 p2 p3 d).lookup (Str.ofString "_numbers") = some (V.ref d) := by rw [lf_get, if_pos rfl]
theorem lf_longs (p1 p2 p3 d : Addr) : (lf p1 p2 p3 d).lookup (Str.ofString "_longs") = some (V.ref p3) := by rw [lf_get, if_neg (by decide +kernel), if_pos rfl]
theorem lf_no (p1 p2 p3 d : Addr) {m : Str} (h : (decide (m = "_numbers") || decide (m = "_longs") || decide (m = "_stretches") || decide (m = "_places")) = false) : (lf p1 p2 p3 d).lookup m = none := by
  rw [lf_get]
  rw [Bool.or_eq_false_iff, Bool.or_eq_false_iff, Bool.or_eq_false_iff, decide_eq_false_iff_not, decide_eq_false_iff_not, decide_eq_false_iff_not, decide_eq_false_iff_not] at h
  obtain ⟨⟨⟨h1, h2⟩, h3⟩, h4⟩ := h
  rw [if_neg h1, if_neg h2, if_neg h3, if_neg h4]
section
variable {P : Program} {w : World} {K : PySem.W.Frag} {mg : Str → Option Value} {base : Heap}
abbrev s_number_of : Stmt := inClass (top 29) 3
theorem sc_number_of : FnScope ["self", "name"] ["self", "name"] (defScope s_number_of) := ⟨rfl, rfl, rfl, by decide +kernel, rfl, by decide +kernel, by decide +kernel⟩
def spNum (K : PySem.W.Frag) (C : Addr) : Sp := fun vs H Q _ => ∃ (x : Addr) (z : Str) (wd : Wd) (j : Nat), vs = [.ref x, .str z] ∧ LineAt K C wd H x ∧ posOf wd.ps z = some j ∧ Q (.int j) H
theorem ok_num {f C : Addr} {fd : FuncData} (F : Fun K "number_of" "Line.number_of" s_number_of f fd) (T : Txt mg) (TC : ClsT K C) : FnOk P w K mg base CX0 1 f fd ["self", "name"] (spNum K C) := by
  refine F.ok sc_number_of (fun vs H Q E h => ?_) (fun cdv A outer s H vs Q E hr h => ?_)
  · obtain ⟨x, z, wd, j, rfl, _⟩ := h
    rfl
  · obtain ⟨x, z, wd, j, rfl, ⟨dx, p1, p2, p3, d, xs1, xs2, xs3, hx, _, _, _, _, _, _, kvs, hk, hl, hv⟩, hj, k⟩ := h
    have hu := hr.units
    have hu1 := Nat.lt_of_le_of_lt (Nat.add_le_add_left (by decide : 1 ≤ 64) _) hu
    refine ⟨_, pss_cons (ps_if (PW.pt (pw_or (pt_not (pt_val (pe_callB call_isi (by rfl) T.isinstance_ (by decide +kernel) (pa_cons (pv 1) (pa_cons (pe_bltn (v := .ty "str") (by rfl) T.str_ (by decide +kernel) rfl) pa_nil))))) (pw_or1 (pt_cmp (pc_dnotin (hu_of hr) (pv 1) (pe_fld (pv 0) rfl)))))) (pss_one ps_never) pss_nil)
      (pss_one (ps_ret (pe_dget (hu_of hr) (pe_fld (pv 0) rfl) (pv 1) (fun _ _ => rfl)))), ?_⟩
    have e := hv z
    rw [hj] at e
    refine ⟨_, rfl, _, _, _, _, true, rfl, .ty "str", .base (.str z), (by rfl), _, rfl, iteF ?_⟩
    refine ⟨_, rfl, _, rfl, x, C, dx, _, _, rfl, hx, TC.cl, TC.n4, lf_numbers _ _ _ _, d, some (.int j), rfl, .inl ⟨kvs, Sum.inr z, Rd.of hk, rfl, e.symm⟩, _, rfl, iteF ?_⟩
    exact ⟨_, rfl, x, C, dx, _, _, rfl, hx, TC.cl, TC.n4, lf_numbers _ _ _ _, _, rfl, d, .int j, rfl, .inl ⟨kvs, Sum.inr z, Rd.of hk, rfl, e.symm⟩, k⟩
abbrev s_between : Stmt := inClass (top 29) 9
theorem sc_between : FnScope ["self", "one", "other", "number", "apart"] ["self", "one", "other"] (defScope s_between) := ⟨rfl, rfl, rfl, by decide +kernel, rfl, by decide +kernel, by decide +kernel⟩
def spBetween (K : PySem.W.Frag) (C : Addr) : Sp := fun vs H Q _ => ∃ (x : Addr) (z1 z2 : Str) (wd : Wd) (i j : Nat), vs = [.ref x, .str z1, .str z2] ∧ LineAt K C wd H x ∧ posOf wd.ps z1 = some i ∧ posOf wd.ps z2 = some j ∧ Q (betw i j) H
theorem ok_between {f fN C : Addr} {fd fdN : FuncData} (F : Fun K "between" "Line.between" s_between f fd) (T : Txt mg) (TC : ClsT K C)
    (Mnumber_of : Mt K C "number_of" "Line.number_of" s_number_of ["self", "name"] fN fdN) (Gnumber_of : FnOk P w K mg base CX0 1 fN fdN ["self", "name"] (spNum K C)) :
    FnOk P w K mg base CX0 2 f fd ["self", "one", "other"] (spBetween K C) := by
  refine F.ok sc_between (fun vs H Q E h => ?_) (fun cdv A outer s H vs Q E hr h => ?_)
  · obtain ⟨x, z1, z2, wd, i, j, rfl, _⟩ := h
    rfl
  · obtain ⟨x, z1, z2, wd, i, j, rfl, hL, h1, h2, k⟩ := h
    have hL' := hL
    obtain ⟨dx, p1, p2, p3, d, xs1, xs2, xs3, hx, _⟩ := hL'
    refine ⟨_, pss_cons (ps_set (i := 3) sc_between.nd rfl (Or.inl rfl) (pe_meth (pv 0) TC.cl Mnumber_of.m Gnumber_of (hr.mono (by decide)) Mnumber_of.b .nil pass0 (pa_cons (pv 1) pa_nil)))
      (pss_cons (ps_set (i := 4) sc_between.nd rfl (Or.inl rfl) (pe_op op_sub (pe_meth (pv 0) TC.cl Mnumber_of.m Gnumber_of (hr.mono (by decide)) Mnumber_of.b .nil pass0 (pa_cons (pv 2) pa_nil)) (pv 3)))
      (pss_cons (ps_if (pt_cmpR op_eq (pv 4) pe_int (nomark _)) (pss_one (ps_ret (pv 3))) pss_nil)
      (pss_cons (ps_if (pt_cmpR op_eq (pv 4) (pe_un un_neg pe_int) (nomark _)) (pss_one (ps_ret (pe_op op_sub (pv 3) pe_int))) pss_nil)
      (pss_one (ps_ret pe_non))))), ?_⟩
    have no : (lf p1 p2 p3 d).lookup (Str.ofString "number_of") = none := lf_no _ _ _ _ (by decide +kernel)
    refine ⟨_, rfl, x, dx, _, rfl, hx, no, _, rfl, x, z1, wd, i, rfl, hL, h1, ?_⟩
    refine ⟨_, rfl, x, dx, _, rfl, hx, no, _, rfl, x, z2, wd, j, rfl, hL, h2, _, rfl, _, _, rfl, rfl, ?_⟩
    refine ⟨_, rfl, rfl, _, rfl, ite2 (fun c => ?_) (fun c => ?_)⟩
    · have c' : ((j : Int) - i) = 1 := by simpa using c
      have e : betw i j = .int (i : Nat) := by unfold betw; rw [if_pos (by omega)]
      rw [e] at k
      exact ⟨_, rfl, k⟩
    · have c' : ((j : Int) - i) ≠ 1 := by simpa using c
      refine ⟨_, rfl, _, rfl, rfl, _, rfl, ite2 (fun c2 => ?_) (fun c2 => ?_)⟩
      · have c2' : ((j : Int) - i) = -1 := by simpa using c2
        have e : betw i j = .int (j : Nat) := by unfold betw; rw [if_neg (by omega), if_pos (by omega)]
        rw [e] at k
        refine ⟨_, rfl, _, _, rfl, rfl, ?_⟩
        have e3 : ((i : Int) - 1) = (j : Nat) := by omega
        show Q (.int ((i : Int) - 1)) H
        rw [e3]
        exact k
      · have c2' : ((j : Int) - i) ≠ -1 := by simpa using c2
        have e : betw i j = .non := by unfold betw; rw [if_neg (by omega), if_neg (by omega)]
        rw [e] at k
        exact k
abbrev s_long_between : Stmt := inClass (top 29) 15
theorem sc_long_between : FnScope ["self", "one", "other", "asked", "j", "first", "last", "_"] ["self", "one", "other"] (defScope s_long_between) := ⟨rfl, rfl, rfl, by decide +kernel, rfl, by decide +kernel, by decide +kernel⟩
def spLongBetween (K : PySem.W.Frag) (C : Addr) : Sp := fun vs H Q _ => ∃ (x : Addr) (z1 z2 : Str) (wd : Wd) (i j : Nat), vs = [.ref x, .str z1, .str z2] ∧ LineAt K C wd H x ∧ posOf wd.ps z1 = some i ∧ posOf wd.ps z2 = some j ∧
  ∀ H', Same H H' → Q (lbt wd.lo (min i j : Nat) (max i j : Nat)) H'
theorem perm2 {a b : Int} {l : List Int} (p : l.Perm [a, b]) (s : l.Pairwise (· ≤ ·)) : l = [min a b, max a b] := by
  have hl := p.length_eq
  match l, hl, p, s with
  | [u, v], _, p, s =>
    have su : u ≤ v := by simpa using s
    have m1 : u ∈ [a, b] := p.subset (by simp)
    have m2 : v ∈ [a, b] := p.subset (by simp)
    have m3 : a ∈ [u, v] := p.symm.subset (by simp)
    have m4 : b ∈ [u, v] := p.symm.subset (by simp)
    simp at m1 m2 m3 m4
    have e1 : u = min a b := by omega
    have e2 : v = max a b := by omega
    rw [e1, e2]
theorem eqv2 (a b f l : Int) : PyData.eqv (.list [.int a, .int b]) (.list [.int f, .int l]) = (decide (a = f) && decide (b = l)) := by
  simp [PyData.eqv, PyData.eqvAll]
  rw [Bool.eq_iff_iff]
  simp
theorem ok_long_between {f fN C : Addr} {fd fdN : FuncData} (F : Fun K "long_between" "Line.long_between" s_long_between f fd) (T : Txt mg) (TC : ClsT K C)
    (Mnumber_of : Mt K C "number_of" "Line.number_of" s_number_of ["self", "name"] fN fdN) (Gnumber_of : FnOk P w K mg base CX0 1 fN fdN ["self", "name"] (spNum K C)) :
    FnOk P w K mg base CX0 2 f fd ["self", "one", "other"] (spLongBetween K C) := by
  refine F.ok sc_long_between (fun vs H Q E h => ?_) (fun cdv A outer s H vs Q E hr h => ?_)
  · obtain ⟨x, z1, z2, wd, i, j, rfl, _⟩ := h
    rfl
  · obtain ⟨x, z1, z2, wd, i, j, rfl, hL, h1, h2, k⟩ := h
    have hL' := hL
    obtain ⟨dx, p1, p2, p3, d, xs1, xs2, xs3, hx, hp1, hd1, hp2, hd2, hp3, hd3, hN⟩ := hL'
    have hu := hr.units
    refine ⟨_, pss_cons (ps_set (i := 3) sc_long_between.nd rfl (Or.inl rfl) (pe_callB cr_sorted (by rfl) T.sorted_ (by decide +kernel) (pa_cons (pe_lst (pa_cons (pe_meth (pv 0) TC.cl Mnumber_of.m Gnumber_of (hr.mono (by decide)) Mnumber_of.b .nil pass0 (pa_cons (pv 1) pa_nil)) (pa_cons (pe_meth (pv 0) TC.cl Mnumber_of.m Gnumber_of (hr.mono (by decide)) Mnumber_of.b .nil pass0 (pa_cons (pv 2) pa_nil)) pa_nil))) pa_nil)))
      (pss_cons (ps_for PassesOwn.never rfl (pi_enumT (by rfl) T.enumerate_ (pa_cons (pe_fld (pv 0) rfl) pa_nil)) (pg_tup (by rfl) (pgs_cons (pg_name (i := 4) sc_long_between.nd rfl (Or.inl rfl)) (pgs_cons (pg_tup (by rfl) (pgs_cons (pg_name (i := 5) sc_long_between.nd rfl (Or.inl rfl)) (pgs_cons (pg_name (i := 6) sc_long_between.nd rfl (Or.inl rfl)) (pgs_cons (pg_name (i := 7) sc_long_between.nd rfl (Or.inl rfl)) pgs_nil)))) pgs_nil))) (pss_one (ps_if (pt_cmpR (op_eqD hu) (pv 3) (pe_lst (pa_cons (pv 5) (pa_cons (pv 6) pa_nil))) (nomark _)) (pss_one (ps_ret (pv 4))) pss_nil)))
      (pss_one (ps_ret pe_non))), ?_⟩
    have no : (lf p1 p2 p3 d).lookup (Str.ofString "number_of") = none := lf_no _ _ _ _ (by decide +kernel)
    refine ⟨_, rfl, x, dx, _, rfl, hx, no, _, rfl, x, z1, wd, i, rfl, hL, h1, ?_⟩
    refine ⟨_, rfl, x, dx, _, rfl, hx, no, _, rfl, x, z2, wd, j, rfl, hL, h2, ?_⟩
    refine ⟨(by show 2 ≤ sizeLine; decide), fun L hL0 => ?_⟩
    have e1 := same_alloc (o := .lst [.int (i : Nat), .int (j : Nat)]) hL0
    refine ⟨L, [(i : Nat), (j : Nat)], rfl, SqL.of upd_same, (by show 2 < 64; decide), fun ns q pm ps hq => ?_⟩
    obtain rfl := perm2 pm ps
    have e2 := same_alloc (o := .lst ([min (i : Int) j, max (i : Int) j].map V.int)) hq
    have e12 : Same H _ := e1.trans e2
    have hs2 : (upd (upd H L (.lst [.int (i : Nat), .int (j : Nat)])) q (.lst ([min (i : Int) j, max (i : Int) j].map V.int))) q = some (.lst ([min (i : Int) j, max (i : Int) j].map V.int)) := upd_same
    generalize upd (upd H L (.lst [.int (i : Nat), .int (j : Nat)])) q (.lst ([min (i : Int) j, max (i : Int) j].map V.int)) = H2 at e12 hs2 ⊢
    have hp3' := (same_nt e12).seqT hp3
    have k' : ∀ H', Same H H' → Q (lbt wd.lo (min (i : Int) j) (max (i : Int) j)) H' := by
      have a1 : ((min i j : Nat) : Int) = min (i : Int) j := by omega
      have a2 : ((max i j : Nat) : Int) = max (i : Int) j := by omega
      rw [← a1, ← a2]
      exact k
    generalize min (i : Int) j = mn at hs2 k' ⊢
    generalize max (i : Int) j = mx at hs2 k' ⊢
    refine ⟨_, rfl, x, C, dx, _, _, rfl, e12 _ _ hx, TC.cl, TC.n3, lf_longs _ _ _ _, p3, xs3, rfl, hp3', for_it (walk_enumT (K := K) (xs := xs3)) (fun i σ H' => ∃ v4 v5 v6 v7 : Option V, σ = [some (.ref x), some (.str z1), some (.str z2), some (.ref q), v4, v5, v6, v7] ∧ Same H2 H' ∧ ∀ (j : Nat) (p : Int × Int × Int), j < i → wd.lo[j]? = some p → ¬ (p.1 = mn ∧ p.2.1 = mx)) ?_ ?_ ?_ ?_⟩
    · exact ⟨_, _, _, _, rfl, Same.refl _, fun j p h => absurd h (Nat.not_lt_zero j)⟩
    · rintro i' σ H' hi ⟨_, _, _, _, _, s, _⟩
      exact (same_nt s).seqT hp3'
    · rintro i' v σ H' H'' hi ⟨_, _, _, _, rfl, s, hn⟩ ⟨T1, X, Y, rfl, hT1, rfl, q1, q2⟩
      obtain rfl := Option.some.inj q1
      obtain ⟨d', hg1, hg2⟩ := dpAll_get hd3 q2
      obtain ⟨p, hp, rfl⟩ := get_map hg1
      obtain ⟨t, x1, x2, x3, rfl, ht, r1, r2, r3⟩ := dp_three hg2
      obtain rfl := dp_int r1
      obtain rfl := dp_int r2
      obtain rfl := dp_int r3
      have s2 := s.trans (same_alloc (o := .tup [.int (i' : Nat), .ref t]) hT1)
      have ht2 := (same_nt (e12.trans s2)).seqT ht
      refine ⟨T1, _, rfl, SqT.of upd_same, rfl, _, _, rfl, _, _, rfl, t, _, rfl, ht2, rfl, _, _, rfl, _, _, rfl, _, _, rfl, rfl, rfl, ?_⟩
      refine ⟨_, rfl, _, rfl, _, rfl, (by show 2 ≤ sizeLine; decide), fun u hu0 => ?_⟩
      have s3 := s2.trans (same_alloc (o := .lst [.int p.1, .int p.2.1]) hu0)
      refine ⟨.list [.int mn, .int mx], .list [.int p.1, .int p.2.1], .lst (SqL.of (s3 _ _ hs2)) (.cons (.int _) (.cons (.int _) .nil)), .lst (SqL.of upd_same) (.cons (.int _) (.cons (.int _) .nil)), rfl, rfl, _, rfl, ?_⟩
      rw [eqv2]
      refine ite2 (fun c => ?_) (fun c => ?_)
      · simp at c
        refine ⟨_, rfl, ?_⟩
        have e : lbt wd.lo mn mx = .int (i' : Nat) := by
          unfold lbt
          have f : wd.lo.findIdx? (fun p => decide (p.1 = mn) && decide (p.2.1 = mx)) = some i' := by
            rw [List.findIdx?_eq_some_iff_getElem]
            obtain ⟨hi1, hi2⟩ := List.getElem?_eq_some_iff.mp hp
            refine ⟨hi1, by rw [hi2]; simp [c.1, c.2], fun j hj hc => ?_⟩
            refine hn j wd.lo[j] hj (List.getElem?_eq_getElem _) ?_
            simpa using hc
          rw [f]
        have z := k' _ (e12.trans s3)
        rw [e] at z
        exact z
      · refine ⟨_, _, _, _, rfl, s3, fun j p' hj hp' hc => ?_⟩
        rcases Nat.lt_succ_iff_lt_or_eq.mp hj with h | rfl
        · exact hn j p' h hp' hc
        · rw [hp] at hp'
          obtain rfl := Option.some.inj hp'
          simp [hc.1, hc.2] at c
    · rintro σ H' ⟨_, _, _, _, rfl, s, hn⟩
      have e : lbt wd.lo mn mx = .non := by
        unfold lbt
        have f : wd.lo.findIdx? (fun p => decide (p.1 = mn) && decide (p.2.1 = mx)) = none := by
          rw [List.findIdx?_eq_none_iff]
          intro p hp
          obtain ⟨j, hj, e⟩ := List.getElem_of_mem hp
          have z := hn j p (by rw [dpAll_len hd3, List.length_map]; exact hj) (by rw [List.getElem?_eq_getElem hj, e])
          simpa using z
        rw [f]
      have z := k' _ (e12.trans s)
      rw [e] at z
      exact z
end
end K7

set_option maxRecDepth 100000
set_option maxHeartbeats 4000000
/-! the names that a law draws: three ways, all good, all apart -/
namespace My
open PySem PySem.Spec PyProof.Rows L2 GxR Gd TL
theorem tl_inj {a b : Str} (h : tl a = tl b) : a = b := by
  obtain ⟨⟨x⟩⟩ := a
  obtain ⟨⟨y⟩⟩ := b
  have e : x = y := h
  rw [e]
theorem name_of {z : Str} (h1 : 1 ≤ (tl z).length) (h2 : (tl z).length ≤ 6) (h3 : ∀ c ∈ tl z, lc c = true) : NameOk z := by
  rw [tl_len] at h1 h2
  exact ⟨h1, h2, List.all_eq_true.mpr h3⟩
theorem tl_to {z : Str} {j : Nat} (h : j ≤ (tl z).length) : tl (cutS z none (some (j : Int))) = (tl z).take j := by
  show (((tl z).drop (HT.sIx z.length 0 none)).take (HT.sIx z.length z.length (some (j : Int)) - HT.sIx z.length 0 none)) = _
  rw [HT.sIx_none, HT.sIx_nat, ← tl_len, Nat.min_eq_left h]
  simp
theorem tl_cut {z : Str} {a b : Nat} (h : b ≤ (tl z).length) (ha : a ≤ b) : tl (cutS z (some (a : Int)) (some (b : Int))) = ((tl z).drop a).take (b - a) := by
  show (((tl z).drop (HT.sIx z.length 0 (some (a : Int)))).take (HT.sIx z.length z.length (some (b : Int)) - HT.sIx z.length 0 (some (a : Int)))) = _
  rw [HT.sIx_nat, HT.sIx_nat, ← tl_len, Nat.min_eq_left h, Nat.min_eq_left (Nat.le_trans ha h)]
theorem joinL_ones : ∀ cs : List Nat, joinL [] (cs.map fun c => [c]) = cs
  | [] => rfl
  | [c] => rfl
  | c :: d :: r => by
    have ih := joinL_ones (d :: r)
    show [c] ++ ([] ++ joinL [] ((d :: r).map fun c => [c])) = _
    rw [ih]
    rfl
theorem tl_ones (cs : List Nat) : tl (Txt.join (Str.ofString "") (cs.map fun c => ⟨#[c]⟩)) = cs := by
  rw [join_eq, tl_join, List.map_map]
  have e : tl (Str.ofString "") = [] := by decide +kernel
  rw [e]
  exact joinL_ones cs
/-- all good, all apart -/
structure Nms (ns : List Str) : Prop where
  ok : ∀ z ∈ ns, NameOk z
  nd : ns.Nodup
theorem nms_of {f : Nat → Str} {n : Nat} (ok : ∀ k, k < n → NameOk (f k)) (ap : ∀ j k, j < k → k < n → f j ≠ f k) : Nms ((List.range n).map f) := by
  refine ⟨fun z hz => ?_, ?_⟩
  · obtain ⟨k, hk, rfl⟩ := List.mem_map.mp hz
    exact ok k (List.mem_range.mp hk)
  · show ((List.range n).map f).Pairwise (· ≠ ·)
    rw [List.pairwise_map]
    have p : (List.range n).Pairwise (fun a b => a < b) := List.pairwise_lt_range
    refine List.Pairwise.imp_of_mem ?_ p
    intro a b ha hb hab
    exact ap a b hab (List.mem_range.mp hb)
/-! the first way -/
def wds : List Str := ["place", "staff", "ticket", "low", "high", "long", "pilot", "train", "at", "to", "in", "get", "a"]
theorem wds_ok : ∀ z ∈ wds, NameOk z := by
  intro z hz
  have h : (wds.all fun z => decide (1 ≤ (tl z).length) && decide ((tl z).length ≤ 6) && (tl z).all lc) = true := by decide +kernel
  have q := List.all_eq_true.mp h z hz
  rw [Bool.and_eq_true, Bool.and_eq_true, decide_eq_true_eq, decide_eq_true_eq] at q
  exact name_of q.1.1 q.1.2 (List.all_eq_true.mp q.2)
theorem wds_nd : wds.Nodup := by decide +kernel
def nm0 (a : Int) (k : Nat) : Str := (wds[((a + 5 * (k : Int)) % 13).toNat]?).getD ⟨#[]⟩
theorem nm0_at (a : Int) (k : Nat) : atI wds ((a + 5 * (k : Int)) % 13) = some (nm0 a k) := by
  have h0 := Int.emod_nonneg (a + 5 * (k : Int)) (by decide : (13 : Int) ≠ 0)
  have h1 := Int.emod_lt_of_pos (a + 5 * (k : Int)) (by decide : (0 : Int) < 13)
  have hl : wds.length = 13 := by decide +kernel
  generalize e : (a + 5 * (k : Int)) % 13 = m at h0 h1
  obtain ⟨j, rfl⟩ := Int.eq_ofNat_of_zero_le h0
  have hj : j < wds.length := by omega
  unfold nm0
  rw [e, Int.toNat_natCast, List.getElem?_eq_getElem hj]
  exact atI_nat (List.getElem?_eq_getElem hj)
theorem nm0_ok (a : Int) (n : Nat) (hn : n ≤ 7) : Nms ((List.range n).map (nm0 a)) := by
  have hl : wds.length = 13 := by decide +kernel
  have key : ∀ k : Nat, ∃ j : Nat, ((j : Nat) : Int) = (a + 5 * (k : Int)) % 13 ∧ ∃ h : j < wds.length, nm0 a k = wds[j] := fun k => by
    have h0 := Int.emod_nonneg (a + 5 * (k : Int)) (by decide : (13 : Int) ≠ 0)
    have h1 := Int.emod_lt_of_pos (a + 5 * (k : Int)) (by decide : (0 : Int) < 13)
    unfold nm0
    generalize (a + 5 * (k : Int)) % 13 = m at h0 h1
    obtain ⟨j, rfl⟩ := Int.eq_ofNat_of_zero_le h0
    have hj : j < wds.length := by omega
    exact ⟨j, rfl, hj, by rw [Int.toNat_natCast, List.getElem?_eq_getElem hj]; rfl⟩
  refine nms_of (fun k hk => ?_) (fun j k hjk hk e => ?_)
  · obtain ⟨j, _, hj, e⟩ := key k
    rw [e]
    exact wds_ok _ (List.getElem_mem hj)
  · obtain ⟨j1, a1, b1, c1⟩ := key j
    obtain ⟨j2, a2, b2, c2⟩ := key k
    rw [c1, c2] at e
    have nd : wds.Pairwise (· ≠ ·) := wds_nd
    rcases Nat.lt_trichotomy j1 j2 with h | h | h
    · exact List.pairwise_iff_getElem.mp nd j1 j2 b1 b2 h e
    · omega
    · exact List.pairwise_iff_getElem.mp nd j2 j1 b2 b1 h e.symm
/-! the second way -/
structure Stem (z : Str) : Prop where
  len : (tl z).length = 6
  ok : ∀ c ∈ tl z, lc c = true
def nm1 (z : Str) (a : Int) (k : Nat) : Str := cutS z none (some (1 + (a + 5 * (k : Int)) % 6))
theorem nm1_ok {z : Str} (h : Stem z) (a : Int) (n : Nat) (hn : n < 7) : Nms ((List.range n).map (nm1 z a)) := by
  have key : ∀ k : Nat, ∃ j : Nat, ((j : Nat) : Int) = 1 + (a + 5 * (k : Int)) % 6 ∧ 1 ≤ j ∧ j ≤ 6 ∧ tl (nm1 z a k) = (tl z).take j := fun k => by
    have h0 := Int.emod_nonneg (a + 5 * (k : Int)) (by decide : (6 : Int) ≠ 0)
    have h1 := Int.emod_lt_of_pos (a + 5 * (k : Int)) (by decide : (0 : Int) < 6)
    unfold nm1
    generalize (a + 5 * (k : Int)) % 6 = m at h0 h1
    obtain ⟨j, rfl⟩ := Int.eq_ofNat_of_zero_le h0
    refine ⟨1 + j, by omega, by omega, by omega, ?_⟩
    have e : (1 + (j : Int)) = ((1 + j : Nat) : Int) := by omega
    rw [e]
    exact tl_to (by rw [h.len]; omega)
  refine nms_of (fun k hk => ?_) (fun j k hjk hk e => ?_)
  · obtain ⟨j, _, j1, j6, e⟩ := key k
    have hl := h.len
    refine name_of ?_ ?_ (fun c hc => h.ok c (by rw [e] at hc; exact List.mem_of_mem_take hc)) <;> rw [e, List.length_take] <;> omega
  · obtain ⟨j1, a1, _, b1, c1⟩ := key j
    obtain ⟨j2, a2, _, b2, c2⟩ := key k
    have l := congrArg (fun z => (tl z).length) e
    have hl := h.len
    simp only [c1, c2, List.length_take] at l
    omega
/-! the third way -/
def abc : Str := "abcdefghijklmnopqrstuvwxyz"
def lt1 (a : Int) (k : Nat) : Nat := 97 + ((a + 7 * (k : Int)) % 26).toNat
theorem abc_at {i : Int} (h0 : 0 ≤ i) (h1 : i < 26) : atI abc.cps.toList i = some (97 + i.toNat) := by
  obtain ⟨j, rfl⟩ := Int.eq_ofNat_of_zero_le h0
  have h : ∀ j : Fin 26, abc.cps.toList[j.1]? = some (97 + j.1) := by decide +kernel
  rw [Int.toNat_natCast]
  exact atI_nat (h ⟨j, by omega⟩)
theorem lt1_at (a : Int) (k : Nat) : atI abc.cps.toList ((a + 7 * (k : Int)) % 26) = some (lt1 a k) := abc_at (Int.emod_nonneg _ (by decide)) (Int.emod_lt_of_pos _ (by decide))
theorem lt1_lc (a : Int) (k : Nat) : lc (lt1 a k) = true := by
  have h0 := Int.emod_nonneg (a + 7 * (k : Int)) (by decide : (26 : Int) ≠ 0)
  have h1 := Int.emod_lt_of_pos (a + 7 * (k : Int)) (by decide : (0 : Int) < 26)
  unfold lt1 lc
  rw [Bool.and_eq_true, decide_eq_true_eq, decide_eq_true_eq]
  omega
def nm2 (z : Str) (a t : Int) (k : Nat) : Str := cutS z none (some t) ++ ⟨#[lt1 a k]⟩ ++ cutS z (some t) (some (t + (a + (k : Int)) % (6 - t)))
theorem nm2_ok {z : Str} (h : Stem z) (a t : Int) (t0 : 0 ≤ t) (t6 : t < 6) (n : Nat) (hn : n ≤ 7) : Nms ((List.range n).map (nm2 z a t)) := by
  obtain ⟨t, rfl⟩ := Int.eq_ofNat_of_zero_le t0
  have hl := h.len
  have key : ∀ k : Nat, ∃ m : Nat, t + m < 6 ∧ tl (nm2 z a t k) = (tl z).take t ++ ([lt1 a k] ++ ((tl z).drop t).take m) := fun k => by
    have h0 := Int.emod_nonneg (a + (k : Int)) (show (6 - (t : Int)) ≠ 0 by omega)
    have h1 := Int.emod_lt_of_pos (a + (k : Int)) (show (0 : Int) < 6 - (t : Int) by omega)
    unfold nm2
    generalize (a + (k : Int)) % (6 - (t : Int)) = m at h0 h1
    obtain ⟨m, rfl⟩ := Int.eq_ofNat_of_zero_le h0
    refine ⟨m, by omega, ?_⟩
    rw [tl_append, tl_append, tl_to (by omega), show ((t : Int) + (m : Int)) = ((t + m : Nat) : Int) by omega, tl_cut (by omega) (by omega), show t + m - t = m by omega, List.append_assoc]
  refine nms_of (fun k hk => ?_) (fun j k hjk hk e => ?_)
  · obtain ⟨m, hm, e⟩ := key k
    refine name_of ?_ ?_ (fun c hc => ?_)
    · rw [e, List.length_append, List.length_append]
      simp
      omega
    · rw [e, List.length_append, List.length_append, List.length_take, List.length_take, List.length_drop]
      simp
      omega
    · rw [e] at hc
      rcases List.mem_append.mp hc with q | q
      · exact h.ok c (List.mem_of_mem_take q)
      · rcases List.mem_append.mp q with q | q
        · rw [List.mem_singleton.mp q]
          exact lt1_lc a k
        · exact h.ok c (List.mem_of_mem_drop (List.mem_of_mem_take q))
  · obtain ⟨m1, hm1, c1⟩ := key j
    obtain ⟨m2, hm2, c2⟩ := key k
    have l := congrArg (fun z => (tl z)[t]?) e
    simp only [c1, c2] at l
    have lt : ((tl z).take t).length = t := by rw [List.length_take]; omega
    have g : ∀ (c : Nat) (r : List Nat), ((tl z).take t ++ ([c] ++ r))[t]? = some c := fun c r => by
      rw [List.getElem?_append_right (by omega), lt, Nat.sub_self]
      rfl
    rw [g, g] at l
    have l := Option.some.inj l
    unfold lt1 at l
    have h0 := Int.emod_nonneg (a + 7 * (j : Int)) (by decide : (26 : Int) ≠ 0)
    have h1 := Int.emod_nonneg (a + 7 * (k : Int)) (by decide : (26 : Int) ≠ 0)
    omega
end My

set_option maxRecDepth 100000
set_option maxHeartbeats 4000000
namespace K7
open PySem PySem.Spec PyProof.Rows L2 GxR Gd TL My
theorem range_snoc (f : Nat → Str) (i : Nat) : ((List.range (i + 1)).map f).map V.str = ((List.range i).map f).map V.str ++ [V.str (f i)] := by
  rw [List.range_succ, List.map_append, List.map_append]
  rfl
theorem ixL {X : Cx} {K : PySem.W.Frag} (h : X.K = K) : IxR X (rIxL K) := h ▸ ix_list
theorem cmul {m : Nat} (i : Nat) (h : i < m) (hm : m ≤ 7) : CMul 5 (0 + (i : Int)) := .inl ⟨by decide, by decide⟩
theorem cmul7 (i : Nat) : CMul 7 (0 + (i : Int)) := .inl ⟨by decide, by decide⟩
theorem atI_map {α β : Type} {f : α → β} {xs : List α} {i : Int} {v : α} (h : atI xs i = some v) : atI (xs.map f) i = some (f v) := by
  unfold atI at h ⊢
  rw [List.length_map]
  cases e : ixN xs.length i with
  | none => rw [e] at h; cases h
  | some j =>
    rw [e] at h
    show (xs.map f)[j]? = _
    rw [List.getElem?_map, show xs[j]? = some v from h]
    rfl
theorem lt_line (i : Nat) (h : i ≤ 100) : i < sizeLine := Nat.lt_of_le_of_lt h (by decide)
section
variable {P : Program} {w : World} {K : PySem.W.Frag} {mg : Str → Option Value} {base : Heap}
abbrev s_law_names : Stmt := top 47
theorem sc_law_names : FnScope ["_law_box_here", "_law_many", "_law_letters", "_law_words", "_law_way", "_law_first", "_law_stem", "_law_at", "_law_k"] ["_law_box_here", "_law_many"] (defScope s_law_names) := ⟨rfl, rfl, rfl, by decide +kernel, rfl, by decide +kernel, by decide +kernel⟩
def spNames : Sp := fun vs H Q _ => ∃ (b : Addr) (m : Nat) (n : Int), vs = [.ref b, .int (m : Nat)] ∧ Bx b n H ∧ n ≤ 90000 ∧ m ≤ 7 ∧
  ∀ (ns : List Str) (a : Addr) (H' : Hp), KB b H H' → Bx b (n + 20) H' → H' a = some (.lst (ns.map V.str)) → ns.length = m → Nms ns → Q (.ref a) H'
theorem ok_names {f fT : Addr} {fd fdT : FuncData} (F : Fun K "_law_names" "_law_names" s_law_names f fd) (T : Txt mg)
    (Nlaw_take : Fn K mg "_law_take" sTake ["_law_box_here", "_law_many"] fT fdT) (Glaw_take : FnOk P w K mg base CX0 1 fT fdT ["_law_box_here", "_law_many"] spTake) :
    FnOk P w K mg base CX0 2 f fd ["_law_box_here", "_law_many"] spNames := by
  refine F.ok sc_law_names (fun vs H Q E h => ?_) (fun cdv A outer s H vs Q E hr h => ?_)
  · obtain ⟨b, m, n, rfl, _⟩ := h
    rfl
  · obtain ⟨b, m, n, rfl, hB, hn, hm, k⟩ := h
    refine ⟨_, pss_cons (ps_set (i := 2) sc_law_names.nd rfl (Or.inr rfl) pe_str)
      (pss_cons (ps_set (i := 3) sc_law_names.nd rfl (Or.inr rfl) (pe_lst (pa_cons pe_str (pa_cons pe_str (pa_cons pe_str (pa_cons pe_str (pa_cons pe_str (pa_cons pe_str (pa_cons pe_str (pa_cons pe_str (pa_cons pe_str (pa_cons pe_str (pa_cons pe_str (pa_cons pe_str (pa_cons pe_str pa_nil)))))))))))))))
      (pss_cons (ps_set (i := 4) sc_law_names.nd rfl (Or.inl rfl) (pe_call Glaw_take (hr.mono (by decide)) (by rfl) Nlaw_take.g Nlaw_take.kp Nlaw_take.b .nil pass0 (pa_cons (pv 0) (pa_cons pe_int pa_nil))))
      (pss_cons (ps_set (i := 5) sc_law_names.nd rfl (Or.inr rfl) (pe_call Glaw_take (hr.mono (by decide)) (by rfl) Nlaw_take.g Nlaw_take.kp Nlaw_take.b .nil pass0 (pa_cons (pv 0) (pa_cons pe_int pa_nil))))
      (pss_cons (ps_if (pt_cmpR op_eq (pv 4) pe_int (nomark _)) (pss_one (ps_ret (pe_lc (own := [("_law_k", 8)]) (g := gName 8) (tt := tYes) rfl sc_law_names.nd (pi_range1 (by rfl) T.range_ (pa_cons (pv 1) pa_nil)) (blkOk_by (own := [("_law_k", 8)]) (N := ["_law_box_here", "_law_many", "_law_letters", "_law_words", "_law_way", "_law_first", "_law_stem", "_law_at", "_law_k"]) (sc := defScope s_law_names) (by decide +kernel)) (fun _ _ _ _ _ => (pg_name (i := 8) sc_law_names.nd rfl (Or.inl rfl))) (fun _ _ _ _ _ => pts_nil) (fun _ _ _ _ _ => (pe_ix (ixL (K := K) rfl) (pv 3) (pe_op op_mod (pe_op op_add (pv 5) (pe_op op_mul pe_int (pv 8))) pe_int) (fun _ _ => rfl)))))) pss_nil)
      (pss_cons (ps_set (i := 6) sc_law_names.nd rfl (Or.inr rfl) (pe_join pe_str (pe_lc (own := [("_law_k", 8)]) (g := gName 8) (tt := tYes) rfl sc_law_names.nd (pi_range1 (by rfl) T.range_ (pa_cons pe_int pa_nil)) (blkOk_by (own := [("_law_k", 8)]) (N := ["_law_box_here", "_law_many", "_law_letters", "_law_words", "_law_way", "_law_first", "_law_stem", "_law_at", "_law_k"]) (sc := defScope s_law_names) (by decide +kernel)) (fun _ _ _ _ _ => (pg_name (i := 8) sc_law_names.nd rfl (Or.inl rfl))) (fun _ _ _ _ _ => pts_nil) (fun _ _ _ _ _ => (pe_ix ix_str (pv 2) (pe_call Glaw_take (hr.mono (by decide)) (by rfl) Nlaw_take.g Nlaw_take.kp Nlaw_take.b .nil pass0 (pa_cons (pv 0) (pa_cons pe_int pa_nil))) (fun _ _ => rfl))))))
      (pss_cons (ps_if (PW.pt (pw_and (pt_cmpR op_eq (pv 4) pe_int (nomark _)) (pw_and1 (pt_cmpR op_lt (pv 1) pe_int (nomark _))))) (pss_one (ps_ret (pe_lc (own := [("_law_k", 8)]) (g := gName 8) (tt := tYes) rfl sc_law_names.nd (pi_range1 (by rfl) T.range_ (pa_cons (pv 1) pa_nil)) (blkOk_by (own := [("_law_k", 8)]) (N := ["_law_box_here", "_law_many", "_law_letters", "_law_words", "_law_way", "_law_first", "_law_stem", "_law_at", "_law_k"]) (sc := defScope s_law_names) (by decide +kernel)) (fun _ _ _ _ _ => (pg_name (i := 8) sc_law_names.nd rfl (Or.inl rfl))) (fun _ _ _ _ _ => pts_nil) (fun _ _ _ _ _ => (pe_slice sl_str (pv 6) po_none (po_some (pe_op op_add pe_int (pe_op op_mod (pe_op op_add (pv 5) (pe_op op_mul pe_int (pv 8))) pe_int)))))))) pss_nil)
      (pss_cons (ps_set (i := 7) sc_law_names.nd rfl (Or.inr rfl) (pe_call Glaw_take (hr.mono (by decide)) (by rfl) Nlaw_take.g Nlaw_take.kp Nlaw_take.b .nil pass0 (pa_cons (pv 0) (pa_cons pe_int pa_nil))))
      (pss_one (ps_ret (pe_lc (own := [("_law_k", 8)]) (g := gName 8) (tt := tYes) rfl sc_law_names.nd (pi_range1 (by rfl) T.range_ (pa_cons (pv 1) pa_nil)) (blkOk_by (own := [("_law_k", 8)]) (N := ["_law_box_here", "_law_many", "_law_letters", "_law_words", "_law_way", "_law_first", "_law_stem", "_law_at", "_law_k"]) (sc := defScope s_law_names) (by decide +kernel)) (fun _ _ _ _ _ => (pg_name (i := 8) sc_law_names.nd rfl (Or.inl rfl))) (fun _ _ _ _ _ => pts_nil) (fun _ _ _ _ _ => (pe_op op_add_str (pe_op op_add_str (pe_slice sl_str (pv 6) po_none (po_some (pv 7))) (pe_ix ix_str (pv 2) (pe_op op_mod (pe_op op_add (pv 5) (pe_op op_mul pe_int (pv 8))) pe_int) (fun _ _ => rfl))) (pe_slice sl_str (pv 6) (po_some (pv 7)) (po_some (pe_op op_add (pv 7) (pe_op op_mod (pe_op op_add (pv 5) (pv 8)) (pe_op op_sub pe_int (pv 7)))))))))))))))))), ?_⟩
    refine ⟨(by show 13 ≤ sizeLine; decide), fun L hL => ?_⟩
    have k0 : KB b H _ := KB.alloc (o := .lst [.str "place", .str "staff", .str "ticket", .str "low", .str "high", .str "long", .str "pilot", .str "train", .str "at", .str "to", .str "in", .str "get", .str "a"]) hL
    have B0 := hB.alloc (o := .lst [.str "place", .str "staff", .str "ticket", .str "low", .str "high", .str "long", .str "pilot", .str "train", .str "at", .str "to", .str "in", .str "get", .str "a"]) hL
    have nLb : L ≠ b := hB.fresh hL
    have hW : (upd H L (.lst [.str "place", .str "staff", .str "ticket", .str "low", .str "high", .str "long", .str "pilot", .str "train", .str "at", .str "to", .str "in", .str "get", .str "a"])) L = some (.lst (wds.map V.str)) := upd_same
    generalize upd H L (.lst [.str "place", .str "staff", .str "ticket", .str "low", .str "high", .str "long", .str "pilot", .str "train", .str "at", .str "to", .str "in", .str "get", .str "a"]) = H0 at k0 B0 hW ⊢
    refine ⟨_, rfl, b, 4, n, rfl, B0, by omega, by decide, by decide, fun way H1 w0 w1 off1 B1 => ?_⟩
    refine ⟨_, rfl, b, 26, n + 1, rfl, B1, by omega, by decide, by decide, fun a H2 a0 a1 off2 B2 => ?_⟩
    have k2 : KB b H H2 := (k0.trans (KB.off off1)).trans (KB.off off2)
    have hW2 : H2 L = some (.lst (wds.map V.str)) := by rw [off2 L nLb, off1 L nLb]; exact hW
    clear hW k0 B0 B1 off1 off2
    refine ⟨_, rfl, rfl, _, rfl, ite2 (fun c => ?_) (fun c => ?_)⟩
    · refine ⟨_, rfl, m, rfl, by omega, by omega, fun D hD => ?_⟩
      have nD : L ≠ D := ne_of_none hW2 hD
      refine lc_range (lo := 0) (n := m) (fun i H' => H' = upd H2 D (.lst (((List.range i).map (nm0 a)).map V.str))) rfl ?_ ?_
      · rintro i H' hi rfl
        refine ⟨rfl, lcY ?_⟩
        refine ⟨_, rfl, _, rfl, _, rfl, _, _, rfl, rfl, cmul i hi hm, _, _, rfl, rfl, _, _, rfl, rfl, (by show (0 : Int) < 13; decide), L, wds.map V.str, _, .str (nm0 a i), rfl, rfl, SqL.of (by rw [upd_ne nD]; exact hW2), ?_, _, upd_same, ?_, ?_⟩
        · rw [Int.zero_add]
          exact atI_map (nm0_at a i)
        · rw [List.length_map, List.length_map, List.length_range]
          exact lt_line i (by omega)
        · rw [upd_upd, range_snoc]
      · rintro H' rfl
        exact k _ D _ (k2.trans (KB.alloc hD)) ((B2.alloc hD).mono (by omega)) upd_same (by simp) (nm0_ok a m hm)
    · clear c
      refine ⟨⟨_, rfl⟩, 6, rfl, by decide, by decide, fun D hD => ?_⟩
      have nDb : D ≠ b := B2.fresh hD
      refine lc_range (lo := 0) (n := 6) (fun i H' => ∃ cs : List Nat, H' D = some (.lst ((cs.map fun c => (⟨#[c]⟩ : Str)).map V.str)) ∧ cs.length = i ∧ (∀ c ∈ cs, lc c = true) ∧ KB b H2 H' ∧ Bx b (n + 2 + i) H')
        ⟨[], upd_same, rfl, by simp, KB.alloc hD, (B2.alloc hD).mono (by simp; omega)⟩ ?_ ?_
      · rintro i H3 hi ⟨cs, hz, hl, h1, k3, B3⟩
        refine ⟨rfl, lcY ?_⟩
        refine ⟨_, rfl, _, rfl, b, 26, n + 2 + i, rfl, B3, by omega, by decide, by decide, fun d' H4 e0 e1 off4 B4 => ?_⟩
        have hz4 : H4 D = some (.lst ((cs.map fun c => (⟨#[c]⟩ : Str)).map V.str)) := by rw [off4 D nDb]; exact hz
        refine ⟨_, d', 97 + d'.toNat, rfl, rfl, by decide +kernel, abc_at e0 e1, _, hz4, ?_, cs ++ [97 + d'.toNat], ?_, ?_, ?_, ?_, ?_⟩
        · rw [List.length_map, List.length_map, hl]
          exact lt_line i (by omega)
        · rw [upd_same, List.map_append, List.map_append]
          rfl
        · rw [List.length_append, hl]
          rfl
        · intro z hz
          rcases List.mem_append.mp hz with q | q
          · exact h1 z q
          · rw [List.mem_singleton.mp q]
            unfold lc
            rw [Bool.and_eq_true, decide_eq_true_eq, decide_eq_true_eq]
            omega
        · intro c o nc e
          rw [upd_ne (ne_of_none e hD)]
          exact (k3.trans (KB.off off4)) c o nc e
        · exact (B4.put nDb).mono (by push_cast; omega)
      · rintro H3 ⟨cs, hz, hl, h1, k3, B3⟩
        have et := tl_ones cs
        have jl : (Txt.join (Str.ofString "") (cs.map fun c => (⟨#[c]⟩ : Str))).length = 6 := by rw [← tl_len, et, hl]
        have hS : Stem (Txt.join (Str.ofString "") (cs.map fun c => (⟨#[c]⟩ : Str))) := ⟨by rw [et, hl], by rw [et]; exact h1⟩
        refine ⟨_, D, _, rfl, rfl, .inl (SqL.of hz), ?_, ?_⟩
        · have e0 : (Str.ofString "").length = 0 := by decide +kernel
          have hs := sum_ones (cs.map fun c => (⟨#[c]⟩ : Str)) (fun z hz => by obtain ⟨c, _, rfl⟩ := List.mem_map.mp hz; exact Nat.le_refl 1)
          rw [List.length_map] at hs
          rw [e0]
          omega
        generalize Txt.join (Str.ofString "") (cs.map fun c => (⟨#[c]⟩ : Str)) = st at hS jl ⊢
        have hW3 : H3 L = some (.lst (wds.map V.str)) := k3 L _ nLb hW2
        have kH := k2.trans k3
        clear hz et h1 k3
        have w2 : ∀ t : Int, 0 ≤ t → t < 6 → ∀ H4, (∀ a, a ≠ b → H4 a = H3 a) → Bx b (n + 2 + 6 + 1) H4 → tRet (tLc (iRng1 (tCons (tVar 1) tNil)) (gName 8) tYes
            (tOp (fun x y H Q => ∃ i j, x = V.str i ∧ y = V.str j ∧ i.length + j.length ≤ sizeLine ∧ Q (V.str (i ++ j)) H)
              (tOp (fun x y H Q => ∃ i j, x = V.str i ∧ y = V.str j ∧ i.length + j.length ≤ sizeLine ∧ Q (V.str (i ++ j)) H) (tSl rSlS (tVar 6) tNoPart (tPart (tVar 7)))
                (tOp rIxS (tVar 2) (tOp (rI (fun x j => 0 < j) fun i j => V.int (i % j)) (tOp (rI0 fun i j => V.int (i + j)) (tVar 5) (tOp (rI CMul fun i j => V.int (i * j)) (tC (V.int 7)) (tVar 8))) (tC (V.int 26)))))
              (tSl rSlS (tVar 6) (tPart (tVar 7)) (tPart (tOp (rI0 fun i j => V.int (i + j)) (tVar 7) (tOp (rI (fun x j => 0 < j) fun i j => V.int (i % j)) (tOp (rI0 fun i j => V.int (i + j)) (tVar 5) (tVar 8)) (tOp (rI0 fun i j => V.int (i - j)) (tC (V.int 6)) (tVar 7)))))))
            [8]) { nx := fun x H' => Q V.non H', rt := Q } [some (.ref b), some (.int (m : Nat)), some (.str abc), some (.ref L), some (.int way), some (.int a), some (.str st), some (.int t), none] H4 := by
          intro t t0 t6 H4 off4 B4
          refine ⟨_, rfl, m, rfl, by omega, by omega, fun D2 hD2 => ?_⟩
          refine lc_range (lo := 0) (n := m) (fun i H' => H' = upd H4 D2 (.lst (((List.range i).map (nm2 st a t)).map V.str))) rfl ?_ ?_
          · rintro i H' hi rfl
            refine ⟨rfl, lcY ?_⟩
            refine ⟨_, rfl, _, rfl, _, rfl, st, rfl, (by rw [jl]; decide), _, rfl, _, rfl, _, rfl, _, _, rfl, rfl, cmul7 i, _, _, rfl, rfl, _, _, rfl, rfl, (by show (0 : Int) < 26; decide), abc, _, lt1 a i, rfl, rfl, by decide +kernel, ?_, _, _, rfl, rfl, ?_,
              _, rfl, _, rfl, _, rfl, _, rfl, _, rfl, _, rfl, _, _, rfl, rfl, _, rfl, _, _, rfl, rfl, _, _, rfl, rfl, (by show (0 : Int) < 6 - t; omega), _, _, rfl, rfl, _, rfl, st, rfl, (by rw [jl]; decide), _, _, rfl, rfl, ?_, _, upd_same, ?_, ?_⟩
            · rw [Int.zero_add]
              exact lt1_at a i
            · have := cutS_length st none (some t)
              rw [jl] at this
              exact Nat.le_trans (Nat.add_le_add this (Nat.le_refl 1)) (by decide)
            · have q1 := cutS_length st none (some t)
              have q2 := cutS_length st (some t) (some (t + (a + (0 + (i : Int))) % (6 - t)))
              rw [jl] at q1 q2
              rw [← tl_len, tl_append, List.length_append, tl_len]
              exact Nat.le_trans (Nat.add_le_add (Nat.add_le_add q1 (Nat.le_refl 1)) q2) (by decide)
            · rw [List.length_map, List.length_map, List.length_range]
              exact lt_line i (by omega)
            · rw [upd_upd, range_snoc]
              unfold nm2
              rw [Int.zero_add]
          · rintro H' rfl
            exact k _ D2 _ ((kH.trans (KB.off off4)).trans (KB.alloc hD2)) ((B4.alloc hD2).mono (by omega)) upd_same (by simp) (nm2_ok hS a t t0 t6 m hm)
        refine ⟨_, rfl, rfl, _, rfl, ite2 (fun c1 => ⟨_, rfl, _, _, rfl, rfl, _, rfl, ite2 (fun c2 => ?_) (fun c2 => ?_)⟩) (fun c1 => iteF ?_)⟩
        · have c2' : (m : Int) < 7 := of_decide_eq_true c2
          refine ⟨_, rfl, m, rfl, by omega, by omega, fun D2 hD2 => ?_⟩
          refine lc_range (lo := 0) (n := m) (fun i H' => H' = upd H3 D2 (.lst (((List.range i).map (nm1 st a)).map V.str))) rfl ?_ ?_
          · rintro i H' hi rfl
            refine ⟨rfl, lcY ?_⟩
            refine ⟨_, rfl, _, rfl, _, rfl, _, _, rfl, rfl, cmul i hi hm, _, _, rfl, rfl, _, _, rfl, rfl, (by show (0 : Int) < 6; decide), _, _, rfl, rfl, _, rfl, st, rfl, (by rw [jl]; decide), _, upd_same, ?_, ?_⟩
            · rw [List.length_map, List.length_map, List.length_range]
              exact lt_line i (by omega)
            · rw [upd_upd, range_snoc]
              unfold nm1
              rw [Int.zero_add]
          · rintro H' rfl
            exact k _ D2 _ (kH.trans (KB.alloc hD2)) ((B3.alloc hD2).mono (by omega)) upd_same (by simp) (nm1_ok hS a m (by omega))
        · exact ⟨_, rfl, b, 6, n + 2 + 6, rfl, B3, by omega, by decide, by decide, fun t H4 t0 t6 off4 B4 => w2 t t0 t6 H4 off4 B4⟩
        · exact ⟨_, rfl, b, 6, n + 2 + 6, rfl, B3, by omega, by decide, by decide, fun t H4 t0 t6 off4 B4 => w2 t t0 t6 H4 off4 B4⟩
end
end K7

set_option maxRecDepth 100000
set_option maxHeartbeats 400000
/-! Data that stand in the heap themselves: nothing of it is a constant of the program. -/
namespace My
open PySem PySem.Spec PyProof.Rows L2 GxR Gd TL
mutual
inductive Dr (H : Hp) : V → PyData → Prop
  | non : Dr H .non .none
  | bl (b : Bool) : Dr H (.bl b) (.bool b)
  | int (i : Int) : Dr H (.int i) (.int i)
  | str (z : Str) : Dr H (.str z) (.str z)
  | lst {a : Addr} {xs : List V} {ds : List PyData} (e : H a = some (.lst xs)) (h : DrAll H xs ds) : Dr H (.ref a) (.list ds)
  | tup {a : Addr} {xs : List V} {ds : List PyData} (e : H a = some (.tup xs)) (h : DrAll H xs ds) : Dr H (.ref a) (.tuple ds)
inductive DrAll (H : Hp) : List V → List PyData → Prop
  | nil : DrAll H [] []
  | cons {v : V} {vs : List V} {d : PyData} {ds : List PyData} (h : Dr H v d) (t : DrAll H vs ds) : DrAll H (v :: vs) (d :: ds)
end
section
variable {K : PySem.W.Frag} {H H' : Hp}
mutual
theorem Dr.dp : ∀ {v : V} {d : PyData}, Dr H v d → Dp K H v d
  | _, _, .non => .non
  | _, _, .bl b => .bl b
  | _, _, .int i => .int i
  | _, _, .str z => .str z
  | _, _, .lst e h => .lst (SqL.of e) (DrAll.dp h)
  | _, _, .tup e h => .tup (SqT.of e) (DrAll.dp h)
theorem DrAll.dp : ∀ {vs : List V} {ds : List PyData}, DrAll H vs ds → DpAll K H vs ds
  | _, _, .nil => .nil
  | _, _, .cons h t => .cons (Dr.dp h) (DrAll.dp t)
end
mutual
theorem dr_nt (e : Nt H H') : ∀ {v : V} {d : PyData}, Dr H v d → Dr H' v d
  | _, _, .non => .non
  | _, _, .bl b => .bl b
  | _, _, .int i => .int i
  | _, _, .str z => .str z
  | _, _, .lst h a => .lst (e _ _ (by simp) h) (drAll_nt e a)
  | _, _, .tup h a => .tup (e _ _ (by simp) h) (drAll_nt e a)
theorem drAll_nt (e : Nt H H') : ∀ {vs : List V} {ds : List PyData}, DrAll H vs ds → DrAll H' vs ds
  | _, _, .nil => .nil
  | _, _, .cons h t => .cons (dr_nt e h) (drAll_nt e t)
end
theorem drAll_len : ∀ {xs : List V} {ds : List PyData}, DrAll H xs ds → xs.length = ds.length
  | _, _, .nil => rfl
  | _, _, .cons _ t => congrArg Nat.succ (drAll_len t)
theorem drAll_app : ∀ {xs ys : List V} {ds es : List PyData}, DrAll H xs ds → DrAll H ys es → DrAll H (xs ++ ys) (ds ++ es)
  | _, _, _, _, .nil, k => k
  | _, _, _, _, .cons a t, k => .cons a (drAll_app t k)
theorem drAll_mem : ∀ {xs : List V} {ds : List PyData}, DrAll H xs ds → ∀ x ∈ xs, ∃ d ∈ ds, Dr H x d
  | _, _, .nil, x, h => by cases h
  | _, _, .cons a t, x, h => by
    rcases List.mem_cons.mp h with rfl | h
    · exact ⟨_, List.mem_cons_self, a⟩
    · obtain ⟨d, h1, h2⟩ := drAll_mem t x h
      exact ⟨d, List.mem_cons_of_mem _ h1, h2⟩
end
end My

set_option maxRecDepth 100000
set_option maxHeartbeats 4000000
namespace K7
open PySem PySem.Spec PyProof.Rows L2 GxR Gd TL My
theorem hide_mono {D : Addr} {A B : Hp} (e : Nt A B) : Nt (hide D A) (hide D B) := fun c o n h => by
  obtain ⟨q, h⟩ := hide_some h
  rw [hide_ne q]
  exact e c o n h
/-- what is new in H since H0 -/
def nw (H0 H : Hp) : Hp := fun c => match H0 c with
  | none => H c
  | some _ => none
theorem nw_none {H0 H : Hp} {c : Addr} (h : H0 c = none) : nw H0 H c = H c := by unfold nw; rw [h]
theorem nw_some {H0 H : Hp} {c : Addr} {o : HO} (h : nw H0 H c = some o) : H0 c = none ∧ H c = some o := by
  unfold nw at h
  cases e : H0 c with
  | none => rw [e] at h; exact ⟨rfl, h⟩
  | some _ => rw [e] at h; cases h
theorem nw_mono {H0 A B : Hp} {b : Addr} (hb : H0 b ≠ none) (k : KB b A B) : Nt (nw H0 A) (nw H0 B) := fun c o _ h => by
  obtain ⟨h1, h2⟩ := nw_some h
  rw [nw_none h1]
  exact k c o (fun e => hb (e ▸ h1)) h2
theorem nw_put {D : Addr} {H0 H : Hp} {o : HO} : Nt (hide D (nw H0 H)) (hide D (nw H0 (upd H D o))) := fun c u n h => by
  obtain ⟨q, h⟩ := hide_some h
  obtain ⟨h1, h2⟩ := nw_some h
  rw [hide_ne q, nw_none h1, upd_ne q]
  exact h2
theorem nw_new {K : PySem.W.Frag} {p D : Addr} {H0 H : Hp} {xs : List V} (h1 : p ≠ D) (h2 : H0 p = none) : SqT K (hide D (nw H0 (upd H p (.tup xs)))) p xs := SqT.of (by rw [hide_ne h1, nw_none h2]; exact upd_same)
theorem nw_newR {p D : Addr} {H0 H : Hp} {xs : List V} (h1 : p ≠ D) (h2 : H0 p = none) : hide D (nw H0 (upd H p (.tup xs))) p = some (.tup xs) := by rw [hide_ne h1, nw_none h2]; exact upd_same
theorem fresh0 {H A : Hp} {b p : Addr} (k : KB b H A) (n : p ≠ b) (h : A p = none) : H p = none := by
  cases e : H p with
  | none => rfl
  | some o => rw [k p o n e] at h; cases h
theorem hide_put {D b : Addr} {H : Hp} {o : HO} : Nt (hide D (hide b H)) (hide D (hide b (upd H D o))) := fun c u n h => by
  obtain ⟨q, h⟩ := hide_some h
  obtain ⟨q2, h⟩ := hide_some h
  rw [hide_ne q, hide_ne q2, upd_ne q]
  exact h
theorem dp_new {K : PySem.W.Frag} {p D b : Addr} {H : Hp} {xs : List V} (h1 : p ≠ D) (h2 : p ≠ b) : SqT K (hide D (hide b (upd H p (.tup xs)))) p xs := SqT.of (by rw [hide_ne h1, hide_ne h2]; exact upd_same)
theorem cut_last {xs : List V} : cutV xs none (some (-1)) = xs.dropLast := by
  unfold cutV
  rw [List.dropLast_eq_take, HT.sIx_none, List.drop_zero]
  have e : HT.sIx xs.length xs.length (some (-1)) = ((-1 : Int) + (xs.length : Int)).toNat := rfl
  rw [e]
  congr 1
  omega
def lastL (l0 : Int) (lo : List (Int × Int × Int)) : Int := (lo.getLast?.map fun q => q.2.1).getD l0
theorem longsOk_snoc {top : Int} : ∀ {l0 : Int} {lo : List (Int × Int × Int)} {f l h : Int}, longsOk top l0 lo → lastL l0 lo ≤ f → f + 2 ≤ l → l ≤ top → 0 ≤ h → h ≤ 1 → longsOk top l0 (lo ++ [(f, l, h)])
  | l0, [], f, l, h, _, a, b, c, d, e => ⟨a, b, c, d, e, True.intro⟩
  | l0, (f0, x, h0) :: r, f, l, h, q, a, b, c, d, e => by
    obtain ⟨q1, q2, q3, q4, q5, q6⟩ := q
    refine ⟨q1, q2, q3, q4, q5, longsOk_snoc q6 ?_ b c d e⟩
    unfold lastL at a ⊢
    rw [List.getLast?_cons] at a
    cases z : r.getLast? with
    | none => rw [z] at a; simpa using a
    | some y => rw [z] at a; simpa using a
theorem lastL_snoc (l0 : Int) (lo : List (Int × Int × Int)) (p : Int × Int × Int) : lastL l0 (lo ++ [p]) = p.2.1 := by
  unfold lastL
  rw [List.getLast?_append]
  simp
theorem last_at {xs : List V} {v : V} (h : xs.getLast? = some v) : atI xs (-1) = some v := by
  unfold atI
  have hp : 0 < xs.length := by
    cases xs with
    | nil => simp at h
    | cons a r => simp
  have e : ixN xs.length (-1) = some (xs.length - 1) := by
    unfold ixN
    rw [if_neg (by decide)]
    split
    · congr 1
      omega
    · omega
  rw [e]
  rw [List.getLast?_eq_getElem?] at h
  exact h
section
variable {P : Program} {w : World} {K : PySem.W.Frag} {mg : Str → Option Value} {base : Heap}
abbrev s_law_world : Stmt := top 48
theorem sc_law_world : FnScope ["_law_box_here", "_law_many", "_law_names_here", "_law_places", "_law_stretches", "_law_longs", "_law_low", "_law_turn", "_law_first", "_law_last", "_law_name", "_law_k"] ["_law_box_here"] (defScope s_law_world) := ⟨rfl, rfl, rfl, by decide +kernel, rfl, by decide +kernel, by decide +kernel⟩
def spWorld (K : PySem.W.Frag) : Sp := fun vs H Q _ => ∃ (b : Addr) (n : Int), vs = [.ref b] ∧ Bx b n H ∧ n ≤ 1000 ∧
  ∀ (wd : Wd) (v : V) (H' : Hp), wd.Ok → KB b H H' → Dr (nw H H') v wd.data → Bx b (n + 100) H' → Q v H'
theorem ok_world {f fT fN : Addr} {fd fdT fdN : FuncData} (F : Fun K "_law_world" "_law_world" s_law_world f fd) (T : Txt mg)
    (Nlaw_take : Fn K mg "_law_take" sTake ["_law_box_here", "_law_many"] fT fdT) (Glaw_take : FnOk P w K mg base CX0 1 fT fdT ["_law_box_here", "_law_many"] spTake)
    (Nlaw_names : Fn K mg "_law_names" s_law_names ["_law_box_here", "_law_many"] fN fdN) (Glaw_names : FnOk P w K mg base CX0 2 fN fdN ["_law_box_here", "_law_many"] spNames) :
    FnOk P w K mg base CX0 3 f fd ["_law_box_here"] (spWorld K) := by
  refine F.ok sc_law_world (fun vs H Q E h => ?_) (fun cdv A outer s H vs Q E hr h => ?_)
  · obtain ⟨b, n, rfl, _⟩ := h
    rfl
  · obtain ⟨b, n, rfl, hB, hn, k⟩ := h
    have hbn : H b ≠ none := by
      obtain ⟨_, _, _, h, _⟩ := hB
      rw [h]
      simp
    refine ⟨_, pss_cons (ps_set (i := 1) sc_law_world.nd rfl (Or.inl rfl) (pe_op op_add pe_int (pe_call Glaw_take (hr.mono (by decide)) (by rfl) Nlaw_take.g Nlaw_take.kp Nlaw_take.b .nil pass0 (pa_cons (pv 0) (pa_cons pe_int pa_nil)))))
      (pss_cons (ps_set (i := 2) sc_law_world.nd rfl (Or.inl rfl) (pe_call Glaw_names (hr.mono (by decide)) (by rfl) Nlaw_names.g Nlaw_names.kp Nlaw_names.b .nil pass0 (pa_cons (pv 0) (pa_cons (pe_op op_add (pv 1) pe_int) pa_nil))))
      (pss_cons (ps_setLc (i := 3) (own := [("_law_name", 10)]) (g := gName 10) (tt := tYes) rfl sc_law_world.nd rfl rfl (sw_true rfl rfl rfl (by decide +kernel)) (pi_list (pe_slice sl_list (pv 2) po_none (po_some (pe_un un_neg pe_int)))) (blkOk_by (own := [("_law_name", 10)]) (N := ["_law_box_here", "_law_many", "_law_names_here", "_law_places", "_law_stretches", "_law_longs", "_law_low", "_law_turn", "_law_first", "_law_last", "_law_name", "_law_k"]) (sc := defScope s_law_world) (by decide +kernel)) (fun _ _ _ _ _ => (pg_name (i := 10) sc_law_world.nd rfl (Or.inl rfl))) (fun _ _ _ _ _ => pts_nil) (fun _ _ _ _ _ => (pe_tup (pa_cons (pv 10) (pa_cons (pe_op op_add pe_int (pe_call Glaw_take (hr.mono (by decide)) (by rfl) Nlaw_take.g Nlaw_take.kp Nlaw_take.b .nil pass0 (pa_cons (pv 0) (pa_cons pe_int pa_nil)))) pa_nil)))))
      (pss_cons (ps_setLc (i := 4) (own := [("_law_k", 11)]) (g := gName 11) (tt := tYes) rfl sc_law_world.nd rfl rfl (sw_true rfl rfl rfl (by decide +kernel)) (pi_range1 (by rfl) T.range_ (pa_cons (pe_op op_sub (pv 1) pe_int) pa_nil)) (blkOk_by (own := [("_law_k", 11)]) (N := ["_law_box_here", "_law_many", "_law_names_here", "_law_places", "_law_stretches", "_law_longs", "_law_low", "_law_turn", "_law_first", "_law_last", "_law_name", "_law_k"]) (sc := defScope s_law_world) (by decide +kernel)) (fun _ _ _ _ _ => (pg_name (i := 11) sc_law_world.nd rfl (Or.inl rfl))) (fun _ _ _ _ _ => pts_nil) (fun _ _ _ _ _ => (pe_tup (pa_cons (pe_ix (ixL (K := K) rfl) (pe_lst (pa_cons pe_str (pa_cons pe_str pa_nil))) (pe_call Glaw_take (hr.mono (by decide)) (by rfl) Nlaw_take.g Nlaw_take.kp Nlaw_take.b .nil pass0 (pa_cons (pv 0) (pa_cons pe_int pa_nil))) (fun _ _ => rfl)) (pa_cons (pe_call Glaw_take (hr.mono (by decide)) (by rfl) Nlaw_take.g Nlaw_take.kp Nlaw_take.b .nil pass0 (pa_cons (pv 0) (pa_cons pe_int pa_nil))) pa_nil)))))
      (pss_cons (ps_set (i := 5) sc_law_world.nd rfl (Or.inl rfl) (pe_lst pa_nil))
      (pss_cons (ps_set (i := 6) sc_law_world.nd rfl (Or.inl rfl) pe_int)
      (pss_cons (ps_for PassesOwn.never rfl (pi_range1 (by rfl) T.range_ (pa_cons (pe_call Glaw_take (hr.mono (by decide)) (by rfl) Nlaw_take.g Nlaw_take.kp Nlaw_take.b .nil pass0 (pa_cons (pv 0) (pa_cons pe_int pa_nil))) pa_nil)) (pg_name (i := 7) sc_law_world.nd rfl (Or.inl rfl)) (pss_one (ps_if (pt_cmpR op_lt (pe_op op_add (pv 6) pe_int) (pv 1) (nomark _)) (pss_cons (ps_set (i := 8) sc_law_world.nd rfl (Or.inl rfl) (pe_op op_add (pv 6) (pe_call Glaw_take (hr.mono (by decide)) (by rfl) Nlaw_take.g Nlaw_take.kp Nlaw_take.b .nil pass0 (pa_cons (pv 0) (pa_cons (pe_op op_sub (pe_op op_sub (pv 1) pe_int) (pv 6)) pa_nil)))))
              (pss_cons (ps_set (i := 9) sc_law_world.nd rfl (Or.inl rfl) (pe_op op_add (pe_op op_add (pv 8) pe_int) (pe_call Glaw_take (hr.mono (by decide)) (by rfl) Nlaw_take.g Nlaw_take.kp Nlaw_take.b .nil pass0 (pa_cons (pv 0) (pa_cons (pe_op op_sub (pe_op op_sub (pv 1) pe_int) (pv 8)) pa_nil)))))
              (pss_cons (ps_expr (pe_bm PySem.F.plainAttrs_list PySem.F.slot_list_append PySem.F.type_list_append mt_append (pv 5) (pa_cons (pe_tup (pa_cons (pv 8) (pa_cons (pv 9) (pa_cons (pe_call Glaw_take (hr.mono (by decide)) (by rfl) Nlaw_take.g Nlaw_take.kp Nlaw_take.b .nil pass0 (pa_cons (pv 0) (pa_cons pe_int pa_nil))) pa_nil)))) pa_nil)))
              (pss_one (ps_set (i := 6) sc_law_world.nd rfl (Or.inl rfl) (pv 9)))))) pss_nil)))
      (pss_one (ps_ret (pe_lst (pa_cons (pv 3) (pa_cons (pv 4) (pa_cons (pv 5) (pa_cons (pe_ix ix_list (pv 2) (pe_un un_neg pe_int) (fun _ _ => rfl)) pa_nil))))))))))))), ?_⟩
    refine ⟨_, rfl, b, 5, n, rfl, hB, by omega, by decide, by decide, fun d H1 d0 d1 off1 B1 => ?_⟩
    obtain ⟨d, rfl⟩ := Int.eq_ofNat_of_zero_le d0
    refine ⟨_, _, rfl, rfl, ?_⟩
    have em : (2 + (d : Int)) = ((2 + d : Nat) : Int) := by omega
    have hm7 : 2 + d + 1 ≤ 7 := by omega
    have hm2 : 2 ≤ 2 + d := by omega
    show tSeq _ _ _ (List.set _ 1 (some (.int (2 + (d : Int))))) H1
    rw [em]
    generalize 2 + d = m at hm7 hm2
    refine ⟨_, rfl, _, rfl, _, _, rfl, rfl, b, m + 1, n + 1, rfl, B1, by omega, hm7, fun ns La H2 k2 B2 hLa hl hns => ?_⟩
    obtain ⟨nm, sp, rfl⟩ : ∃ nm sp, ns = nm ++ [sp] := by
      rcases List.eq_nil_or_concat ns with e | ⟨nm, sp, e⟩
      · rw [e] at hl
        cases hl
      · exact ⟨nm, sp, by rw [e, List.concat_eq_append]⟩
    have hlm : nm.length = m := by rw [List.length_append] at hl; exact Nat.succ.inj hl
    have hnd := List.nodup_append.mp hns.nd
    have hsp : sp ∉ nm := fun h => hnd.2.2 sp h sp (List.mem_singleton.mpr rfl) rfl
    have ecut : cutV ((nm ++ [sp]).map V.str) none (some (-1)) = nm.map V.str := by
      rw [cut_last, List.map_append]
      exact List.dropLast_concat
    have nLb : La ≠ b := fun e => by
      obtain ⟨_, _, _, h, _⟩ := B1
      obtain ⟨_, _, _, h2, _⟩ := B2
      rw [e, h2] at hLa
      cases nm with
      | nil => simp at hLa
      | cons a r => simp at hLa
    have k02 : KB b H H2 := (KB.off off1).trans k2
    refine ⟨_, rfl, _, rfl, _, rfl, La, _, rfl, SqL.of hLa, fun p1 hp1 => ⟨p1, rfl, ⟨_, SqL.of upd_same⟩, fun D hD => ?_⟩⟩
    have n1b : p1 ≠ b := B2.fresh hp1
    have hp1' : (upd H2 p1 (.lst (cutV ((nm ++ [sp]).map V.str) none (some (-1))))) p1 = some (.lst (nm.map V.str)) := by rw [upd_same, ecut]
    have k03 : KB b H2 (upd H2 p1 (.lst (cutV ((nm ++ [sp]).map V.str) none (some (-1))))) := KB.alloc hp1
    have B3 := B2.alloc (o := .lst (cutV ((nm ++ [sp]).map V.str) none (some (-1)))) hp1
    generalize upd H2 p1 (.lst (cutV ((nm ++ [sp]).map V.str) none (some (-1)))) = H3 at hp1' k03 B3 hD ⊢
    have nDb : D ≠ b := B3.fresh hD
    have nD0 : H D = none := fresh0 (k02.trans k03) nDb hD
    refine lc_it (walk_list (K := K) (xs := nm.map V.str)) (fun i H' => ∃ (ps : List (Str × Int)) (xs : List V), ps.map (·.1) = nm.take i ∧ (∀ p ∈ ps, 1 ≤ p.2 ∧ p.2 ≤ 3) ∧ H' D = some (.lst xs) ∧ DrAll (hide D (nw H H')) xs (ps.map dP) ∧ KB b H3 H' ∧ Bx b (n + 21 + i) H')
      ⟨[], [], by simp, by simp, upd_same, .nil, KB.alloc hD, (B3.alloc hD).mono (by simp; omega)⟩ ?_ ?_ ?_
    · rintro i H' hi ⟨ps, xs, _, _, _, _, kb, _⟩
      exact SqL.of (kb _ _ n1b hp1')
    · rintro i x H' H'' hi ⟨ps, xs, e1, e2, e3, e4, kb, B'⟩ ⟨rfl, hx⟩
      obtain ⟨z, hz, rfl⟩ := get_map hx
      rw [List.length_map] at hi
      have lx : xs.length = i := by
        rw [drAll_len e4, List.length_map, ← List.length_map (f := (·.1)), e1, List.length_take]
        omega
      refine ⟨rfl, lcY ?_⟩
      refine ⟨_, rfl, _, rfl, b, 3, _, rfl, B', by omega, by decide, by decide, fun r H4 r0 r1 off4 B4 => ⟨_, _, rfl, rfl, (by show 2 ≤ sizeLine; decide), fun p hp => ?_⟩⟩
      have e34 : H4 D = some (.lst xs) := by rw [off4 D nDb]; exact e3
      have npD : D ≠ p := ne_of_none e34 hp
      have npb : p ≠ b := B4.fresh hp
      have np0 : H p = none := fresh0 (((k02.trans k03).trans kb).trans (KB.off off4)) npb hp
      have eN := (hide_mono (D := D) (nw_mono hbn ((KB.off off4).trans (KB.alloc (o := .tup [.str z, .int (1 + r)]) hp)))).trans (nw_put (o := .lst (xs ++ [.ref p])))
      refine ⟨xs, by rw [upd_ne npD]; exact e34, by rw [lx]; exact lt_line i (by omega), ps ++ [(z, 1 + r)], xs ++ [.ref p], ?_, ?_, upd_same, ?_, ?_, ?_⟩
      · rw [List.map_append, e1, take_at hz]
        rfl
      · intro q hq
        rcases List.mem_append.mp hq with h | h
        · exact e2 q h
        · rw [List.mem_singleton.mp h]
          exact ⟨by show 1 ≤ 1 + r; omega, by show 1 + r ≤ 3; omega⟩
      · rw [List.map_append]
        exact drAll_app (drAll_nt eN e4) (.cons (.tup (nw_put _ _ (by simp) (nw_newR npD.symm np0)) (.cons (.str _) (.cons (.int _) .nil))) .nil)
      · intro c o nc e
        rw [upd_ne (ne_of_none e hD)]
        exact ((kb.trans (KB.off off4)).trans (KB.alloc hp)) c o nc e
      · exact ((B4.alloc hp).put nDb).mono (by push_cast; omega)
    · rintro H4 ⟨ps, xsP, e1, e2, e3, e4, kb4, B4⟩
      rw [List.length_map, List.take_of_length_le (Nat.le_refl _)] at e1
      rw [List.length_map, hlm] at B4
      have dpP := drAll_nt (hide_nt D _) e4
      have lps : ps.length = m := by rw [← List.length_map (f := (·.1)), e1, hlm]
      have k04 := (k02.trans k03).trans kb4
      have hLa4 := (k03.trans kb4) _ _ nLb hLa
      clear e4 k02 k03 kb4 hp1' hD hLa k2 B3 B2 B1 hB
      have em1 : ((m : Int) - 1) = ((m - 1 : Nat) : Int) := by omega
      refine ⟨_, rfl, _, _, rfl, rfl, ((m - 1 : Nat) : Int), (by show [V.int ((m : Int) - 1)] = _; rw [em1]), by omega, by omega, fun D2 hD2 => ?_⟩
      have nD2b : D2 ≠ b := B4.fresh hD2
      have nD20 : H D2 = none := fresh0 k04 nD2b hD2
      refine lc_range (lo := 0) (n := m - 1) (fun i H' => ∃ (st : List (Str × Int)) (xs : List V), st.length = i ∧ (∀ p ∈ st, (p.1 = "staff" ∨ p.1 = "ticket") ∧ 0 ≤ p.2 ∧ p.2 ≤ 1) ∧ H' D2 = some (.lst xs) ∧ DrAll (hide D2 (nw H H')) xs (st.map dP) ∧ KB b H4 H' ∧ Bx b (n + 40 + 2 * i) H')
        ⟨[], [], rfl, by simp, upd_same, .nil, KB.alloc hD2, (B4.alloc hD2).mono (by omega)⟩ ?_ ?_
      · rintro i H' hi ⟨st, xs, e1, e2, e3, e4, kb, B'⟩
        have lx : xs.length = i := by rw [drAll_len e4, List.length_map, e1]
        refine ⟨rfl, lcY ?_⟩
        refine ⟨(by show 2 ≤ sizeLine; decide), fun L hL => ⟨_, rfl, b, 2, _, rfl, B'.alloc hL, by omega, by decide, by decide, fun i1 H5 i0 i2 off5 B5 => ?_⟩⟩
        have hL5 : H5 L = some (.lst [.str "staff", .str "ticket"]) := by rw [off5 L (B'.fresh hL)]; exact upd_same
        have hz : ∃ z : Str, atI [V.str "staff", V.str "ticket"] i1 = some (.str z) ∧ (z = "staff" ∨ z = "ticket") := by
          rcases (by omega : i1 = 0 ∨ i1 = 1) with rfl | rfl
          · exact ⟨_, rfl, .inl rfl⟩
          · exact ⟨_, rfl, .inr rfl⟩
        obtain ⟨z, hz1, hz2⟩ := hz
        refine ⟨L, _, i1, .str z, rfl, rfl, SqL.of hL5, hz1, _, rfl, b, 2, _, rfl, B5, by omega, by decide, by decide, fun h6 H6 h0 h1 off6 B6 => ⟨(by show 2 ≤ sizeLine; decide), fun p hp => ?_⟩⟩
        have k5 : KB b H' H6 := ((KB.alloc (o := .lst [.str "staff", .str "ticket"]) hL).trans (KB.off off5)).trans (KB.off off6)
        have e36 : H6 D2 = some (.lst xs) := k5 _ _ nD2b e3
        have npD : D2 ≠ p := ne_of_none e36 hp
        have npb : p ≠ b := B6.fresh hp
        have np0 : H p = none := fresh0 ((k04.trans kb).trans k5) npb hp
        have eN := (hide_mono (D := D2) (nw_mono hbn (k5.trans (KB.alloc (o := .tup [.str z, .int h6]) hp)))).trans (nw_put (o := .lst (xs ++ [.ref p])))
        refine ⟨xs, by rw [upd_ne npD]; exact e36, by rw [lx]; exact lt_line i (by omega), st ++ [(z, h6)], xs ++ [.ref p], ?_, ?_, upd_same, ?_, ?_, ?_⟩
        · rw [List.length_append, e1]
          rfl
        · intro q hq
          rcases List.mem_append.mp hq with h | h
          · exact e2 q h
          · rw [List.mem_singleton.mp h]
            exact ⟨hz2, h0, by show h6 ≤ 1; omega⟩
        · rw [List.map_append]
          exact drAll_app (drAll_nt eN e4) (.cons (.tup (nw_put _ _ (by simp) (nw_newR npD.symm np0)) (.cons (.str _) (.cons (.int _) .nil))) .nil)
        · intro c o nc e
          rw [upd_ne (ne_of_none e hD2)]
          exact ((kb.trans k5).trans (KB.alloc hp)) c o nc e
        · exact ((B6.alloc hp).put nD2b).mono (by push_cast; omega)
      · rintro H5 ⟨st, xsS, f1, f2, f3, f4, kb5, B5⟩
        have dpS := drAll_nt (hide_nt D2 _) f4
        have dpP5 := drAll_nt (nw_mono hbn kb5) dpP
        have e35 := kb5 _ _ nDb e3
        have hLa5 := kb5 _ _ nLb hLa4
        have k05 := k04.trans kb5
        clear f4 dpP e3 hLa4 k04 kb5 B4 hD2
        refine ⟨Nat.zero_le _, fun L5 h5 => ?_⟩
        have nL5b : L5 ≠ b := B5.fresh h5
        have nL50 : H L5 = none := fresh0 k05 nL5b h5
        have kA : KB b H5 (upd H5 L5 (.lst [])) := KB.alloc h5
        have hL5' : (upd H5 L5 (.lst [])) L5 = some (.lst []) := upd_same
        have BA := B5.alloc (o := .lst []) h5
        have nhL5 : ∀ c o, H5 c = some o → c ≠ L5 := fun c o h => ne_of_none h h5
        generalize upd H5 L5 (.lst []) = HA at kA hL5' BA ⊢
        refine ⟨_, rfl, b, 3, _, rfl, BA, by omega, by decide, by decide, fun tn H6 t0 t3 off6 B6 => ?_⟩
        have kA6 := kA.trans (KB.off off6)
        have hL56 : H6 L5 = some (.lst []) := by rw [off6 L5 nL5b]; exact hL5'
        refine ⟨tn, rfl, by omega, by omega, for_it (walk_range (lo := 0) (n := tn.toNat)) (fun i σ H' => ∃ (v7 v8 v9 v10 v11 : Option V) (lo : List (Int × Int × Int)) (xs : List V), σ = [some (.ref b), some (.int (m : Nat)), some (.ref La), some (.ref D), some (.ref D2), some (.ref L5), some (.int (lastL 0 lo)), v7, v8, v9, v10, v11] ∧
          H' L5 = some (.lst xs) ∧ DrAll (hide L5 (nw H H')) xs (lo.map dL) ∧ lo.length ≤ i ∧ longsOk ((m - 1 : Nat) : Int) 0 lo ∧ 0 ≤ lastL 0 lo ∧ lastL 0 lo ≤ ((m - 1 : Nat) : Int) ∧ (∀ c o, c ≠ L5 → c ≠ b → H6 c = some o → H' c = some o) ∧ Bx b (n + 60 + 3 * i) H') ?_ ?_ ?_ ?_⟩
        · refine ⟨_, _, _, _, _, [], [], rfl, hL56, .nil, Nat.zero_le _, True.intro, Int.le_refl 0, ?_, fun c o _ _ h => h, B6.mono (by omega)⟩
          show (0 : Int) ≤ _
          omega
        · intros; trivial
        · rintro i x σ H' H'' hi ⟨v7, v8, v9, v10, v11, lo, xs, rfl, e1, e2, e3, e4, e5, e6, e7, B'⟩ ⟨rfl, rfl⟩
          have lx : xs.length = lo.length := by rw [drAll_len e2, List.length_map]
          refine ⟨_, rfl, _, _, rfl, rfl, _, rfl, _, _, rfl, rfl, _, rfl, ite2 (fun c => ?_) (fun c => ?_)⟩
          · have c' : lastL 0 lo + 2 < (m : Int) := of_decide_eq_true c
            generalize hlow : lastL 0 lo = low at e5 e6 c' ⊢
            refine ⟨_, rfl, _, rfl, _, rfl, _, _, rfl, rfl, _, rfl, _, _, rfl, rfl, b, (m : Int) - 2 - low, _, rfl, B', by omega, by omega, dec9000 (by omega) (by omega), fun r1 H7 r10 r11 off7 B7 => ⟨_, _, rfl, rfl, ?_⟩⟩
            refine ⟨_, rfl, _, _, rfl, rfl, _, rfl, _, rfl, _, _, rfl, rfl, _, rfl, _, _, rfl, rfl, b, (m : Int) - 2 - (low + r1), _, rfl, B7, by omega, by omega, dec9000 (by omega) (by omega), fun r2 H8 r20 r21 off8 B8 => ⟨_, _, rfl, rfl, ?_⟩⟩
            have e18 : H8 L5 = some (.lst xs) := by rw [off8 L5 nL5b, off7 L5 nL5b]; exact e1
            refine ⟨_, rfl, .inl ⟨rfl, _, SqL.of e18⟩, _, rfl, _, rfl, _, rfl, b, 2, _, rfl, B8, by omega, by decide, by decide, fun h H9 h0 h1 off9 B9 => ⟨(by show 3 ≤ sizeLine; decide), fun p hp => ?_⟩⟩
            have e19 : H9 L5 = some (.lst xs) := by rw [off9 L5 nL5b]; exact e18
            have npL : L5 ≠ p := ne_of_none e19 hp
            have npb : p ≠ b := B9.fresh hp
            have k9 : KB b _ H9 := ((KB.off off7).trans (KB.off off8)).trans (KB.off off9)
            have np0 : H p = none := by
              cases e : H p with
              | none => rfl
              | some o =>
                have z5 := k05 _ _ npb e
                have z9 := k9 _ _ npb (e7 _ _ (nhL5 _ _ z5) npb (kA6 _ _ npb z5))
                rw [z9] at hp
                cases hp
            have eN := (hide_mono (D := L5) (nw_mono hbn (k9.trans (KB.alloc (o := .tup [.int (low + r1), .int (low + r1 + 2 + r2), .int h]) hp)))).trans (nw_put (o := .lst (xs ++ [.ref p])))
            refine ⟨L5, xs, .ref p, rfl, rfl, by rw [upd_ne npL]; exact e19, by rw [lx]; exact lt_line _ (by omega), ?_⟩
            refine ⟨_, rfl, some (.int (0 + (i : Nat))), some (.int (low + r1)), some (.int (low + r1 + 2 + r2)), v10, v11, lo ++ [(low + r1, low + r1 + 2 + r2, h)], xs ++ [.ref p], ?_, upd_same, ?_, ?_, ?_, ?_, ?_, ?_, ?_⟩
            · rw [lastL_snoc]
              rfl
            · rw [List.map_append]
              exact drAll_app (drAll_nt eN e2) (.cons (.tup (nw_put _ _ (by simp) (nw_newR npL.symm np0)) (.cons (.int _) (.cons (.int _) (.cons (.int _) .nil)))) .nil)
            · rw [List.length_append]
              exact Nat.succ_le_succ e3
            · refine longsOk_snoc e4 (by rw [hlow]; omega) (by omega) (by omega) h0 (by omega)
            · rw [lastL_snoc]
              show 0 ≤ low + r1 + 2 + r2
              omega
            · rw [lastL_snoc]
              show low + r1 + 2 + r2 ≤ _
              omega
            · intro c o nc nb e
              rw [upd_ne nc]
              have z := k9 _ _ nb (e7 c o nc nb e)
              rw [upd_ne (ne_of_none z hp)]
              exact z
            · exact ((B9.alloc hp).put nL5b).mono (by push_cast; omega)
          · exact ⟨_, _, _, _, _, lo, xs, rfl, e1, e2, Nat.le_succ_of_le e3, e4, e5, e6, e7, B'.mono (by push_cast; omega)⟩
        · rintro σ H7 ⟨v7, v8, v9, v10, v11, lo, xsL, rfl, g1, g2, g3, g4, g5, g6, g7, B7⟩
          have k57 : KB b H5 H7 := fun c o nc h => g7 c o (nhL5 c o h) nc (kA6 c o nc h)
          have dpL := drAll_nt (hide_nt L5 _) g2
          have dpP7 := drAll_nt (nw_mono hbn k57) dpP5
          have dpS7 := drAll_nt (nw_mono hbn k57) dpS
          have e37 := k57 _ _ nDb e35
          have f37 := k57 _ _ nD2b f3
          have hLa7 := k57 _ _ nLb hLa5
          refine ⟨_, rfl, _, rfl, _, rfl, _, rfl, _, rfl, La, _, _, .str sp, rfl, rfl, SqL.of hLa7, last_at (by rw [List.map_append]; simp), (by show 4 ≤ sizeLine; decide), fun R hR => ?_⟩
          have eR := nw_mono hbn (KB.alloc (b := b) (o := .lst [.ref D, .ref D2, .ref L5, .str sp]) hR)
          have nR0 : H R = none := fresh0 (k05.trans k57) (B7.fresh hR) hR
          refine k ⟨ps, st, lo, sp⟩ _ _ ?_ ((k05.trans k57).trans (KB.alloc hR)) (.lst (by rw [nw_none nR0]; exact upd_same) (.cons (.lst (eR _ _ (by simp) (by rw [nw_none nD0]; exact e37)) (drAll_nt eR dpP7)) (.cons (.lst (eR _ _ (by simp) (by rw [nw_none nD20]; exact f37)) (drAll_nt eR dpS7)) (.cons (.lst (eR _ _ (by simp) (by rw [nw_none nL50]; exact g1)) (drAll_nt eR dpL)) (.cons (.str _) .nil))))) ((B7.alloc hR).mono (by omega))
          refine ⟨?_, ?_, ?_, ?_, ?_, f2, ?_, ?_, hns.ok sp (by simp), ?_⟩
          · show 2 ≤ ps.length
            omega
          · show ps.length ≤ 6
            omega
          · intro p hp
            refine ⟨hns.ok p.1 (List.mem_append_left _ ?_), e2 p hp⟩
            rw [← e1]
            exact List.mem_map.mpr ⟨p, hp, rfl⟩
          · show (ps.map (·.1)).Nodup
            rw [e1]
            exact hnd.1
          · show st.length + 1 = ps.length
            omega
          · show lo.length ≤ 2
            omega
          · show longsOk ((ps.length - 1 : Nat) : Int) 0 lo
            rw [lps]
            exact g4
          · show sp ∉ ps.map (·.1)
            rw [e1]
            exact hsp
end
end K7

set_option maxRecDepth 100000
set_option maxHeartbeats 400000
namespace K7
open PySem PySem.Spec PyProof.Rows L2 GxR Gd TL My
theorem lf_places (p1 p2 p3 d : Addr) : (lf p1 p2 p3 d).lookup (Str.ofString "_places") = some (V.ref p1) := by rw [lf_get, if_neg (by decide +kernel), if_neg (by decide +kernel), if_neg (by decide +kernel), if_pos rfl]
theorem lf_stretches (p1 p2 p3 d : Addr) : (lf p1 p2 p3 d).lookup (Str.ofString "_stretches") = some (V.ref p2) := by rw [lf_get, if_neg (by decide +kernel), if_neg (by decide +kernel), if_pos rfl]
theorem pair_at {K : PySem.W.Frag} {H : Hp} {xs : List V} {ps : List (Str × Int)} (h : DpAll K H xs (ps.map dP)) {i : Nat} {p : Str × Int} (e : ps[i]? = some p) : ∃ t, xs[i]? = some (.ref t) ∧ SqT K H t [.str p.1, .int p.2] := by
  obtain ⟨x, h1, h2⟩ := dpAll_at h (i := i) (d := dP p) (by rw [List.getElem?_map, e]; rfl)
  obtain ⟨t, y1, y2, rfl, ht, q1, q2⟩ := dp_two h2
  obtain rfl := dp_str q1
  obtain rfl := dp_int q2
  exact ⟨t, h1, ht⟩
theorem long_at {K : PySem.W.Frag} {H : Hp} {xs : List V} {lo : List (Int × Int × Int)} (h : DpAll K H xs (lo.map dL)) {i : Nat} {p : Int × Int × Int} (e : lo[i]? = some p) : ∃ t, xs[i]? = some (.ref t) ∧ SqT K H t [.int p.1, .int p.2.1, .int p.2.2] := by
  obtain ⟨x, h1, h2⟩ := dpAll_at h (i := i) (d := dL p) (by rw [List.getElem?_map, e]; rfl)
  obtain ⟨t, y1, y2, y3, rfl, ht, q1, q2, q3⟩ := dp_three h2
  obtain rfl := dp_int q1
  obtain rfl := dp_int q2
  obtain rfl := dp_int q3
  exact ⟨t, h1, ht⟩
section
variable {P : Program} {w : World} {K : PySem.W.Frag} {mg : Str → Option Value} {base : Heap}
abbrev s_check_stretch : Stmt := inClass (top 29) 8
theorem sc_check_stretch : FnScope ["self", "k"] ["self", "k"] (defScope s_check_stretch) := ⟨rfl, rfl, rfl, by decide +kernel, rfl, by decide +kernel, by decide +kernel⟩
abbrev s_kind : Stmt := inClass (top 29) 6
theorem sc_kind : FnScope ["self", "k"] ["self", "k"] (defScope s_kind) := ⟨rfl, rfl, rfl, by decide +kernel, rfl, by decide +kernel, by decide +kernel⟩
abbrev s_ends : Stmt := inClass (top 29) 5
theorem sc_ends : FnScope ["self", "k"] ["self", "k"] (defScope s_ends) := ⟨rfl, rfl, rfl, by decide +kernel, rfl, by decide +kernel, by decide +kernel⟩
abbrev s_roads : Stmt := inClass (top 29) 2
theorem sc_roads : FnScope ["self", "name"] ["self", "name"] (defScope s_roads) := ⟨rfl, rfl, rfl, by decide +kernel, rfl, by decide +kernel, by decide +kernel⟩
def spCheckStretch (K : PySem.W.Frag) (C : Addr) : Sp := fun vs H Q _ => ∃ (x : Addr) (wd : Wd) (i : Nat), vs = [.ref x, .int (i : Nat)] ∧ LineAt K C wd H x ∧ i < wd.st.length ∧ Q .non H
theorem ok_check_stretch {f fW C : Addr} {fd fdW : FuncData} (F : Fun K "_check_stretch" "Line._check_stretch" s_check_stretch f fd) (T : Txt mg) (TC : ClsT K C)
    (Nis_whole : Fn K mg "is_whole" sWhole ["thing", "low", "high"] fW fdW) (Gis_whole : FnOk P w K mg base CX0 1 fW fdW ["thing", "low", "high"] spWhole) : FnOk P w K mg base CX0 2 f fd ["self", "k"] (spCheckStretch K C) := by
  refine F.ok sc_check_stretch (fun vs H Q E h => ?_) (fun cdv A outer s H vs Q E hr h => ?_)
  · obtain ⟨x, wd, i, rfl, _⟩ := h
    rfl
  · obtain ⟨x, wd, i, rfl, ⟨dx, p1, p2, p3, d, xs1, xs2, xs3, hx, hp1, hd1, hp2, hd2, hp3, hd3, hN⟩, hi, k⟩ := h
    have l2 : xs2.length = wd.st.length := by rw [dpAll_len hd2, List.length_map]
    refine ⟨_, pss_one (ps_if (pt_not (pt_val (pe_call Gis_whole (hr.mono (by decide)) (by rfl) Nis_whole.g Nis_whole.kp Nis_whole.b .nil pass0 (pa_cons (pv 1) (pa_cons pe_int (pa_cons (pe_op op_sub (pe_callB call_len_seq (by rfl) T.len_ PySem.boot_len (pa_cons (pe_fld (pv 0) rfl) pa_nil)) pe_int) pa_nil)))))) (pss_one ps_never) pss_nil), ?_⟩
    refine ⟨_, rfl, _, rfl, x, C, dx, _, _, rfl, hx, TC.cl, TC.n2, lf_stretches _ _ _ _, p2, xs2, rfl, .inr hp2, _, _, rfl, rfl, .int (i : Nat), 0, (xs2.length : Int) - 1, rfl, .int _, ?_⟩
    rw [show wh 0 ((xs2.length : Int) - 1) (.int (i : Nat)) = true by simp [wh]; omega]
    exact ⟨_, rfl, iteF k⟩
def spKind (K : PySem.W.Frag) (C : Addr) : Sp := fun vs H Q _ => ∃ (x : Addr) (wd : Wd) (i : Nat) (p : Str × Int), vs = [.ref x, .int (i : Nat)] ∧ LineAt K C wd H x ∧ wd.st[i]? = some p ∧ Q (.str p.1) H
theorem ok_kind {f fC C : Addr} {fd fdC : FuncData} (F : Fun K "kind" "Line.kind" s_kind f fd) (T : Txt mg) (TC : ClsT K C)
    (Mcheck_stretch : Mt K C "_check_stretch" "Line._check_stretch" s_check_stretch ["self", "k"] fC fdC) (Gcheck_stretch : FnOk P w K mg base CX0 2 fC fdC ["self", "k"] (spCheckStretch K C)) : FnOk P w K mg base CX0 3 f fd ["self", "k"] (spKind K C) := by
  refine F.ok sc_kind (fun vs H Q E h => ?_) (fun cdv A outer s H vs Q E hr h => ?_)
  · obtain ⟨x, wd, i, p, rfl, _⟩ := h
    rfl
  · obtain ⟨x, wd, i, p, rfl, hL, hi, k⟩ := h
    obtain ⟨dx, p1, p2, p3, d, xs1, xs2, xs3, hx, hp1, hd1, hp2, hd2, hp3, hd3, hN⟩ := id hL
    obtain ⟨t, a1, a2⟩ := pair_at hd2 hi
    refine ⟨_, pss_cons (ps_expr (pe_meth (pv 0) TC.cl Mcheck_stretch.m Gcheck_stretch (hr.mono (by decide)) Mcheck_stretch.b .nil pass0 (pa_cons (pv 1) pa_nil)))
      (pss_one (ps_ret (pe_ix ix_tup (pe_ix ix_tup (pe_fld (pv 0) rfl) (pv 1) (fun _ _ => rfl)) pe_int (fun _ _ => rfl)))), ?_⟩
    refine ⟨_, rfl, x, dx, _, rfl, hx, lf_no _ _ _ _ (by decide +kernel), _, rfl, x, wd, i, rfl, hL, (List.getElem?_eq_some_iff.mp hi).1, ?_⟩
    exact ⟨_, rfl, x, C, dx, _, _, rfl, hx, TC.cl, TC.n2, lf_stretches _ _ _ _, _, rfl, p2, xs2, _, .ref t, rfl, rfl, hp2, atI_nat a1, t, _, 0, _, rfl, rfl, a2, rfl, k⟩
def spEnds (K : PySem.W.Frag) (C : Addr) : Sp := fun vs H Q _ => ∃ (x : Addr) (wd : Wd) (i : Nat) (p q : Str × Int), vs = [.ref x, .int (i : Nat)] ∧ LineAt K C wd H x ∧ i < wd.st.length ∧ wd.ps[i]? = some p ∧ wd.ps[i + 1]? = some q ∧
  ∀ t H', Same H H' → H' t = some (.tup [.str p.1, .str q.1]) → Q (.ref t) H'
theorem ok_ends {f fC C : Addr} {fd fdC : FuncData} (F : Fun K "ends" "Line.ends" s_ends f fd) (T : Txt mg) (TC : ClsT K C)
    (Mcheck_stretch : Mt K C "_check_stretch" "Line._check_stretch" s_check_stretch ["self", "k"] fC fdC) (Gcheck_stretch : FnOk P w K mg base CX0 2 fC fdC ["self", "k"] (spCheckStretch K C)) : FnOk P w K mg base CX0 3 f fd ["self", "k"] (spEnds K C) := by
  refine F.ok sc_ends (fun vs H Q E h => ?_) (fun cdv A outer s H vs Q E hr h => ?_)
  · obtain ⟨x, wd, i, p, q, rfl, _⟩ := h
    rfl
  · obtain ⟨x, wd, i, p, q, rfl, hL, hi, ep, eq, k⟩ := h
    obtain ⟨dx, p1, p2, p3, d, xs1, xs2, xs3, hx, hp1, hd1, hp2, hd2, hp3, hd3, hN⟩ := id hL
    obtain ⟨t, a1, a2⟩ := pair_at hd1 ep
    obtain ⟨u, c1, c2⟩ := pair_at hd1 eq
    refine ⟨_, pss_cons (ps_expr (pe_meth (pv 0) TC.cl Mcheck_stretch.m Gcheck_stretch (hr.mono (by decide)) Mcheck_stretch.b .nil pass0 (pa_cons (pv 1) pa_nil)))
      (pss_one (ps_ret (pe_tup (pa_cons (pe_ix ix_tup (pe_ix ix_tup (pe_fld (pv 0) rfl) (pv 1) (fun _ _ => rfl)) pe_int (fun _ _ => rfl)) (pa_cons (pe_ix ix_tup (pe_ix ix_tup (pe_fld (pv 0) rfl) (pe_op op_add (pv 1) pe_int) (fun _ _ => rfl)) pe_int (fun _ _ => rfl)) pa_nil))))), ?_⟩
    refine ⟨_, rfl, x, dx, _, rfl, hx, lf_no _ _ _ _ (by decide +kernel), _, rfl, x, wd, i, rfl, hL, hi, ?_⟩
    refine ⟨_, rfl, x, C, dx, _, _, rfl, hx, TC.cl, TC.n1, lf_places _ _ _ _, _, rfl, p1, xs1, _, .ref t, rfl, rfl, hp1, atI_nat a1, t, _, 0, _, rfl, rfl, a2, rfl, ?_⟩
    refine ⟨_, rfl, x, C, dx, _, _, rfl, hx, TC.cl, TC.n1, lf_places _ _ _ _, _, rfl, _, _, rfl, rfl, p1, xs1, ((i + 1 : Nat) : Int), .ref u, rfl, (by show V.int ((i : Int) + 1) = _; rw [show ((i : Int) + 1) = ((i + 1 : Nat) : Int) by omega]), hp1, atI_nat c1, u, _, 0, _, rfl, rfl, c2, rfl, ?_⟩
    exact ⟨(by show 2 ≤ sizeLine; decide), fun z hz => k z _ (same_alloc hz) upd_same⟩
def spRoads (K : PySem.W.Frag) (C : Addr) : Sp := fun vs H Q _ => ∃ (x : Addr) (wd : Wd) (z : Str) (i : Nat) (p : Str × Int), vs = [.ref x, .str z] ∧ LineAt K C wd H x ∧ posOf wd.ps z = some i ∧ wd.ps[i]? = some p ∧ Q (.int p.2) H
theorem ok_roads {f fN C : Addr} {fd fdN : FuncData} (F : Fun K "roads" "Line.roads" s_roads f fd) (T : Txt mg) (TC : ClsT K C)
    (Mnumber_of : Mt K C "number_of" "Line.number_of" s_number_of ["self", "name"] fN fdN) (Gnumber_of : FnOk P w K mg base CX0 1 fN fdN ["self", "name"] (spNum K C)) : FnOk P w K mg base CX0 2 f fd ["self", "name"] (spRoads K C) := by
  refine F.ok sc_roads (fun vs H Q E h => ?_) (fun cdv A outer s H vs Q E hr h => ?_)
  · obtain ⟨x, wd, z, i, p, rfl, _⟩ := h
    rfl
  · obtain ⟨x, wd, z, i, p, rfl, hL, hz, ep, k⟩ := h
    obtain ⟨dx, p1, p2, p3, d, xs1, xs2, xs3, hx, hp1, hd1, hp2, hd2, hp3, hd3, hN⟩ := id hL
    obtain ⟨t, a1, a2⟩ := pair_at hd1 ep
    refine ⟨_, pss_one (ps_ret (pe_ix ix_tup (pe_ix ix_tup (pe_fld (pv 0) rfl) (pe_meth (pv 0) TC.cl Mnumber_of.m Gnumber_of (hr.mono (by decide)) Mnumber_of.b .nil pass0 (pa_cons (pv 1) pa_nil)) (fun _ _ => rfl)) pe_int (fun _ _ => rfl))), ?_⟩
    refine ⟨_, rfl, x, C, dx, _, _, rfl, hx, TC.cl, TC.n1, lf_places _ _ _ _, _, rfl, x, dx, _, rfl, hx, lf_no _ _ _ _ (by decide +kernel), _, rfl, x, z, wd, i, rfl, hL, hz, ?_⟩
    exact ⟨p1, xs1, _, .ref t, rfl, rfl, hp1, atI_nat a1, t, _, 1, _, rfl, rfl, a2, rfl, k⟩
end
end K7

set_option maxRecDepth 100000
set_option maxHeartbeats 400000
namespace K7
open PySem PySem.Spec PyProof.Rows L2 GxR Gd TL My
section
variable {P : Program} {w : World} {K : PySem.W.Frag} {mg : Str → Option Value} {base : Heap}
abbrev s_home : Stmt := inClass (top 29) 7
theorem sc_home : FnScope ["self", "k"] ["self", "k"] (defScope s_home) := ⟨rfl, rfl, rfl, by decide +kernel, rfl, by decide +kernel, by decide +kernel⟩
abbrev s_long : Stmt := inClass (top 29) 14
theorem sc_long : FnScope ["self", "j"] ["self", "j"] (defScope s_long) := ⟨rfl, rfl, rfl, by decide +kernel, rfl, by decide +kernel, by decide +kernel⟩
abbrev s_long_ends : Stmt := inClass (top 29) 11
theorem sc_long_ends : FnScope ["self", "j", "first", "last", "_"] ["self", "j"] (defScope s_long_ends) := ⟨rfl, rfl, rfl, by decide +kernel, rfl, by decide +kernel, by decide +kernel⟩
abbrev s_long_home : Stmt := inClass (top 29) 13
theorem sc_long_home : FnScope ["self", "j"] ["self", "j"] (defScope s_long_home) := ⟨rfl, rfl, rfl, by decide +kernel, rfl, by decide +kernel, by decide +kernel⟩
abbrev s_long_stretches : Stmt := inClass (top 29) 12
theorem sc_long_stretches : FnScope ["self", "j", "first", "last", "_"] ["self", "j"] (defScope s_long_stretches) := ⟨rfl, rfl, rfl, by decide +kernel, rfl, by decide +kernel, by decide +kernel⟩
abbrev s_told : Stmt := inClass (top 29) 17
theorem sc_told : FnScope ["self"] ["self"] (defScope s_told) := ⟨rfl, rfl, rfl, by decide +kernel, rfl, by decide +kernel, by decide +kernel⟩
def pick (h : Int) (a b : Str) : Str := if h = 0 then a else b
theorem pick_at {h : Int} (h0 : 0 ≤ h) (h1 : h ≤ 1) (a b : Str) : atI [V.str a, V.str b] h = some (.str (pick h a b)) := by
  rcases (by omega : h = 0 ∨ h = 1) with rfl | rfl <;> rfl
def spHome (K : PySem.W.Frag) (C : Addr) : Sp := fun vs H Q _ => ∃ (x : Addr) (wd : Wd) (i : Nat) (r p q : Str × Int), vs = [.ref x, .int (i : Nat)] ∧ LineAt K C wd H x ∧ wd.st[i]? = some r ∧ 0 ≤ r.2 ∧ r.2 ≤ 1 ∧ wd.ps[i]? = some p ∧ wd.ps[i + 1]? = some q ∧
  ∀ H', Same H H' → Q (.str (pick r.2 p.1 q.1)) H'
theorem ok_home {f fE C : Addr} {fd fdE : FuncData} (F : Fun K "home" "Line.home" s_home f fd) (T : Txt mg) (TC : ClsT K C)
    (Mends : Mt K C "ends" "Line.ends" s_ends ["self", "k"] fE fdE) (Gends : FnOk P w K mg base CX0 3 fE fdE ["self", "k"] (spEnds K C)) : FnOk P w K mg base CX0 4 f fd ["self", "k"] (spHome K C) := by
  refine F.ok sc_home (fun vs H Q E h => ?_) (fun cdv A outer s H vs Q E hr h => ?_)
  · obtain ⟨x, wd, i, r, p, q, rfl, _⟩ := h
    rfl
  · obtain ⟨x, wd, i, r, p, q, rfl, hL, hi, r0, r1, ep, eq, k⟩ := h
    obtain ⟨dx, p1, p2, p3, d, xs1, xs2, xs3, hx, hp1, hd1, hp2, hd2, hp3, hd3, hN⟩ := id hL
    obtain ⟨t, a1, a2⟩ := pair_at hd2 hi
    refine ⟨_, pss_one (ps_ret (pe_ix ix_tup (pe_meth (pv 0) TC.cl Mends.m Gends (hr.mono (by decide)) Mends.b .nil pass0 (pa_cons (pv 1) pa_nil)) (pe_ix ix_tup (pe_ix ix_tup (pe_fld (pv 0) rfl) (pv 1) (fun _ _ => rfl)) pe_int (fun _ _ => rfl)) (fun _ _ => rfl))), ?_⟩
    refine ⟨_, rfl, x, dx, _, rfl, hx, lf_no _ _ _ _ (by decide +kernel), _, rfl, x, wd, i, p, q, rfl, hL, (List.getElem?_eq_some_iff.mp hi).1, ep, eq, fun u H' s hu => ?_⟩
    exact ⟨_, rfl, x, C, dx, _, _, rfl, s _ _ hx, TC.cl, TC.n2, lf_stretches _ _ _ _, _, rfl, p2, xs2, _, .ref t, rfl, rfl, (same_nt s).seqT hp2, atI_nat a1, t, _, 1, _, rfl, rfl, (same_nt s).seqT a2, rfl, u, _, r.2, _, rfl, rfl, SqT.of hu, pick_at r0 r1 _ _, k _ s⟩
def spLongJ (K : PySem.W.Frag) (C : Addr) : Sp := fun vs H Q _ => ∃ (x : Addr) (wd : Wd) (j : Nat) (l : Int × Int × Int), vs = [.ref x, .int (j : Nat)] ∧ LineAt K C wd H x ∧ wd.lo[j]? = some l ∧ ∀ t, SqT K H t [.int l.1, .int l.2.1, .int l.2.2] → Q (.ref t) H
theorem ok_long {f fW C : Addr} {fd fdW : FuncData} (F : Fun K "_long" "Line._long" s_long f fd) (T : Txt mg) (TC : ClsT K C)
    (Nis_whole : Fn K mg "is_whole" sWhole ["thing", "low", "high"] fW fdW) (Gis_whole : FnOk P w K mg base CX0 1 fW fdW ["thing", "low", "high"] spWhole) : FnOk P w K mg base CX0 2 f fd ["self", "j"] (spLongJ K C) := by
  refine F.ok sc_long (fun vs H Q E h => ?_) (fun cdv A outer s H vs Q E hr h => ?_)
  · obtain ⟨x, wd, j, l, rfl, _⟩ := h
    rfl
  · obtain ⟨x, wd, j, l, rfl, ⟨dx, p1, p2, p3, d, xs1, xs2, xs3, hx, hp1, hd1, hp2, hd2, hp3, hd3, hN⟩, hj, k⟩ := h
    have l3 : xs3.length = wd.lo.length := by rw [dpAll_len hd3, List.length_map]
    have hj' := (List.getElem?_eq_some_iff.mp hj).1
    obtain ⟨t, a1, a2⟩ := long_at hd3 hj
    refine ⟨_, pss_cons (ps_if (pt_not (pt_val (pe_call Gis_whole (hr.mono (by decide)) (by rfl) Nis_whole.g Nis_whole.kp Nis_whole.b .nil pass0 (pa_cons (pv 1) (pa_cons pe_int (pa_cons (pe_op op_sub (pe_callB call_len_seq (by rfl) T.len_ PySem.boot_len (pa_cons (pe_fld (pv 0) rfl) pa_nil)) pe_int) pa_nil)))))) (pss_one ps_never) pss_nil)
      (pss_one (ps_ret (pe_ix ix_tup (pe_fld (pv 0) rfl) (pv 1) (fun _ _ => rfl)))), ?_⟩
    refine ⟨_, rfl, _, rfl, x, C, dx, _, _, rfl, hx, TC.cl, TC.n3, lf_longs _ _ _ _, p3, xs3, rfl, .inr hp3, _, _, rfl, rfl, .int (j : Nat), 0, (xs3.length : Int) - 1, rfl, .int _, ?_⟩
    rw [show wh 0 ((xs3.length : Int) - 1) (.int (j : Nat)) = true by simp [wh]; omega]
    exact ⟨_, rfl, iteF ⟨_, rfl, x, C, dx, _, _, rfl, hx, TC.cl, TC.n3, lf_longs _ _ _ _, _, rfl, p3, xs3, _, .ref t, rfl, rfl, hp3, atI_nat a1, k t a2⟩⟩
def spLongEnds (K : PySem.W.Frag) (C : Addr) : Sp := fun vs H Q _ => ∃ (x : Addr) (wd : Wd) (j a c : Nat) (h : Int) (p q : Str × Int), vs = [.ref x, .int (j : Nat)] ∧ LineAt K C wd H x ∧ wd.lo[j]? = some ((a : Int), (c : Int), h) ∧ wd.ps[a]? = some p ∧ wd.ps[c]? = some q ∧
  ∀ t H', Same H H' → H' t = some (.tup [.str p.1, .str q.1]) → Q (.ref t) H'
theorem ok_long_ends {f fL C : Addr} {fd fdL : FuncData} (F : Fun K "long_ends" "Line.long_ends" s_long_ends f fd) (T : Txt mg) (TC : ClsT K C)
    (Mlong : Mt K C "_long" "Line._long" s_long ["self", "j"] fL fdL) (Glong : FnOk P w K mg base CX0 2 fL fdL ["self", "j"] (spLongJ K C)) : FnOk P w K mg base CX0 3 f fd ["self", "j"] (spLongEnds K C) := by
  refine F.ok sc_long_ends (fun vs H Q E h => ?_) (fun cdv A outer s H vs Q E hr h => ?_)
  · obtain ⟨x, wd, j, a, c, h, p, q, rfl, _⟩ := h
    rfl
  · obtain ⟨x, wd, j, a, c, h, p, q, rfl, hL, hj, ep, eq, k⟩ := h
    obtain ⟨dx, p1, p2, p3, d, xs1, xs2, xs3, hx, hp1, hd1, hp2, hd2, hp3, hd3, hN⟩ := id hL
    obtain ⟨t, a1, a2⟩ := pair_at hd1 ep
    obtain ⟨u, c1, c2⟩ := pair_at hd1 eq
    refine ⟨_, pss_cons (ps_asg (pe_meth (pv 0) TC.cl Mlong.m Glong (hr.mono (by decide)) Mlong.b .nil pass0 (pa_cons (pv 1) pa_nil)) (pg_tup (by rfl) (pgs_cons (pg_name (i := 2) sc_long_ends.nd rfl (Or.inl rfl)) (pgs_cons (pg_name (i := 3) sc_long_ends.nd rfl (Or.inl rfl)) (pgs_cons (pg_name (i := 4) sc_long_ends.nd rfl (Or.inl rfl)) pgs_nil)))))
      (pss_one (ps_ret (pe_tup (pa_cons (pe_ix ix_tup (pe_ix ix_tup (pe_fld (pv 0) rfl) (pv 2) (fun _ _ => rfl)) pe_int (fun _ _ => rfl)) (pa_cons (pe_ix ix_tup (pe_ix ix_tup (pe_fld (pv 0) rfl) (pv 3) (fun _ _ => rfl)) pe_int (fun _ _ => rfl)) pa_nil))))), ?_⟩
    refine ⟨_, rfl, x, dx, _, rfl, hx, lf_no _ _ _ _ (by decide +kernel), _, rfl, x, wd, j, _, rfl, hL, hj, fun tl ht => ?_⟩
    refine ⟨tl, _, rfl, ht, rfl, _, _, rfl, _, _, rfl, _, _, rfl, rfl, ?_⟩
    refine ⟨_, rfl, x, C, dx, _, _, rfl, hx, TC.cl, TC.n1, lf_places _ _ _ _, _, rfl, p1, xs1, _, .ref t, rfl, rfl, hp1, atI_nat a1, t, _, 0, _, rfl, rfl, a2, rfl, ?_⟩
    refine ⟨_, rfl, x, C, dx, _, _, rfl, hx, TC.cl, TC.n1, lf_places _ _ _ _, _, rfl, p1, xs1, _, .ref u, rfl, rfl, hp1, atI_nat c1, u, _, 0, _, rfl, rfl, c2, rfl, ?_⟩
    exact ⟨(by show 2 ≤ sizeLine; decide), fun z hz => k z _ (same_alloc hz) upd_same⟩
def spLongHome (K : PySem.W.Frag) (C : Addr) : Sp := fun vs H Q _ => ∃ (x : Addr) (wd : Wd) (j a c : Nat) (h : Int) (p q : Str × Int), vs = [.ref x, .int (j : Nat)] ∧ LineAt K C wd H x ∧ wd.lo[j]? = some ((a : Int), (c : Int), h) ∧ 0 ≤ h ∧ h ≤ 1 ∧ wd.ps[a]? = some p ∧ wd.ps[c]? = some q ∧
  ∀ H', Same H H' → Q (.str (pick h p.1 q.1)) H'
theorem ok_long_home {f fE C : Addr} {fd fdE : FuncData} (F : Fun K "long_home" "Line.long_home" s_long_home f fd) (T : Txt mg) (TC : ClsT K C)
    (Mlong_ends : Mt K C "long_ends" "Line.long_ends" s_long_ends ["self", "j"] fE fdE) (Glong_ends : FnOk P w K mg base CX0 3 fE fdE ["self", "j"] (spLongEnds K C)) : FnOk P w K mg base CX0 4 f fd ["self", "j"] (spLongHome K C) := by
  refine F.ok sc_long_home (fun vs H Q E h => ?_) (fun cdv A outer s H vs Q E hr h => ?_)
  · obtain ⟨x, wd, j, a, c, h, p, q, rfl, _⟩ := h
    rfl
  · obtain ⟨x, wd, j, a, c, h, p, q, rfl, hL, hj, h0, h1, ep, eq, k⟩ := h
    obtain ⟨dx, p1, p2, p3, d, xs1, xs2, xs3, hx, hp1, hd1, hp2, hd2, hp3, hd3, hN⟩ := id hL
    obtain ⟨t, a1, a2⟩ := long_at hd3 hj
    refine ⟨_, pss_one (ps_ret (pe_ix ix_tup (pe_meth (pv 0) TC.cl Mlong_ends.m Glong_ends (hr.mono (by decide)) Mlong_ends.b .nil pass0 (pa_cons (pv 1) pa_nil)) (pe_ix ix_tup (pe_ix ix_tup (pe_fld (pv 0) rfl) (pv 1) (fun _ _ => rfl)) pe_int (fun _ _ => rfl)) (fun _ _ => rfl))), ?_⟩
    refine ⟨_, rfl, x, dx, _, rfl, hx, lf_no _ _ _ _ (by decide +kernel), _, rfl, x, wd, j, a, c, h, p, q, rfl, hL, hj, ep, eq, fun u H' s hu => ?_⟩
    exact ⟨_, rfl, x, C, dx, _, _, rfl, s _ _ hx, TC.cl, TC.n3, lf_longs _ _ _ _, _, rfl, p3, xs3, _, .ref t, rfl, rfl, (same_nt s).seqT hp3, atI_nat a1, t, _, 2, _, rfl, rfl, (same_nt s).seqT a2, rfl, u, _, h, _, rfl, rfl, SqT.of hu, pick_at h0 h1 _ _, k _ s⟩
def spLongStretches (K : PySem.W.Frag) (C : Addr) : Sp := fun vs H Q _ => ∃ (x : Addr) (wd : Wd) (j : Nat) (l : Int × Int × Int), vs = [.ref x, .int (j : Nat)] ∧ LineAt K C wd H x ∧ wd.lo[j]? = some l ∧ RgOk l.1 l.2.1 ∧ ∀ a, H a = none → Q (.ref a) (upd H a (.lst (rgV l.1 l.2.1)))
theorem ok_long_stretches {f fL C : Addr} {fd fdL : FuncData} (F : Fun K "long_stretches" "Line.long_stretches" s_long_stretches f fd) (T : Txt mg) (TC : ClsT K C)
    (Mlong : Mt K C "_long" "Line._long" s_long ["self", "j"] fL fdL) (Glong : FnOk P w K mg base CX0 2 fL fdL ["self", "j"] (spLongJ K C)) : FnOk P w K mg base CX0 3 f fd ["self", "j"] (spLongStretches K C) := by
  refine F.ok sc_long_stretches (fun vs H Q E h => ?_) (fun cdv A outer s H vs Q E hr h => ?_)
  · obtain ⟨x, wd, j, l, rfl, _⟩ := h
    rfl
  · obtain ⟨x, wd, j, l, rfl, hL, hj, ho, k⟩ := h
    obtain ⟨dx, p1, p2, p3, d, xs1, xs2, xs3, hx, _⟩ := id hL
    refine ⟨_, pss_cons (ps_asg (pe_meth (pv 0) TC.cl Mlong.m Glong (hr.mono (by decide)) Mlong.b .nil pass0 (pa_cons (pv 1) pa_nil)) (pg_tup (by rfl) (pgs_cons (pg_name (i := 2) sc_long_stretches.nd rfl (Or.inl rfl)) (pgs_cons (pg_name (i := 3) sc_long_stretches.nd rfl (Or.inl rfl)) (pgs_cons (pg_name (i := 4) sc_long_stretches.nd rfl (Or.inl rfl)) pgs_nil)))))
      (pss_one (ps_ret (pe_listRg rfl (by rfl) T.list_ (prg_2 (by rfl) T.range_ (pv 2) (pv 3))))), ?_⟩
    refine ⟨_, rfl, x, dx, _, rfl, hx, lf_no _ _ _ _ (by decide +kernel), _, rfl, x, wd, j, l, rfl, hL, hj, fun tl ht => ?_⟩
    exact ⟨tl, _, rfl, ht, rfl, _, _, rfl, _, _, rfl, _, _, rfl, rfl, _, rfl, _, rfl, _, _, rfl, rfl, ho, fun q hq => k q hq⟩
def spTold (K : PySem.W.Frag) (C : Addr) : Sp := fun vs H Q _ => ∃ (x : Addr) (wd : Wd), vs = [.ref x] ∧ LineAt K C wd H x ∧ ∀ t H', Same H H' → Dp K H' (.ref t) (.tuple [.tuple (wd.ps.map dP), .tuple (wd.st.map dP), .tuple (wd.lo.map dL)]) → Q (.ref t) H'
theorem ok_told {f C : Addr} {fd : FuncData} (F : Fun K "told" "Line.told" s_told f fd) (T : Txt mg) (TC : ClsT K C) : FnOk P w K mg base CX0 1 f fd ["self"] (spTold K C) := by
  refine F.ok sc_told (fun vs H Q E h => ?_) (fun cdv A outer s H vs Q E hr h => ?_)
  · obtain ⟨x, wd, rfl, _⟩ := h
    rfl
  · obtain ⟨x, wd, rfl, ⟨dx, p1, p2, p3, d, xs1, xs2, xs3, hx, hp1, hd1, hp2, hd2, hp3, hd3, hN⟩, k⟩ := h
    refine ⟨_, pss_one (ps_ret (pe_tup (pa_cons (pe_fld (pv 0) rfl) (pa_cons (pe_fld (pv 0) rfl) (pa_cons (pe_fld (pv 0) rfl) pa_nil))))), ?_⟩
    refine ⟨_, rfl, x, C, dx, _, _, rfl, hx, TC.cl, TC.n1, lf_places _ _ _ _, _, rfl, x, C, dx, _, _, rfl, hx, TC.cl, TC.n2, lf_stretches _ _ _ _, _, rfl, x, C, dx, _, _, rfl, hx, TC.cl, TC.n3, lf_longs _ _ _ _, (by show 3 ≤ sizeLine; decide), fun t ht => ?_⟩
    have e := same_nt (same_alloc (o := .tup [.ref p1, .ref p2, .ref p3]) ht)
    exact k t _ (same_alloc ht) (.tup (SqT.of upd_same) (.cons (.tup (e.seqT hp1) (dpAll_nt e hd1)) (.cons (.tup (e.seqT hp2) (dpAll_nt e hd2)) (.cons (.tup (e.seqT hp3) (dpAll_nt e hd3)) .nil))))
end
end K7

set_option maxRecDepth 100000
set_option maxHeartbeats 400000
namespace K7
open PySem PySem.Spec PyProof.Rows L2 GxR Gd TL My
/-- the long stretch of whose own ones it is -/
def lof (lo : List (Int × Int × Int)) (k : Int) : V := match lo.findIdx? fun p => decide (p.1 ≤ k) && decide (k < p.2.1) with
  | some j => .int (j : Nat)
  | none => .non
section
variable {P : Program} {w : World} {K : PySem.W.Frag} {mg : Str → Option Value} {base : Heap}
abbrev s_long_of : Stmt := inClass (top 29) 16
theorem sc_long_of : FnScope ["self", "k", "j", "first", "last", "_"] ["self", "k"] (defScope s_long_of) := ⟨rfl, rfl, rfl, by decide +kernel, rfl, by decide +kernel, by decide +kernel⟩
def spLongOf (K : PySem.W.Frag) (C : Addr) : Sp := fun vs H Q _ => ∃ (x : Addr) (wd : Wd) (i : Nat), vs = [.ref x, .int (i : Nat)] ∧ LineAt K C wd H x ∧ i < wd.st.length ∧ ∀ H', Same H H' → Q (lof wd.lo (i : Nat)) H'
theorem ok_long_of {f fC C : Addr} {fd fdC : FuncData} (F : Fun K "long_of" "Line.long_of" s_long_of f fd) (T : Txt mg) (TC : ClsT K C)
    (Mcheck_stretch : Mt K C "_check_stretch" "Line._check_stretch" s_check_stretch ["self", "k"] fC fdC) (Gcheck_stretch : FnOk P w K mg base CX0 2 fC fdC ["self", "k"] (spCheckStretch K C)) : FnOk P w K mg base CX0 3 f fd ["self", "k"] (spLongOf K C) := by
  refine F.ok sc_long_of (fun vs H Q E h => ?_) (fun cdv A outer s H vs Q E hr h => ?_)
  · obtain ⟨x, wd, i, rfl, _⟩ := h
    rfl
  · obtain ⟨x, wd, n, rfl, hL, hi, k⟩ := h
    obtain ⟨dx, p1, p2, p3, d, xs1, xs2, xs3, hx, hp1, hd1, hp2, hd2, hp3, hd3, hN⟩ := id hL
    refine ⟨_, pss_cons (ps_expr (pe_meth (pv 0) TC.cl Mcheck_stretch.m Gcheck_stretch (hr.mono (by decide)) Mcheck_stretch.b .nil pass0 (pa_cons (pv 1) pa_nil)))
      (pss_cons (ps_for PassesOwn.never rfl (pi_enumT (by rfl) T.enumerate_ (pa_cons (pe_fld (pv 0) rfl) pa_nil)) (pg_tup (by rfl) (pgs_cons (pg_name (i := 2) sc_long_of.nd rfl (Or.inl rfl)) (pgs_cons (pg_tup (by rfl) (pgs_cons (pg_name (i := 3) sc_long_of.nd rfl (Or.inl rfl)) (pgs_cons (pg_name (i := 4) sc_long_of.nd rfl (Or.inl rfl)) (pgs_cons (pg_name (i := 5) sc_long_of.nd rfl (Or.inl rfl)) pgs_nil)))) pgs_nil))) (pss_one (ps_if (pt_chain op_le op_lt (pv 3) (pv 1) (pv 4)) (pss_one (ps_ret (pv 2))) pss_nil)))
      (pss_one (ps_ret pe_non))), ?_⟩
    refine ⟨_, rfl, x, dx, _, rfl, hx, lf_no _ _ _ _ (by decide +kernel), _, rfl, x, wd, n, rfl, hL, hi, ?_⟩
    refine ⟨_, rfl, x, C, dx, _, _, rfl, hx, TC.cl, TC.n3, lf_longs _ _ _ _, p3, xs3, rfl, hp3, for_it (walk_enumT (K := K) (xs := xs3)) (fun i σ H' => ∃ v2 v3 v4 v5 : Option V, σ = [some (.ref x), some (.int (n : Nat)), v2, v3, v4, v5] ∧ Same H H' ∧ ∀ (j : Nat) (p : Int × Int × Int), j < i → wd.lo[j]? = some p → ¬ (p.1 ≤ (n : Int) ∧ (n : Int) < p.2.1)) ?_ ?_ ?_ ?_⟩
    · exact ⟨_, _, _, _, rfl, Same.refl _, fun j p h => absurd h (Nat.not_lt_zero j)⟩
    · rintro i' σ H' hi ⟨_, _, _, _, _, s, _⟩
      exact (same_nt s).seqT hp3
    · rintro i' v σ H' H'' hi ⟨_, _, _, _, rfl, s, hn⟩ ⟨T1, X, Y, rfl, hT1, rfl, q1, q2⟩
      obtain rfl := Option.some.inj q1
      obtain ⟨d', hg1, hg2⟩ := dpAll_get hd3 q2
      obtain ⟨p, hp, rfl⟩ := get_map hg1
      obtain ⟨t, x1, x2, x3, rfl, ht, r1, r2, r3⟩ := dp_three hg2
      obtain rfl := dp_int r1
      obtain rfl := dp_int r2
      obtain rfl := dp_int r3
      have s2 := s.trans (same_alloc (o := .tup [.int (i' : Nat), .ref t]) hT1)
      have ht2 := (same_nt s2).seqT ht
      have nx : ¬ (p.1 ≤ (n : Int) ∧ (n : Int) < p.2.1) → ∀ (j : Nat) (p' : Int × Int × Int), j < i' + 1 → wd.lo[j]? = some p' → ¬ (p'.1 ≤ (n : Int) ∧ (n : Int) < p'.2.1) := by
        intro hc j p' hj hp'
        rcases Nat.lt_succ_iff_lt_or_eq.mp hj with h | rfl
        · exact hn j p' h hp'
        · rw [hp] at hp'
          obtain rfl := Option.some.inj hp'
          exact hc
      refine ⟨T1, _, rfl, SqT.of upd_same, rfl, _, _, rfl, _, _, rfl, t, _, rfl, ht2, rfl, _, _, rfl, _, _, rfl, _, _, rfl, rfl, rfl, ?_⟩
      refine ⟨_, rfl, _, rfl, _, _, rfl, rfl, _, rfl, ite2 (fun c => ?_) (fun c => ?_)⟩
      · have c' : p.1 ≤ (n : Int) := of_decide_eq_true c
        refine ⟨_, rfl, _, _, rfl, rfl, _, rfl, ite2 (fun c2 => ?_) (fun c2 => ?_)⟩
        · have c2' : (n : Int) < p.2.1 := of_decide_eq_true c2
          refine ⟨_, rfl, ?_⟩
          have e : lof wd.lo (n : Nat) = .int (i' : Nat) := by
            unfold lof
            have f : wd.lo.findIdx? (fun p => decide (p.1 ≤ ((n : Nat) : Int)) && decide (((n : Nat) : Int) < p.2.1)) = some i' := by
              rw [List.findIdx?_eq_some_iff_getElem]
              obtain ⟨hi1, hi2⟩ := List.getElem?_eq_some_iff.mp hp
              refine ⟨hi1, by rw [hi2]; simp [c', c2'], fun j hj hc => ?_⟩
              refine hn j wd.lo[j] hj (List.getElem?_eq_getElem _) ?_
              simpa using hc
            rw [f]
          have z := k _ s2
          rw [e] at z
          exact z
        · exact ⟨_, _, _, _, rfl, s2, nx (fun h => c2 (decide_eq_true h.2))⟩
      · exact ⟨_, rfl, iteF ⟨_, _, _, _, rfl, s2, nx (fun h => c (decide_eq_true h.1))⟩⟩
    · rintro σ H' ⟨_, _, _, _, rfl, s, hn⟩
      have e : lof wd.lo (n : Nat) = .non := by
        unfold lof
        have f : wd.lo.findIdx? (fun p => decide (p.1 ≤ ((n : Nat) : Int)) && decide (((n : Nat) : Int) < p.2.1)) = none := by
          rw [List.findIdx?_eq_none_iff]
          intro p hp
          obtain ⟨j, hj, e⟩ := List.getElem_of_mem hp
          have z := hn j p (by rw [dpAll_len hd3, List.length_map]; exact hj) (by rw [List.getElem?_eq_getElem hj, e])
          simpa using z
        rw [f]
      have z := k _ s
      rw [e] at z
      exact z
end
end K7

set_option maxRecDepth 100000
set_option maxHeartbeats 400000
/-! small data: what repr asks of them -/
namespace My
open PySem PySem.Spec PyProof.Rows L2 GxR Gd TL
structure Sm (d : PyData) (k m : Nat) : Prop where
  lay : d.canLay0 = true
  dep : d.depth ≤ k
  wt : d.weight ≤ m
  ish : d.intsShort 13 = true
  sh : d.showable = true
theorem Sm.rep {d : PyData} {k m : Nat} (h : Sm d k m) (hk : k ≤ 64) (hm : m ≤ 2 ^ 20) : d.showable = true ∧ d.depth ≤ 100 ∧ d.shown.length ≤ sizeLine := by
  refine ⟨h.sh, Nat.le_trans h.dep (by omega), Nat.le_trans (shown_le13 ?_ h.ish) (by rw [sizeLine_eq]; decide)⟩
  unfold PyData.layable0
  rw [Bool.and_eq_true, Bool.and_eq_true, decide_eq_true_eq, decide_eq_true_eq]
  exact ⟨⟨h.lay, Nat.le_trans h.dep hk⟩, Nat.le_trans h.wt hm⟩
theorem Sm.mono {d : PyData} {k m k' m' : Nat} (h : Sm d k m) (hk : k ≤ k') (hm : m ≤ m') : Sm d k' m' := ⟨h.lay, Nat.le_trans h.dep hk, Nat.le_trans h.wt hm, h.ish, h.sh⟩
theorem sm_none : Sm .none 0 0 := ⟨rfl, Nat.le_refl 0, Nat.le_refl 0, rfl, rfl⟩
theorem sm_bool (b : Bool) : Sm (.bool b) 0 0 := ⟨rfl, Nat.le_refl 0, Nat.le_refl 0, rfl, rfl⟩
theorem sm_int {i : Int} (h : i.natAbs ≤ 1000) : Sm (.int i) 0 20 := by
  have hl : i.natAbs.log2 ≤ 10 := by
    by_cases z : i.natAbs = 0
    · rw [z]; decide
    · have : i.natAbs.log2 < 11 := (Nat.log2_lt z).mpr (by omega)
      omega
  refine ⟨rfl, Nat.le_refl 0, ?_, ?_, ?_⟩
  · unfold PyData.weight
    split
    · omega
    · omega
  · exact intsShort_of_noneOrIn (lo := -2000) (hi := 2000) (by decide) (by decide) (.int i) (by simp [noneOrIn]; omega)
  · unfold PyData.showable
    rw [decide_eq_true_eq]
    omega
theorem sm_str {z : Str} (g : Good z) (h : z.length ≤ 6) : Sm (.str z) 0 6 := by
  refine ⟨?_, Nat.le_refl 0, h, rfl, rfl⟩
  unfold PyData.canLay0
  unfold PyData.strOk
  rw [Array.all_eq_true_iff_forall_mem]
  intro c hc
  exact decide_eq_true (g c (Array.mem_toList_iff.mpr hc))
theorem sm_all {k m : Nat} : ∀ {ds : List PyData}, (∀ d ∈ ds, Sm d k m) → PyData.canLayAll0 ds = true ∧ PyData.depthAll ds ≤ k ∧ PyData.weightAll ds ≤ ds.length * (m + 1) ∧ PyData.intsShortAll 13 ds = true ∧ PyData.showableAll ds = true
  | [], _ => ⟨rfl, Nat.zero_le _, Nat.zero_le _, rfl, rfl⟩
  | d :: r, h => by
    obtain ⟨a1, a2, a3, a4, a5⟩ := sm_all (ds := r) fun x hx => h x (List.mem_cons_of_mem _ hx)
    have b := h d List.mem_cons_self
    refine ⟨?_, ?_, ?_, ?_, ?_⟩
    · unfold PyData.canLayAll0; rw [b.lay, a1]; rfl
    · unfold PyData.depthAll; exact Nat.max_le.mpr ⟨b.dep, a2⟩
    · unfold PyData.weightAll
      have := b.wt
      rw [List.length_cons, Nat.succ_mul]
      omega
    · unfold PyData.intsShortAll; rw [b.ish, a4]; rfl
    · unfold PyData.showableAll; rw [b.sh, a5]; rfl
theorem sm_list {k m : Nat} {ds : List PyData} (h : ∀ d ∈ ds, Sm d k m) : Sm (.list ds) (k + 1) (ds.length * (m + 1)) := by
  obtain ⟨a1, a2, a3, a4, a5⟩ := sm_all h
  exact ⟨by unfold PyData.canLay0; exact a1, by unfold PyData.depth; omega, by unfold PyData.weight; exact a3, by unfold PyData.intsShort; exact a4, by unfold PyData.showable; exact a5⟩
theorem sm_tuple {k m : Nat} {ds : List PyData} (h : ∀ d ∈ ds, Sm d k m) : Sm (.tuple ds) (k + 1) (ds.length * (m + 1)) := by
  obtain ⟨a1, a2, a3, a4, a5⟩ := sm_all h
  exact ⟨by unfold PyData.canLay0; exact a1, by unfold PyData.depth; omega, by unfold PyData.weight; exact a3, by unfold PyData.intsShort; exact a4, by unfold PyData.showable; exact a5⟩
theorem sm_dP {p : Str × Int} (g : Good p.1) (h : p.1.length ≤ 6) (hr : p.2.natAbs ≤ 1000) : Sm (dP p) 1 42 :=
  sm_tuple (k := 0) (m := 20) (ds := [.str p.1, .int p.2]) fun d hd => by
    simp only [List.mem_cons, List.not_mem_nil, or_false] at hd
    rcases hd with rfl | rfl
    · exact (sm_str g h).mono (Nat.le_refl 0) (by decide)
    · exact sm_int hr
theorem sm_names {a b : Str} (ha : NameOk a) (hb : NameOk b) : Sm (.tuple [.str a, .str b]) 1 14 :=
  sm_tuple (k := 0) (m := 6) (ds := [.str a, .str b]) fun d hd => by
    simp only [List.mem_cons, List.not_mem_nil, or_false] at hd
    rcases hd with rfl | rfl
    · exact sm_str ha.good ha.2.1
    · exact sm_str hb.good hb.2.1
end My

set_option maxRecDepth 100000
set_option maxHeartbeats 400000
/-! Names wiped behind a comprehension. -/
namespace My
open PySem PySem.Spec PyProof.Rows L2 GxR Gd TL
theorem wipe_set_out {σ : L2.St} {i : Nat} {x : Option V} : ∀ {vs : List Nat}, i ∉ vs → wipe (σ.set i x) vs = (wipe σ vs).set i x
  | [], _ => rfl
  | v :: vs, h => by
    simp only [List.mem_cons, not_or] at h
    show (wipe (σ.set i x) vs).set v none = ((wipe σ vs).set v none).set i x
    rw [wipe_set_out h.2, List.set_comm _ _ h.1]
theorem wipe_set {σ : L2.St} {i : Nat} {x : Option V} : ∀ {vs : List Nat}, i ∈ vs → wipe (σ.set i x) vs = wipe σ vs
  | [], h => by cases h
  | v :: vs, h => by
    show (wipe (σ.set i x) vs).set v none = (wipe σ vs).set v none
    by_cases q : i ∈ vs
    · rw [wipe_set q]
    · have e : i = v := by
        rcases List.mem_cons.mp h with e | e
        · exact e
        · exact absurd e q
      subst e
      rw [wipe_set_out q, List.set_set]
theorem wipe_wipe {σ : L2.St} : ∀ {us vs : List Nat}, (∀ u ∈ us, u ∈ vs) → wipe (wipe σ us) vs = wipe σ vs
  | [], _, _ => rfl
  | u :: us, vs, h => by
    show wipe ((wipe σ us).set u none) vs = _
    rw [wipe_set (h u (by simp)), wipe_wipe fun x hx => h x (by simp [hx])]
theorem wipe1 {σ : L2.St} {vs : List Nat} {i : Nat} {a : Option V} (hi : i ∈ vs) : wipe ((wipe σ vs).set i a) vs = wipe σ vs := by
  rw [wipe_set hi, wipe_wipe fun _ h => h]
theorem wipe2 {σ : L2.St} {vs : List Nat} {i j : Nat} {a b : Option V} (hi : i ∈ vs) (hj : j ∈ vs) : wipe (((wipe σ vs).set i a).set j b) vs = wipe σ vs := by
  rw [wipe_set hj, wipe_set hi, wipe_wipe fun _ h => h]
theorem wipe3 {σ : L2.St} {vs : List Nat} {i j k : Nat} {a b c : Option V} (hi : i ∈ vs) (hj : j ∈ vs) (hk : k ∈ vs) : wipe ((((wipe σ vs).set i a).set j b).set k c) vs = wipe σ vs := by
  rw [wipe_set hk, wipe_set hj, wipe_set hi, wipe_wipe fun _ h => h]
theorem wipe4 {σ : L2.St} {vs : List Nat} {i j k l : Nat} {a b c d : Option V} (hi : i ∈ vs) (hj : j ∈ vs) (hk : k ∈ vs) (hl : l ∈ vs) : wipe (((((wipe σ vs).set i a).set j b).set k c).set l d) vs = wipe σ vs := by
  rw [wipe_set hl, wipe_set hk, wipe_set hj, wipe_set hi, wipe_wipe fun _ h => h]
end My

set_option maxRecDepth 100000
set_option maxHeartbeats 400000
/-! the numbers from a to b - 1, as values and as data -/
namespace My
open PySem PySem.Spec PyProof.Rows L2 GxR Gd TL
theorem rgV_snoc {f i : Int} (h : f ≤ i) : rgV f (i + 1) = rgV f i ++ [.int i] := by
  unfold rgV
  rw [show (i + 1 - f).toNat = (i - f).toNat + 1 by omega, List.range_succ, List.map_append]
  congr 1
  show [V.int (f + ((i - f).toNat : Nat))] = _
  rw [show f + ((i - f).toNat : Int) = i by omega]
theorem rgV_nil {f l : Int} (h : l ≤ f) : rgV f l = [] := by
  unfold rgV
  rw [show (l - f).toNat = 0 by omega]
  rfl
/-- how far a row has come that takes just the numbers from f to l - 1 -/
def upTo (f l : Int) (i : Nat) : Int := min l (max f (i : Int))
theorem upTo_in {f l : Int} {i : Nat} (h1 : f ≤ (i : Int)) (h2 : (i : Int) < l) : rgV f (upTo f l (i + 1)) = rgV f (upTo f l i) ++ [.int (i : Nat)] := by
  have e1 : upTo f l (i + 1) = (i : Int) + 1 := by unfold upTo; push_cast; omega
  have e2 : upTo f l i = (i : Int) := by unfold upTo; omega
  rw [e1, e2]
  exact rgV_snoc h1
theorem upTo_out {f l : Int} {i : Nat} (h : ¬ (f ≤ (i : Int) ∧ (i : Int) < l)) : upTo f l (i + 1) = upTo f l i := by
  unfold upTo
  push_cast
  omega
theorem upTo_all {f l : Int} {n : Nat} (h1 : f ≤ l) (h2 : l ≤ (n : Int)) : upTo f l n = l := by unfold upTo; omega
theorem upTo_0 {f l : Int} (h1 : 0 ≤ f) : rgV f (upTo f l 0) = [] := rgV_nil (by unfold upTo; omega)
def rgD (a b : Int) : List PyData := (List.range (b - a).toNat).map fun i => PyData.int (a + (i : Nat))
theorem rg_dp {K : PySem.W.Frag} {H : Hp} (a b : Int) : DpAll K H (rgV a b) (rgD a b) := by
  unfold rgV rgD
  generalize List.range (b - a).toNat = r
  induction r with
  | nil => exact .nil
  | cons i r ih => exact .cons (.int _) ih
theorem rg_sm {a b : Int} (h0 : 0 ≤ a) (h1 : b ≤ 1000) : Sm (.list (rgD a b)) 1 ((rgD a b).length * 21) := sm_list (k := 0) (m := 20) fun d hd => by
  unfold rgD at hd
  obtain ⟨i, hi, rfl⟩ := List.mem_map.mp hd
  have := List.mem_range.mp hi
  exact sm_int (by omega)
theorem rgD_len (a b : Int) : (rgD a b).length = (b - a).toNat := by unfold rgD; rw [List.length_map, List.length_range]
theorem rgV_len (a b : Int) : (rgV a b).length = (b - a).toNat := by unfold rgV; rw [List.length_map, List.length_range]
end My

set_option maxRecDepth 100000
set_option maxHeartbeats 400000
namespace K7
open PySem PySem.Spec PyProof.Rows L2 GxR Gd TL My
theorem hide_put1 {L : Addr} {H : Hp} {o : HO} : Nt (hide L H) (hide L (upd H L o)) := fun c u _ h => by
  obtain ⟨q, h⟩ := hide_some h
  rw [hide_ne q, upd_ne q]
  exact h
theorem longs_le {top : Int} : ∀ {low : Int} {lo : List (Int × Int × Int)}, longsOk top low lo → ∀ p ∈ lo, low ≤ p.1 ∧ p.1 + 2 ≤ p.2.1 ∧ p.2.1 ≤ top ∧ 0 ≤ p.2.2 ∧ p.2.2 ≤ 1
  | _, [], _, p, hp => by cases hp
  | low, (f, l, h) :: r, ⟨a, b, c, d, e, q⟩, p, hp => by
    rcases List.mem_cons.mp hp with rfl | hp
    · exact ⟨a, b, c, d, e⟩
    · obtain ⟨x1, x2⟩ := longs_le q p hp
      exact ⟨by omega, x2⟩
theorem eqDK {X : Cx} {K : PySem.W.Frag} (h : X.K = K) (hu : X.A.units + 64 < cLine) : OpR X (compareOp .Eq) (rEqD K) := h ▸ op_eqD hu
theorem sm_shaped {d : PyData} {k m : Nat} (h : Sm d k m) (hk : k ≤ 64) : SeqAt.shaped d = true := by
  unfold SeqAt.shaped
  rw [h.lay, Bool.true_and, decide_eq_true_eq]
  exact Nat.le_trans h.dep hk
theorem small_line {n : Nat} (h : n ≤ 1000000) : n ≤ sizeLine := Nat.le_trans h (by rw [sizeLine_eq]; decide)
theorem length_app (a b : Str) : (a ++ b).length = a.length + b.length := by rw [← tl_len, tl_append, List.length_append, tl_len, tl_len]
theorem ixT {X : Cx} {K : PySem.W.Frag} (h : X.K = K) : IxR X (rIxT K) := h ▸ ix_tup
theorem bx_ne {b c : Addr} {n : Int} {H : Hp} {o : HO} (bx : Bx b n H) (h : H c = some o) (m : ∀ xs, o ≠ .lst xs) : c ≠ b := fun e => by
  obtain ⟨_, _, _, q, _⟩ := bx
  rw [e, q] at h
  exact m _ (Option.some.inj h).symm
def toldD (wd : Wd) : PyData := .tuple [.tuple (wd.ps.map dP), .tuple (wd.st.map dP), .tuple (wd.lo.map dL)]
theorem tupOfK {X : Cx} {K : PySem.W.Frag} (h : X.K = K) : CallR X (.type "tuple") (fun xs H Q => ∃ p ys, xs = [V.ref p] ∧ ((SqL K H p ys ∧ ∀ l, H l = none → Q (.ref l) (upd H l (.tup ys))) ∨ (SqT K H p ys ∧ Q (.ref p) H))) := h ▸ call_tuple_of
theorem three_line : 3 ≤ sizeLine := by decide
theorem home01 {h : Int} (h0 : 0 ≤ h) (h1 : h ≤ 1) : (if decide (V.int h = V.int 0) = true then (1 : Int) else 0) = 1 - h := by
  by_cases e : h = 0
  · subst e; rfl
  · rw [decide_eq_false (fun q => e (V.int.inj q))]
    have : h = 1 := by omega
    subst this; rfl
theorem rev_at {α : Type} {xs : List α} {i : Nat} {x : α} (h : i < xs.length) (e : xs[xs.length - 1 - i]? = some x) : xs.reverse[i]? = some x := by
  rw [List.getElem?_reverse h]
  exact e
theorem long01 {wd : Wd} (ok : wd.Ok) {p : Int × Int × Int} (h : p ∈ wd.lo) : 0 ≤ p.2.2 ∧ p.2.2 ≤ 1 := by
  obtain ⟨_, _, _, a, b⟩ := longs_le ok.lo p h
  exact ⟨a, b⟩
theorem two_line : 2 ≤ sizeLine := by decide
theorem one_line : 1 ≤ sizeLine := by decide
theorem drop_atG {α : Type} {xs : List α} {i : Nat} {x : α} (h : xs[i]? = some x) : xs.drop i = x :: xs.drop (i + 1) := by
  obtain ⟨hi, e⟩ := List.getElem?_eq_some_iff.mp h
  rw [← e]
  exact List.drop_eq_getElem_cons hi
theorem wipe_length {σ : L2.St} : ∀ vs : List Nat, (wipe σ vs).length = σ.length
  | [] => rfl
  | v :: r => by
    show ((wipe σ r).set v none).length = _
    rw [List.length_set, wipe_length r]
theorem names_compL {K : PySem.W.Frag} {σ : L2.St} {H : Hp} {i a b : Nat} {W ap : Addr} {rest xp : List V} {ps : List (Str × Int)} {G : VK} (hi : σ[i]? = some (some (.ref W))) (hw : SqL K H W (.ref ap :: rest)) (hap : SqL K H ap xp) (dap : DpAll K H xp (ps.map dP)) (h6 : ps.length ≤ 6)
    (la : a < σ.length) (ab : a ≠ b) (k : ∀ D H', H D = none → Same H H' → H' D = some (.lst ((ps.map (·.1)).map V.str)) → G (.ref D) H') :
    tLc (iList K (tOp (rIxL K) (tVar i) (tC (V.int 0)))) (gTup K 2 (gCons (gName a) (gCons (gName b) gNil))) tYes (tVar a) [a, b] σ H G := by
  have lp : xp.length = ps.length := by rw [dpAll_len dap, List.length_map]
  refine ⟨_, hi, W, _, 0, _, rfl, rfl, hw, (atI_nat (j := 0) rfl), ap, rfl, ⟨_, hap⟩, fun N hN => lc_it (walk_list (K := K) (xs := xp)) (fun i H' => H' = upd H N (.lst (((ps.take i).map (·.1)).map V.str))) rfl ?_ ?_ ?_⟩
  · rintro i H' _ rfl
    exact (same_nt (same_alloc hN)).seq hap
  · rintro i' v H' H'' hi rfl ⟨rfl, hv⟩
    obtain ⟨d', hg1, hg2⟩ := dpAll_get dap hv
    obtain ⟨p, hp, rfl⟩ := get_map hg1
    obtain ⟨t, y1, y2, rfl, ht, r1, r2⟩ := dp_two hg2
    obtain rfl := dp_str r1
    obtain rfl := dp_int r2
    refine ⟨t, _, rfl, (same_nt (same_alloc hN)).seqT ht, rfl, _, _, rfl, _, _, rfl, rfl, wipe2 (by simp) (by simp), lcY ⟨.str p.1, ?_, _, upd_same, ?_, ?_⟩⟩
    · rw [List.getElem?_set_ne ab.symm, List.getElem?_set_self (by rw [wipe_length]; exact la)]
    · rw [List.length_map, List.length_map, List.length_take]
      exact lt_line _ (by omega)
    · rw [upd_upd, take_at hp, List.map_append, List.map_append]
      rfl
  · rintro H' rfl
    rw [lp, List.take_of_length_le (Nat.le_refl _)]
    exact k N _ hN (same_alloc hN) upd_same
end K7

set_option maxRecDepth 100000
set_option maxHeartbeats 400000
namespace K7
open PySem PySem.Spec PyProof.Rows L2 GxR Gd TL My
/-- an answer: a small number or nothing -/
inductive Ans : V → PyData → Prop
  | non : Ans .non .none
  | int (i : Nat) (h : i ≤ 10) : Ans (.int (i : Nat)) (.int (i : Nat))
theorem Ans.dp {K : PySem.W.Frag} {H : Hp} {v : V} {d : PyData} (h : Ans v d) : Dp K H v d := by
  cases h with
  | non => exact .non
  | int i h => exact .int _
theorem Ans.show {v : V} {d : PyData} (h : Ans v d) : d.showable = true ∧ d.depth ≤ 100 ∧ d.shown.length ≤ sizeLine := by
  cases h with
  | non => exact ⟨rfl, by decide, by decide +kernel⟩
  | int i h =>
    have a : ∀ i : Fin 11, (PyData.int (i.1 : Nat)).showable = true ∧ (PyData.int (i.1 : Nat)).depth ≤ 100 ∧ (PyData.int (i.1 : Nat)).shown.length ≤ sizeLine := by decide +kernel
    exact a ⟨i, by omega⟩
theorem ans_lof {lo : List (Int × Int × Int)} (h : lo.length ≤ 2) (k : Int) : ∃ d, Ans (lof lo k) d := by
  unfold lof
  split
  · rename_i j e
    obtain ⟨hj, _⟩ := List.findIdx?_eq_some_iff_getElem.mp e
    exact ⟨_, .int j (by omega)⟩
  · exact ⟨_, .non⟩
theorem lof_snoc (lo : List (Int × Int × Int)) (p : Int × Int × Int) (k : Int) : lof (lo ++ [p]) k = if lof lo k = .non then (if p.1 ≤ k ∧ k < p.2.1 then .int (lo.length : Nat) else .non) else lof lo k := by
  unfold lof
  rw [List.findIdx?_append]
  cases e : lo.findIdx? (fun p => decide (p.1 ≤ k) && decide (k < p.2.1)) with
  | some j => simp
  | none =>
    by_cases q : p.1 ≤ k ∧ k < p.2.1
    · simp [List.findIdx?_cons, q]
    · have q' : (decide (p.1 ≤ k) && decide (k < p.2.1)) = false := by simpa using q
      simp [List.findIdx?_cons, q', q]
theorem longs_nonneg {top : Int} : ∀ {low : Int} {lo : List (Int × Int × Int)}, 0 ≤ low → longsOk top low lo → ∀ p ∈ lo, 0 ≤ p.1
  | _, [], _, _, p, hp => by cases hp
  | low, (f, l, h) :: r, h0, hk, p, hp => by
    obtain ⟨k1, k2, k3, k4, k5, k6⟩ := hk
    rcases List.mem_cons.mp hp with rfl | hp
    · exact Int.le_trans h0 k1
    · exact longs_nonneg (by omega) k6 p hp
theorem posOf_at : ∀ {ps : List (Str × Int)} {i : Nat} {p : Str × Int}, (ps.map (·.1)).Nodup → ps[i]? = some p → posOf ps p.1 = some i
  | [], i, p, _, h => by simp at h
  | a :: r, 0, p, _, h => by
    obtain rfl : a = p := by simpa using h
    unfold posOf
    simp [List.findIdx?_cons]
  | a :: r, i + 1, p, nd, h => by
    have h' : r[i]? = some p := by simpa using h
    rw [List.map_cons, List.nodup_cons] at nd
    have ne : ¬ a.1 = p.1 := fun e => nd.1 (e ▸ List.mem_map.mpr ⟨p, List.mem_of_getElem? h', rfl⟩)
    have ih := posOf_at nd.2 h'
    unfold posOf at ih ⊢
    rw [List.findIdx?_cons]
    simp [ne, ih]
theorem strs_dp {K : PySem.W.Frag} {H : Hp} : ∀ l : List Str, DpAll K H (l.map V.str) (l.map PyData.str)
  | [] => .nil
  | z :: r => .cons (.str z) (strs_dp r)
theorem sm_nms {wd : Wd} (ok : wd.Ok) : Sm (.list ((wd.ps.map (·.1)).map PyData.str)) 1 100 := (sm_list (k := 0) (m := 6) (fun d hd => by
  obtain ⟨z, hz, rfl⟩ := List.mem_map.mp hd
  obtain ⟨p, hp, rfl⟩ := List.mem_map.mp hz
  obtain ⟨n1, _⟩ := ok.nm p hp
  exact sm_str n1.good n1.2.1)).mono (Nat.le_refl _) (by have := ok.p6; rw [List.length_map, List.length_map]; omega)
theorem sm_told {wd : Wd} (ok : wd.Ok) (hb : ∀ p ∈ wd.lo, p.1.natAbs ≤ 1000 ∧ p.2.1.natAbs ≤ 1000 ∧ p.2.2.natAbs ≤ 1000) : Sm (toldD wd) 3 2000 := by
  have a1 : Sm (.tuple (wd.ps.map dP)) 2 300 := (sm_tuple (k := 1) (m := 42) (fun d hd => by
    obtain ⟨p, hp, rfl⟩ := List.mem_map.mp hd
    obtain ⟨n1, n2, n3⟩ := ok.nm p hp
    exact sm_dP n1.good n1.2.1 (by omega))).mono (Nat.le_refl _) (by have := ok.p6; rw [List.length_map]; omega)
  have a2 : Sm (.tuple (wd.st.map dP)) 2 300 := (sm_tuple (k := 1) (m := 42) (fun d hd => by
    obtain ⟨p, hp, rfl⟩ := List.mem_map.mp hd
    obtain ⟨n1, n2, n3⟩ := ok.st p hp
    refine sm_dP ?_ ?_ (by omega)
    · rcases n1 with e | e <;> (rw [e]; exact good_of _)
    · rcases n1 with e | e <;> (rw [e]; decide))).mono (Nat.le_refl _) (by have := ok.p6; have := ok.sl; rw [List.length_map]; omega)
  have a3 : Sm (.tuple (wd.lo.map dL)) 2 300 := (sm_tuple (k := 1) (m := 63) (fun d hd => by
    obtain ⟨p, hp, rfl⟩ := List.mem_map.mp hd
    obtain ⟨n1, n2, n3⟩ := hb p hp
    exact sm_tuple (k := 0) (m := 20) (ds := [.int p.1, .int p.2.1, .int p.2.2]) (fun d hd => by
      simp only [List.mem_cons, List.not_mem_nil, or_false] at hd
      rcases hd with rfl | rfl | rfl <;> exact sm_int (by assumption)))).mono (Nat.le_refl _) (by have := ok.ll; rw [List.length_map]; omega)
  exact (sm_tuple (k := 2) (m := 300) (fun d hd => by
    simp only [List.mem_cons, List.not_mem_nil, or_false] at hd
    rcases hd with rfl | rfl | rfl <;> assumption)).mono (Nat.le_refl _) (by simp)
theorem ans_betw {i j : Nat} (hi : i ≤ 10) (hj : j ≤ 10) : ∃ d, Ans (betw i j) d := by
  unfold betw
  split
  · exact ⟨_, .int i hi⟩
  · split
    · exact ⟨_, .int j hj⟩
    · exact ⟨_, .non⟩
theorem ans_lbt {lo : List (Int × Int × Int)} (h : lo.length ≤ 2) (a b : Int) : ∃ d, Ans (lbt lo a b) d := by
  unfold lbt
  split
  · rename_i j e
    obtain ⟨hj, _⟩ := List.findIdx?_eq_some_iff_getElem.mp e
    exact ⟨_, .int j (by omega)⟩
  · exact ⟨_, .non⟩
theorem lbt_snoc (lo : List (Int × Int × Int)) (p : Int × Int × Int) (a b : Int) : lbt (lo ++ [p]) a b = if lbt lo a b = .non then (if p.1 = a ∧ p.2.1 = b then .int (lo.length : Nat) else .non) else lbt lo a b := by
  unfold lbt
  rw [List.findIdx?_append]
  cases e : lo.findIdx? (fun p => decide (p.1 = a) && decide (p.2.1 = b)) with
  | some j => simp
  | none =>
    by_cases q : p.1 = a ∧ p.2.1 = b
    · simp [List.findIdx?_cons, q]
    · have q' : (decide (p.1 = a) && decide (p.2.1 = b)) = false := by simpa using q
      simp [List.findIdx?_cons, q', q]
theorem Ans.sm {v : V} {d : PyData} (h : Ans v d) : Sm d 0 20 := by
  cases h with
  | non => exact sm_none.mono (by decide) (by decide)
  | int i h => exact sm_int (by omega)
theorem four_line : 4 ≤ sizeLine := by decide
section
variable {P : Program} {w : World} {K : PySem.W.Frag} {mg : Str → Option Value} {base : Heap}
abbrev s_many_stretches : Stmt := inClass (top 29) 4
theorem sc_many_stretches : FnScope ["self"] ["self"] (defScope s_many_stretches) := ⟨rfl, rfl, rfl, by decide +kernel, rfl, by decide +kernel, by decide +kernel⟩
abbrev s_many_longs : Stmt := inClass (top 29) 10
theorem sc_many_longs : FnScope ["self"] ["self"] (defScope s_many_longs) := ⟨rfl, rfl, rfl, by decide +kernel, rfl, by decide +kernel, by decide +kernel⟩
abbrev s_names : Stmt := inClass (top 29) 1
theorem sc_names : FnScope ["self", "name", "_"] ["self"] (defScope s_names) := ⟨rfl, rfl, rfl, by decide +kernel, rfl, by decide +kernel, by decide +kernel⟩
def spMany (K : PySem.W.Frag) (C : Addr) (g : Wd → Nat) : Sp := fun vs H Q _ => ∃ (x : Addr) (wd : Wd), vs = [.ref x] ∧ LineAt K C wd H x ∧ Q (.int (g wd : Nat)) H
theorem ok_many_stretches {f C : Addr} {fd : FuncData} (F : Fun K "many_stretches" "Line.many_stretches" s_many_stretches f fd) (T : Txt mg) (TC : ClsT K C) : FnOk P w K mg base CX0 1 f fd ["self"] (spMany K C fun wd => wd.st.length) := by
  refine F.ok sc_many_stretches (fun vs H Q E h => ?_) (fun cdv A outer s H vs Q E hr h => ?_)
  · obtain ⟨x, wd, rfl, _⟩ := h
    rfl
  · obtain ⟨x, wd, rfl, ⟨dx, p1, p2, p3, d, xs1, xs2, xs3, hx, hp1, hd1, hp2, hd2, hp3, hd3, hN⟩, k⟩ := h
    refine ⟨_, pss_one (ps_ret (pe_callB call_len_seq (by rfl) T.len_ PySem.boot_len (pa_cons (pe_fld (pv 0) rfl) pa_nil))), ?_⟩
    refine ⟨_, rfl, x, C, dx, _, _, rfl, hx, TC.cl, TC.n2, lf_stretches _ _ _ _, p2, xs2, rfl, .inr hp2, ?_⟩
    rw [show (xs2.length : Int) = (wd.st.length : Nat) by rw [dpAll_len hd2, List.length_map]]
    exact k
theorem ok_many_longs {f C : Addr} {fd : FuncData} (F : Fun K "many_longs" "Line.many_longs" s_many_longs f fd) (T : Txt mg) (TC : ClsT K C) : FnOk P w K mg base CX0 1 f fd ["self"] (spMany K C fun wd => wd.lo.length) := by
  refine F.ok sc_many_longs (fun vs H Q E h => ?_) (fun cdv A outer s H vs Q E hr h => ?_)
  · obtain ⟨x, wd, rfl, _⟩ := h
    rfl
  · obtain ⟨x, wd, rfl, ⟨dx, p1, p2, p3, d, xs1, xs2, xs3, hx, hp1, hd1, hp2, hd2, hp3, hd3, hN⟩, k⟩ := h
    refine ⟨_, pss_one (ps_ret (pe_callB call_len_seq (by rfl) T.len_ PySem.boot_len (pa_cons (pe_fld (pv 0) rfl) pa_nil))), ?_⟩
    refine ⟨_, rfl, x, C, dx, _, _, rfl, hx, TC.cl, TC.n3, lf_longs _ _ _ _, p3, xs3, rfl, .inr hp3, ?_⟩
    rw [show (xs3.length : Int) = (wd.lo.length : Nat) by rw [dpAll_len hd3, List.length_map]]
    exact k
def spNamesOf (K : PySem.W.Frag) (C : Addr) : Sp := fun vs H Q _ => ∃ (x : Addr) (wd : Wd), vs = [.ref x] ∧ LineAt K C wd H x ∧ wd.ps.length ≤ 6 ∧ ∀ a H', H a = none → Same H H' → H' a = some (.lst ((wd.ps.map (·.1)).map V.str)) → Q (.ref a) H'
theorem ok_names_of {f C : Addr} {fd : FuncData} (F : Fun K "names" "Line.names" s_names f fd) (T : Txt mg) (TC : ClsT K C) : FnOk P w K mg base CX0 1 f fd ["self"] (spNamesOf K C) := by
  refine F.ok sc_names (fun vs H Q E h => ?_) (fun cdv A outer s H vs Q E hr h => ?_)
  · obtain ⟨x, wd, rfl, _⟩ := h
    rfl
  · obtain ⟨x, wd, rfl, ⟨dx, p1, p2, p3, d, xs1, xs2, xs3, hx, hp1, hd1, hp2, hd2, hp3, hd3, hN⟩, h6, k⟩ := h
    have l1 : xs1.length = wd.ps.length := by rw [dpAll_len hd1, List.length_map]
    refine ⟨_, pss_one (ps_ret (pe_lc (own := [("name", 1), ("_", 2)]) (g := gTup K 2 (gCons (gName 1) (gCons (gName 2) gNil))) (tt := tYes) rfl sc_names.nd (pi_tup (pe_fld (pv 0) rfl)) (blkOk_by (own := [("name", 1), ("_", 2)]) (N := ["self", "name", "_"]) (sc := defScope s_names) (by decide +kernel)) (fun _ _ _ _ _ => (pg_tup (by rfl) (pgs_cons (pg_name (i := 1) sc_names.nd rfl (Or.inl rfl)) (pgs_cons (pg_name (i := 2) sc_names.nd rfl (Or.inl rfl)) pgs_nil)))) (fun _ _ _ _ _ => pts_nil) (fun _ _ _ _ _ => (pv 1)))), ?_⟩
    refine ⟨_, rfl, x, C, dx, _, _, rfl, hx, TC.cl, TC.n1, lf_places _ _ _ _, p1, rfl, ⟨_, hp1⟩, fun D hD => lc_it (walk_tup (K := K) (xs := xs1)) (fun i H' => H' = upd H D (.lst (((wd.ps.take i).map (·.1)).map V.str))) rfl ?_ ?_ ?_⟩
    · rintro i H' _ rfl
      exact (same_nt (same_alloc hD)).seqT hp1
    · rintro i v H' H'' hi rfl ⟨rfl, hv⟩
      obtain ⟨d', hg1, hg2⟩ := dpAll_get hd1 hv
      obtain ⟨p, hp, rfl⟩ := get_map hg1
      obtain ⟨t, y1, y2, rfl, ht, r1, r2⟩ := dp_two hg2
      obtain rfl := dp_str r1
      obtain rfl := dp_int r2
      refine ⟨t, _, rfl, (same_nt (same_alloc hD)).seqT ht, rfl, _, _, rfl, _, _, rfl, rfl, rfl, lcY ⟨_, rfl, _, upd_same, ?_, ?_⟩⟩
      · rw [List.length_map, List.length_map, List.length_take]
        exact lt_line _ (by omega)
      · rw [upd_upd, take_at hp, List.map_append, List.map_append]
        rfl
    · rintro H' rfl
      refine k D _ hD (same_alloc hD) ?_
      rw [upd_same, l1, List.take_of_length_le (Nat.le_refl _)]
end
end K7

set_option maxRecDepth 100000
set_option maxHeartbeats 800000
namespace K7
open PySem PySem.Spec PyProof.Rows L2 GxR Gd TL My
section
variable {P : Program} {w : World} {K : PySem.W.Frag} {mg : Str → Option Value} {base : Heap}
abbrev s_law_stretches_asked_right : Stmt := top 50
theorem sc_law_stretches_asked_right : FnScope ["_law_line", "_law_world_here", "_law_names_here", "_law_k", "_law_kind", "_law_home", "_law_j", "_law_due", "_law_name", "_law_roads", "_law_one", "_law_low", "_law_high", "_law_at"] ["_law_line", "_law_world_here"] (defScope s_law_stretches_asked_right) := ⟨rfl, rfl, rfl, by decide +kernel, rfl, by decide +kernel, by decide +kernel⟩
def spAsk (K : PySem.W.Frag) (C : Addr) (g : Wd → PyData) : Sp := fun vs H Q _ => ∃ (x : Addr) (v : V) (wd : Wd), vs = [.ref x, v] ∧ LineAt K C wd H x ∧ Dp K H v (g wd) ∧ wd.Ok ∧ ∀ H', Same H H' → Q (.bl true) H'
theorem ok_stretches_askedL {f fM fN fE fK fH fO fJ fS fG C : Addr} {fd fdM fdN fdE fdK fdH fdO fdJ fdS fdG : FuncData} (F : Fun K "_law_stretches_asked_right" "_law_stretches_asked_right" s_law_stretches_asked_right f fd) (T : Txt mg) (TC : ClsT K C)
    (Mmany_stretches : Mt K C "many_stretches" "Line.many_stretches" s_many_stretches ["self"] fM fdM) (Gmany_stretches : FnOk P w K mg base CX0 1 fM fdM ["self"] (spMany K C fun wd => wd.st.length))
    (Mmany_longs : Mt K C "many_longs" "Line.many_longs" s_many_longs ["self"] fN fdN) (Gmany_longs : FnOk P w K mg base CX0 1 fN fdN ["self"] (spMany K C fun wd => wd.lo.length))
    (Mends : Mt K C "ends" "Line.ends" s_ends ["self", "k"] fE fdE) (Gends : FnOk P w K mg base CX0 3 fE fdE ["self", "k"] (spEnds K C))
    (Mkind : Mt K C "kind" "Line.kind" s_kind ["self", "k"] fK fdK) (Gkind : FnOk P w K mg base CX0 3 fK fdK ["self", "k"] (spKind K C))
    (Mhome : Mt K C "home" "Line.home" s_home ["self", "k"] fH fdH) (Ghome : FnOk P w K mg base CX0 4 fH fdH ["self", "k"] (spHome K C))
    (Mlong_of : Mt K C "long_of" "Line.long_of" s_long_of ["self", "k"] fO fdO) (Glong_of : FnOk P w K mg base CX0 3 fO fdO ["self", "k"] (spLongOf K C))
    (Mlong_ends : Mt K C "long_ends" "Line.long_ends" s_long_ends ["self", "j"] fJ fdJ) (Glong_ends : FnOk P w K mg base CX0 3 fJ fdJ ["self", "j"] (spLongEnds K C))
    (Mlong_stretches : Mt K C "long_stretches" "Line.long_stretches" s_long_stretches ["self", "j"] fS fdS) (Glong_stretches : FnOk P w K mg base CX0 3 fS fdS ["self", "j"] (spLongStretches K C))
    (Mlong_home : Mt K C "long_home" "Line.long_home" s_long_home ["self", "j"] fG fdG) (Glong_home : FnOk P w K mg base CX0 4 fG fdG ["self", "j"] (spLongHome K C)) :
    GOk P w K mg base CX0 5 f fd ["_law_line", "_law_world_here"] (spAsk K C Wd.data) := by
  refine gok F sc_law_stretches_asked_right (fun vs H Q E h => ?_) (fun cdv A outer s H vs Q E gd hr h => ?_)
  · obtain ⟨x, v, wd, rfl, _⟩ := h
    rfl
  · obtain ⟨x, v, wd, rfl, hL, hD, ok, k⟩ := h
    obtain ⟨wa, vp, vs_, vl, vu, rfl, hw, hp, hs, hl, _⟩ := dp_four hD
    obtain ⟨ap, xp, rfl, hap, dap⟩ := dp_list hp
    obtain ⟨as_, xs, rfl, has, das⟩ := dp_list hs
    obtain ⟨al, xl, rfl, hal, dal⟩ := dp_list hl
    obtain ⟨dx, p1, p2, p3, d, xs1, xs2, xs3, hx, _⟩ := id hL
    have lp : xp.length = wd.ps.length := by rw [dpAll_len dap, List.length_map]
    have ls : xs.length = wd.st.length := by rw [dpAll_len das, List.length_map]
    have ll : xl.length = wd.lo.length := by rw [dpAll_len dal, List.length_map]
    have p6 := ok.p6
    have sl := ok.sl
    have ll2 := ok.ll
    refine ⟨_, pss_cons (ps_setLc (i := 2) (own := [("_law_name", 8), ("_law_roads", 9)]) (g := gTup K 2 (gCons (gName 8) (gCons (gName 9) gNil))) (tt := tYes) rfl sc_law_stretches_asked_right.nd rfl rfl (sw_true rfl rfl rfl (by decide +kernel)) (pi_list (pe_ix (ixL (K := K) rfl) (pv 1) pe_int (fun _ _ => rfl))) (blkOk_by (own := [("_law_name", 8), ("_law_roads", 9)]) (N := ["_law_line", "_law_world_here", "_law_names_here", "_law_k", "_law_kind", "_law_home", "_law_j", "_law_due", "_law_name", "_law_roads", "_law_one", "_law_low", "_law_high", "_law_at"]) (sc := defScope s_law_stretches_asked_right) (by decide +kernel)) (fun _ _ _ _ _ => (pg_tup (by rfl) (pgs_cons (pg_name (i := 8) sc_law_stretches_asked_right.nd rfl (Or.inl rfl)) (pgs_cons (pg_name (i := 9) sc_law_stretches_asked_right.nd rfl (Or.inl rfl)) pgs_nil)))) (fun _ _ _ _ _ => pts_nil) (fun _ _ _ _ _ => (pv 8)))
      (pss_cons (ps_if (pt_cmpR op_ne (pe_callB (call_repr gd hr) (by rfl) T.repr_ (by decide +kernel) (pa_cons (pe_lst (pa_cons (pe_meth0 (pv 0) TC.cl Mmany_stretches.m Gmany_stretches (hr.mono (by decide)) Mmany_stretches.b .nil pass0) (pa_cons (pe_meth0 (pv 0) TC.cl Mmany_longs.m Gmany_longs (hr.mono (by decide)) Mmany_longs.b .nil pass0) pa_nil))) pa_nil)) (pe_callB (call_repr gd hr) (by rfl) T.repr_ (by decide +kernel) (pa_cons (pe_lst (pa_cons (pe_callB call_len_seq (by rfl) T.len_ PySem.boot_len (pa_cons (pe_ix (ixL (K := K) rfl) (pv 1) pe_int (fun _ _ => rfl)) pa_nil)) (pa_cons (pe_callB call_len_seq (by rfl) T.len_ PySem.boot_len (pa_cons (pe_ix (ixL (K := K) rfl) (pv 1) pe_int (fun _ _ => rfl)) pa_nil)) pa_nil))) pa_nil)) (nomark _)) (pss_one (ps_ret pe_bl)) pss_nil)
      (pss_cons (ps_for PassesOwn.never rfl (pi_enum (by rfl) T.enumerate_ (pa_cons (pe_ix (ixL (K := K) rfl) (pv 1) pe_int (fun _ _ => rfl)) pa_nil)) (pg_tup (by rfl) (pgs_cons (pg_name (i := 3) sc_law_stretches_asked_right.nd rfl (Or.inr rfl)) (pgs_cons (pg_tup (by rfl) (pgs_cons (pg_name (i := 4) sc_law_stretches_asked_right.nd rfl (Or.inl rfl)) (pgs_cons (pg_name (i := 5) sc_law_stretches_asked_right.nd rfl (Or.inl rfl)) pgs_nil))) pgs_nil))) (pss_cons (ps_set (i := 6) sc_law_stretches_asked_right.nd rfl (Or.inl rfl) (pe_ix (ixL (K := K) rfl) (pe_op op_cat (pe_lc (own := [("_law_one", 10), ("_law_low", 11), ("_law_high", 12), ("_law_at", 13)]) (g := gTup K 2 (gCons (gName 10) (gCons (gTup K 3 (gCons (gName 11) (gCons (gName 12) (gCons (gName 13) gNil)))) gNil))) rfl sc_law_stretches_asked_right.nd (pi_enum (by rfl) T.enumerate_ (pa_cons (pe_ix (ixL (K := K) rfl) (pv 1) pe_int (fun _ _ => rfl)) pa_nil)) (blkOk_by (own := [("_law_one", 10), ("_law_low", 11), ("_law_high", 12), ("_law_at", 13)]) (N := ["_law_line", "_law_world_here", "_law_names_here", "_law_k", "_law_kind", "_law_home", "_law_j", "_law_due", "_law_name", "_law_roads", "_law_one", "_law_low", "_law_high", "_law_at"]) (sc := defScope s_law_stretches_asked_right) (by decide +kernel)) (fun _ _ _ _ _ => (pg_tup (by rfl) (pgs_cons (pg_name (i := 10) sc_law_stretches_asked_right.nd rfl (Or.inl rfl)) (pgs_cons (pg_tup (by rfl) (pgs_cons (pg_name (i := 11) sc_law_stretches_asked_right.nd rfl (Or.inl rfl)) (pgs_cons (pg_name (i := 12) sc_law_stretches_asked_right.nd rfl (Or.inl rfl)) (pgs_cons (pg_name (i := 13) sc_law_stretches_asked_right.nd rfl (Or.inl rfl)) pgs_nil)))) pgs_nil)))) (fun _ _ _ _ _ => pts_one (pt_chain op_le op_lt (pv 11) (pv 3) (pv 12))) (fun _ _ _ _ _ => (pv 10))) (pe_lst (pa_cons pe_non pa_nil))) pe_int (fun _ _ => rfl)))
          (pss_cons (ps_set (i := 7) sc_law_stretches_asked_right.nd rfl (Or.inl rfl) (pe_lst (pa_cons (pe_tup (pa_cons (pe_ix (ixL (K := K) rfl) (pv 2) (pv 3) (fun _ _ => rfl)) (pa_cons (pe_ix (ixL (K := K) rfl) (pv 2) (pe_op op_add (pv 3) pe_int) (fun _ _ => rfl)) pa_nil))) (pa_cons (pv 4) (pa_cons (pe_ix (ixL (K := K) rfl) (pv 2) (pe_op op_add (pv 3) (pv 5)) (fun _ _ => rfl)) (pa_cons (pv 6) pa_nil))))))
          (pss_one (ps_if (pt_cmpR op_ne (pe_callB (call_repr gd hr) (by rfl) T.repr_ (by decide +kernel) (pa_cons (pe_lst (pa_cons (pe_meth (pv 0) TC.cl Mends.m Gends (hr.mono (by decide)) Mends.b .nil pass0 (pa_cons (pv 3) pa_nil)) (pa_cons (pe_meth (pv 0) TC.cl Mkind.m Gkind (hr.mono (by decide)) Mkind.b .nil pass0 (pa_cons (pv 3) pa_nil)) (pa_cons (pe_meth (pv 0) TC.cl Mhome.m Ghome (hr.mono (by decide)) Mhome.b .nil pass0 (pa_cons (pv 3) pa_nil)) (pa_cons (pe_meth (pv 0) TC.cl Mlong_of.m Glong_of (hr.mono (by decide)) Mlong_of.b .nil pass0 (pa_cons (pv 3) pa_nil)) pa_nil))))) pa_nil)) (pe_callB (call_repr gd hr) (by rfl) T.repr_ (by decide +kernel) (pa_cons (pv 7) pa_nil)) (nomark _)) (pss_one (ps_ret pe_bl)) pss_nil)))))
      (pss_cons (ps_for PassesOwn.never rfl (pi_enum (by rfl) T.enumerate_ (pa_cons (pe_ix (ixL (K := K) rfl) (pv 1) pe_int (fun _ _ => rfl)) pa_nil)) (pg_tup (by rfl) (pgs_cons (pg_name (i := 6) sc_law_stretches_asked_right.nd rfl (Or.inl rfl)) (pgs_cons (pg_tup (by rfl) (pgs_cons (pg_name (i := 11) sc_law_stretches_asked_right.nd rfl (Or.inl rfl)) (pgs_cons (pg_name (i := 12) sc_law_stretches_asked_right.nd rfl (Or.inl rfl)) (pgs_cons (pg_name (i := 5) sc_law_stretches_asked_right.nd rfl (Or.inl rfl)) pgs_nil)))) pgs_nil))) (pss_cons (ps_set (i := 7) sc_law_stretches_asked_right.nd rfl (Or.inl rfl) (pe_lst (pa_cons (pe_tup (pa_cons (pe_ix (ixL (K := K) rfl) (pv 2) (pv 11) (fun _ _ => rfl)) (pa_cons (pe_ix (ixL (K := K) rfl) (pv 2) (pv 12) (fun _ _ => rfl)) pa_nil))) (pa_cons (pe_listRg rfl (by rfl) T.list_ (prg_2 (by rfl) T.range_ (pv 11) (pv 12))) (pa_cons (pe_ix (ixL (K := K) rfl) (pv 2) (pe_ix (ixL (K := K) rfl) (pe_lst (pa_cons (pv 11) (pa_cons (pv 12) pa_nil))) (pv 5) (fun _ _ => rfl)) (fun _ _ => rfl)) pa_nil)))))
          (pss_one (ps_if (pt_cmpR op_ne (pe_callB (call_repr gd hr) (by rfl) T.repr_ (by decide +kernel) (pa_cons (pe_lst (pa_cons (pe_meth (pv 0) TC.cl Mlong_ends.m Glong_ends (hr.mono (by decide)) Mlong_ends.b .nil pass0 (pa_cons (pv 6) pa_nil)) (pa_cons (pe_meth (pv 0) TC.cl Mlong_stretches.m Glong_stretches (hr.mono (by decide)) Mlong_stretches.b .nil pass0 (pa_cons (pv 6) pa_nil)) (pa_cons (pe_meth (pv 0) TC.cl Mlong_home.m Glong_home (hr.mono (by decide)) Mlong_home.b .nil pass0 (pa_cons (pv 6) pa_nil)) pa_nil)))) pa_nil)) (pe_callB (call_repr gd hr) (by rfl) T.repr_ (by decide +kernel) (pa_cons (pv 7) pa_nil)) (nomark _)) (pss_one (ps_ret pe_bl)) pss_nil))))
      (pss_one (ps_ret pe_bl))))), ?_⟩
    generalize hσ : L2.start _ _ = σ0
    obtain rfl : σ0 = [some (.ref x), some (.ref wa), none, none, none, none, none, none, none, none, none, none, none, none] := hσ.symm.trans rfl
    rw [tSeq, tAsg]
    refine names_compL (σ := [some (.ref x), some (.ref wa), none, none, none, none, none, none, none, none, none, none, none, none]) (i := 1) (a := 8) (b := 9) rfl hw hap dap p6 (Nat.le_of_ble_eq_true rfl) (by decide) fun N H1 hN0 s1 eN => ?_
    have hL1 := hL.nt (same_nt s1)
    have no1 : (lf p1 p2 p3 d).lookup (Str.ofString "many_stretches") = none := lf_no _ _ _ _ (by decide +kernel)
    have no2 : (lf p1 p2 p3 d).lookup (Str.ofString "many_longs") = none := lf_no _ _ _ _ (by decide +kernel)
    have no3 : (lf p1 p2 p3 d).lookup (Str.ofString "ends") = none := lf_no _ _ _ _ (by decide +kernel)
    have no4 : (lf p1 p2 p3 d).lookup (Str.ofString "kind") = none := lf_no _ _ _ _ (by decide +kernel)
    have no5 : (lf p1 p2 p3 d).lookup (Str.ofString "home") = none := lf_no _ _ _ _ (by decide +kernel)
    have no6 : (lf p1 p2 p3 d).lookup (Str.ofString "long_of") = none := lf_no _ _ _ _ (by decide +kernel)
    have no7 : (lf p1 p2 p3 d).lookup (Str.ofString "long_ends") = none := lf_no _ _ _ _ (by decide +kernel)
    have no8 : (lf p1 p2 p3 d).lookup (Str.ofString "long_stretches") = none := lf_no _ _ _ _ (by decide +kernel)
    have no9 : (lf p1 p2 p3 d).lookup (Str.ofString "long_home") = none := lf_no _ _ _ _ (by decide +kernel)
    obtain ⟨m1, m2, m3⟩ := (sm_list (k := 0) (m := 20) (ds := [.int (wd.st.length : Nat), .int (wd.lo.length : Nat)]) (fun d hd => by
      simp only [List.mem_cons, List.not_mem_nil, or_false] at hd
      rcases hd with rfl | rfl
      · exact sm_int (by omega)
      · exact sm_int (by omega))).rep (by decide) (by show 2 * 21 ≤ 2 ^ 20; decide)
    simp only [List.set_cons_succ, List.set_cons_zero]
    refine ⟨_, rfl, x, dx, _, rfl, s1 _ _ hx, no1, x, wd, rfl, hL1, _, rfl, x, dx, _, rfl, s1 _ _ hx, no2, x, wd, rfl, hL1, two_line, fun c1 hc1 => ?_⟩
    have q1 := s1.trans (same_alloc (o := .lst [V.int (wd.st.length : Nat), .int (wd.lo.length : Nat)]) hc1)
    refine ⟨_, .list [.int (wd.st.length : Nat), .int (wd.lo.length : Nat)], rfl, .lst (SqL.of upd_same) (.cons (.int _) (.cons (.int _) .nil)), m1, m2, m3, ?_⟩
    have n1 := same_nt q1
    refine ⟨_, rfl, wa, _, 1, _, rfl, rfl, n1.seq hw, rfl, as_, xs, rfl, .inl (n1.seq has), _, rfl, wa, _, 2, _, rfl, rfl, n1.seq hw, rfl, al, xl, rfl, .inl (n1.seq hal), two_line, fun c2 hc2 => ?_⟩
    refine ⟨_, .list [.int (wd.st.length : Nat), .int (wd.lo.length : Nat)], rfl, .lst (SqL.of upd_same) (by rw [ls, ll]; exact .cons (.int _) (.cons (.int _) .nil)), m1, m2, m3, rfl, _, rfl, iteNS rfl ?_⟩
    clear m1 m2 m3 n1
    have q2 := q1.trans (same_alloc (o := .lst [V.int (xs.length : Nat), .int (xl.length : Nat)]) hc2)
    have eN2 := (same_alloc (o := .lst [V.int (xs.length : Nat), .int (xl.length : Nat)]) hc2) _ _ ((same_alloc (o := .lst [V.int (wd.st.length : Nat), .int (wd.lo.length : Nat)]) hc1) _ _ eN)
    generalize upd (upd H1 c1 (.lst [V.int (wd.st.length : Nat), .int (wd.lo.length : Nat)])) c2 (.lst [V.int (xs.length : Nat), .int (xl.length : Nat)]) = H2 at q2 eN2 ⊢
    clear q1 hL1 s1 hc1 hc2 eN
    have hP : ∀ {i : Nat} {p : Str × Int}, wd.ps[i]? = some p → ((wd.ps.map (·.1)).map V.str)[i]? = some (.str p.1) := fun e => by rw [List.getElem?_map, List.getElem?_map, e]; rfl
    refine ⟨_, rfl, wa, _, 1, _, rfl, rfl, (same_nt q2).seq hw, rfl, as_, xs, rfl, (same_nt q2).seq has, for_it (walk_enum (K := K) (xs := xs)) (fun i σ H' => ∃ v3 v4 v5 v6 v7 v8 v9 v10 v11 v12 v13 : Option V, σ = [some (.ref x), some (.ref wa), some (.ref N), v3, v4, v5, v6, v7, v8, v9, v10, v11, v12, v13] ∧ Same H2 H') ?_ ?_ ?_ ?_⟩
    · exact ⟨_, _, _, _, _, _, _, _, _, _, _, rfl, Same.refl H2⟩
    · rintro i σ H' _ ⟨_, _, _, _, _, _, _, _, _, _, _, _, s2⟩
      exact (same_nt (q2.trans s2)).seq has
    · rintro i v σ X1 X2 hi ⟨v3, v4, v5, v6, v7, v8, v9, v10, v11, v12, v13, rfl, s2⟩ ⟨T1, X, Y, rfl, hT1, rfl, z1, z2⟩
      obtain rfl := Option.some.inj z1
      obtain ⟨d', hg1, hg2⟩ := dpAll_get das z2
      obtain ⟨r, hr0, rfl⟩ := get_map hg1
      obtain ⟨t, y1, y2, rfl, ht, r1, r2⟩ := dp_two hg2
      obtain rfl := dp_str r1
      obtain rfl := dp_int r2
      have s3 := s2.trans (same_alloc (o := .tup [.int (i : Nat), .ref t]) hT1)
      have ht1 := (same_nt (q2.trans s3)).seqT ht
      have hi' : i < wd.st.length := by omega
      obtain ⟨p, ep⟩ : ∃ p, wd.ps[i]? = some p := ⟨_, List.getElem?_eq_getElem (by omega)⟩
      obtain ⟨q, eq⟩ : ∃ q, wd.ps[i + 1]? = some q := ⟨_, List.getElem?_eq_getElem (by omega)⟩
      have okp := (ok.nm p (List.mem_of_getElem? ep)).1
      have okq := (ok.nm q (List.mem_of_getElem? eq)).1
      obtain ⟨okr, r0, r1⟩ := ok.st r (List.mem_of_getElem? hr0)
      have okr6 : Good r.1 ∧ r.1.length ≤ 6 := by rcases okr with e | e <;> (rw [e]; exact ⟨good_of _, by decide⟩)
      have eadd : V.int ((i : Int) + 1) = V.int ((i + 1 : Nat) : Int) := by rw [show ((i : Int) + 1) = ((i + 1 : Nat) : Int) by omega]
      refine ⟨T1, _, rfl, SqT.of upd_same, rfl, _, _, rfl, _, _, rfl, t, _, rfl, ht1, rfl, _, _, rfl, _, _, rfl, rfl, rfl, ?_⟩
      generalize upd X1 T1 (.tup [.int (i : Nat), .ref t]) = H3 at s3 ⊢
      have s9 := q2.trans s3
      simp only [List.set_cons_succ, List.set_cons_zero]
      refine ⟨_, rfl, wa, _, 2, _, rfl, rfl, (same_nt s9).seq hw, rfl, al, xl, rfl, (same_nt s9).seq hal, fun D hD => lc_it (walk_enum (K := K) (xs := xl)) (fun k H' => ∃ acc : List V, H' D = some (.lst acc) ∧ (acc.length ≤ k ∧ ∀ y ∈ acc, y ≠ V.non) ∧ (acc ++ [V.non]).head? = some (lof (wd.lo.take k) (i : Nat)) ∧ Same H3 H') ?_ ?_ ?_ ?_⟩
      · exact ⟨[], upd_same, ⟨Nat.le_refl _, by simp⟩, rfl, same_alloc hD⟩
      · rintro k' H' _ ⟨_, _, _, _, s4⟩
        exact (same_nt (s9.trans s4)).seq hal
      · rintro k' v H7 H8 hk ⟨acc, f1, ⟨f2, f2'⟩, f3, s10⟩ ⟨T3, X, Y, rfl, hT3, rfl, z1, z2⟩
        obtain rfl := Option.some.inj z1
        obtain ⟨d', hg1, hg2⟩ := dpAll_get dal z2
        obtain ⟨pk, hpk, rfl⟩ := get_map hg1
        obtain ⟨t3, y1, y2, y3, rfl, ht3, r1, r2, r3⟩ := dp_three hg2
        obtain rfl := dp_int r1
        obtain rfl := dp_int r2
        obtain rfl := dp_int r3
        have s11 := s10.trans (same_alloc (o := .tup [.int (k' : Nat), .ref t3]) hT3)
        have ht3' := (same_nt (s9.trans s11)).seqT ht3
        refine ⟨T3, _, rfl, SqT.of upd_same, rfl, _, _, rfl, _, _, rfl, t3, _, rfl, ht3', rfl, _, _, rfl, _, _, rfl, _, _, rfl, rfl, rfl, wipe4 (by decide) (by decide) (by decide) (by decide), ?_⟩
        simp only [wipe, List.map_cons, List.map_nil, List.set_cons_succ, List.set_cons_zero]
        have hk' : k' < wd.lo.length := by omega
        have etk : (wd.lo.take k').length = k' := by rw [List.length_take]; omega
        have s12 := same_alloc (o := .tup [.int (k' : Nat), .ref t3]) hT3
        have no : ¬ (pk.1 ≤ (i : Int) ∧ (i : Int) < pk.2.1) → ∃ acc : List V, (upd H7 T3 (.tup [.int (k' : Nat), .ref t3])) D = some (.lst acc) ∧ (acc.length ≤ k' + 1 ∧ ∀ y ∈ acc, y ≠ V.non) ∧ (acc ++ [V.non]).head? = some (lof (wd.lo.take (k' + 1)) (i : Nat)) ∧ Same H3 (upd H7 T3 (.tup [.int (k' : Nat), .ref t3])) := by
          intro c
          refine ⟨acc, s12 _ _ f1, ⟨Nat.le_succ_of_le f2, f2'⟩, ?_, s11⟩
          rw [take_at hpk, lof_snoc, if_neg c, f3]
          split
          · rename_i z
            rw [z]
          · rfl
        refine ⟨_, rfl, _, rfl, _, _, rfl, rfl, _, rfl, ite2 (fun c => ?_) (fun c => ?_)⟩
        · have c1 : pk.1 ≤ (i : Int) := of_decide_eq_true c
          refine ⟨_, rfl, _, _, rfl, rfl, _, rfl, ite2 (fun c2 => ?_) (fun c2 => ?_)⟩
          · have c2' : (i : Int) < pk.2.1 := of_decide_eq_true c2
            refine ⟨_, rfl, acc, s12 _ _ f1, Nat.lt_of_le_of_lt f2 (lt_line _ (by omega)), acc ++ [.int (k' : Nat)], upd_same, ⟨?_, ?_⟩, ?_, ?_⟩
            · rw [List.length_append]
              exact Nat.succ_le_succ f2
            · intro y hy
              rcases List.mem_append.mp hy with q | q
              · exact f2' y q
              · rw [List.mem_singleton.mp q]
                simp
            · rw [take_at hpk, lof_snoc, if_pos (show pk.1 ≤ ((i : Nat) : Int) ∧ ((i : Nat) : Int) < pk.2.1 from ⟨c1, c2'⟩), etk]
              cases acc with
              | nil =>
                have z : V.non = lof (wd.lo.take k') (i : Nat) := Option.some.inj f3
                rw [← z]
                rfl
              | cons a r =>
                have z : a = lof (wd.lo.take k') (i : Nat) := Option.some.inj f3
                rw [← z, if_neg (f2' a (by simp))]
                rfl
            · intro c o h
              rw [upd_ne (ne_of_none h hD)]
              exact s12 _ _ (s10 _ _ h)
          · exact no (fun h => c2 (decide_eq_true h.2))
        · exact ⟨_, rfl, iteF (no (fun h => c (decide_eq_true h.1)))⟩
      · rintro H7 ⟨acc, f1, ⟨f2, _⟩, f3, s10⟩
        rw [ll, List.take_of_length_le (Nat.le_refl _)] at f3
        have s11 := s3.trans s10
        obtain ⟨db, hb⟩ := ans_lof ok.ll ((i : Nat) : Int)
        refine ⟨one_line, fun LN hLN => ?_⟩
        refine ⟨D, LN, acc, [.non], rfl, rfl, (same_alloc hLN) _ _ f1, upd_same, (by show acc.length + 1 ≤ sizeLine; exact Nat.le_trans (Nat.succ_le_succ f2) (Nat.le_of_lt (lt_line _ (by omega)))), fun pp hpp => ?_⟩
        have s12 := (s11.trans (same_alloc (o := .lst [V.non]) hLN)).trans (same_alloc (o := .lst (acc ++ [V.non])) hpp)
        refine ⟨pp, _, 0, lof wd.lo (i : Nat), rfl, rfl, SqL.of upd_same, ?_, ?_⟩
        · rw [List.head?_eq_getElem?] at f3
          exact atI_nat f3
        generalize upd (upd H7 LN (.lst [V.non])) pp (.lst (acc ++ [V.non])) = H8 at s12 ⊢
        clear f1 f2 f3 s11 s10 hpp hLN
        have eN8 := s12 _ _ eN2
        have hpick : atI ((wd.ps.map (·.1)).map V.str) ((i : Int) + r.2) = some (.str (pick r.2 p.1 q.1)) := by
          rcases (by omega : r.2 = 0 ∨ r.2 = 1) with e | e
          · rw [e, Int.add_zero]
            exact atI_nat (hP ep)
          · rw [e, show ((i : Int) + 1) = ((i + 1 : Nat) : Int) by omega]
            exact atI_nat (hP eq)
        have okk : Good (pick r.2 p.1 q.1) ∧ (pick r.2 p.1 q.1).length ≤ 6 := by
          unfold pick
          split
          · exact ⟨okp.good, okp.2.1⟩
          · exact ⟨okq.good, okq.2.1⟩
        obtain ⟨m1, m2, m3⟩ := (sm_list (k := 1) (m := 20) (ds := [.tuple [.str p.1, .str q.1], .str r.1, .str (pick r.2 p.1 q.1), db]) (fun d hd => by
          simp only [List.mem_cons, List.not_mem_nil, or_false] at hd
          rcases hd with rfl | rfl | rfl | rfl
          · exact (sm_names okp okq).mono (Nat.le_refl _) (by decide)
          · exact (sm_str okr6.1 okr6.2).mono (by decide) (by decide)
          · exact (sm_str okk.1 okk.2).mono (by decide) (by decide)
          · exact hb.sm.mono (by decide) (by decide))).rep (by decide) (by show 4 * 21 ≤ 2 ^ 20; decide)
        simp only [List.set_cons_succ, List.set_cons_zero]
        refine ⟨_, rfl, _, rfl, N, _, _, .str p.1, rfl, rfl, SqL.of eN8, atI_nat (hP ep), _, rfl, _, rfl, _, _, rfl, rfl, N, _, ((i + 1 : Nat) : Int), .str q.1, rfl, eadd, SqL.of eN8, atI_nat (hP eq), two_line, fun u1 hu1 => ?_⟩
        have w1 : Same H8 (upd H8 u1 (.tup [.str p.1, .str q.1])) := same_alloc hu1
        have e1 : upd H8 u1 (.tup [.str p.1, .str q.1]) u1 = some (.tup [.str p.1, .str q.1]) := upd_same
        generalize upd H8 u1 (.tup [.str p.1, .str q.1]) = H9 at w1 e1 ⊢
        refine ⟨_, rfl, _, rfl, _, rfl, _, rfl, _, _, rfl, rfl, N, _, _, .str (pick r.2 p.1 q.1), rfl, rfl, SqL.of (w1 _ _ eN8), hpick, _, rfl, four_line, fun u2 hu2 => ?_⟩
        have w2 : Same H9 (upd H9 u2 (.lst [.ref u1, .str r.1, .str (pick r.2 p.1 q.1), lof wd.lo (i : Nat)])) := same_alloc hu2
        have e2 : upd H9 u2 (.lst [.ref u1, .str r.1, .str (pick r.2 p.1 q.1), lof wd.lo (i : Nat)]) u2 = some (.lst [.ref u1, .str r.1, .str (pick r.2 p.1 q.1), lof wd.lo (i : Nat)]) := upd_same
        generalize upd H9 u2 (.lst [.ref u1, .str r.1, .str (pick r.2 p.1 q.1), lof wd.lo (i : Nat)]) = H10 at w2 e2 ⊢
        have w12 := w1.trans w2
        have sA := q2.trans (s12.trans w12)
        have hLA := hL.nt (same_nt sA)
        simp only [List.set_cons_succ, List.set_cons_zero]
        refine ⟨_, rfl, x, dx, _, rfl, sA _ _ hx, no3, _, rfl, x, wd, i, p, q, rfl, hLA, hi', ep, eq, fun u3 H11 w3 hu3 => ?_⟩
        have sB := sA.trans w3
        refine ⟨_, rfl, x, dx, _, rfl, sB _ _ hx, no4, _, rfl, x, wd, i, r, rfl, hL.nt (same_nt sB), hr0, _, rfl, x, dx, _, rfl, sB _ _ hx, no5, _, rfl, x, wd, i, r, p, q, rfl, hL.nt (same_nt sB), hr0, r0, r1, ep, eq, fun H12 w4 => ?_⟩
        have sC := sB.trans w4
        refine ⟨_, rfl, x, dx, _, rfl, sC _ _ hx, no6, _, rfl, x, wd, i, rfl, hL.nt (same_nt sC), hi', fun H13 w5 => ⟨four_line, fun u4 hu4 => ?_⟩⟩
        have w6 := same_alloc (o := .lst [.ref u3, .str r.1, .str (pick r.2 p.1 q.1), lof wd.lo (i : Nat)]) hu4
        have w36 := ((w3.trans w4).trans w5).trans w6
        refine ⟨_, .list [.tuple [.str p.1, .str q.1], .str r.1, .str (pick r.2 p.1 q.1), db], rfl, .lst (SqL.of upd_same) (.cons (.tup (SqT.of (w6 _ _ (w5 _ _ (w4 _ _ hu3)))) (.cons (.str _) (.cons (.str _) .nil))) (.cons (.str _) (.cons (.str _) (.cons hb.dp .nil)))), m1, m2, m3, ?_⟩
        refine ⟨_, rfl, _, .list [.tuple [.str p.1, .str q.1], .str r.1, .str (pick r.2 p.1 q.1), db], rfl, .lst (SqL.of (w36 _ _ e2)) (.cons (.tup (SqT.of (w36 _ _ (w2 _ _ e1))) (.cons (.str _) (.cons (.str _) .nil))) (.cons (.str _) (.cons (.str _) (.cons hb.dp .nil)))), m1, m2, m3, rfl, _, rfl, iteNS rfl ?_⟩
        exact ⟨_, _, _, _, _, _, _, _, _, _, _, rfl, (s12.trans w12).trans w36⟩
    · rintro σ H3 ⟨v3, v4, v5, v6, v7, v8, v9, v10, v11, v12, v13, rfl, s3⟩
      have s9 := q2.trans s3
      have eN3 := s3 _ _ eN2
      refine ⟨_, rfl, wa, _, 2, _, rfl, rfl, (same_nt s9).seq hw, rfl, al, xl, rfl, (same_nt s9).seq hal, for_it (walk_enum (K := K) (xs := xl)) (fun i σ H' => ∃ v3 v4 v5 v6 v7 v8 v9 v10 v11 v12 v13 : Option V, σ = [some (.ref x), some (.ref wa), some (.ref N), v3, v4, v5, v6, v7, v8, v9, v10, v11, v12, v13] ∧ Same H3 H') ?_ ?_ ?_ ?_⟩
      · exact ⟨_, _, _, _, _, _, _, _, _, _, _, rfl, Same.refl H3⟩
      · rintro i σ H' _ ⟨_, _, _, _, _, _, _, _, _, _, _, _, s2⟩
        exact (same_nt (s9.trans s2)).seq hal
      · rintro j v σ X1 X2 hi ⟨v3, v4, v5, v6, v7, v8, v9, v10, v11, v12, v13, rfl, s2⟩ ⟨T1, X, Y, rfl, hT1, rfl, z1, z2⟩
        obtain rfl := Option.some.inj z1
        obtain ⟨d', hg1, hg2⟩ := dpAll_get dal z2
        obtain ⟨r, hr0, rfl⟩ := get_map hg1
        obtain ⟨t, y1, y2, y3, rfl, ht, r1, r2, r3⟩ := dp_three hg2
        obtain rfl := dp_int r1
        obtain rfl := dp_int r2
        obtain rfl := dp_int r3
        have s4 := s2.trans (same_alloc (o := .tup [.int (j : Nat), .ref t]) hT1)
        have ht1 := (same_nt (s9.trans s4)).seqT ht
        obtain ⟨a, c, h, rfl⟩ : ∃ a c h, r = (a, c, h) := ⟨r.1, r.2.1, r.2.2, rfl⟩
        obtain ⟨o1, o2, o3, o4, o5⟩ := longs_get ok.lo hr0
        have a0 : 0 ≤ a := longs_nonneg (Int.le_refl 0) ok.lo _ (List.mem_of_getElem? hr0)
        obtain ⟨a, rfl⟩ := Int.eq_ofNat_of_zero_le a0
        obtain ⟨c, rfl⟩ := Int.eq_ofNat_of_zero_le (show 0 ≤ c by simp at o2; omega)
        have o2' : (a : Int) + 2 ≤ (c : Int) := o2
        have o3' : (c : Int) ≤ ((wd.ps.length - 1 : Nat) : Int) := o3
        have rgo : RgOk (a : Int) (c : Int) := RgOk.of_le (by omega) (by omega) (by omega) (by omega)
        obtain ⟨p, ep⟩ : ∃ p, wd.ps[a]? = some p := ⟨_, List.getElem?_eq_getElem (by omega)⟩
        obtain ⟨q, eq⟩ : ∃ q, wd.ps[c]? = some q := ⟨_, List.getElem?_eq_getElem (by omega)⟩
        have okp := (ok.nm p (List.mem_of_getElem? ep)).1
        have okq := (ok.nm q (List.mem_of_getElem? eq)).1
        have okk : Good (pick h p.1 q.1) ∧ (pick h p.1 q.1).length ≤ 6 := by
          unfold pick
          split
          · exact ⟨okp.good, okp.2.1⟩
          · exact ⟨okq.good, okq.2.1⟩
        obtain ⟨e, he1, he2⟩ : ∃ e : Nat, atI [V.int (a : Nat), .int (c : Nat)] h = some (.int (e : Nat)) ∧ ((wd.ps.map (·.1)).map V.str)[e]? = some (.str (pick h p.1 q.1)) := by
          rcases (by simp at o4 o5; omega : h = 0 ∨ h = 1) with rfl | rfl
          · exact ⟨a, rfl, hP ep⟩
          · exact ⟨c, rfl, hP eq⟩
        obtain ⟨m1, m2, m3⟩ := (sm_list (k := 1) (m := 300) (ds := [.tuple [.str p.1, .str q.1], .list (rgD (a : Int) (c : Int)), .str (pick h p.1 q.1)]) (fun d hd => by
          simp only [List.mem_cons, List.not_mem_nil, or_false] at hd
          rcases hd with rfl | rfl | rfl
          · exact (sm_names okp okq).mono (Nat.le_refl _) (by decide)
          · exact (rg_sm (a := (a : Int)) (b := (c : Int)) (by omega) (by omega)).mono (Nat.le_refl _) (by rw [rgD_len]; omega)
          · exact (sm_str okk.1 okk.2).mono (by decide) (by decide))).rep (by decide) (by show 3 * 301 ≤ 2 ^ 20; decide)
        refine ⟨T1, _, rfl, SqT.of upd_same, rfl, _, _, rfl, _, _, rfl, t, _, rfl, ht1, rfl, _, _, rfl, _, _, rfl, _, _, rfl, rfl, rfl, ?_⟩
        generalize upd X1 T1 (.tup [.int (j : Nat), .ref t]) = H8 at s4 ⊢
        have eN8 := s4 _ _ eN3
        simp only [List.set_cons_succ, List.set_cons_zero]
        refine ⟨_, rfl, _, rfl, N, _, _, .str p.1, rfl, rfl, SqL.of eN8, atI_nat (hP ep), _, rfl, _, rfl, N, _, _, .str q.1, rfl, rfl, SqL.of eN8, atI_nat (hP eq), two_line, fun u1 hu1 => ?_⟩
        have w1 : Same H8 (upd H8 u1 (.tup [.str p.1, .str q.1])) := same_alloc hu1
        have e1 : upd H8 u1 (.tup [.str p.1, .str q.1]) u1 = some (.tup [.str p.1, .str q.1]) := upd_same
        generalize upd H8 u1 (.tup [.str p.1, .str q.1]) = H9 at w1 e1 ⊢
        refine ⟨_, rfl, _, rfl, _, _, rfl, rfl, rgo, fun A hA => ?_⟩
        have w2 : Same H9 (upd H9 A (.lst (rgV (a : Int) (c : Int)))) := same_alloc hA
        have eA : upd H9 A (.lst (rgV (a : Int) (c : Int))) A = some (.lst (rgV (a : Int) (c : Int))) := upd_same
        generalize upd H9 A (.lst (rgV (a : Int) (c : Int))) = H10 at w2 eA ⊢
        refine ⟨_, rfl, _, rfl, _, rfl, two_line, fun u3 hu3 => ?_⟩
        have w3 := same_alloc (o := .lst [V.int (a : Nat), .int (c : Nat)]) hu3
        refine ⟨_, rfl, u3, _, h, _, rfl, rfl, SqL.of upd_same, he1, N, _, _, .str (pick h p.1 q.1), rfl, rfl, SqL.of (w3 _ _ (w2 _ _ (w1 _ _ eN8))), atI_nat he2, three_line, fun u4 hu4 => ?_⟩
        have w4 := w3.trans (same_alloc (o := .lst [V.ref u1, .ref A, .str (pick h p.1 q.1)]) hu4)
        have e4 : upd (upd H10 u3 (.lst [V.int (a : Nat), .int (c : Nat)])) u4 (.lst [V.ref u1, .ref A, .str (pick h p.1 q.1)]) u4 = some (.lst [V.ref u1, .ref A, .str (pick h p.1 q.1)]) := upd_same
        generalize upd (upd H10 u3 (.lst [V.int (a : Nat), .int (c : Nat)])) u4 (.lst [V.ref u1, .ref A, .str (pick h p.1 q.1)]) = H11 at w4 e4 ⊢
        clear w3 hu3 hu4
        have w14 := (w1.trans w2).trans w4
        have sA := s9.trans (s4.trans w14)
        simp only [List.set_cons_succ, List.set_cons_zero]
        refine ⟨_, rfl, x, dx, _, rfl, sA _ _ hx, no7, _, rfl, x, wd, j, a, c, h, p, q, rfl, hL.nt (same_nt sA), hr0, ep, eq, fun u5 H12 w5 hu5 => ?_⟩
        have sB := sA.trans w5
        refine ⟨_, rfl, x, dx, _, rfl, sB _ _ hx, no8, _, rfl, x, wd, j, _, rfl, hL.nt (same_nt sB), hr0, rgo, fun A2 hA2 => ?_⟩
        have w6 := same_alloc (o := .lst (rgV (a : Int) (c : Int))) hA2
        have eA2 : upd H12 A2 (.lst (rgV (a : Int) (c : Int))) A2 = some (.lst (rgV (a : Int) (c : Int))) := upd_same
        generalize upd H12 A2 (.lst (rgV (a : Int) (c : Int))) = H13 at w6 eA2 ⊢
        have sC := sB.trans w6
        refine ⟨_, rfl, x, dx, _, rfl, sC _ _ hx, no9, _, rfl, x, wd, j, a, c, h, p, q, rfl, hL.nt (same_nt sC), hr0, o4, o5, ep, eq, fun H14 w7 => ⟨three_line, fun u6 hu6 => ?_⟩⟩
        have w8 := same_alloc (o := .lst [V.ref u5, .ref A2, .str (pick h p.1 q.1)]) hu6
        have w58 := ((w5.trans w6).trans w7).trans w8
        refine ⟨_, .list [.tuple [.str p.1, .str q.1], .list (rgD (a : Int) (c : Int)), .str (pick h p.1 q.1)], rfl, .lst (SqL.of upd_same) (.cons (.tup (SqT.of (w8 _ _ (w7 _ _ (w6 _ _ hu5)))) (.cons (.str _) (.cons (.str _) .nil))) (.cons (.lst (SqL.of (w8 _ _ (w7 _ _ eA2))) (rg_dp _ _)) (.cons (.str _) .nil))), m1, m2, m3, ?_⟩
        refine ⟨_, rfl, _, .list [.tuple [.str p.1, .str q.1], .list (rgD (a : Int) (c : Int)), .str (pick h p.1 q.1)], rfl, .lst (SqL.of (w58 _ _ e4)) (.cons (.tup (SqT.of (w58 _ _ (w4 _ _ (w2 _ _ e1)))) (.cons (.str _) (.cons (.str _) .nil))) (.cons (.lst (SqL.of (w58 _ _ (w4 _ _ eA))) (rg_dp _ _)) (.cons (.str _) .nil))), m1, m2, m3, rfl, _, rfl, iteNS rfl ?_⟩
        exact ⟨_, _, _, _, _, _, _, _, _, _, _, rfl, (s4.trans w14).trans w58⟩
      · rintro σ H4 ⟨v3, v4, v5, v6, v7, v8, v9, v10, v11, v12, v13, rfl, s4⟩
        exact k H4 (s9.trans s4)
end
end K7

set_option maxRecDepth 100000
set_option maxHeartbeats 800000
namespace K7
open PySem PySem.Spec PyProof.Rows L2 GxR Gd TL My
def mnI (i j : Nat) : Int := if (j : Int) < (i : Int) then (j : Int) else (i : Int)
def mxI (i j : Nat) : Int := if (j : Int) > (i : Int) then (j : Int) else (i : Int)
theorem mnI_eq (i j : Nat) : ((min i j : Nat) : Int) = mnI i j := by unfold mnI; split <;> omega
theorem mxI_eq (i j : Nat) : ((max i j : Nat) : Int) = mxI i j := by unfold mxI; split <;> omega
theorem betw_yes {i j : Nat} (c : mnI i j + 1 = mxI i j) : betw i j = .int (mnI i j) := by
  unfold betw
  unfold mnI mxI at *
  split at c <;> split at c <;> (try omega)
  · rename_i h1 h2
    rw [if_neg (by omega), if_pos (by omega), if_pos (by omega)]
  · rename_i h1 h2
    rw [if_pos (by omega), if_neg (by omega)]
theorem betw_no {i j : Nat} (c : ¬ mnI i j + 1 = mxI i j) : betw i j = .non := by
  unfold betw
  unfold mnI mxI at *
  rw [if_neg, if_neg]
  · intro e
    apply c
    split <;> split <;> omega
  · intro e
    apply c
    split <;> split <;> omega
theorem eqv2t (a b f l : Int) : PyData.eqv (.tuple [.int a, .int b]) (.tuple [.int f, .int l]) = (decide (a = f) && decide (b = l)) := by
  simp [PyData.eqv, PyData.eqvAll]
  rw [Bool.eq_iff_iff]
  simp
def dE (p : Int × Int × Int) : PyData := .tuple [.int p.1, .int p.2.1]
theorem any_lbt {lo : List (Int × Int × Int)} {a b : Int} : ((lo.map dE).any fun z => PyData.eqv z (.tuple [.int a, .int b])) = (lo.findIdx? fun p => decide (p.1 = a) && decide (p.2.1 = b)).isSome := by
  rw [List.findIdx?_isSome, List.any_map]
  congr 1
  funext p
  exact eqv2t _ _ _ _
theorem inDK {X : Cx} {K : PySem.W.Frag} (h : X.K = K) (hu : X.A.units + 65 < cLine) : OpR X (compareOp .In) (rInD K) := h ▸ op_inD hu
theorem indexDK {X : Cx} {K : PySem.W.Frag} (h : X.K = K) (hu : X.A.units + 65 < cLine) : MtR X "list.index" (rIndexD K) := h ▸ mt_indexD hu
theorem lo_small {wd : Wd} (ok : wd.Ok) : ∀ p ∈ wd.lo, p.1.natAbs ≤ 1000 ∧ p.2.1.natAbs ≤ 1000 ∧ p.2.2.natAbs ≤ 1000 := by
  have p6 := ok.p6
  intro p hp
  obtain ⟨j, hj⟩ := List.getElem?_of_mem hp
  obtain ⟨o1, o2, o3, o4, o5⟩ := longs_get ok.lo hj
  have a0 : 0 ≤ p.1 := longs_nonneg (Int.le_refl 0) ok.lo _ hp
  exact ⟨by omega, by omega, by omega⟩
theorem sm_roads {wd : Wd} (ok : wd.Ok) : Sm (.list ((wd.ps.map (·.2)).map PyData.int)) 1 126 := (sm_list (k := 0) (m := 20) (fun d hd => by
  obtain ⟨z, hz, rfl⟩ := List.mem_map.mp hd
  obtain ⟨p, hp, rfl⟩ := List.mem_map.mp hz
  obtain ⟨_, n1, n2⟩ := ok.nm p hp
  exact sm_int (by omega))).mono (Nat.le_refl _) (by have := ok.p6; rw [List.length_map, List.length_map]; omega)
theorem sm_ends {wd : Wd} (ok : wd.Ok) : Sm (.list (wd.lo.map dE)) 2 100 := (sm_list (k := 1) (m := 42) (fun d hd => by
  obtain ⟨p, hp, rfl⟩ := List.mem_map.mp hd
  obtain ⟨n1, n2, _⟩ := lo_small ok p hp
  exact sm_tuple (k := 0) (m := 20) (ds := [.int p.1, .int p.2.1]) (fun d hd => by
    simp only [List.mem_cons, List.not_mem_nil, or_false] at hd
    rcases hd with rfl | rfl <;> exact sm_int (by assumption)))).mono (Nat.le_refl _) (by have := ok.ll; rw [List.length_map]; omega)
theorem sm_pair {a b : Int} (ha : a.natAbs ≤ 1000) (hb : b.natAbs ≤ 1000) : Sm (.tuple [.int a, .int b]) 1 42 := sm_tuple (k := 0) (m := 20) (ds := [.int a, .int b]) (fun d hd => by
  simp only [List.mem_cons, List.not_mem_nil, or_false] at hd
  rcases hd with rfl | rfl <;> exact sm_int (by assumption))
theorem ints_dp {K : PySem.W.Frag} {H : Hp} : ∀ l : List Int, DpAll K H (l.map V.int) (l.map PyData.int)
  | [] => .nil
  | z :: r => .cons (.int z) (ints_dp r)
theorem due1 {K : PySem.W.Frag} {σ : L2.St} {H : Hp} {i j : Nat} {u : Addr} {G : VK} (h8 : σ[8]? = some (some (.ref u))) (eu : SqT K H u [.int (mnI i j), .int (mxI i j)]) (k : G (betw i j) H) :
    tIf (tTest (tOp rEq (tOp (rI0 fun i j => V.int (i + j)) (tOp (rIxT K) (tVar 8) (tC (V.int 0))) (tC (V.int 1))) (tOp (rIxT K) (tVar 8) (tC (V.int 1))))) (tOp (rIxT K) (tVar 8) (tC (V.int 0))) (tC V.non) σ H G := by
  refine ⟨_, h8, u, _, 0, _, rfl, rfl, eu, rfl, _, _, rfl, rfl, _, h8, u, _, 1, _, rfl, rfl, eu, rfl, rfl, _, rfl, ite2 (fun c => ?_) (fun c => ?_)⟩
  · have c' : mnI i j + 1 = mxI i j := V.int.inj (of_decide_eq_true c)
    rw [betw_yes c'] at k
    exact ⟨_, h8, u, _, 0, _, rfl, rfl, eu, rfl, k⟩
  · have c' : ¬ mnI i j + 1 = mxI i j := fun e => c (decide_eq_true (congrArg V.int e))
    rw [betw_no c'] at k
    exact k
theorem due2 {K : PySem.W.Frag} {σ : L2.St} {H : Hp} {a b : Int} {u e : Addr} {lo : List (Int × Int × Int)} {G : VK} (h8 : σ[8]? = some (some (.ref u))) (h3 : σ[3]? = some (some (.ref e))) (eu : SqT K H u [.int a, .int b]) (de : Dp K H (.ref e) (.list (lo.map dE)))
    (s1 : SeqAt.shaped (.tuple [.int a, .int b]) = true) (s2 : SeqAt.shaped (.list (lo.map dE)) = true) (k : G (lbt lo a b) H) :
    tIf (tTest (tOp (rInD K) (tVar 8) (tVar 3))) (tBM K "list" (rIndexD K) (tVar 3) (tCons (tVar 8) tNil)) (tC V.non) σ H G := by
  have du : Dp K H (.ref u) (.tuple [.int a, .int b]) := .tup eu (.cons (.int _) (.cons (.int _) .nil))
  obtain ⟨e', ys, ee, hys, _⟩ := dp_list de
  obtain rfl := V.ref.inj ee
  refine ⟨_, h8, _, h3, .tuple [.int a, .int b], lo.map dE, du, de, s1, s2, _, rfl, ?_⟩
  rw [any_lbt]
  unfold lbt at k
  cases h : lo.findIdx? (fun p => decide (p.1 = a) && decide (p.2.1 = b)) with
  | none =>
    rw [h] at k
    exact iteF k
  | some j =>
    rw [h] at k
    obtain ⟨hj, h1, h2⟩ := List.findIdx?_eq_some_iff_getElem.mp h
    refine iteT ⟨_, h3, .inl ⟨rfl, _, hys⟩, _, h8, e, .ref u, .tuple [.int a, .int b], lo.map dE, j, dE lo[j], rfl, rfl, de, du, s2, s1, by rw [List.getElem?_map, List.getElem?_eq_getElem hj]; rfl, ?_, fun m z hm hz => ?_, k⟩
    · unfold dE
      rw [eqv2t]
      exact h1
    · obtain ⟨p, hp, rfl⟩ := get_map hz
      unfold dE
      rw [eqv2t]
      have hm' : m < lo.length := by omega
      have := h2 m hm
      rw [List.getElem?_eq_getElem hm'] at hp
      obtain rfl := Option.some.inj hp
      simpa using this
section
variable {P : Program} {w : World} {K : PySem.W.Frag} {mg : Str → Option Value} {base : Heap}
abbrev s_law_asked_right : Stmt := top 51
theorem sc_law_asked_right : FnScope ["_law_line", "_law_world_here", "_law_names_here", "_law_ends", "_law_at", "_law_one", "_law_to", "_law_other", "_law_pair", "_law_due", "_law_name", "_law_roads", "_law_low", "_law_high", "_law_home"] ["_law_line", "_law_world_here"] (defScope s_law_asked_right) := ⟨rfl, rfl, rfl, by decide +kernel, rfl, by decide +kernel, by decide +kernel⟩
theorem ok_askedL {f fR fN fU fB fL fS C : Addr} {fd fdR fdN fdU fdB fdL fdS : FuncData} (F : Fun K "_law_asked_right" "_law_asked_right" s_law_asked_right f fd) (T : Txt mg) (TC : ClsT K C)
    (Mroads : Mt K C "roads" "Line.roads" s_roads ["self", "name"] fR fdR) (Groads : FnOk P w K mg base CX0 2 fR fdR ["self", "name"] (spRoads K C))
    (Mnames : Mt K C "names" "Line.names" s_names ["self"] fN fdN) (Gnames : FnOk P w K mg base CX0 1 fN fdN ["self"] (spNamesOf K C))
    (Mnumber_of : Mt K C "number_of" "Line.number_of" s_number_of ["self", "name"] fU fdU) (Gnumber_of : FnOk P w K mg base CX0 1 fU fdU ["self", "name"] (spNum K C))
    (Mbetween : Mt K C "between" "Line.between" s_between ["self", "one", "other"] fB fdB) (Gbetween : FnOk P w K mg base CX0 2 fB fdB ["self", "one", "other"] (spBetween K C))
    (Mlong_between : Mt K C "long_between" "Line.long_between" s_long_between ["self", "one", "other"] fL fdL) (Glong_between : FnOk P w K mg base CX0 2 fL fdL ["self", "one", "other"] (spLongBetween K C))
    (Nlaw_stretches_asked_right : Fn K mg "_law_stretches_asked_right" s_law_stretches_asked_right ["_law_line", "_law_world_here"] fS fdS) (Glaw_stretches_askedL : GOk P w K mg base CX0 5 fS fdS ["_law_line", "_law_world_here"] (spAsk K C Wd.data)) :
    GOk P w K mg base CX0 6 f fd ["_law_line", "_law_world_here"] (spAsk K C Wd.data) := by
  refine gok F sc_law_asked_right (fun vs H Q E h => ?_) (fun cdv A outer s H vs Q E gd hr h => ?_)
  · obtain ⟨x, v, wd, rfl, _⟩ := h
    rfl
  · obtain ⟨x, v, wd, rfl, hL, hD, ok, k⟩ := h
    have hD0 := hD
    obtain ⟨wa, vp, vs_, vl, vu, rfl, hw, hp, hs, hl, _⟩ := dp_four hD
    obtain ⟨ap, xp, rfl, hap, dap⟩ := dp_list hp
    obtain ⟨as_, xs, rfl, has, das⟩ := dp_list hs
    obtain ⟨al, xl, rfl, hal, dal⟩ := dp_list hl
    obtain ⟨dx, p1, p2, p3, d, xs1, xs2, xs3, hx, _⟩ := id hL
    have lp : xp.length = wd.ps.length := by rw [dpAll_len dap, List.length_map]
    have ll : xl.length = wd.lo.length := by rw [dpAll_len dal, List.length_map]
    have p6 := ok.p6
    have ll2 := ok.ll
    have hu : A.units + 3 + 65 < cLine := by have := hr.un; have e : (A.deeper (envOfC (Str.ofString "_law_asked_right") (defScope s_law_asked_right) s.heap.objs.size f cdv)).units = A.units + 3 := rfl; omega
    refine ⟨_, pss_cons (ps_setLc (i := 2) (own := [("_law_name", 10), ("_law_roads", 11)]) (g := gTup K 2 (gCons (gName 10) (gCons (gName 11) gNil))) (tt := tYes) rfl sc_law_asked_right.nd rfl rfl (sw_true rfl rfl rfl (by decide +kernel)) (pi_list (pe_ix (ixL (K := K) rfl) (pv 1) pe_int (fun _ _ => rfl))) (blkOk_by (own := [("_law_name", 10), ("_law_roads", 11)]) (N := ["_law_line", "_law_world_here", "_law_names_here", "_law_ends", "_law_at", "_law_one", "_law_to", "_law_other", "_law_pair", "_law_due", "_law_name", "_law_roads", "_law_low", "_law_high", "_law_home"]) (sc := defScope s_law_asked_right) (by decide +kernel)) (fun _ _ _ _ _ => (pg_tup (by rfl) (pgs_cons (pg_name (i := 10) sc_law_asked_right.nd rfl (Or.inl rfl)) (pgs_cons (pg_name (i := 11) sc_law_asked_right.nd rfl (Or.inl rfl)) pgs_nil)))) (fun _ _ _ _ _ => pts_nil) (fun _ _ _ _ _ => (pv 10)))
      (pss_cons (ps_if (pt_cmpR op_ne (pe_callB (call_repr gd hr) (by rfl) T.repr_ (by decide +kernel) (pa_cons (pe_lc (own := [("_law_name", 10)]) (g := gName 10) (tt := tYes) rfl sc_law_asked_right.nd (pi_list (pv 2)) (blkOk_by (own := [("_law_name", 10)]) (N := ["_law_line", "_law_world_here", "_law_names_here", "_law_ends", "_law_at", "_law_one", "_law_to", "_law_other", "_law_pair", "_law_due", "_law_name", "_law_roads", "_law_low", "_law_high", "_law_home"]) (sc := defScope s_law_asked_right) (by decide +kernel)) (fun _ _ _ _ _ => (pg_name (i := 10) sc_law_asked_right.nd rfl (Or.inl rfl))) (fun _ _ _ _ _ => pts_nil) (fun _ _ _ _ _ => (pe_meth (pv 0) TC.cl Mroads.m Groads (hr.mono (by decide)) Mroads.b .nil pass0 (pa_cons (pv 10) pa_nil)))) pa_nil)) (pe_callB (call_repr gd hr) (by rfl) T.repr_ (by decide +kernel) (pa_cons (pe_lc (own := [("_law_name", 10), ("_law_roads", 11)]) (g := gTup K 2 (gCons (gName 10) (gCons (gName 11) gNil))) (tt := tYes) rfl sc_law_asked_right.nd (pi_list (pe_ix (ixL (K := K) rfl) (pv 1) pe_int (fun _ _ => rfl))) (blkOk_by (own := [("_law_name", 10), ("_law_roads", 11)]) (N := ["_law_line", "_law_world_here", "_law_names_here", "_law_ends", "_law_at", "_law_one", "_law_to", "_law_other", "_law_pair", "_law_due", "_law_name", "_law_roads", "_law_low", "_law_high", "_law_home"]) (sc := defScope s_law_asked_right) (by decide +kernel)) (fun _ _ _ _ _ => (pg_tup (by rfl) (pgs_cons (pg_name (i := 10) sc_law_asked_right.nd rfl (Or.inl rfl)) (pgs_cons (pg_name (i := 11) sc_law_asked_right.nd rfl (Or.inl rfl)) pgs_nil)))) (fun _ _ _ _ _ => pts_nil) (fun _ _ _ _ _ => (pv 11))) pa_nil)) (nomark _)) (pss_one (ps_ret pe_bl)) pss_nil)
      (pss_cons (ps_if (pt_cmpR op_ne (pe_callB (call_repr gd hr) (by rfl) T.repr_ (by decide +kernel) (pa_cons (pe_lst (pa_cons (pe_meth0 (pv 0) TC.cl Mnames.m Gnames (hr.mono (by decide)) Mnames.b .nil pass0) (pa_cons (pe_lc (own := [("_law_name", 10)]) (g := gName 10) (tt := tYes) rfl sc_law_asked_right.nd (pi_list (pv 2)) (blkOk_by (own := [("_law_name", 10)]) (N := ["_law_line", "_law_world_here", "_law_names_here", "_law_ends", "_law_at", "_law_one", "_law_to", "_law_other", "_law_pair", "_law_due", "_law_name", "_law_roads", "_law_low", "_law_high", "_law_home"]) (sc := defScope s_law_asked_right) (by decide +kernel)) (fun _ _ _ _ _ => (pg_name (i := 10) sc_law_asked_right.nd rfl (Or.inl rfl))) (fun _ _ _ _ _ => pts_nil) (fun _ _ _ _ _ => (pe_meth (pv 0) TC.cl Mnumber_of.m Gnumber_of (hr.mono (by decide)) Mnumber_of.b .nil pass0 (pa_cons (pv 10) pa_nil)))) pa_nil))) pa_nil)) (pe_callB (call_repr gd hr) (by rfl) T.repr_ (by decide +kernel) (pa_cons (pe_lst (pa_cons (pv 2) (pa_cons (pe_listRg rfl (by rfl) T.list_ (prg_1 (by rfl) T.range_ (pe_callB call_len_seq (by rfl) T.len_ PySem.boot_len (pa_cons (pv 2) pa_nil)))) pa_nil))) pa_nil)) (nomark _)) (pss_one (ps_ret pe_bl)) pss_nil)
      (pss_cons (ps_setLc (i := 3) (own := [("_law_low", 12), ("_law_high", 13), ("_law_home", 14)]) (g := gTup K 3 (gCons (gName 12) (gCons (gName 13) (gCons (gName 14) gNil)))) (tt := tYes) rfl sc_law_asked_right.nd rfl rfl (sw_true rfl rfl rfl (by decide +kernel)) (pi_list (pe_ix (ixL (K := K) rfl) (pv 1) pe_int (fun _ _ => rfl))) (blkOk_by (own := [("_law_low", 12), ("_law_high", 13), ("_law_home", 14)]) (N := ["_law_line", "_law_world_here", "_law_names_here", "_law_ends", "_law_at", "_law_one", "_law_to", "_law_other", "_law_pair", "_law_due", "_law_name", "_law_roads", "_law_low", "_law_high", "_law_home"]) (sc := defScope s_law_asked_right) (by decide +kernel)) (fun _ _ _ _ _ => (pg_tup (by rfl) (pgs_cons (pg_name (i := 12) sc_law_asked_right.nd rfl (Or.inl rfl)) (pgs_cons (pg_name (i := 13) sc_law_asked_right.nd rfl (Or.inl rfl)) (pgs_cons (pg_name (i := 14) sc_law_asked_right.nd rfl (Or.inl rfl)) pgs_nil))))) (fun _ _ _ _ _ => pts_nil) (fun _ _ _ _ _ => (pe_tup (pa_cons (pv 12) (pa_cons (pv 13) pa_nil)))))
      (pss_cons (ps_for PassesOwn.never rfl (pi_enum (by rfl) T.enumerate_ (pa_cons (pv 2) pa_nil)) (pg_tup (by rfl) (pgs_cons (pg_name (i := 4) sc_law_asked_right.nd rfl (Or.inl rfl)) (pgs_cons (pg_name (i := 5) sc_law_asked_right.nd rfl (Or.inl rfl)) pgs_nil))) (pss_one (ps_for PassesOwn.never rfl (pi_enum (by rfl) T.enumerate_ (pa_cons (pv 2) pa_nil)) (pg_tup (by rfl) (pgs_cons (pg_name (i := 6) sc_law_asked_right.nd rfl (Or.inl rfl)) (pgs_cons (pg_name (i := 7) sc_law_asked_right.nd rfl (Or.inl rfl)) pgs_nil))) (pss_cons (ps_set (i := 8) sc_law_asked_right.nd rfl (Or.inl rfl) (pe_tup (pa_cons (pe_callB (call_min2 rfl) (by rfl) T.min_ (by decide +kernel) (pa_cons (pv 4) (pa_cons (pv 6) pa_nil))) (pa_cons (pe_callB (call_max2 rfl) (by rfl) T.max_ (by decide +kernel) (pa_cons (pv 4) (pa_cons (pv 6) pa_nil))) pa_nil))))
              (pss_cons (ps_set (i := 9) sc_law_asked_right.nd rfl (Or.inl rfl) (pe_lst (pa_cons (pe_ifExp (pt_cmpR op_eq (pe_op op_add (pe_ix (ixT (K := K) rfl) (pv 8) pe_int (fun _ _ => rfl)) pe_int) (pe_ix (ixT (K := K) rfl) (pv 8) pe_int (fun _ _ => rfl)) (nomark _)) (pe_ix (ixT (K := K) rfl) (pv 8) pe_int (fun _ _ => rfl)) pe_non) (pa_cons (pe_ifExp (pt_cmpR (inDK (K := K) rfl hu) (pv 8) (pv 3) rfl) (pe_bm PySem.F.plainAttrs_list PySem.F.slot_list_index PySem.F.type_list_index (indexDK (K := K) rfl hu) (pv 3) (pa_cons (pv 8) pa_nil)) pe_non) pa_nil))))
              (pss_one (ps_if (pt_cmpR op_ne (pe_callB (call_repr gd hr) (by rfl) T.repr_ (by decide +kernel) (pa_cons (pe_lst (pa_cons (pe_meth (pv 0) TC.cl Mbetween.m Gbetween (hr.mono (by decide)) Mbetween.b .nil pass0 (pa_cons (pv 5) (pa_cons (pv 7) pa_nil))) (pa_cons (pe_meth (pv 0) TC.cl Mlong_between.m Glong_between (hr.mono (by decide)) Mlong_between.b .nil pass0 (pa_cons (pv 5) (pa_cons (pv 7) pa_nil))) pa_nil))) pa_nil)) (pe_callB (call_repr gd hr) (by rfl) T.repr_ (by decide +kernel) (pa_cons (pv 9) pa_nil)) (nomark _)) (pss_one (ps_ret pe_bl)) pss_nil)))))))
      (pss_one (ps_ret (pe_gcall gd Glaw_stretches_askedL (hr.mono (by decide)) (by rfl) Nlaw_stretches_asked_right.g Nlaw_stretches_asked_right.kp Nlaw_stretches_asked_right.b .nil pass0 (pa_cons (pv 0) (pa_cons (pv 1) pa_nil))))))))), ?_⟩
    generalize hσ : L2.start _ _ = σ0
    obtain rfl : σ0 = [some (.ref x), some (.ref wa), none, none, none, none, none, none, none, none, none, none, none, none, none] := hσ.symm.trans rfl
    rw [tSeq, tAsg]
    refine names_compL (σ := [some (.ref x), some (.ref wa), none, none, none, none, none, none, none, none, none, none, none, none, none]) (i := 1) (a := 10) (b := 11) rfl hw hap dap p6 (Nat.le_of_ble_eq_true rfl) (by decide) fun N H1 hN0 s1 eN => ?_
    have no1 : (lf p1 p2 p3 d).lookup (Str.ofString "roads") = none := lf_no _ _ _ _ (by decide +kernel)
    have no2 : (lf p1 p2 p3 d).lookup (Str.ofString "names") = none := lf_no _ _ _ _ (by decide +kernel)
    have no3 : (lf p1 p2 p3 d).lookup (Str.ofString "number_of") = none := lf_no _ _ _ _ (by decide +kernel)
    have no4 : (lf p1 p2 p3 d).lookup (Str.ofString "between") = none := lf_no _ _ _ _ (by decide +kernel)
    have no5 : (lf p1 p2 p3 d).lookup (Str.ofString "long_between") = none := lf_no _ _ _ _ (by decide +kernel)
    have hP : ∀ {i : Nat} {v : V}, ((wd.ps.map (·.1)).map V.str)[i]? = some v → ∃ p, wd.ps[i]? = some p ∧ v = .str p.1 := fun {i v} e => by
      obtain ⟨z, hz, rfl⟩ := get_map e
      obtain ⟨p, hp, rfl⟩ := get_map hz
      exact ⟨p, hp, rfl⟩
    have lN : ((wd.ps.map (·.1)).map V.str).length = wd.ps.length := by rw [List.length_map, List.length_map]
    obtain ⟨m1, m2, m3⟩ := (sm_roads ok).rep (by decide) (by decide)
    have mD : ∀ {H' : Hp} {a : Addr}, H' a = some (.lst ((wd.ps.map (·.2)).map V.int)) → Dp K H' (.ref a) (.list ((wd.ps.map (·.2)).map PyData.int)) := fun e => .lst (SqL.of e) (ints_dp _)
    generalize PyData.list ((wd.ps.map (·.2)).map PyData.int) = dr at m1 m2 m3 mD
    simp only [List.set_cons_succ, List.set_cons_zero]
    refine ⟨_, rfl, N, rfl, ⟨_, SqL.of eN⟩, fun D hD => lc_it (walk_list (K := K) (xs := (wd.ps.map (·.1)).map V.str)) (fun i H' => H' = upd H1 D (.lst (((wd.ps.take i).map (·.2)).map V.int))) rfl ?_ ?_ ?_⟩
    · rintro i H' _ rfl
      exact SqL.of ((same_alloc hD) _ _ eN)
    · rintro i v H' H'' hi rfl ⟨rfl, hv⟩
      obtain ⟨p, hp, rfl⟩ := hP hv
      have sD := s1.trans (same_alloc (o := .lst (((wd.ps.take i).map (·.2)).map V.int)) hD)
      refine ⟨wipe1 (by simp), ?_⟩
      simp only [wipe, List.map_cons, List.map_nil, List.set_cons_succ, List.set_cons_zero]
      refine lcY ⟨_, rfl, x, dx, _, rfl, sD _ _ hx, no1, _, rfl, x, wd, p.1, i, p, rfl, hL.nt (same_nt sD), posOf_at ok.nd hp, hp, _, upd_same, ?_, ?_⟩
      · rw [List.length_map, List.length_map, List.length_take]
        exact lt_line _ (by omega)
      · rw [upd_upd, take_at hp, List.map_append, List.map_append]
        rfl
    rintro H2 rfl
    rw [lN, List.take_of_length_le (Nat.le_refl _)]
    have w1 := same_alloc (o := .lst ((wd.ps.map (·.2)).map V.int)) hD
    have eD : upd H1 D (.lst ((wd.ps.map (·.2)).map V.int)) D = some (.lst ((wd.ps.map (·.2)).map V.int)) := upd_same
    generalize upd H1 D (.lst ((wd.ps.map (·.2)).map V.int)) = H2 at w1 eD ⊢
    refine ⟨_, dr, rfl, mD eD, m1, m2, m3, ?_⟩
    have s2 := s1.trans w1
    have n2 := same_nt s2
    refine ⟨_, rfl, wa, _, 0, _, rfl, rfl, n2.seq hw, rfl, ap, rfl, ⟨_, n2.seq hap⟩, fun D2 hD2 => lc_it (walk_list (K := K) (xs := xp)) (fun i H' => H' = upd H2 D2 (.lst (((wd.ps.take i).map (·.2)).map V.int))) rfl ?_ ?_ ?_⟩
    · rintro i H' _ rfl
      exact (same_nt (same_alloc hD2)).seq (n2.seq hap)
    · rintro i v H' H'' hi rfl ⟨rfl, hv⟩
      obtain ⟨d', hg1, hg2⟩ := dpAll_get dap hv
      obtain ⟨p, hp, rfl⟩ := get_map hg1
      obtain ⟨t, y1, y2, rfl, ht, r1, r2⟩ := dp_two hg2
      obtain rfl := dp_str r1
      obtain rfl := dp_int r2
      refine ⟨t, _, rfl, (same_nt (s2.trans (same_alloc hD2))).seqT ht, rfl, _, _, rfl, _, _, rfl, rfl, wipe2 (by simp) (by simp), ?_⟩
      simp only [wipe, List.map_cons, List.map_nil, List.set_cons_succ, List.set_cons_zero]
      refine lcY ⟨_, rfl, _, upd_same, ?_, ?_⟩
      · rw [List.length_map, List.length_map, List.length_take]
        exact lt_line _ (by omega)
      · rw [upd_upd, take_at hp, List.map_append, List.map_append]
        rfl
    rintro H3 rfl
    rw [lp, List.take_of_length_le (Nat.le_refl _)]
    refine ⟨_, dr, rfl, mD upd_same, m1, m2, m3, rfl, _, rfl, iteNS rfl ?_⟩
    have w2 := w1.trans (same_alloc (o := .lst ((wd.ps.map (·.2)).map V.int)) hD2)
    have eN3 := w2 _ _ eN
    have s3 := s1.trans w2
    generalize upd H2 D2 (.lst ((wd.ps.map (·.2)).map V.int)) = H3 at s3 eN3 ⊢
    clear m1 m2 m3 mD w1 w2 s2 n2 eD hD hD2 eN
    -- the names and their numbers
    have r6 : RgOk (0 : Int) (wd.ps.length : Int) := RgOk.of_le (by omega) (by omega) (by omega) (by omega)
    obtain ⟨m1, m2, m3⟩ := (sm_list (k := 1) (m := 200) (ds := [.list ((wd.ps.map (·.1)).map PyData.str), .list (rgD 0 (wd.ps.length : Int))]) (fun d hd => by
      simp only [List.mem_cons, List.not_mem_nil, or_false] at hd
      rcases hd with rfl | rfl
      · exact (sm_nms ok).mono (Nat.le_refl _) (by decide)
      · exact (rg_sm (a := 0) (b := (wd.ps.length : Int)) (by omega) (by omega)).mono (Nat.le_refl _) (by rw [rgD_len]; omega))).rep (by decide) (by show 2 * 201 ≤ 2 ^ 20; decide)
    have mD : ∀ {H' : Hp} {a b c : Addr}, H' a = some (.lst [.ref b, .ref c]) → H' b = some (.lst ((wd.ps.map (·.1)).map V.str)) → H' c = some (.lst (rgV 0 (wd.ps.length : Nat))) → Dp K H' (.ref a) (.list [.list ((wd.ps.map (·.1)).map PyData.str), .list (rgD 0 (wd.ps.length : Int))]) := fun e1 e2 e3 => .lst (SqL.of e1) (.cons (.lst (SqL.of e2) (strs_dp _)) (.cons (.lst (SqL.of e3) (rg_dp _ _)) .nil))
    generalize PyData.list [.list ((wd.ps.map (·.1)).map PyData.str), .list (rgD 0 (wd.ps.length : Int))] = dr2 at m1 m2 m3 mD
    simp only [List.set_cons_succ, List.set_cons_zero]
    refine ⟨_, rfl, x, dx, _, rfl, s3 _ _ hx, no2, x, wd, rfl, hL.nt (same_nt s3), p6, fun A1 H4 hA1 s4 eA1 => ?_⟩
    have s04 := s3.trans s4
    have eN4 := s4 _ _ eN3
    refine ⟨_, rfl, N, rfl, ⟨_, SqL.of eN4⟩, fun D hD => lc_it (walk_list (K := K) (xs := (wd.ps.map (·.1)).map V.str)) (fun i H' => H' = upd H4 D (.lst (rgV 0 (i : Nat)))) rfl ?_ ?_ ?_⟩
    · rintro i H' _ rfl
      exact SqL.of ((same_alloc hD) _ _ eN4)
    · rintro i v H' H'' hi rfl ⟨rfl, hv⟩
      obtain ⟨p, hp, rfl⟩ := hP hv
      have sD := s04.trans (same_alloc (o := .lst (rgV 0 (i : Nat))) hD)
      refine ⟨wipe1 (by simp), ?_⟩
      simp only [wipe, List.map_cons, List.map_nil, List.set_cons_succ, List.set_cons_zero]
      refine lcY ⟨_, rfl, x, dx, _, rfl, sD _ _ hx, no3, _, rfl, x, p.1, wd, i, rfl, hL.nt (same_nt sD), posOf_at ok.nd hp, _, upd_same, ?_, ?_⟩
      · rw [rgV_len]
        exact lt_line _ (by omega)
      · rw [upd_upd]
        have e := rgV_snoc (f := 0) (i := (i : Int)) (by omega)
        rw [show (((i + 1 : Nat) : Int)) = (i : Int) + 1 by omega, e]
    rintro H5 rfl
    rw [lN]
    have w5 := same_alloc (o := .lst (rgV 0 (wd.ps.length : Nat))) hD
    have eD : upd H4 D (.lst (rgV 0 (wd.ps.length : Nat))) D = some (.lst (rgV 0 (wd.ps.length : Nat))) := upd_same
    generalize upd H4 D (.lst (rgV 0 (wd.ps.length : Nat))) = H5 at w5 eD ⊢
    refine ⟨two_line, fun c1 hc1 => ?_⟩
    have w6 := same_alloc (o := .lst [V.ref A1, .ref D]) hc1
    refine ⟨_, dr2, rfl, mD upd_same (w6 _ _ (w5 _ _ eA1)) (w6 _ _ eD), m1, m2, m3, ?_⟩
    have w56 := w5.trans w6
    have eN6 := w56 _ _ eN4
    generalize upd H5 c1 (.lst [V.ref A1, .ref D]) = H6 at w56 eN6 ⊢
    refine ⟨_, rfl, _, rfl, N, _, rfl, .inl (SqL.of eN6), _, rfl, by rw [lN]; exact r6, fun A2 hA2 => ?_⟩
    rw [lN]
    have w7 := same_alloc (o := .lst (rgV 0 (wd.ps.length : Nat))) hA2
    have eA2 : upd H6 A2 (.lst (rgV 0 (wd.ps.length : Nat))) A2 = some (.lst (rgV 0 (wd.ps.length : Nat))) := upd_same
    generalize upd H6 A2 (.lst (rgV 0 (wd.ps.length : Nat))) = H7 at w7 eA2 ⊢
    refine ⟨two_line, fun c2 hc2 => ?_⟩
    have w8 := same_alloc (o := .lst [V.ref N, .ref A2]) hc2
    refine ⟨_, dr2, rfl, mD upd_same (w8 _ _ (w7 _ _ eN6)) (w8 _ _ eA2), m1, m2, m3, rfl, _, rfl, iteNS rfl ?_⟩
    have eN8 := w8 _ _ (w7 _ _ eN6)
    have s8 := s04.trans ((w56.trans w7).trans w8)
    generalize upd H7 c2 (.lst [V.ref N, .ref A2]) = H8 at eN8 s8 ⊢
    clear m1 m2 m3 mD w5 w6 w56 w7 w8 eA1 eA2 eD hD hc1 hc2 hA2 eN4 eN6 s04 s4 hA1 eN3 s3
    have n8 := same_nt s8
    refine ⟨_, rfl, wa, _, 2, _, rfl, rfl, n8.seq hw, rfl, al, rfl, ⟨_, n8.seq hal⟩, fun E1 hE => lc_it (walk_list (K := K) (xs := xl)) (fun i H' => ∃ ys, H' E1 = some (.lst ys) ∧ DpAll K (hide E1 H') ys ((wd.lo.take i).map dE) ∧ KB E1 H8 H') ?_ ?_ ?_ ?_⟩
    · exact ⟨[], upd_same, .nil, KB.alloc hE⟩
    · rintro i H' hi ⟨ys, _, _, kb⟩
      exact (KB.seq' hE kb).seq (n8.seq hal)
    · rintro i v H' H'' hi ⟨ys, e, dy, kb⟩ ⟨rfl, hv⟩
      obtain ⟨q, hq1, hq2⟩ := dpAll_get dal hv
      obtain ⟨p, hp, rfl⟩ := get_map hq1
      obtain ⟨t, y1, y2, y3, rfl, ht, r1, r2, r3⟩ := dp_three hq2
      obtain rfl := dp_int r1
      obtain rfl := dp_int r2
      obtain rfl := dp_int r3
      have ht2 := (KB.seq' hE kb).seqT (n8.seqT ht)
      have li : ys.length ≤ 6 := by
        rw [dpAll_len dy, List.length_map, List.length_take]
        omega
      refine ⟨t, _, rfl, ht2, rfl, _, _, rfl, _, _, rfl, _, _, rfl, rfl, wipe3 (by simp) (by simp) (by simp), ?_⟩
      simp only [wipe, List.map_cons, List.map_nil, List.set_cons_succ, List.set_cons_zero]
      refine lcY ⟨_, rfl, _, rfl, two_line, fun z hz => ?_⟩
      have nz : z ≠ E1 := (ne_of_none e hz).symm
      refine ⟨ys, same_alloc hz _ _ e, lt_line _ (by omega), ys ++ [.ref z], upd_same, ?_, fun c o n h => by rw [upd_ne n]; exact same_alloc hz _ _ (kb c o n h)⟩
      rw [take_at hp, List.map_append]
      exact dpAll_app (dpAll_nt ((hide_mono (same_nt (same_alloc hz))).trans hide_put1) dy) (.cons (.tup (hide_put1.seqT (SqT.of (by rw [hide_ne nz]; exact upd_same))) (.cons (.int _) (.cons (.int _) .nil))) .nil)
    rintro H9 ⟨ys, eE, dy, kb⟩
    have w9 : Same H8 H9 := fun c o h => kb c o (ne_of_none h hE) h
    have s9 := s8.trans w9
    rw [ll, List.take_of_length_le (Nat.le_refl _)] at dy
    have dE9 : Dp K H9 (.ref E1) (.list (wd.lo.map dE)) := .lst (SqL.of eE) (dpAll_nt (hide_nt E1 H9) dy)
    have eN9 := w9 _ _ eN8
    clear dy kb eE n8 s8 eN8 w9 hE
    simp only [List.set_cons_succ, List.set_cons_zero]
    refine ⟨_, rfl, N, _, rfl, SqL.of eN9, for_it (walk_enum (K := K) (xs := (wd.ps.map (·.1)).map V.str)) (fun i σ H' => ∃ v4 v5 v6 v7 v8 v9 v10 v11 v12 v13 v14 : Option V, σ = [some (.ref x), some (.ref wa), some (.ref N), some (.ref E1), v4, v5, v6, v7, v8, v9, v10, v11, v12, v13, v14] ∧ Same H9 H') ?_ ?_ ?_ ?_⟩
    · exact ⟨_, _, _, _, _, _, _, _, _, _, _, rfl, Same.refl H9⟩
    · rintro i σ H' _ ⟨_, _, _, _, _, _, _, _, _, _, _, _, s2⟩
      exact SqL.of (s2 _ _ eN9)
    · rintro i v σ X1 X2 hi ⟨v4, v5, v6, v7, v8, v9, v10, v11, v12, v13, v14, rfl, s2⟩ ⟨T1, X, Y, rfl, hT1, rfl, z1, z2⟩
      obtain rfl := Option.some.inj z1
      obtain ⟨pi, hpi, rfl⟩ := hP z2
      have s3 := s2.trans (same_alloc (o := .tup [.int (i : Nat), .str pi.1]) hT1)
      refine ⟨T1, _, rfl, SqT.of upd_same, rfl, _, _, rfl, _, _, rfl, rfl, ?_⟩
      generalize upd X1 T1 (.tup [.int (i : Nat), .str pi.1]) = X3 at s3 ⊢
      simp only [List.set_cons_succ, List.set_cons_zero]
      refine ⟨_, rfl, N, _, rfl, SqL.of (s3 _ _ eN9), for_it (walk_enum (K := K) (xs := (wd.ps.map (·.1)).map V.str)) (fun j σ H' => ∃ v6 v7 v8 v9 v10 v11 v12 v13 v14 : Option V, σ = [some (.ref x), some (.ref wa), some (.ref N), some (.ref E1), some (.int (i : Nat)), some (.str pi.1), v6, v7, v8, v9, v10, v11, v12, v13, v14] ∧ Same H9 H') ?_ ?_ ?_ ?_⟩
      · exact ⟨_, _, _, _, _, _, _, _, _, rfl, s3⟩
      · rintro j σ H' _ ⟨_, _, _, _, _, _, _, _, _, _, s2⟩
        exact SqL.of (s2 _ _ eN9)
      · clear s3 hT1 s2 z1 z2
        rintro j v σ X1 X2 hj ⟨v6, v7, v8, v9, v10, v11, v12, v13, v14, rfl, s2⟩ ⟨T2, X, Y, rfl, hT2, rfl, z1, z2⟩
        obtain rfl := Option.some.inj z1
        obtain ⟨pj, hpj, rfl⟩ := hP z2
        have s3 := s2.trans (same_alloc (o := .tup [.int (j : Nat), .str pj.1]) hT2)
        refine ⟨T2, _, rfl, SqT.of upd_same, rfl, _, _, rfl, _, _, rfl, rfl, ?_⟩
        generalize upd X1 T2 (.tup [.int (j : Nat), .str pj.1]) = X3 at s3 ⊢
        simp only [List.set_cons_succ, List.set_cons_zero]
        refine ⟨_, rfl, _, rfl, _, _, rfl, _, rfl, _, rfl, _, _, rfl, two_line, fun u hu0 => ?_⟩
        have s4 := s3.trans (same_alloc (o := .tup [.int (mnI i j), .int (mxI i j)]) hu0)
        have eu : upd X3 u (.tup [.int (mnI i j), .int (mxI i j)]) u = some (.tup [.int (mnI i j), .int (mxI i j)]) := upd_same
        show gName 8 _ _ (upd X3 u (.tup [.int (mnI i j), .int (mxI i j)])) _
        generalize upd X3 u (.tup [.int (mnI i j), .int (mxI i j)]) = X4 at s4 eu ⊢
        simp only [List.set_cons_succ, List.set_cons_zero]
        have dE4 := dp_nt (same_nt s4) dE9
        have b1 : (mnI i j).natAbs ≤ 1000 := by
          have e := mnI_eq i j
          omega
        have b2 : (mxI i j).natAbs ≤ 1000 := by
          have e := mxI_eq i j
          omega
        have e1 := posOf_at ok.nd hpi
        have e2 := posOf_at ok.nd hpj
        obtain ⟨da, han⟩ := ans_betw (i := i) (j := j) (by omega) (by omega)
        obtain ⟨db, hbn⟩ := ans_lbt ok.ll (mnI i j) (mxI i j)
        have hv : lbt wd.lo ((min i j : Nat) : Int) ((max i j : Nat) : Int) = lbt wd.lo (mnI i j) (mxI i j) := by rw [mnI_eq, mxI_eq]
        obtain ⟨m1, m2, m3⟩ := (sm_list (k := 0) (m := 20) (ds := [da, db]) (fun d hd => by
          simp only [List.mem_cons, List.not_mem_nil, or_false] at hd
          rcases hd with rfl | rfl
          · exact han.sm
          · exact hbn.sm)).rep (by decide) (by show 2 * 21 ≤ 2 ^ 20; decide)
        refine due1 (i := i) (j := j) rfl (SqT.of eu) ?_
        refine due2 rfl rfl (SqT.of eu) dE4 (sm_shaped (sm_pair b1 b2) (by decide)) (sm_shaped (sm_ends ok) (by decide)) ?_
        refine ⟨two_line, fun c1 hc1 => ?_⟩
        have w1 := same_alloc (o := .lst [betw i j, lbt wd.lo (mnI i j) (mxI i j)]) hc1
        have ec1 : upd X4 c1 (.lst [betw i j, lbt wd.lo (mnI i j) (mxI i j)]) c1 = some (.lst [betw i j, lbt wd.lo (mnI i j) (mxI i j)]) := upd_same
        generalize upd X4 c1 (.lst [betw i j, lbt wd.lo (mnI i j) (mxI i j)]) = X5 at w1 ec1 ⊢
        have sA := s9.trans (s4.trans w1)
        simp only [List.set_cons_succ, List.set_cons_zero]
        refine ⟨_, rfl, x, dx, _, rfl, sA _ _ hx, no4, _, rfl, _, rfl, x, pi.1, pj.1, wd, i, j, rfl, hL.nt (same_nt sA), e1, e2, ?_⟩
        refine ⟨_, rfl, x, dx, _, rfl, sA _ _ hx, no5, _, rfl, _, rfl, x, pi.1, pj.1, wd, i, j, rfl, hL.nt (same_nt sA), e1, e2, fun X6 w2 => ?_⟩
        rw [hv]
        refine ⟨two_line, fun c2 hc2 => ?_⟩
        have w3 := same_alloc (o := .lst [betw i j, lbt wd.lo (mnI i j) (mxI i j)]) hc2
        refine ⟨_, .list [da, db], rfl, .lst (SqL.of upd_same) (.cons han.dp (.cons hbn.dp .nil)), m1, m2, m3, ?_⟩
        refine ⟨_, rfl, _, .list [da, db], rfl, .lst (SqL.of (w3 _ _ (w2 _ _ ec1))) (.cons han.dp (.cons hbn.dp .nil)), m1, m2, m3, rfl, _, rfl, iteNS rfl ?_⟩
        exact ⟨_, _, _, _, _, _, _, _, _, rfl, (s4.trans w1).trans (w2.trans w3)⟩
      · rintro σ H' ⟨_, _, _, _, _, _, _, _, _, rfl, s1⟩
        exact ⟨_, _, _, _, _, _, _, _, _, _, _, rfl, s1⟩
    · rintro σ X9 ⟨v4, v5, v6, v7, v8, v9, v10, v11, v12, v13, v14, rfl, s2⟩
      have sX := s9.trans s2
      exact ⟨_, rfl, _, rfl, x, _, wd, rfl, hL.nt (same_nt sX), dp_nt (same_nt sX) hD0, ok, fun H' s' => k H' (sX.trans s')⟩
end
end K7

set_option maxRecDepth 100000
set_option maxHeartbeats 4000000
/-! enumerate(a list, start=k) -/
namespace My
open PySem PySem.Spec PyProof.Rows L2
theorem callWith_typeK {M : Model} {A : Around} {E : Value → Shared → Prop} {s : Shared} {pos : Pos} {T : String} {first : List Value} {args : List (Bool × Sem Value)} {keywords : List (Option Str × Sem Value)} {Q : Value → Shared → Prop}
    (hplain : args.any (·.1) = false) (hkw : keywords.any (·.1.isNone) = false)
    (h : wpAny M A (evalArgs (.type T) true args keywords) (fun a s₁ => wpAny M A (call (.type T) (first ++ a.pos) a.kw) Q E s₁) E s) :
    wpAny M A (callWith pos (.type T) first args keywords) Q E s := by
  unfold callWith
  refine wpAny_bind (wpAny_holding (wpAny_mono h (fun a s₁ h₁ => wpAny_bind (wpAny_standAt ?_)) fun _ _ x => x))
  simp only [hplain, hkw, Bool.or_false]
  refine wpAny_bind (wpAny_pure ?_)
  exact wpAny_bind (wpAny_mono h₁ (fun r s₂ hr => wpAny_bind (wpAny_holding (wpAny_point (wpAny_pure hr)))) fun _ _ x => x)
theorem callWith_typeKw {M : Model} {A : Around} {E : Value → Shared → Prop} {s : Shared} {env : Env} {pos : Pos} {T : String} {e : Expr} {rest : List Expr} {kws : List Keyword} {Q : Value → Shared → Prop}
    (h : wpAny M A (spliced (backTo pos (starEach (e :: rest) env))) (fun vs s₁ => wpAny M A (evalAll ((backToKw pos (keywordEach kws env)).map (·.2)))
      (fun kvs s₂ => wpAny M A (call (.type T) vs (((backToKw pos (keywordEach kws env)).filterMap (·.1)).zip kvs)) Q E s₂) E s₁) E s)
    (he : backTo pos (starEach (e :: rest) env) = (false, eval e env) :: backTo pos (starEach rest env) := by rfl)
    (hplain : (backTo pos (starEach (e :: rest) env)).any (·.1) = false := by rfl)
    (hall : (backToKw pos (keywordEach kws env)).all (·.1.isSome) = true := by rfl)
    (hkw : (backToKw pos (keywordEach kws env)).any (·.1.isNone) = false := by rfl) :
    wpAny M A (callWith pos (.type T) [] (backTo pos (starEach (e :: rest) env)) (backToKw pos (keywordEach kws env))) Q E s := by
  refine callWith_typeK hplain hkw ?_
  rw [he] at h ⊢
  exact evalArgs_kwB hall h
/-- the list at a, each item in a new pair with its number, counted from k0 -/
def IteS (K : PySem.W.Frag) (k0 : Int) (a : Addr) : It :=
  ⟨fun i H => ∃ (xs : List V) (x : V), SqL K H a xs ∧ xs[i]? = some x,
   fun i H v H' => ∃ T x, v = .ref T ∧ H T = none ∧ H' = upd H T (.tup [.int (k0 + (i : Nat)), x]) ∧ ∀ xs, SqL K H a xs → xs[i]? = some x,
   fun i H => ∃ xs : List V, SqL K H a xs ∧ xs.length ≤ i⟩
theorem turn_enumS {P : Program} {w : World} {K : PySem.W.Frag} {elts : List Expr} {kk : Nat} {tp : Pos} (k0 : Int) (a e it : Addr) :
    Turn P w K (.Tuple elts kk tp) (IteS K k0 a) [e, it] e (fun i h => (∃ old, IsEnum h e it (k0 + (i : Nat)) old) ∧ h.IsListIter it a i ∧ e ≠ it) := by
  have two : ∀ {b : Addr}, b ∈ [e, it] → b = e ∨ b = it := fun {b} hb => by simpa using hb
  constructor
  case mem => exact List.mem_cons_self
  case obj =>
    rintro i h ⟨⟨old, he⟩, ⟨o, ho, hc, hd⟩, hne⟩ b hb
    rcases two hb with rfl | rfl
    · exact ⟨_, he, fun v q => nomatch q⟩
    · exact ⟨o, ho, fun v q => by rw [hd] at q; cases q⟩
  case keep =>
    rintro i h h' ⟨⟨old, he⟩, ⟨o, ho, r⟩, hne⟩ k
    exact ⟨⟨old, k e List.mem_cons_self _ he⟩, ⟨o, k it (by simp) _ ho, r⟩, hne⟩
  case self =>
    rintro A i s Q E ⟨⟨_, he⟩, _⟩ hQ
    exact wpAny_pyIter_enum he hQ
  case item =>
    rintro X rfl rfl rfl hc i pins s σ H E I hf ⟨⟨old, he⟩, hit, hne⟩ ⟨xs, x, hq, hx⟩
    obtain ⟨its, rv, p, hz⟩ := I.list hq
    have pt : s.heap.IsList a its.toArray := p.isList
    obtain ⟨u, hu, ru⟩ := rv.get hx
    have hi : i < its.toArray.size := by
      have := (List.getElem?_eq_some_iff.mp hu).1
      simpa using this
    have ane : a ≠ it := by
      rintro rfl
      obtain ⟨o1, h1, h2, _⟩ := hit
      obtain ⟨o2, h3, h4, _⟩ := pt
      rw [h1] at h3
      cases h3
      rw [h2] at h4
      simp at h4
    have aee : a ≠ e := by
      rintro rfl
      obtain ⟨o2, h3, h4, _⟩ := pt
      have h1 : s.heap.get? a = some _ := he
      rw [h1] at h3
      cases h3
      simp at h4
    have le : e < s.heap.objs.size := Heap.lt_size he
    have li : it < s.heap.objs.size := by
      obtain ⟨_, q, _⟩ := hit
      exact Heap.lt_size q
    have D := Draws.list (prog := X.prog) (w := X.w) (A := X.A.in1) (show X.A.in1.handled = none from I.ok.hd hc) it a ane its.toArray
    refine wpAny_pyNext_enum_itemC D he ⟨hit, pt⟩ hi hne (fun z => ?_) fun y h' tk hy ho hst hT hsz hk => ?_
    · rcases List.mem_cons.mp z with z | z
      · exact hne z
      · exact aee (List.mem_singleton.mp z).symm
    · have ey : y = u := by
        have z : its.toArray[i]? = some u := by simpa using hu
        exact Option.some.inj (hy.symm.trans z)
      subst ey
      refine ⟨_, rfl, wpAny_letOwnedTupleGo_enum (s := { s with heap := h', toks := tk + 1 }) ho fun h2 he2 sb => ?_⟩
      have hT2 : h2.get? s.heap.objs.size = some { cls := .type "tuple", data := .seq #[.int (k0 + (i : Nat)) tk, y] } := (sb.2 _ (Nat.ne_of_gt le)).trans hT
      have new : ObjOk X.prog X.w (upd H s.heap.objs.size (.tup [.int (k0 + (i : Nat)), x])) h2 s.heap.objs.size (.tup [.int (k0 + (i : Nat)), x]) :=
        ⟨(by show 2 ≤ sizeLine; decide), [.int (k0 + (i : Nat)) tk, y], .cons ⟨_, rfl⟩ (.cons ru .nil), ⟨_, hT2, rfl, _, rfl⟩⟩
      have I1 := I.turnedNew (t' := tk + 1) (ch := [e, it]) (h' := h2) (fun b o hb q => (sb.2 b (fun z => hb (by simp [z]))).trans (hk b o (fun z => hb (by simp [z])) (fun z => hb (by simp [z])) q)) hf (Nat.le_refl _) new
      refine ⟨.ref s.heap.objs.size, _, I1, rfl, ⟨_, x, rfl, I.hok.fresh (Nat.le_refl _), rfl, fun ys hy => by rw [I.list_inj hy hq]; exact hx⟩, ⟨⟨y, ?_⟩, ?_, hne⟩, fun b hb => ?_⟩
      · have e1 : k0 + ((i + 1 : Nat) : Int) = k0 + (i : Int) + 1 := by omega
        rw [e1]
        exact he2
      · obtain ⟨o, q1, q2⟩ := hst.1
        exact ⟨o, (sb.2 it (Ne.symm hne)).trans q1, q2⟩
      · have lb : b < s.heap.objs.size := by
          rcases two hb with rfl | rfl
          · exact le
          · exact li
        rw [upd_ne (Nat.ne_of_lt lb)]
        exact (hf b hb).1
  case done =>
    rintro X rfl rfl rfl hc i pins s σ H E I hf ⟨⟨old, he⟩, hit, hne⟩ ⟨xs, hq, hx⟩
    obtain ⟨its, rv, p, hz⟩ := I.list hq
    have pt : s.heap.IsList a its.toArray := p.isList
    have ane : a ≠ it := by
      rintro rfl
      obtain ⟨o1, h1, h2, _⟩ := hit
      obtain ⟨o2, h3, h4, _⟩ := pt
      rw [h1] at h3
      cases h3
      rw [h2] at h4
      simp at h4
    obtain ⟨f0, f1, f2, f3, f4, f5⟩ := hf it (by simp)
    have hl := rv.length
    -- at the end the place is not told by Draws (it stands at any i ≥ the size): the library's end of a tuple's iterator
    have D : Draws X.prog X.w X.A.in1 it [it, a] i (fun _ _ => False) (fun j h => j = i ∧ h.IsListIter it a i ∧ h.IsList a its.toArray) := by
      constructor
      case live => rintro j h ⟨_, ⟨o, ho, _⟩, _⟩; exact ⟨o, ho⟩
      case frame => rintro j h h' ⟨ej, st1, st2⟩ hk; exact ⟨ej, st1.at fun o e => hk it (by simp) o e, st2.at fun o e => hk a (by simp) o e⟩
      case item => rintro j s Q E hj ⟨ej, _⟩ _; exact absurd hj (by omega)
      case done => rintro s Q E ⟨_, st1, st2⟩ hE; exact wpAny_nextOf_list_end (show X.A.in1.handled = none from I.ok.hd hc) st1 st2 (by simp; omega) hE
    exact wpAny_pyNext_enum_endD D he ⟨rfl, hit, pt⟩ fun h' eb => ⟨rfl, I.turned (t' := s.toks) (fun b o hb q => eb b o hb q) f0 f1 f3 f4 f5⟩
def iEnumS (K : PySem.W.Frag) (ta tk : TA) : TI := fun σ H R => ta σ H fun vs H1 => tk σ H1 fun zs H2 => ∃ a xs k0, vs = [.ref a] ∧ zs = [.int k0] ∧ -(2 ^ 63) ≤ k0 ∧ k0 < 2 ^ 63 ∧ SqL K H2 a xs ∧ R (IteS K k0 a) H2
theorem pi_enumS {X : Cx} {e ke : Expr} {ta tk : TA} {p pos tp kp : Pos} {elts : List Expr} {kk : Nat} (hg : Gl X "enumerate") (hm : X.mg "enumerate" = none) (ha : PA X [e] ta) (hk : PK X [⟨some "start", ke, kp⟩] tk)
    (he : backTo pos (starEach [e] X.env) = (false, eval e X.env) :: backTo pos (starEach [] X.env) := by rfl) (hpl : (backTo pos (starEach [e] X.env)).any (·.1) = false := by rfl) :
    PI X (.Tuple elts kk tp) (.Call (.Name "enumerate" p) [e] [⟨some "start", ke, kp⟩] pos) (iEnumS X.K ta tk) := by
  refine ⟨fun pins s σ H R I h => wpAny_Call_Name_kw (ld_blt I hg hm boot_enumerate (callWith_typeKw (thn (ha.run pos pins s σ H _ I h) ?_) he hpl))⟩
  rintro us s1 ⟨vs, H1, I1, r1, q1⟩
  refine thn (hk.run pos pins s1 σ H1 _ I1 q1) ?_
  rintro ws s2 ⟨zs, H2, I2, r2, a, xs, k0, rfl, rfl, b0, b1, hq, q⟩
  cases r1 with
  | cons r rr =>
    cases rr
    cases r
    cases r2 with
    | cons r rr =>
      cases rr
      obtain ⟨tt, rfl⟩ := r
      obtain ⟨its, rv, p, hz⟩ := I2.list hq
      have pt : s2.heap.IsList a its.toArray := p.isList
      show wpAny _ _ (call (.type "enumerate") [.ref a] [(Str.ofString "start", .int k0 tt)]) _ _ _
      refine enum_begins_start (begins_list a its.toArray) pt b0 b1 fun h' he hit hsz hk => wpAny_pyIter_enum he ?_
      have I3 : Inv X pins σ H2 { s2 with heap := h' } := I2.kept (t' := s2.toks) hk
      refine ⟨s2.heap.objs.size + 1, [s2.heap.objs.size + 1, s2.heap.objs.size], _, _, H2, rfl, I3, turn_enumS k0 a (s2.heap.objs.size + 1) s2.heap.objs.size, ⟨⟨.none, ?_⟩, ⟨_, hit, rfl, rfl⟩, Nat.succ_ne_self _⟩, fun b hb => ?_, q⟩
      · rw [show k0 + ((0 : Nat) : Int) = k0 by omega]
        exact he
      · have lb : s2.heap.objs.size ≤ b := by
          have e' : b = s2.heap.objs.size + 1 ∨ b = s2.heap.objs.size := by simpa using hb
          rcases e' with z | z
          · rw [z]; exact Nat.le_add_right _ _
          · rw [z]; exact Nat.le_refl _
        exact I2.fpOk lb (I2.hok.fresh lb)
theorem walk_enumS {K : PySem.W.Frag} {k0 : Int} {a : Addr} {xs : List V} : Walk (IteS K k0 a) xs.length (fun H => SqL K H a xs) (YPair (fun i => some (.int (k0 + (i : Nat)))) (fun i => xs[i]?)) := by
  refine ⟨fun i _ hi q => ⟨xs, xs[i], q, by simp [hi]⟩, fun _ q => ⟨xs, q, Nat.le_refl _⟩, ?_⟩
  rintro i H v H' _ q ⟨T, x, h1, h2, h3, h4⟩
  exact ⟨T, .int (k0 + (i : Nat)), x, h1, h2, h3, rfl, h4 xs q⟩
end My

set_option maxRecDepth 100000
set_option maxHeartbeats 400000
namespace K7
open PySem PySem.Spec PyProof.Rows L2 GxR Gd TL My
/-! ### rows of a line as texts -/
theorem tl_inj1 {a b : Str} (h : tl a = tl b) : a = b := by
  have := map_tl_inj (l := [a]) (m := [b]) (by simp [h])
  exact (List.cons.inj this).1
def numS (r : Int) : Str := Str.ofString (toString r)
def sideS (h : Int) : Str := if h = 0 then Str.ofString "low" else Str.ofString "high"
def nameAt (ps : List (Str × Int)) (i : Int) : Str := ((ps[i.toNat]?).map (·.1)).getD Str.empty
def wP (p : Str × Int) : List Str := [Str.ofString "place", p.1, numS p.2]
def wS (p : Str × Int) : List Str := [Str.ofString "stretch", p.1, sideS p.2]
def wL (ps : List (Str × Int)) (p : Int × Int × Int) : List Str := [Str.ofString "long", nameAt ps p.1, nameAt ps p.2.1, sideS p.2.2]
def rowW (l : List Str) : Str := PySem.Txt.join (Str.ofString " ") l
def rowsW (wd : Wd) : List (List Str) := wd.ps.map wP ++ wd.st.map wS ++ wd.lo.map (wL wd.ps)
def rowsT (wd : Wd) : List Str := (rowsW wd).map rowW
def textT (wd : Wd) : Str := PySem.Txt.join (Str.ofString "\n") (rowsT wd)
/-- a word: neither a blank nor the end of a row in it, and short -/
def Wrd (z : Str) : Prop := z.length ≤ 8 ∧ ∀ c ∈ tl z, c ≠ 32 ∧ c ≠ 10
theorem name_wrd {z : Str} (h : NameOk z) : Wrd z := ⟨by have := h.2.1; omega, fun c hc => by
  have := List.all_eq_true.mp h.2.2 c hc
  unfold lc at this
  simp at this
  omega⟩
theorem wrd_num {r : Int} (h1 : 1 ≤ r) (h3 : r ≤ 3) : Wrd (numS r) := by
  have : r = 1 ∨ r = 2 ∨ r = 3 := by omega
  rcases this with rfl | rfl | rfl <;> exact ⟨by decide +kernel, by decide +kernel⟩
theorem wrd_side (h : Int) : Wrd (sideS h) := by
  unfold sideS
  split <;> exact ⟨by decide +kernel, by decide +kernel⟩
theorem wrd_kind {z : Str} (h : z = "staff" ∨ z = "ticket") : Wrd z := by
  rcases h with rfl | rfl <;> exact ⟨by decide +kernel, by decide +kernel⟩
theorem wrd_lit : Wrd (Str.ofString "place") ∧ Wrd (Str.ofString "stretch") ∧ Wrd (Str.ofString "long") := by
  refine ⟨⟨?_, ?_⟩, ⟨?_, ?_⟩, ⟨?_, ?_⟩⟩ <;> decide +kernel
/-- the number of a long stretch's end, in the line -/
theorem longs_in {wd : Wd} (ok : wd.Ok) {p : Int × Int × Int} (hp : p ∈ wd.lo) : ∃ (a c : Nat) (h : Int), p = ((a : Int), (c : Int), h) ∧ a < wd.ps.length ∧ c < wd.ps.length ∧ a < c ∧ 0 ≤ h ∧ h ≤ 1 := by
  obtain ⟨f, l, h⟩ := p
  obtain ⟨h1, h2, h3, h4, h5⟩ := longs_le ok.lo _ hp
  have p2 := ok.p2
  simp only at h1 h2 h3 h4 h5
  refine ⟨f.toNat, l.toNat, h, ?_, ?_, ?_, ?_, h4, h5⟩
  · rw [Int.toNat_of_nonneg (by omega), Int.toNat_of_nonneg (by omega)]
  all_goals omega
theorem nameAt_at {ps : List (Str × Int)} {i : Nat} {p : Str × Int} (h : ps[i]? = some p) : nameAt ps (i : Int) = p.1 := by
  unfold nameAt
  rw [Int.toNat_natCast, h]
  rfl
theorem nameAt_wrd {wd : Wd} (ok : wd.Ok) {i : Nat} (h : i < wd.ps.length) : Wrd (nameAt wd.ps i) := by
  rw [nameAt_at (List.getElem?_eq_getElem h)]
  exact name_wrd (ok.nm _ (List.getElem_mem h)).1
theorem rows_wrd {wd : Wd} (ok : wd.Ok) : ∀ l ∈ rowsW wd, l ≠ [] ∧ l.length ≤ 4 ∧ ∀ z ∈ l, Wrd z := by
  obtain ⟨l1, l2, l3⟩ := wrd_lit
  intro l hl
  unfold rowsW at hl
  rcases List.mem_append.mp hl with hl | hl
  · rcases List.mem_append.mp hl with hl | hl
    · obtain ⟨p, hp, rfl⟩ := List.mem_map.mp hl
      obtain ⟨n1, n2, n3⟩ := ok.nm p hp
      refine ⟨by simp [wP], by simp [wP], fun z hz => ?_⟩
      simp only [wP, List.mem_cons, List.not_mem_nil, or_false] at hz
      rcases hz with rfl | rfl | rfl
      · exact l1
      · exact name_wrd n1
      · exact wrd_num n2 n3
    · obtain ⟨p, hp, rfl⟩ := List.mem_map.mp hl
      obtain ⟨n1, n2, n3⟩ := ok.st p hp
      refine ⟨by simp [wS], by simp [wS], fun z hz => ?_⟩
      simp only [wS, List.mem_cons, List.not_mem_nil, or_false] at hz
      rcases hz with rfl | rfl | rfl
      · exact l2
      · exact wrd_kind n1
      · exact wrd_side _
  · obtain ⟨p, hp, rfl⟩ := List.mem_map.mp hl
    obtain ⟨a, c, h, rfl, ha, hc, _, _, _⟩ := longs_in ok hp
    refine ⟨by simp [wL], by simp [wL], fun z hz => ?_⟩
    simp only [wL, List.mem_cons, List.not_mem_nil, or_false] at hz
    rcases hz with rfl | rfl | rfl | rfl
    · exact l3
    · exact nameAt_wrd ok ha
    · exact nameAt_wrd ok hc
    · exact wrd_side _
theorem joinL_mem {S : List Nat} {c : Nat} : ∀ {ps : List (List Nat)}, c ∈ joinL S ps → c ∈ S ∨ ∃ p ∈ ps, c ∈ p
  | [], h => by cases h
  | [p], h => .inr ⟨p, List.mem_singleton.mpr rfl, h⟩
  | p :: q :: r, h => by
    have h' : c ∈ p ++ (S ++ joinL S (q :: r)) := h
    rcases List.mem_append.mp h' with h | h
    · exact .inr ⟨p, List.mem_cons_self .., h⟩
    · rcases List.mem_append.mp h with h | h
      · exact .inl h
      · rcases joinL_mem h with h | ⟨z, hz, hc⟩
        · exact .inl h
        · exact .inr ⟨z, List.mem_cons_of_mem _ hz, hc⟩
theorem joinL_len {S : List Nat} {m : Nat} : ∀ {ps : List (List Nat)}, (∀ p ∈ ps, p.length ≤ m) → (joinL S ps).length ≤ ps.length * (m + S.length)
  | [], _ => by simp [joinL]
  | [p], h => by
    have := h p (List.mem_singleton.mpr rfl)
    show p.length ≤ _
    simp only [List.length_cons, List.length_nil, Nat.zero_add, Nat.one_mul]
    omega
  | p :: q :: r, h => by
    have a := h p (List.mem_cons_self ..)
    have b := joinL_len (S := S) (ps := q :: r) (m := m) fun z hz => h z (List.mem_cons_of_mem _ hz)
    show (p ++ (S ++ joinL S (q :: r))).length ≤ _
    rw [List.length_append, List.length_append, List.length_cons (a := p), Nat.add_mul, Nat.one_mul]
    omega
theorem tl_blank : tl (Str.ofString " ") = [32] := by decide +kernel
theorem tl_nl : tl (Str.ofString "\n") = [10] := by decide +kernel
theorem tl_row (l : List Str) : tl (rowW l) = joinL [32] (l.map tl) := by
  unfold rowW
  rw [join_eq, tl_join, tl_blank]
theorem row_split {l : List Str} (ne : l ≠ []) (h : ∀ z ∈ l, Wrd z) : PySem.Txt.split (rowW l) (Str.ofString " ") = l :=
  split_join (S := []) tl_blank (by decide +kernel) ne fun p hp hc => (((h p hp).2 _ hc).1) rfl
theorem row_len {l : List Str} (h4 : l.length ≤ 4) (h : ∀ z ∈ l, Wrd z) : (rowW l).length ≤ 36 := by
  rw [← tl_len, tl_row]
  have a := joinL_len (S := [32]) (ps := l.map tl) (m := 8) fun p hp => by
    obtain ⟨z, hz, rfl⟩ := List.mem_map.mp hp
    rw [tl_len]
    exact (h z hz).1
  rw [List.length_map] at a
  have : l.length * (8 + [32].length) ≤ 4 * 9 := Nat.mul_le_mul h4 (by decide)
  omega
theorem row_nl {l : List Str} (h : ∀ z ∈ l, Wrd z) : 10 ∉ tl (rowW l) := fun hc => by
  rw [tl_row] at hc
  rcases joinL_mem hc with hc | ⟨p, hp, hc⟩
  · exact absurd (List.mem_singleton.mp hc) (by decide)
  · obtain ⟨z, hz, rfl⟩ := List.mem_map.mp hp
    exact ((h z hz).2 _ hc).2 rfl
theorem rowsW_len {wd : Wd} (ok : wd.Ok) : 2 ≤ (rowsW wd).length ∧ (rowsW wd).length ≤ 14 := by
  have p2 := ok.p2
  have p6 := ok.p6
  have sl := ok.sl
  have ll := ok.ll
  unfold rowsW
  rw [List.length_append, List.length_append, List.length_map, List.length_map, List.length_map]
  omega
theorem rowsT_len (wd : Wd) : (rowsT wd).length = (rowsW wd).length := List.length_map ..
theorem text_split {wd : Wd} (ok : wd.Ok) : PySem.Txt.split (textT wd) (Str.ofString "\n") = rowsT wd :=
  split_join (S := []) tl_nl (by decide +kernel) (fun e => by have := (rowsW_len ok).1; rw [← rowsT_len, e] at this; simp at this) fun p hp => by
    obtain ⟨l, hl, rfl⟩ := List.mem_map.mp hp
    exact row_nl (rows_wrd ok l hl).2.2
theorem rowsT_row {wd : Wd} (ok : wd.Ok) : ∀ z ∈ rowsT wd, z.length ≤ 36 := fun z hz => by
  obtain ⟨l, hl, rfl⟩ := List.mem_map.mp hz
  exact row_len (rows_wrd ok l hl).2.1 (rows_wrd ok l hl).2.2
theorem text_len {wd : Wd} (ok : wd.Ok) : (textT wd).length ≤ 1000 := by
  unfold textT
  rw [← tl_len, join_eq, tl_join, tl_nl]
  have a := joinL_len (S := [10]) (ps := (rowsT wd).map tl) (m := 36) fun p hp => by
    obtain ⟨z, hz, rfl⟩ := List.mem_map.mp hp
    rw [tl_len]
    exact rowsT_row ok z hz
  rw [List.length_map, rowsT_len] at a
  have : (rowsW wd).length * (36 + [10].length) ≤ 14 * 37 := Nat.mul_le_mul (rowsW_len ok).2 (by decide)
  omega
theorem text_ne {wd : Wd} (ok : wd.Ok) : textT wd ≠ Str.empty := fun e => by
  have := text_split ok
  rw [e] at this
  have h2 : PySem.Txt.split Str.empty (Str.ofString "\n") = [Str.empty] := split_join (S := []) tl_nl (by decide +kernel) (parts := [Str.empty]) (by simp) (by decide)
  rw [h2] at this
  have := congrArg List.length this
  rw [rowsT_len] at this
  have := (rowsW_len ok).1
  simp at *
  omega
theorem sum_le {l : List Str} {m : Nat} (h : ∀ z ∈ l, z.length ≤ m) : (l.map (·.length)).sum ≤ l.length * m := by
  induction l with
  | nil => simp
  | cons a r ih =>
    have h1 := h a (List.mem_cons_self ..)
    have h2 := ih fun z hz => h z (List.mem_cons_of_mem _ hz)
    rw [List.map_cons, List.sum_cons, List.length_cons, Nat.add_mul, Nat.one_mul]
    omega
theorem rows_fit {wd : Wd} (ok : wd.Ok) : ((rowsT wd).map (·.length)).sum + (rowsT wd).length * (Str.ofString "\n").length ≤ 16777216 := by
  have a := sum_le (rowsT_row ok)
  have b := (rowsW_len ok).2
  rw [← rowsT_len] at b
  have c : (Str.ofString "\n").length = 1 := by decide +kernel
  rw [c]
  have : (rowsT wd).length * 36 ≤ 14 * 36 := Nat.mul_le_mul b (by decide)
  omega
end K7

set_option maxRecDepth 100000
set_option maxHeartbeats 400000
namespace K7
open PySem PySem.Spec PyProof.Rows L2 GxR Gd TL My
theorem rowP_cat (p : Str × Int) : Str.ofString "place " ++ p.1 ++ Str.ofString " " ++ numS p.2 = rowW (wP p) := by
  refine tl_inj1 ?_
  rw [tl_append, tl_append, tl_append, tl_row, show tl (Str.ofString "place ") = tl (Str.ofString "place") ++ [32] by decide +kernel, tl_blank]
  simp [wP, joinL]
theorem rowS_cat (p : Str × Int) : Str.ofString "stretch " ++ p.1 ++ Str.ofString " " ++ sideS p.2 = rowW (wS p) := by
  refine tl_inj1 ?_
  rw [tl_append, tl_append, tl_append, tl_row, show tl (Str.ofString "stretch ") = tl (Str.ofString "stretch") ++ [32] by decide +kernel, tl_blank]
  simp [wS, joinL]
theorem rowL_cat (ps : List (Str × Int)) (p : Int × Int × Int) : Str.ofString "long " ++ nameAt ps p.1 ++ Str.ofString " " ++ nameAt ps p.2.1 ++ Str.ofString " " ++ sideS p.2.2 = rowW (wL ps p) := by
  refine tl_inj1 ?_
  rw [tl_append, tl_append, tl_append, tl_append, tl_append, tl_row, show tl (Str.ofString "long ") = tl (Str.ofString "long") ++ [32] by decide +kernel, tl_blank]
  simp [wL, joinL]
theorem empty_app (a : Str) : Str.empty ++ a = a := tl_inj1 (by rw [tl_append]; rfl)
theorem side_at {h : Int} (h0 : 0 ≤ h) (h1 : h ≤ 1) : atI [V.str (Str.ofString "low"), V.str (Str.ofString "high")] h = some (.str (sideS h)) := by
  have : h = 0 ∨ h = 1 := by omega
  rcases this with rfl | rfl <;> rfl
theorem pe_joinK {X : Cx} {K : PySem.W.Frag} {o e : Expr} {to te : TE} (h : X.K = K) {apos pos : Pos} (ho : PE X o to) (he : PE X e te) (hs : starEach [e] X.env = [(false, eval e X.env)] := by rfl) (hbase : attributeBase o "join" X.env (eval o X.env) = eval o X.env := by rfl) (hline : (apos.endLine == pos.line) = true := by rfl) :
    PE X (.Call (.Attribute o "join" apos) [e] [] pos) (tM1 (fun x xs H Q => ∃ a p, ∃ ys : List Str, x = .str a ∧ xs = [.ref p] ∧ (SqL K H p (ys.map V.str) ∨ SqT K H p (ys.map V.str)) ∧ (ys.map (·.length)).sum + ys.length * a.length ≤ 16777216 ∧ Q (.str (PySem.Txt.join a ys)) H) to te) :=
  h ▸ pe_join ho he hs hbase hline
theorem KB.same {D : Addr} {H H' : Hp} (n : H D = none) (k : KB D H H') : Same H H' := fun c o h => k c o (ne_of_none h n) h
theorem fit {n : Nat} (h : n ≤ 1000) : n ≤ sizeLine := small_line (by omega)
theorem len_place : (Str.ofString "place ").length = 6 := by decide +kernel
theorem len_stretch : (Str.ofString "stretch ").length = 8 := by decide +kernel
theorem len_long : (Str.ofString "long ").length = 5 := by decide +kernel
theorem len_blank : (Str.ofString " ").length = 1 := by decide +kernel
theorem log_small {r : Int} (h1 : 1 ≤ r) (h3 : r ≤ 3) : r.natAbs.log2 < 1920 := by
  have : r = 1 ∨ r = 2 ∨ r = 3 := by omega
  rcases this with rfl | rfl | rfl <;> decide +kernel
/-- a comprehension that makes texts, by any walk over values -/
theorem strs_it {J : It} {G : Hp → Prop} {xs : List V} {out : List Str} (w : Walk J xs.length G (YAt xs)) {g : TG} {te : TE} {vs : List Nat} {σ : L2.St} {H : Hp} {D : Addr} {Qd : Hp → Prop} (hl : out.length = xs.length) (h20 : out.length ≤ 100) (hD : H D = none)
    (hG : ∀ H', KB D H H' → G H')
    (hs : ∀ (i : Nat) (v : V) (H' : Hp) (C : VK) (B : Hp → Prop), xs[i]? = some v → KB D H H' → (∀ z H4, out[i]? = some z → Same H' H4 → C (.str z) H4) → g v (wipe σ vs) H' fun σ2 H2 => wipe σ2 vs = wipe σ vs ∧ tYes σ2 H2 fun b H3 => if b = true then te σ2 H3 C else B H3)
    (hd : ∀ H', KB D H H' → H' D = some (.lst (out.map V.str)) → Qd H') :
    ∃ W : Nat → Nat → Hp → Prop, (∃ m, W 0 m (upd H D (.lst []))) ∧ ∀ i m H, W i m H →
    (J.stop i H ∧ Qd H) ∨ (J.go i H ∧ ∃ Nx : Hp → Prop, (∀ H', Nx H' → ∃ m', m' < m ∧ W (i + 1) m' H') ∧ ∀ x H', J.yld i H x H' → g x (wipe σ vs) H' fun σ2 H2 => wipe σ2 vs = wipe σ vs ∧ tYes σ2 H2 fun b H3 =>
      if b = true then te σ2 H3 fun y H4 => ∃ acc, H4 D = some (.lst acc) ∧ acc.length < sizeLine ∧ Nx (upd H4 D (.lst (acc ++ [y]))) else Nx H3) := by
  refine lc_it w (fun i H' => KB D H H' ∧ H' D = some (.lst ((out.take i).map V.str))) ⟨KB.alloc hD, upd_same⟩ (fun i H' _ h => hG H' h.1) ?_ ?_
  · rintro i v H' H'' hi ⟨kb, e⟩ ⟨rfl, hv⟩
    refine hs i v H'' _ _ hv kb fun z H4 hz s => ⟨_, s _ _ e, ?_, fun c o n h => by rw [upd_ne n]; exact s _ _ (kb c o n h), ?_⟩
    · rw [List.length_map, List.length_take]
      exact lt_line _ (by omega)
    · rw [take_at hz, List.map_append]
      exact upd_same
  · rintro H' ⟨kb, e⟩
    rw [← hl, List.take_of_length_le (Nat.le_refl _)] at e
    exact hd H' kb e
section
variable {P : Program} {w : World} {K : PySem.W.Frag} {mg : Str → Option Value} {base : Heap}
abbrev s_law_rows : Stmt := top 49
theorem sc_law_rows : FnScope ["_law_world_here", "_law_places", "_law_stretches", "_law_longs", "_law_names_here", "_law_rows_here", "_law_name", "_law_roads", "_law_kind", "_law_home", "_law_low", "_law_high"] ["_law_world_here"] (defScope s_law_rows) := ⟨rfl, rfl, rfl, by decide +kernel, rfl, by decide +kernel, by decide +kernel⟩
abbrev s_show_line : Stmt := top 33
theorem sc_show_line : FnScope ["line", "places", "stretches", "longs", "rows", "name", "roads", "kind", "home", "first", "last"] ["line"] (defScope s_show_line) := ⟨rfl, rfl, rfl, by decide +kernel, rfl, by decide +kernel, by decide +kernel⟩
def spLawRows (K : PySem.W.Frag) : Sp := fun vs H Q _ => ∃ (v : V) (wd : Wd), vs = [v] ∧ Dp K H v wd.data ∧ wd.Ok ∧ ∀ t H', Same H H' → H' t = some (.lst ((rowsT wd).map V.str)) → Q (.ref t) H'
theorem ok_law_rows {f : Addr} {fd : FuncData} (F : Fun K "_law_rows" "_law_rows" s_law_rows f fd) (T : Txt mg) : FnOk P w K mg base CX0 1 f fd ["_law_world_here"] (spLawRows K) := by
  refine F.ok sc_law_rows (fun vs H Q E h => ?_) (fun cdv A outer s H vs Q E hr h => ?_)
  · obtain ⟨v, wd, rfl, _⟩ := h
    rfl
  · obtain ⟨v, wd, rfl, hD, ok, k⟩ := h
    obtain ⟨wa, vp, vs_, vl, vu, rfl, hw, hp, hs, hl, hu⟩ := dp_four hD
    obtain ⟨ap, xp, rfl, hap, dap⟩ := dp_list hp
    obtain ⟨as_, xs, rfl, has, das⟩ := dp_list hs
    obtain ⟨al, xl, rfl, hal, dal⟩ := dp_list hl
    have p6 := ok.p6
    have sl := ok.sl
    have ll := ok.ll
    refine ⟨_, pss_cons (ps_asg (pe_slice sl_list (pv 0) po_none (po_some pe_int)) (pg_unl (by rfl) (pgs_cons (pg_name (i := 1) sc_law_rows.nd rfl (Or.inl rfl)) (pgs_cons (pg_name (i := 2) sc_law_rows.nd rfl (Or.inl rfl)) (pgs_cons (pg_name (i := 3) sc_law_rows.nd rfl (Or.inl rfl)) pgs_nil)))))
      (pss_cons (ps_set (i := 4) sc_law_rows.nd rfl (Or.inr rfl) (pe_lc (own := [("_law_name", 6), ("_law_roads", 7)]) (g := gTup K 2 (gCons (gName 6) (gCons (gName 7) gNil))) (tt := tYes) rfl sc_law_rows.nd (pi_list (pv 1)) (blkOk_by (own := [("_law_name", 6), ("_law_roads", 7)]) (N := ["_law_world_here", "_law_places", "_law_stretches", "_law_longs", "_law_names_here", "_law_rows_here", "_law_name", "_law_roads", "_law_kind", "_law_home", "_law_low", "_law_high"]) (sc := defScope s_law_rows) (by decide +kernel)) (fun _ _ _ _ _ => (pg_tup (by rfl) (pgs_cons (pg_name (i := 6) sc_law_rows.nd rfl (Or.inl rfl)) (pgs_cons (pg_name (i := 7) sc_law_rows.nd rfl (Or.inl rfl)) pgs_nil)))) (fun _ _ _ _ _ => pts_nil) (fun _ _ _ _ _ => (pv 6))))
      (pss_cons (ps_setLc (i := 5) (own := [("_law_name", 6), ("_law_roads", 7)]) (g := gTup K 2 (gCons (gName 6) (gCons (gName 7) gNil))) (tt := tYes) rfl sc_law_rows.nd rfl rfl (sw_true rfl rfl rfl (by decide +kernel)) (pi_list (pv 1)) (blkOk_by (own := [("_law_name", 6), ("_law_roads", 7)]) (N := ["_law_world_here", "_law_places", "_law_stretches", "_law_longs", "_law_names_here", "_law_rows_here", "_law_name", "_law_roads", "_law_kind", "_law_home", "_law_low", "_law_high"]) (sc := defScope s_law_rows) (by decide +kernel)) (fun _ _ _ _ _ => (pg_tup (by rfl) (pgs_cons (pg_name (i := 6) sc_law_rows.nd rfl (Or.inl rfl)) (pgs_cons (pg_name (i := 7) sc_law_rows.nd rfl (Or.inl rfl)) pgs_nil)))) (fun _ _ _ _ _ => pts_nil) (fun _ _ _ _ _ => (pe_op op_add_str (pe_op op_add_str (pe_op op_add_str pe_str (pv 6)) pe_str) (pe_callTy call_str_int (by rfl) T.str_ (by decide +kernel) (pa_cons (pv 7) pa_nil)))))
      (pss_cons (ps_set (i := 5) sc_law_rows.nd rfl (Or.inl rfl) (pe_op op_cat (pv 5) (pe_lc (own := [("_law_kind", 8), ("_law_home", 9)]) (g := gTup K 2 (gCons (gName 8) (gCons (gName 9) gNil))) (tt := tYes) rfl sc_law_rows.nd (pi_list (pv 2)) (blkOk_by (own := [("_law_kind", 8), ("_law_home", 9)]) (N := ["_law_world_here", "_law_places", "_law_stretches", "_law_longs", "_law_names_here", "_law_rows_here", "_law_name", "_law_roads", "_law_kind", "_law_home", "_law_low", "_law_high"]) (sc := defScope s_law_rows) (by decide +kernel)) (fun _ _ _ _ _ => (pg_tup (by rfl) (pgs_cons (pg_name (i := 8) sc_law_rows.nd rfl (Or.inl rfl)) (pgs_cons (pg_name (i := 9) sc_law_rows.nd rfl (Or.inl rfl)) pgs_nil)))) (fun _ _ _ _ _ => pts_nil) (fun _ _ _ _ _ => (pe_op op_add_str (pe_op op_add_str (pe_op op_add_str pe_str (pv 8)) pe_str) (pe_ix (ixL (K := K) rfl) (pe_lst (pa_cons pe_str (pa_cons pe_str pa_nil))) (pv 9) (fun _ _ => rfl)))))))
      (pss_one (ps_ret (pe_op op_cat (pv 5) (pe_lc (own := [("_law_low", 10), ("_law_high", 11), ("_law_home", 9)]) (g := gTup K 3 (gCons (gName 10) (gCons (gName 11) (gCons (gName 9) gNil)))) (tt := tYes) rfl sc_law_rows.nd (pi_list (pv 3)) (blkOk_by (own := [("_law_low", 10), ("_law_high", 11), ("_law_home", 9)]) (N := ["_law_world_here", "_law_places", "_law_stretches", "_law_longs", "_law_names_here", "_law_rows_here", "_law_name", "_law_roads", "_law_kind", "_law_home", "_law_low", "_law_high"]) (sc := defScope s_law_rows) (by decide +kernel)) (fun _ _ _ _ _ => (pg_tup (by rfl) (pgs_cons (pg_name (i := 10) sc_law_rows.nd rfl (Or.inl rfl)) (pgs_cons (pg_name (i := 11) sc_law_rows.nd rfl (Or.inl rfl)) (pgs_cons (pg_name (i := 9) sc_law_rows.nd rfl (Or.inl rfl)) pgs_nil))))) (fun _ _ _ _ _ => pts_nil) (fun _ _ _ _ _ => (pe_joinK (K := K) rfl pe_str (pe_lst (pa_cons pe_str (pa_cons (pe_ix (ixL (K := K) rfl) (pv 4) (pv 10) (fun _ _ => rfl)) (pa_cons (pe_ix (ixL (K := K) rfl) (pv 4) (pv 11) (fun _ _ => rfl)) (pa_cons (pe_ix (ixL (K := K) rfl) (pe_lst (pa_cons pe_str (pa_cons pe_str pa_nil))) (pv 9) (fun _ _ => rfl)) pa_nil)))))))))))))), ?_⟩
    generalize hσ : L2.start _ _ = σ0
    obtain rfl : σ0 = [some (.ref wa), none, none, none, none, none, none, none, none, none, none, none] := hσ.symm.trans rfl
    simp only [List.set_cons_succ, List.set_cons_zero]
    have lp : xp.length = wd.ps.length := by rw [dpAll_len dap, List.length_map]
    have ls : xs.length = wd.st.length := by rw [dpAll_len das, List.length_map]
    have lL : xl.length = wd.lo.length := by rw [dpAll_len dal, List.length_map]
    refine ⟨_, rfl, 3, rfl, wa, _, rfl, hw, fun pn hpn => ?_⟩
    have s1 : Same H (upd H pn (.lst (cutV [V.ref ap, .ref as_, .ref al, vu] none (some 3)))) := same_alloc hpn
    have e1 : (upd H pn (.lst (cutV [V.ref ap, .ref as_, .ref al, vu] none (some 3)))) pn = some (.lst [.ref ap, .ref as_, .ref al]) := upd_same
    generalize upd H pn (.lst (cutV [V.ref ap, .ref as_, .ref al, vu] none (some 3))) = H1 at s1 e1 ⊢
    refine ⟨pn, _, rfl, SqL.of e1, rfl, _, _, rfl, _, _, rfl, _, _, rfl, rfl, ?_⟩
    simp only [List.set_cons_succ, List.set_cons_zero]
    have n1 := same_nt s1
    refine ⟨_, rfl, ap, rfl, ⟨_, n1.seq hap⟩, fun D hD => strs_it (walk_list (K := K) (xs := xp)) (out := wd.ps.map (·.1)) (by rw [List.length_map, lp]) (by rw [List.length_map]; omega) hD (fun H' kb => (KB.seq' hD kb).seq (n1.seq hap)) ?_ ?_⟩
    · rintro i v H' C B hv kb k
      obtain ⟨d, hd1, hd2⟩ := dpAll_get dap hv
      obtain ⟨p, hp, rfl⟩ := get_map hd1
      obtain ⟨t, y1, y2, rfl, ht, r1, r2⟩ := dp_two hd2
      obtain rfl := dp_str r1
      obtain rfl := dp_int r2
      refine ⟨t, _, rfl, (KB.seq' hD kb).seqT (n1.seqT ht), rfl, _, _, rfl, _, _, rfl, rfl, wipe2 (by simp) (by simp), lcY ⟨_, rfl, k p.1 _ ?_ (Same.refl _)⟩⟩
      rw [List.getElem?_map, hp]
      rfl
    · intro H2 kb eN
      have s2 := s1.trans (KB.same hD kb)
      clear kb s1 e1 n1
      have n2 := same_nt s2
      simp only [List.set_cons_succ, List.set_cons_zero]
      refine ⟨_, rfl, ap, rfl, ⟨_, n2.seq hap⟩, fun D2 hD2 => strs_it (walk_list (K := K) (xs := xp)) (out := (wd.ps.map wP).map rowW) (by rw [List.length_map, List.length_map, lp]) (by rw [List.length_map, List.length_map]; omega) hD2 (fun H' kb => (KB.seq' hD2 kb).seq (n2.seq hap)) ?_ ?_⟩
      · rintro i v H' C B hv kb k
        obtain ⟨d, hd1, hd2⟩ := dpAll_get dap hv
        obtain ⟨p, hp, rfl⟩ := get_map hd1
        obtain ⟨t, y1, y2, rfl, ht, r1, r2⟩ := dp_two hd2
        obtain rfl := dp_str r1
        obtain rfl := dp_int r2
        obtain ⟨w1, w2, w3⟩ := ok.nm p (List.mem_of_getElem? hp)
        have a1 := (name_wrd w1).1
        have a2 := (wrd_num w2 w3).1
        refine ⟨t, _, rfl, (KB.seq' hD2 kb).seqT (n2.seqT ht), rfl, _, _, rfl, _, _, rfl, rfl, wipe2 (by simp) (by simp), lcY ?_⟩
        refine ⟨_, rfl, _, _, rfl, rfl, fit (by rw [len_place]; omega), _, _, rfl, rfl, fit (by rw [length_app, len_place, len_blank]; omega), _, rfl, _, rfl, log_small w2 w3, _, _, rfl, rfl, fit (by rw [length_app, length_app, len_place, len_blank]; show _ + (numS p.2).length ≤ 1000; omega), k _ _ ?_ (Same.refl _)⟩
        rw [List.getElem?_map, List.getElem?_map, hp]
        exact congrArg some (rowP_cat p).symm
      · intro H3 kb eR
        have s3 := s2.trans (KB.same hD2 kb)
        have eN3 := KB.same hD2 kb _ _ eN
        clear kb s2 n2 eN
        have n3 := same_nt s3
        simp only [List.set_cons_succ, List.set_cons_zero]
        refine ⟨_, rfl, _, rfl, as_, rfl, ⟨_, n3.seq has⟩, fun D3 hD3 => strs_it (walk_list (K := K) (xs := xs)) (out := (wd.st.map wS).map rowW) (by rw [List.length_map, List.length_map, ls]) (by rw [List.length_map, List.length_map]; omega) hD3 (fun H' kb => (KB.seq' hD3 kb).seq (n3.seq has)) ?_ ?_⟩
        · rintro i v H' C B hv kb k
          obtain ⟨d, hd1, hd2⟩ := dpAll_get das hv
          obtain ⟨p, hp, rfl⟩ := get_map hd1
          obtain ⟨t, y1, y2, rfl, ht, r1, r2⟩ := dp_two hd2
          obtain rfl := dp_str r1
          obtain rfl := dp_int r2
          obtain ⟨w1, w2, w3⟩ := ok.st p (List.mem_of_getElem? hp)
          have a1 := (wrd_kind w1).1
          have a2 := (wrd_side p.2).1
          refine ⟨t, _, rfl, (KB.seq' hD3 kb).seqT (n3.seqT ht), rfl, _, _, rfl, _, _, rfl, rfl, wipe2 (by simp) (by simp), lcY ?_⟩
          refine ⟨_, rfl, _, _, rfl, rfl, fit (by rw [len_stretch]; omega), _, _, rfl, rfl, fit (by rw [length_app, len_stretch, len_blank]; omega), two_line, fun q hq => ?_⟩
          refine ⟨_, rfl, q, _, p.2, _, rfl, rfl, SqL.of upd_same, side_at w2 w3, _, _, rfl, rfl, fit (by rw [length_app, length_app, len_stretch, len_blank]; omega), k _ _ ?_ (same_alloc hq)⟩
          rw [List.getElem?_map, List.getElem?_map, hp]
          exact congrArg some (rowS_cat p).symm
        · intro H4 kb eS
          have s4 := s3.trans (KB.same hD3 kb)
          have eN4 := KB.same hD3 kb _ _ eN3
          have eR4 := KB.same hD3 kb _ _ eR
          clear kb s3 n3 eN3 eR
          refine ⟨_, _, _, _, rfl, rfl, eR4, eS, fit (by simp only [List.length_map]; omega), fun p5 hp5 => ?_⟩
          rw [← List.map_append]
          have s5 := s4.trans (same_alloc (o := .lst (((wd.ps.map wP).map rowW ++ (wd.st.map wS).map rowW).map V.str)) hp5)
          have eN5 := same_alloc (o := .lst (((wd.ps.map wP).map rowW ++ (wd.st.map wS).map rowW).map V.str)) hp5 _ _ eN4
          have eT : (upd H4 p5 (.lst (((wd.ps.map wP).map rowW ++ (wd.st.map wS).map rowW).map V.str))) p5 = _ := upd_same
          generalize upd H4 p5 (.lst (((wd.ps.map wP).map rowW ++ (wd.st.map wS).map rowW).map V.str)) = H5 at s5 eN5 eT ⊢
          have n5 := same_nt s5
          simp only [List.set_cons_succ, List.set_cons_zero]
          refine ⟨_, rfl, _, rfl, al, rfl, ⟨_, n5.seq hal⟩, fun D6 hD6 => strs_it (walk_list (K := K) (xs := xl)) (out := (wd.lo.map (wL wd.ps)).map rowW) (by rw [List.length_map, List.length_map, lL]) (by rw [List.length_map, List.length_map]; omega) hD6 (fun H' kb => (KB.seq' hD6 kb).seq (n5.seq hal)) ?_ ?_⟩
          · rintro i v H' C B hv kb k
            obtain ⟨d, hd1, hd2⟩ := dpAll_get dal hv
            obtain ⟨p, hp, rfl⟩ := get_map hd1
            obtain ⟨t, y1, y2, y3, rfl, ht, r1, r2, r3⟩ := dp_three hd2
            obtain rfl := dp_int r1
            obtain rfl := dp_int r2
            obtain rfl := dp_int r3
            obtain ⟨a, c, h, rfl, ha, hc, _, h0, h1⟩ := longs_in ok (List.mem_of_getElem? hp)
            have wa1 := (nameAt_wrd ok ha).1
            have wc1 := (nameAt_wrd ok hc).1
            have a2 := (wrd_side h).1
            have sD := KB.same hD6 kb
            have nth : ∀ {i : Nat}, i < wd.ps.length → atI (((wd.ps.map (·.1)).map V.str)) (i : Int) = some (.str (nameAt wd.ps i)) := fun {i} hi => by
              refine atI_nat ?_
              rw [List.getElem?_map, List.getElem?_map, nameAt_at (List.getElem?_eq_getElem hi), List.getElem?_eq_getElem hi]
              rfl
            refine ⟨t, _, rfl, (KB.seq' hD6 kb).seqT (n5.seqT ht), rfl, _, _, rfl, _, _, rfl, _, _, rfl, rfl, wipe3 (by simp) (by simp) (by simp), lcY ?_⟩
            refine ⟨⟨_, rfl⟩, _, rfl, _, rfl, D, _, a, _, rfl, rfl, SqL.of (sD _ _ eN5), nth ha, _, rfl, _, rfl, D, _, c, _, rfl, rfl, SqL.of (sD _ _ eN5), nth hc, two_line, fun q hq => ?_⟩
            refine ⟨_, rfl, q, _, h, _, rfl, rfl, SqL.of upd_same, side_at h0 h1, fit (by simp), fun q2 hq2 => ?_⟩
            refine ⟨_, q2, wL wd.ps (a, c, h), rfl, rfl, .inl (SqL.of upd_same), ?_, k _ _ ?_ ((same_alloc hq).trans (same_alloc hq2))⟩
            · have e4 : (Str.ofString "long").length = 4 := by decide +kernel
              simp only [wL, List.map_cons, List.map_nil, List.sum_cons, List.sum_nil, List.length_cons, List.length_nil, e4, len_blank]
              omega
            · rw [List.getElem?_map, List.getElem?_map, hp]
              rfl
          · intro H7 kb eL
            have s7 := s5.trans (KB.same hD6 kb)
            have e7 := KB.same hD6 kb _ _ eT
            refine ⟨_, _, _, _, rfl, rfl, e7, eL, fit (by simp only [List.length_map, List.length_append]; omega), fun t ht => k t _ (s7.trans (same_alloc ht)) ?_⟩
            rw [upd_same]
            unfold rowsT rowsW
            simp only [List.map_append]
end
end K7

set_option maxRecDepth 100000
set_option maxHeartbeats 400000
namespace K7
open PySem PySem.Spec PyProof.Rows L2 GxR Gd TL My
/-- a tuple of texts that stands in the program -/
def Cst (K : PySem.W.Frag) (a : Addr) (zs : List Str) : Prop := (∀ H : Hp, SqT K H a (zs.map V.str)) ∧ ∃ o, K.lookup a = some o ∧ o.cls = .type "tuple" ∧ o.dict = none
def sides : List Str := [Str.ofString "low", Str.ofString "high"]
def sorts : List Str := [Str.ofString "place", Str.ofString "stretch", Str.ofString "long"]
/-- an f-string -/
def tFs (ts : List TE) : TE := fun σ H Q => tJs ts Str.empty σ H fun out H1 => Q (.str out) H1
theorem pe_fs {X : Cx} {v1 v2 : Expr} {rest : List Expr} {ts : List TE} {pos : Pos} (h : PJ X (v1 :: v2 :: rest) ts) : PE X (.JoinedStr (v1 :: v2 :: rest) pos) (tFs ts) := pe_joined h
theorem len_empty : Str.empty.length = 0 := rfl
theorem kb_put {D : Addr} {H H' : Hp} {o : HO} (k : KB D H H') : KB D H (upd H' D o) := fun c u n h => by rw [upd_ne n]; exact k c u n h
theorem KB.of {D : Addr} {H H' : Hp} (s : Same H H') : KB D H H' := fun c o _ h => s c o h
section
variable {P : Program} {w : World} {K : PySem.W.Frag} {mg : Str → Option Value} {base : Heap} {aSIDES aSORTS : Addr}
def spShow (K : PySem.W.Frag) (C : Addr) : Sp := fun vs H Q _ => ∃ (x : Addr) (wd : Wd), vs = [.ref x] ∧ LineAt K C wd H x ∧ wd.Ok ∧ ∀ H', Same H H' → Q (.str (textT wd)) H'
theorem ok_show_line {f f1 C : Addr} {fd fd1 : FuncData} (F : Fun K "show_line" "show_line" s_show_line f fd) (T : Txt mg) (TC : ClsT K C) (gSIDES : mg "SIDES" = some (.ref aSIDES)) (cSIDES : Cst K aSIDES sides)
    (Mtold : Mt K C "told" "Line.told" s_told ["self"] f1 fd1) (Gtold : FnOk P w K mg base CX0 1 f1 fd1 ["self"] (spTold K C)) :
    FnOk P w K mg base CX0 2 f fd ["line"] (spShow K C) := by
  refine F.ok sc_show_line (fun vs H Q E h => ?_) (fun cdv A outer s H vs Q E hr h => ?_)
  · obtain ⟨x, wd, rfl, _⟩ := h
    rfl
  · obtain ⟨x, wd, rfl, hL, ok, k⟩ := h
    have p6 := ok.p6
    have sl := ok.sl
    have ll := ok.ll
    refine ⟨_, pss_cons (ps_asg (pe_meth0 (pv 0) TC.cl Mtold.m Gtold (hr.mono (by decide)) Mtold.b .nil pass0) (pg_tup (by rfl) (pgs_cons (pg_name (i := 1) sc_show_line.nd rfl (Or.inr rfl)) (pgs_cons (pg_name (i := 2) sc_show_line.nd rfl (Or.inl rfl)) (pgs_cons (pg_name (i := 3) sc_show_line.nd rfl (Or.inl rfl)) pgs_nil)))))
      (pss_cons (ps_setLc (i := 4) (own := [("name", 5), ("roads", 6)]) (g := gTup K 2 (gCons (gName 5) (gCons (gName 6) gNil))) (tt := tYes) rfl sc_show_line.nd rfl rfl (sw_true rfl rfl rfl (by decide +kernel)) (pi_tup (pv 1)) (blkOk_by (own := [("name", 5), ("roads", 6)]) (N := ["line", "places", "stretches", "longs", "rows", "name", "roads", "kind", "home", "first", "last"]) (sc := defScope s_show_line) (by decide +kernel)) (fun _ _ _ _ _ => (pg_tup (by rfl) (pgs_cons (pg_name (i := 5) sc_show_line.nd rfl (Or.inl rfl)) (pgs_cons (pg_name (i := 6) sc_show_line.nd rfl (Or.inl rfl)) pgs_nil)))) (fun _ _ _ _ _ => pts_nil) (fun _ _ _ _ _ => (pe_fs (.cons pe_str (.cons (pe_fmt (pv 5)) (.cons pe_str (.cons (pe_fmt (pv 6)) .nil)))))))
      (pss_cons (ps_aug (i := 4) sc_show_line.nd rfl (Or.inl rfl) (pe_lc (own := [("kind", 7), ("home", 8)]) (g := gTup K 2 (gCons (gName 7) (gCons (gName 8) gNil))) (tt := tYes) rfl sc_show_line.nd (pi_tup (pv 2)) (blkOk_by (own := [("kind", 7), ("home", 8)]) (N := ["line", "places", "stretches", "longs", "rows", "name", "roads", "kind", "home", "first", "last"]) (sc := defScope s_show_line) (by decide +kernel)) (fun _ _ _ _ _ => (pg_tup (by rfl) (pgs_cons (pg_name (i := 7) sc_show_line.nd rfl (Or.inl rfl)) (pgs_cons (pg_name (i := 8) sc_show_line.nd rfl (Or.inl rfl)) pgs_nil)))) (fun _ _ _ _ _ => pts_nil) (fun _ _ _ _ _ => (pe_fs (.cons pe_str (.cons (pe_fmt (pv 7)) (.cons pe_str (.cons (pe_fmt (pe_ix (ixT (K := K) rfl) (pe_glob (v := .ref aSIDES) (by rfl) gSIDES rfl) (pv 8) (fun _ _ => rfl))) .nil))))))) iop_ext)
      (pss_cons (ps_aug (i := 4) sc_show_line.nd rfl (Or.inl rfl) (pe_lc (own := [("first", 9), ("last", 10), ("home", 8)]) (g := gTup K 3 (gCons (gName 9) (gCons (gName 10) (gCons (gName 8) gNil)))) (tt := tYes) rfl sc_show_line.nd (pi_tup (pv 3)) (blkOk_by (own := [("first", 9), ("last", 10), ("home", 8)]) (N := ["line", "places", "stretches", "longs", "rows", "name", "roads", "kind", "home", "first", "last"]) (sc := defScope s_show_line) (by decide +kernel)) (fun _ _ _ _ _ => (pg_tup (by rfl) (pgs_cons (pg_name (i := 9) sc_show_line.nd rfl (Or.inl rfl)) (pgs_cons (pg_name (i := 10) sc_show_line.nd rfl (Or.inl rfl)) (pgs_cons (pg_name (i := 8) sc_show_line.nd rfl (Or.inl rfl)) pgs_nil))))) (fun _ _ _ _ _ => pts_nil) (fun _ _ _ _ _ => (pe_fs (.cons pe_str (.cons (pe_fmt (pe_ix (ixT (K := K) rfl) (pe_ix (ixT (K := K) rfl) (pv 1) (pv 9) (fun _ _ => rfl)) pe_int (fun _ _ => rfl))) (.cons pe_str (.cons (pe_fmt (pe_ix (ixT (K := K) rfl) (pe_ix (ixT (K := K) rfl) (pv 1) (pv 10) (fun _ _ => rfl)) pe_int (fun _ _ => rfl))) (.cons pe_str (.cons (pe_fmt (pe_ix (ixT (K := K) rfl) (pe_glob (v := .ref aSIDES) (by rfl) gSIDES rfl) (pv 8) (fun _ _ => rfl))) .nil))))))))) iop_ext)
      (pss_one (ps_ret (pe_join pe_str (pv 4))))))), ?_⟩
    generalize hσ : L2.start _ _ = σ0
    obtain rfl : σ0 = [some (.ref x), none, none, none, none, none, none, none, none, none, none] := hσ.symm.trans rfl
    obtain ⟨dx, p1, p2, p3, d, _, _, _, hx, _⟩ := id hL
    refine ⟨_, rfl, x, dx, _, rfl, hx, lf_no _ _ _ _ (by decide +kernel), x, wd, rfl, hL, fun t H1 s1 hD => ?_⟩
    obtain ⟨wa, vp, vs_, vl, e, hw, hp, hs, hl⟩ := dp_three hD
    obtain rfl := V.ref.inj e
    obtain ⟨ap, xp, rfl, hap, dap⟩ := dp_tuple hp
    obtain ⟨as_, xs, rfl, has, das⟩ := dp_tuple hs
    obtain ⟨al, xl, rfl, hal, dal⟩ := dp_tuple hl
    have lp : xp.length = wd.ps.length := by rw [dpAll_len dap, List.length_map]
    have ls : xs.length = wd.st.length := by rw [dpAll_len das, List.length_map]
    have lL : xl.length = wd.lo.length := by rw [dpAll_len dal, List.length_map]
    refine ⟨t, _, rfl, hw, rfl, _, _, rfl, _, _, rfl, _, _, rfl, rfl, ?_⟩
    simp only [List.set_cons_succ, List.set_cons_zero]
    refine ⟨_, rfl, ap, rfl, ⟨_, hap⟩, fun D hD => strs_it (walk_tup (K := K) (xs := xp)) (out := (wd.ps.map wP).map rowW) (by rw [List.length_map, List.length_map, lp]) (by rw [List.length_map, List.length_map]; omega) hD (fun H' kb => (KB.seq' hD kb).seqT hap) ?_ ?_⟩
    · rintro i v H' C B hv kb k
      obtain ⟨d, hd1, hd2⟩ := dpAll_get dap hv
      obtain ⟨p, hp, rfl⟩ := get_map hd1
      obtain ⟨t, y1, y2, rfl, ht, r1, r2⟩ := dp_two hd2
      obtain rfl := dp_str r1
      obtain rfl := dp_int r2
      obtain ⟨w1, w2, w3⟩ := ok.nm p (List.mem_of_getElem? hp)
      have a1 := (name_wrd w1).1
      have a2 := (wrd_num w2 w3).1
      refine ⟨t, _, rfl, (KB.seq' hD kb).seqT ht, rfl, _, _, rfl, _, _, rfl, rfl, wipe2 (by simp) (by simp), lcY ?_⟩
      have a3 : (Str.ofString (toString p.2)).length ≤ 8 := a2
      refine ⟨_, rfl, fit (by simp only [length_app, len_place, len_stretch, len_long, len_blank, len_empty]; omega), _, rfl, .inl ⟨_, rfl, fit (by omega), _, rfl, fit (by simp only [length_app, len_place, len_stretch, len_long, len_blank, len_empty]; omega), _, rfl, fit (by simp only [length_app, len_place, len_stretch, len_long, len_blank, len_empty]; omega), _, rfl, .inr ⟨_, rfl, log_small w2 w3, _, rfl, fit (by simp only [length_app, len_place, len_stretch, len_long, len_blank, len_empty]; omega), k _ _ ?_ (Same.refl _)⟩⟩⟩
      rw [List.getElem?_map, List.getElem?_map, hp, empty_app]
      exact congrArg some (rowP_cat p).symm
    · intro H2 kb2 eR
      have s2 := KB.same hD kb2
      have n2 := same_nt s2
      simp only [List.set_cons_succ, List.set_cons_zero]
      refine ⟨_, rfl, _, rfl, as_, rfl, ⟨_, n2.seqT has⟩, fun D2 hD2 => strs_it (walk_tup (K := K) (xs := xs)) (out := (wd.st.map wS).map rowW) (by rw [List.length_map, List.length_map, ls]) (by rw [List.length_map, List.length_map]; omega) hD2 (fun H' kb => (KB.seq' hD2 kb).seqT (n2.seqT has)) ?_ ?_⟩
      · rintro i v H' C B hv kb k
        obtain ⟨d, hd1, hd2⟩ := dpAll_get das hv
        obtain ⟨p, hp, rfl⟩ := get_map hd1
        obtain ⟨t, y1, y2, rfl, ht, r1, r2⟩ := dp_two hd2
        obtain rfl := dp_str r1
        obtain rfl := dp_int r2
        obtain ⟨w1, w2, w3⟩ := ok.st p (List.mem_of_getElem? hp)
        have a1 := (wrd_kind w1).1
        have a2 := (wrd_side p.2).1
        refine ⟨t, _, rfl, (KB.seq' hD2 kb).seqT (n2.seqT ht), rfl, _, _, rfl, _, _, rfl, rfl, wipe2 (by simp) (by simp), lcY ?_⟩
        refine ⟨_, rfl, fit (by simp only [length_app, len_place, len_stretch, len_long, len_blank, len_empty]; omega), _, rfl, .inl ⟨_, rfl, fit (by omega), _, rfl, fit (by simp only [length_app, len_place, len_stretch, len_long, len_blank, len_empty]; omega), _, rfl, fit (by simp only [length_app, len_place, len_stretch, len_long, len_blank, len_empty]; omega), _, rfl, aSIDES, _, p.2, _, rfl, rfl, cSIDES.1 _, side_at w2 w3, .inl ⟨_, rfl, fit (by omega), _, rfl, fit (by simp only [length_app, len_place, len_stretch, len_long, len_blank, len_empty]; omega), k _ _ ?_ (Same.refl _)⟩⟩⟩
        rw [List.getElem?_map, List.getElem?_map, hp, empty_app]
        exact congrArg some (rowS_cat p).symm
      · intro H3 kb3 eS
        have eR3 := KB.same hD2 kb3 _ _ eR
        refine ⟨_, _, _, _, rfl, rfl, eR3, eS, fit (by simp only [List.length_map]; omega), ?_⟩
        rw [← List.map_append]
        have k4 : KB D H1 (upd H3 D (.lst (((wd.ps.map wP).map rowW ++ (wd.st.map wS).map rowW).map V.str))) := kb_put (kb2.trans (KB.of (KB.same hD2 kb3)))
        have eT : (upd H3 D (.lst (((wd.ps.map wP).map rowW ++ (wd.st.map wS).map rowW).map V.str))) D = _ := upd_same
        generalize upd H3 D (.lst (((wd.ps.map wP).map rowW ++ (wd.st.map wS).map rowW).map V.str)) = H4 at k4 eT ⊢
        clear kb2 kb3 s2 n2 eR eR3 eS
        have s4 := KB.same hD k4
        have n4 := same_nt s4
        simp only [List.set_cons_succ, List.set_cons_zero]
        refine ⟨_, rfl, _, rfl, al, rfl, ⟨_, n4.seqT hal⟩, fun D6 hD6 => strs_it (walk_tup (K := K) (xs := xl)) (out := (wd.lo.map (wL wd.ps)).map rowW) (by rw [List.length_map, List.length_map, lL]) (by rw [List.length_map, List.length_map]; omega) hD6 (fun H' kb => (KB.seq' hD6 kb).seqT (n4.seqT hal)) ?_ ?_⟩
        · rintro i v H' C B hv kb k
          obtain ⟨d, hd1, hd2⟩ := dpAll_get dal hv
          obtain ⟨p, hp, rfl⟩ := get_map hd1
          obtain ⟨t, y1, y2, y3, rfl, ht, r1, r2, r3⟩ := dp_three hd2
          obtain rfl := dp_int r1
          obtain rfl := dp_int r2
          obtain rfl := dp_int r3
          obtain ⟨a, c, h, rfl, ha, hc, _, h0, h1⟩ := longs_in ok (List.mem_of_getElem? hp)
          have wa1 := (nameAt_wrd ok ha).1
          have wc1 := (nameAt_wrd ok hc).1
          have a2 := (wrd_side h).1
          have n5 : Nt H1 H' := n4.trans (same_nt (KB.same hD6 kb))
          obtain ⟨pa, epa⟩ : ∃ p, wd.ps[a]? = some p := ⟨_, List.getElem?_eq_getElem ha⟩
          obtain ⟨pc, epc⟩ : ∃ p, wd.ps[c]? = some p := ⟨_, List.getElem?_eq_getElem hc⟩
          obtain ⟨ta, b1, b2⟩ := pair_at dap epa
          obtain ⟨tc, c1, c2⟩ := pair_at dap epc
          rw [nameAt_at epa] at wa1
          rw [nameAt_at epc] at wc1
          refine ⟨t, _, rfl, (KB.seq' hD6 kb).seqT (n4.seqT ht), rfl, _, _, rfl, _, _, rfl, _, _, rfl, rfl, wipe3 (by simp) (by simp) (by simp), lcY ?_⟩
          have w9 : pa.1.length ≤ 1000 := by omega
          refine ⟨_, rfl, fit (by simp only [length_app, len_place, len_stretch, len_long, len_blank, len_empty]; omega), _, rfl, _, rfl, ap, _, (a : Int), _, rfl, rfl, n5.seqT hap, atI_nat b1, ta, _, 0, _, rfl, rfl, n5.seqT b2, rfl, .inl ⟨_, rfl, fit (by omega), _, rfl, fit (by simp only [length_app, len_place, len_stretch, len_long, len_blank, len_empty]; omega), _, rfl, fit (by simp only [length_app, len_place, len_stretch, len_long, len_blank, len_empty]; omega), _, rfl, _, rfl, ap, _, (c : Int), _, rfl, rfl, n5.seqT hap, atI_nat c1, tc, _, 0, _, rfl, rfl, n5.seqT c2, rfl, .inl ⟨_, rfl, fit (by omega), _, rfl, fit (by simp only [length_app, len_place, len_stretch, len_long, len_blank, len_empty]; omega), _, rfl, fit (by simp only [length_app, len_place, len_stretch, len_long, len_blank, len_empty]; omega), ?_⟩⟩⟩
          refine ⟨_, rfl, aSIDES, _, h, _, rfl, rfl, cSIDES.1 _, side_at h0 h1, .inl ⟨_, rfl, fit (by omega), _, rfl, fit (by simp only [length_app, len_place, len_stretch, len_long, len_blank, len_empty]; omega), k _ _ ?_ (Same.refl _)⟩⟩
          rw [List.getElem?_map, List.getElem?_map, hp, empty_app]
          have z := rowL_cat wd.ps ((a : Int), (c : Int), h)
          rw [nameAt_at epa, nameAt_at epc] at z
          exact congrArg some z.symm
        · intro H7 kb eL
          have e7 := KB.same hD6 kb _ _ eT
          refine ⟨_, _, _, _, rfl, rfl, e7, eL, fit (by simp only [List.length_map, List.length_append]; omega), ?_⟩
          have k8 : KB D H1 (upd H7 D (.lst (((wd.ps.map wP).map rowW ++ (wd.st.map wS).map rowW).map V.str ++ ((wd.lo.map (wL wd.ps)).map rowW).map V.str))) := kb_put (k4.trans (KB.of (KB.same hD6 kb)))
          have e8 : (upd H7 D (.lst (((wd.ps.map wP).map rowW ++ (wd.st.map wS).map rowW).map V.str ++ ((wd.lo.map (wL wd.ps)).map rowW).map V.str))) D = some (.lst ((rowsT wd).map V.str)) := by
            rw [upd_same]
            unfold rowsT rowsW
            simp only [List.map_append]
          generalize upd H7 D (.lst (((wd.ps.map wP).map rowW ++ (wd.st.map wS).map rowW).map V.str ++ ((wd.lo.map (wL wd.ps)).map rowW).map V.str)) = H8 at k8 e8 ⊢
          simp only [List.set_cons_succ, List.set_cons_zero]
          exact ⟨⟨_, rfl⟩, _, rfl, _, D, rowsT wd, rfl, rfl, .inl (SqL.of e8), rows_fit ok, k _ (s1.trans (KB.same hD k8))⟩
end
end K7

set_option maxRecDepth 100000
set_option maxHeartbeats 400000
namespace K7
open PySem PySem.Spec PyProof.Rows L2 GxR Gd TL My
/-- the words of a row of the sort j -/
def Frm (j : Nat) (l : List Str) : Prop :=
  (j = 0 ∧ ∃ p : Str × Int, l = wP p ∧ NameOk p.1 ∧ 1 ≤ p.2 ∧ p.2 ≤ 3) ∨ (j = 1 ∧ ∃ p : Str × Int, l = wS p ∧ (p.1 = "staff" ∨ p.1 = "ticket") ∧ 0 ≤ p.2 ∧ p.2 ≤ 1) ∨
    (j = 2 ∧ ∃ (a c : Str) (h : Int), l = [Str.ofString "long", a, c, sideS h] ∧ NameOk a ∧ NameOk c ∧ 0 ≤ h ∧ h ≤ 1)
theorem side_in {h : Int} : inV (.str (sideS h)) (sides.map V.str) = true := by
  unfold sideS
  split <;> decide +kernel
theorem num_dig {r : Int} (h1 : 1 ≤ r) (h3 : r ≤ 3) : (numS r).length = 1 ∧ (!decide ((numS r).cps.toList < (Str.ofString "0").cps.toList)) = true ∧ (!decide ((Str.ofString "9").cps.toList < (numS r).cps.toList)) = true ∧ intText? (numS r) = some r := by
  have : r = 1 ∨ r = 2 ∨ r = 3 := by omega
  rcases this with rfl | rfl | rfl <;> decide +kernel
/-- a call of a local name that holds one of three defs -/
def tCall3 (i : Nat) (f : Fin 3 → Addr) (sp : Fin 3 → Sp) (t : TA) : TE := fun σ H Q => ∃ j, σ[i]? = some (some (.ref (f j))) ∧ t σ H fun vs H1 => sp j vs H1 Q (fun _ _ _ => False)
theorem pe_call3 {X : Cx} {k i : Nat} {x : Str} {p pos : Pos} {e : Expr} {es : List Expr} {t : TA} {f : Fin 3 → Addr} {sp : Fin 3 → Sp} (A : ∀ j, Held X.prog X.w X.K X.mg X.base k (f j) (sp j)) (hr : Room k X.A) (hN : X.N[i]? = some x) (hv : Vis X.env.scope x) (ha : PA X (e :: es) t)
    (hdb : (x == ("__debug__" : Str)) = false := by decide) (hcd : (x == ("__classdict__" : Str)) = false := by decide)
    (he : starEach (e :: es) X.env = (false, eval e X.env) :: starEach es X.env := by rfl) (hpl : (backTo pos (starEach es X.env)).any (·.1) = false := by rfl) : PE X (.Call (.Name x p) (e :: es) [] pos) (tCall3 i f sp t) := by
  refine ⟨fun pins s σ H Q I h => ?_⟩
  obtain ⟨j, hs, ht⟩ := h
  refine (pe_callA (S := fun g => if g = f j then some (sp j) else none) (fun g sp' h => ?_) hr hN hv ha hdb hcd he hpl).run pins s σ H Q I ⟨f j, sp j, hs, if_pos rfl, ht⟩
  by_cases e : g = f j
  · subst e
    rw [if_pos rfl] at h
    obtain rfl := Option.some.inj h
    exact A j
  · rw [if_neg e] at h
    cases h
theorem fit2 {n : Nat} (h : n ≤ 1000000) : n ≤ sizeLine := small_line h
theorem len_ne {z : Str} (h : z ≠ Str.empty) : z.length ≠ 0 := fun e => h (tl_inj1 (by
  have : (tl z).length = 0 := by rw [tl_len]; exact e
  rw [List.length_eq_zero_iff.mp this]
  rfl))
theorem nm_yes {z : Str} (h : NameOk z) : nm (.str z) = true := by
  obtain ⟨h1, h2, h3⟩ := h
  simp [nm, h1, h2, h3]
theorem name_th {H : Hp} {z : Str} (h : NameOk z) : Th H (.str z) := .str z (by have := h.2.1; omega) h.good
section
variable {P : Program} {w : World} {K : PySem.W.Frag} {mg : Str → Option Value} {base : Heap} {aSIDES aSORTS : Addr}
abbrev s_rows_of : Stmt := top 19
theorem sc_rows_of : FnScope ["text"] ["text"] (defScope s_rows_of) := ⟨rfl, rfl, rfl, by decide +kernel, rfl, by decide +kernel, by decide +kernel⟩
abbrev s_is_place : Stmt := top 36
theorem sc_is_place : FnScope ["words"] ["words"] (defScope s_is_place) := ⟨rfl, rfl, rfl, by decide +kernel, rfl, by decide +kernel, by decide +kernel⟩
abbrev s_is_stretch_linetext : Stmt := top 37
theorem sc_is_stretch_linetext : FnScope ["words"] ["words"] (defScope s_is_stretch_linetext) := ⟨rfl, rfl, rfl, by decide +kernel, rfl, by decide +kernel, by decide +kernel⟩
abbrev s_is_long_linetext : Stmt := top 39
theorem sc_is_long_linetext : FnScope ["words"] ["words"] (defScope s_is_long_linetext) := ⟨rfl, rfl, rfl, by decide +kernel, rfl, by decide +kernel, by decide +kernel⟩
abbrev s_line_sort : Stmt := top 35
theorem sc_line_sort : FnScope ["row", "words", "sort", "forms", "has_form"] ["row"] (defScope s_line_sort) := ⟨rfl, rfl, rfl, by decide +kernel, rfl, by decide +kernel, by decide +kernel⟩
def spRowsOf : Sp := fun vs H Q _ => ∃ (z : Str), vs = [.str z] ∧ z ≠ Str.empty ∧ z.length ≤ 1000 ∧ ∀ p, H p = none → Q (.ref p) (upd H p (.lst ((PySem.Txt.split z (Str.ofString "\n")).map V.str)))
theorem ok_rows_of {f : Addr} {fd : FuncData} (F : Fun K "rows_of" "rows_of" s_rows_of f fd) (T : Txt mg) : FnOk P w K mg base CX0 1 f fd ["text"] spRowsOf := by
  refine F.ok sc_rows_of (fun vs H Q E h => ?_) (fun cdv A outer s H vs Q E hr h => ?_)
  · obtain ⟨z, rfl, _⟩ := h
    rfl
  · obtain ⟨z, rfl, ne, zl, k⟩ := h
    refine ⟨_, pss_cons (ps_if (pt_not (pt_val (pe_callB call_isi (by rfl) T.isinstance_ (by decide +kernel) (pa_cons (pv 0) (pa_cons (pe_bltn (v := .ty "str") (by rfl) T.str_ (by decide +kernel) rfl) pa_nil))))) (pss_one ps_never) pss_nil)
      (pss_one (ps_ret (pe_ifExp (pt_truth (pv 0) (fun _ => rfl)) (pe_split (pv 0) pe_str) (pe_lst pa_nil)))), ?_⟩
    refine ⟨_, rfl, _, _, _, _, true, rfl, .ty "str", .base (.str _), (by rfl), _, rfl, iteF ?_⟩
    refine ⟨_, rfl, true, ⟨fit zl, ?_⟩, iteT ⟨_, rfl, ⟨_, rfl⟩, z, _, rfl, rfl, by decide +kernel, fit2 (by omega), k⟩⟩
    have := len_ne ne
    simp; omega
def spForm (K : PySem.W.Frag) (Pt : Addr) (j : Nat) : Sp := fun vs H Q _ => ∃ (a : Addr) (l : List Str), vs = [.ref a] ∧ SqL K H a (l.map V.str) ∧ Frm j l ∧ TabG H Pt ∧ ∀ H', KT Pt H H' → Q (.bl true) H'
theorem ok_is_place {f f1 Pt : Addr} {fd fd1 : FuncData} (F : Fun K "_is_place" "_is_place" s_is_place f fd) (T : Txt mg)
    (Nis_name : Fn K mg "is_name" sName ["thing"] f1 fd1) (Gis_name : FnOk P w K mg base CX0 2 f1 fd1 ["thing"] (spName Pt)) :
    FnOk P w K mg base CX0 3 f fd ["words"] (spForm K Pt 0) := by
  refine F.ok sc_is_place (fun vs H Q E h => ?_) (fun cdv A outer s H vs Q E hr h => ?_)
  · obtain ⟨a, l, rfl, _⟩ := h
    rfl
  · obtain ⟨a, l, rfl, hl, hf, tb, k⟩ := h
    rcases hf with ⟨_, p, rfl, n1, n2, n3⟩ | ⟨h, _⟩ | ⟨h, _⟩
    · skip
      refine ⟨_, pss_one (ps_ret (pe_and (pe_cmpR op_eq (pe_callB call_len_seq (by rfl) T.len_ PySem.boot_len (pa_cons (pv 0) pa_nil)) pe_int (nomark _)) (pe_and (pe_call Gis_name (hr.mono (by decide)) (by rfl) Nis_name.g Nis_name.kp Nis_name.b .nil pass0 (pa_cons (pe_ix ix_list (pv 0) pe_int (fun _ _ => rfl)) pa_nil)) (pe_and (pe_cmpR op_eq (pe_callB call_len_str (by rfl) T.len_ PySem.boot_len (pa_cons (pe_ix ix_list (pv 0) pe_int (fun _ _ => rfl)) pa_nil)) pe_int (nomark _)) (pe_one (pe_chain op_le_str op_le_str pe_str (pe_ix ix_list (pv 0) pe_int (fun _ _ => rfl)) pe_str)))))), ?_⟩
      obtain ⟨d1, d2, d3, _⟩ := num_dig n2 n3
      refine ⟨_, rfl, a, _, rfl, .inl hl, rfl, _, rfl, iteT ?_⟩
      refine ⟨_, rfl, a, _, 1, _, rfl, rfl, hl, rfl, _, rfl, name_th n1, tb, fun H1 k1 => ?_⟩
      have hl1 := seq_kt tb k1 hl
      refine ⟨true, by rw [nm_yes n1], iteT ⟨_, rfl, a, _, 2, _, rfl, rfl, hl1, rfl, _, rfl, fit (by rw [d1]; omega), rfl, true, by rw [d1]; rfl, iteT ?_⟩⟩
      refine ⟨_, rfl, a, _, 2, _, rfl, rfl, hl1, rfl, _, _, rfl, rfl, true, by rw [d2], iteT ⟨_, _, rfl, rfl, ?_⟩⟩
      rw [d3]
      exact k H1 k1
    · cases h
    · cases h
theorem ok_is_stretch_linetext {f Pt : Addr} {fd : FuncData} (F : Fun K "_is_stretch" "_is_stretch" s_is_stretch_linetext f fd) (T : Txt mg) (gSIDES : mg "SIDES" = some (.ref aSIDES)) (cSIDES : Cst K aSIDES sides) :
    FnOk P w K mg base CX0 3 f fd ["words"] (spForm K Pt 1) := by
  refine F.ok sc_is_stretch_linetext (fun vs H Q E h => ?_) (fun cdv A outer s H vs Q E hr h => ?_)
  · obtain ⟨a, l, rfl, _⟩ := h
    rfl
  · obtain ⟨a, l, rfl, hl, hf, tb, k⟩ := h
    rcases hf with ⟨h, _⟩ | ⟨_, p, rfl, n1, n2, n3⟩ | ⟨h, _⟩
    · cases h
    · skip
      refine ⟨_, pss_one (ps_ret (pe_and (pe_cmpR op_eq (pe_callB call_len_seq (by rfl) T.len_ PySem.boot_len (pa_cons (pv 0) pa_nil)) pe_int (nomark _)) (pe_and (pe_cmpR op_in_seq (pe_ix ix_list (pv 0) pe_int (fun _ _ => rfl)) (pe_tup (pa_cons pe_str (pa_cons pe_str pa_nil))) rfl) (pe_one (pe_cmpR op_in_seq (pe_ix ix_list (pv 0) pe_int (fun _ _ => rfl)) (pe_glob (v := .ref aSIDES) (by rfl) gSIDES rfl) rfl))))), ?_⟩
      refine ⟨_, rfl, a, _, rfl, .inl hl, rfl, _, rfl, iteT ?_⟩
      refine ⟨_, rfl, a, _, 1, _, rfl, rfl, hl, rfl, two_line, fun u hu => ?_⟩
      have e := same_alloc (o := .tup [.str "staff", .str "ticket"]) hu
      refine ⟨u, _, rfl, .inr (SqT.of upd_same), rfl, rfl, true, ?_, iteT ?_⟩
      · have ei : inV (.str p.1) [.str "staff", .str "ticket"] = true := by
          rcases n1 with h | h <;> (rw [h]; decide +kernel)
        exact congrArg V.bl ei
      · refine ⟨_, rfl, a, _, 2, _, rfl, rfl, (same_nt e).seq hl, rfl, aSIDES, _, rfl, .inr (cSIDES.1 _), rfl, rfl, ?_⟩
        rw [if_neg (by decide), side_in]
        exact k _ (same_kt tb e)
    · cases h
theorem ok_is_long_linetext {f f1 Pt : Addr} {fd fd1 : FuncData} (F : Fun K "_is_long" "_is_long" s_is_long_linetext f fd) (T : Txt mg) (gSIDES : mg "SIDES" = some (.ref aSIDES)) (cSIDES : Cst K aSIDES sides)
    (Nis_name : Fn K mg "is_name" sName ["thing"] f1 fd1) (Gis_name : FnOk P w K mg base CX0 2 f1 fd1 ["thing"] (spName Pt)) :
    FnOk P w K mg base CX0 3 f fd ["words"] (spForm K Pt 2) := by
  refine F.ok sc_is_long_linetext (fun vs H Q E h => ?_) (fun cdv A outer s H vs Q E hr h => ?_)
  · obtain ⟨a, l, rfl, _⟩ := h
    rfl
  · obtain ⟨a, l, rfl, hl, hf, tb, k⟩ := h
    rcases hf with ⟨h, _⟩ | ⟨h, _⟩ | ⟨_, na, nc, h, rfl, n1, n2, h0, h1⟩
    · cases h
    · cases h
    · skip
      refine ⟨_, pss_one (ps_ret (pe_and (pe_cmpR op_eq (pe_callB call_len_seq (by rfl) T.len_ PySem.boot_len (pa_cons (pv 0) pa_nil)) pe_int (nomark _)) (pe_and (pe_call Gis_name (hr.mono (by decide)) (by rfl) Nis_name.g Nis_name.kp Nis_name.b .nil pass0 (pa_cons (pe_ix ix_list (pv 0) pe_int (fun _ _ => rfl)) pa_nil)) (pe_and (pe_call Gis_name (hr.mono (by decide)) (by rfl) Nis_name.g Nis_name.kp Nis_name.b .nil pass0 (pa_cons (pe_ix ix_list (pv 0) pe_int (fun _ _ => rfl)) pa_nil)) (pe_one (pe_cmpR op_in_seq (pe_ix ix_list (pv 0) pe_int (fun _ _ => rfl)) (pe_glob (v := .ref aSIDES) (by rfl) gSIDES rfl) rfl)))))), ?_⟩
      refine ⟨_, rfl, a, _, rfl, .inl hl, rfl, _, rfl, iteT ?_⟩
      refine ⟨_, rfl, a, _, 1, _, rfl, rfl, hl, rfl, _, rfl, name_th n1, tb, fun H1 k1 => ?_⟩
      have hl1 := seq_kt tb k1 hl
      refine ⟨true, by rw [nm_yes n1], iteT ⟨_, rfl, a, _, 2, _, rfl, rfl, hl1, rfl, _, rfl, name_th n2, k1.tab, fun H2 k2 => ?_⟩⟩
      have hl2 := seq_kt k1.tab k2 hl1
      refine ⟨true, by rw [nm_yes n2], iteT ⟨_, rfl, a, _, 3, _, rfl, rfl, hl2, rfl, aSIDES, _, rfl, .inr (cSIDES.1 _), rfl, rfl, ?_⟩⟩
      rw [if_neg (by decide), side_in]
      exact k _ (k1.trans k2)
end
end K7

set_option maxRecDepth 100000
set_option maxHeartbeats 400000
namespace K7
open PySem PySem.Spec PyProof.Rows L2 GxR Gd TL My
theorem Frm.lt {j : Nat} {l : List Str} (h : Frm j l) : j < 3 := by
  rcases h with ⟨rfl, _⟩ | ⟨rfl, _⟩ | ⟨rfl, _⟩ <;> decide
theorem Frm.head {j : Nat} {l : List Str} (h : Frm j l) : ∃ r, l = (sorts[j]?).getD Str.empty :: r ∧ r.length ≤ 3 := by
  rcases h with ⟨rfl, p, rfl, _⟩ | ⟨rfl, p, rfl, _⟩ | ⟨rfl, a, c, h, rfl, _⟩ <;> exact ⟨_, rfl, by simp⟩
theorem Frm.wrd {j : Nat} {l : List Str} (h : Frm j l) : ∀ z ∈ l, Wrd z := by
  obtain ⟨l1, l2, l3⟩ := wrd_lit
  rcases h with ⟨rfl, p, rfl, n1, n2, n3⟩ | ⟨rfl, p, rfl, n1, n2, n3⟩ | ⟨rfl, a, c, h, rfl, n1, n2, _⟩ <;> intro z hz
  · simp only [wP, List.mem_cons, List.not_mem_nil, or_false] at hz
    rcases hz with rfl | rfl | rfl
    · exact l1
    · exact name_wrd n1
    · exact wrd_num n2 n3
  · simp only [wS, List.mem_cons, List.not_mem_nil, or_false] at hz
    rcases hz with rfl | rfl | rfl
    · exact l2
    · exact wrd_kind n1
    · exact wrd_side _
  · simp only [List.mem_cons, List.not_mem_nil, or_false] at hz
    rcases hz with rfl | rfl | rfl | rfl
    · exact l3
    · exact name_wrd n1
    · exact name_wrd n2
    · exact wrd_side _
theorem sort_facts {j : Nat} (h : j < 3) : inV (.str ((sorts[j]?).getD Str.empty)) (sorts.map V.str) = true ∧ sorts[j]? = some ((sorts[j]?).getD Str.empty) ∧ ∀ m, m < j → sorts[m]? ≠ some ((sorts[j]?).getD Str.empty) := by
  have : j = 0 ∨ j = 1 ∨ j = 2 := by omega
  rcases this with rfl | rfl | rfl <;> decide +kernel
section
variable {P : Program} {w : World} {K : PySem.W.Frag} {mg : Str → Option Value} {base : Heap} {aSIDES aSORTS : Addr}
def pick3 {α : Type} (a b c : α) : Fin 3 → α
  | 0 => a
  | 1 => b
  | 2 => c
def spSort (K : PySem.W.Frag) (Pt : Addr) : Sp := fun vs H Q _ => ∃ (l : List Str) (j : Nat), vs = [.str (rowW l)] ∧ Frm j l ∧ TabG H Pt ∧ ∀ H', KT Pt H H' → Q (.int (j : Nat)) H'
theorem ok_line_sort {f f1 f2 f3 Pt : Addr} {fd fd1 fd2 fd3 : FuncData} (F : Fun K "line_sort" "line_sort" s_line_sort f fd) (T : Txt mg) (gSORTS : mg "SORTS" = some (.ref aSORTS)) (cSORTS : Cst K aSORTS sorts)
    (Nis_place : Fn K mg "_is_place" s_is_place ["words"] f1 fd1) (Gis_place : FnOk P w K mg base CX0 3 f1 fd1 ["words"] (spForm K Pt 0))
    (Nis_stretch_linetext : FnA K mg "is_stretch_linetext" "_is_stretch" s_is_stretch_linetext ["words"] f2 fd2) (Gis_stretch_linetext : FnOk P w K mg base CX0 3 f2 fd2 ["words"] (spForm K Pt 1))
    (Nis_long_linetext : FnA K mg "is_long_linetext" "_is_long" s_is_long_linetext ["words"] f3 fd3) (Gis_long_linetext : FnOk P w K mg base CX0 3 f3 fd3 ["words"] (spForm K Pt 2)) :
    FnOk P w K mg base CX0 4 f fd ["row"] (spSort K Pt) := by
  refine F.ok sc_line_sort (fun vs H Q E h => ?_) (fun cdv A outer s H vs Q E hr h => ?_)
  · obtain ⟨l, j, rfl, _⟩ := h
    rfl
  · obtain ⟨l, j, rfl, hf, tb, k⟩ := h
    have HA : ∀ j : Fin 3, Held P w K mg base 3 (pick3 f1 f2 f3 j) (pick3 (spForm K Pt 0) (spForm K Pt 1) (spForm K Pt 2) j) := fun j => match j with
      | 0 => ⟨_, _, Gis_place, Nis_place.kp, Nis_place.b⟩
      | 1 => ⟨_, _, Gis_stretch_linetext, Nis_stretch_linetext.kp, Nis_stretch_linetext.b⟩
      | 2 => ⟨_, _, Gis_long_linetext, Nis_long_linetext.kp, Nis_long_linetext.b⟩
    have j3 := hf.lt
    obtain ⟨r, hh, r3⟩ := hf.head
    have wl := hf.wrd
    obtain ⟨f1', f2', f3'⟩ := sort_facts j3
    refine ⟨_, pss_cons (ps_set (i := 1) sc_line_sort.nd rfl (Or.inl rfl) (pe_split (pv 0) pe_str))
      (pss_cons (ps_if (pt_cmpR op_notIn_seq (pe_ix ix_list (pv 1) pe_int (fun _ _ => rfl)) (pe_glob (v := .ref aSORTS) (by rfl) gSORTS rfl) rfl) (pss_one (ps_ret pe_non)) pss_nil)
      (pss_cons (ps_set (i := 2) sc_line_sort.nd rfl (Or.inl rfl) (pe_bm PySem.F.plainAttrs_tuple PySem.F.slot_tuple_index PySem.F.type_tuple_index mt_tup_index (pe_glob (v := .ref aSORTS) (by rfl) gSORTS rfl) (pa_cons (pe_ix ix_list (pv 1) pe_int (fun _ _ => rfl)) pa_nil)))
      (pss_cons (ps_set (i := 3) sc_line_sort.nd rfl (Or.inl rfl) (pe_tup (pa_cons (pe_glob (v := .ref _) (by rfl) Nis_place.g rfl) (pa_cons (pe_glob (v := .ref _) (by rfl) Nis_stretch_linetext.g rfl) (pa_cons (pe_glob (v := .ref _) (by rfl) Nis_long_linetext.g rfl) pa_nil)))))
      (pss_cons (ps_set (i := 4) sc_line_sort.nd rfl (Or.inl rfl) (pe_ix ix_tup (pv 3) (pv 2) (fun _ _ => rfl)))
      (pss_one (ps_ret (pe_ifExp (pt_val (pe_call3 HA (hr.mono (by decide)) (i := 4) rfl (.inl rfl) (pa_cons (pv 1) pa_nil))) (pv 2) pe_non))))))), ?_⟩
    generalize hσ : L2.start _ _ = σ0
    obtain rfl : σ0 = [some (.str (rowW l)), none, none, none, none] := hσ.symm.trans rfl
    have ne : l ≠ [] := by rw [hh]; simp
    have l4 : l.length ≤ 4 := by rw [hh, List.length_cons]; omega
    have rl := row_len l4 wl
    refine ⟨_, rfl, ⟨_, rfl⟩, _, _, rfl, rfl, by decide +kernel, fit2 (by omega), fun p hp => ?_⟩
    rw [row_split ne wl]
    have s1 : Same H (upd H p (.lst (l.map V.str))) := same_alloc hp
    have e1 : (upd H p (.lst (l.map V.str))) p = some (.lst (l.map V.str)) := upd_same
    generalize upd H p (.lst (l.map V.str)) = H1 at s1 e1 ⊢
    have a0 : atI (l.map V.str) 0 = some (.str ((sorts[j]?).getD Str.empty)) := by rw [hh]; exact atI_nat (j := 0) rfl
    simp only [List.set_cons_succ, List.set_cons_zero]
    refine ⟨_, rfl, p, _, 0, _, rfl, rfl, SqL.of e1, a0, aSORTS, _, rfl, .inr (cSORTS.1 _), rfl, rfl, false, ?_, iteF ?_⟩
    · rw [if_pos rfl, f1']
      rfl
    · refine ⟨.inr (.inl ⟨rfl, cSORTS.2⟩), _, rfl, p, _, 0, _, rfl, rfl, SqL.of e1, a0, aSORTS, sorts, _, j, rfl, rfl, cSORTS.1 _, f2', f3', three_line, fun q hq => ?_⟩
      have s2 := s1.trans (same_alloc (o := .tup [.ref f1, .ref f2, .ref f3]) hq)
      have e2 : upd H1 q (.tup [.ref f1, .ref f2, .ref f3]) p = some (.lst (l.map V.str)) := same_alloc hq _ _ e1
      have e3 : upd H1 q (.tup [.ref f1, .ref f2, .ref f3]) q = some (.tup [.ref f1, .ref f2, .ref f3]) := upd_same
      generalize upd H1 q (.tup [.ref f1, .ref f2, .ref f3]) = H2 at s2 e2 e3 ⊢
      have at3 : atI [V.ref f1, .ref f2, .ref f3] (j : Int) = some (.ref (pick3 f1 f2 f3 ⟨j, j3⟩)) := by
        refine atI_nat ?_
        have : j = 0 ∨ j = 1 ∨ j = 2 := by omega
        rcases this with rfl | rfl | rfl <;> rfl
      have sp3 : pick3 (spForm K Pt 0) (spForm K Pt 1) (spForm K Pt 2) ⟨j, j3⟩ = spForm K Pt j := by
        have : j = 0 ∨ j = 1 ∨ j = 2 := by omega
        rcases this with rfl | rfl | rfl <;> rfl
      simp only [List.set_cons_succ, List.set_cons_zero]
      refine ⟨_, rfl, _, rfl, q, _, _, _, rfl, rfl, SqT.of e3, at3, ⟨j, j3⟩, rfl, _, rfl, ?_⟩
      rw [sp3]
      have k2 := same_kt tb s2
      exact ⟨p, l, rfl, SqL.of e2, hf, k2.tab, fun H' k' => ⟨true, rfl, iteT ⟨_, rfl, k _ (k2.trans k')⟩⟩⟩
end
end K7

set_option maxRecDepth 100000
set_option maxHeartbeats 400000
namespace K7
open PySem PySem.Spec PyProof.Rows L2 GxR Gd TL My
def wD (l : List Str) : PyData := .list (l.map PyData.str)
theorem strs_eq {K : PySem.W.Frag} {H : Hp} : ∀ {xs : List V} {l : List Str}, DpAll K H xs (l.map PyData.str) → xs = l.map V.str
  | _, [], .nil => rfl
  | _, z :: r, .cons a t => by
    obtain rfl := dp_str a
    rw [List.map_cons, strs_eq t]
theorem dp_words {K : PySem.W.Frag} {H : Hp} {v : V} {l : List Str} (h : Dp K H v (wD l)) : ∃ a, v = .ref a ∧ SqL K H a (l.map V.str) := by
  obtain ⟨a, xs, rfl, h1, h2⟩ := dp_list h
  rw [strs_eq h2] at h1
  exact ⟨a, rfl, h1⟩
/-- a comprehension that makes data of those things for which F says so, by any walk over values -/
theorem filt_it {K : PySem.W.Frag} {α : Type} {J : It} {G : Hp → Prop} {xs : List V} {src : List α} {F : α → Option PyData} (w : Walk J xs.length G (YAt xs)) {g : TG} {tt : TT} {te : TE} {vs : List Nat} {σ : L2.St} {H : Hp} {D : Addr} {Qd : Hp → Prop} (hl : src.length = xs.length) (h20 : src.length ≤ 100) (hD : H D = none)
    (hG : ∀ H', KB D H H' → G H')
    (hs : ∀ (i : Nat) (v : V) (a : α) (H' : Hp) (C : VK) (B : Hp → Prop), xs[i]? = some v → src[i]? = some a → KB D H H' → H' D ≠ none → (∀ z d H4, F a = some d → Same H' H4 → Dp K (hide D H4) z d → C z H4) → (∀ H4, F a = none → Same H' H4 → B H4) →
      g v (wipe σ vs) H' fun σ2 H2 => wipe σ2 vs = wipe σ vs ∧ tt σ2 H2 fun b H3 => if b = true then te σ2 H3 C else B H3)
    (hd : ∀ H' ys, KB D H H' → H' D = some (.lst ys) → DpAll K (hide D H') ys (src.filterMap F) → Qd H') :
    ∃ W : Nat → Nat → Hp → Prop, (∃ m, W 0 m (upd H D (.lst []))) ∧ ∀ i m H, W i m H →
    (J.stop i H ∧ Qd H) ∨ (J.go i H ∧ ∃ Nx : Hp → Prop, (∀ H', Nx H' → ∃ m', m' < m ∧ W (i + 1) m' H') ∧ ∀ x H', J.yld i H x H' → g x (wipe σ vs) H' fun σ2 H2 => wipe σ2 vs = wipe σ vs ∧ tt σ2 H2 fun b H3 =>
      if b = true then te σ2 H3 fun y H4 => ∃ acc, H4 D = some (.lst acc) ∧ acc.length < sizeLine ∧ Nx (upd H4 D (.lst (acc ++ [y]))) else Nx H3) := by
  refine lc_it w (fun i H' => KB D H H' ∧ ∃ ys, H' D = some (.lst ys) ∧ ys.length ≤ i ∧ DpAll K (hide D H') ys ((src.take i).filterMap F)) ⟨KB.alloc hD, [], upd_same, Nat.le_refl _, .nil⟩ (fun i H' _ h => hG H' h.1) ?_ ?_
  · rintro i v H' H'' hi ⟨kb, ys, e, ly, dy⟩ ⟨rfl, hv⟩
    obtain ⟨a, ha⟩ : ∃ a, src[i]? = some a := ⟨_, List.getElem?_eq_getElem (by omega)⟩
    have e0 : (src.take (i + 1)).filterMap F = (src.take i).filterMap F ++ [a].filterMap F := by rw [take_at ha, List.filterMap_append]
    have hne : H'' D ≠ none := by rw [e]; simp
    refine hs i v a H'' _ _ hv ha kb hne ?_ ?_
    · intro z d H4 hF s dz
      refine ⟨_, s _ _ e, lt_line _ (by omega), fun c o n h => by rw [upd_ne n]; exact s _ _ (kb c o n h), _, upd_same, ?_, ?_⟩
      · rw [List.length_append]
        exact Nat.succ_le_succ ly
      · rw [e0, show [a].filterMap F = [d] by simp [hF]]
        exact dpAll_app (dpAll_nt ((hide_mono (same_nt s)).trans hide_put1) dy) (.cons (dp_nt hide_put1 dz) .nil)
    · intro H4 hF s
      refine ⟨fun c o n h => s _ _ (kb c o n h), _, s _ _ e, by omega, ?_⟩
      rw [e0, show [a].filterMap F = [] by simp [hF], List.append_nil]
      exact dpAll_nt (hide_mono (same_nt s)) dy
  · rintro H' ⟨kb, ys, e, ly, dy⟩
    rw [← hl, List.take_of_length_le (Nat.le_refl _)] at dy
    exact hd H' ys kb e dy
section
variable {P : Program} {w : World} {K : PySem.W.Frag} {mg : Str → Option Value} {base : Heap} {aSIDES aSORTS : Addr}
abbrev s_long_of_words : Stmt := top 42
theorem sc_long_of_words : FnScope ["line", "words"] ["line", "words"] (defScope s_long_of_words) := ⟨rfl, rfl, rfl, by decide +kernel, rfl, by decide +kernel, by decide +kernel⟩
abbrev s_line_of_rows : Stmt := top 41
theorem sc_line_of_rows : FnScope ["rows", "parted", "places", "stretches", "line", "longs", "row", "words"] ["rows"] (defScope s_line_of_rows) := ⟨rfl, rfl, rfl, by decide +kernel, rfl, by decide +kernel, by decide +kernel⟩
theorem side_idx {h : Int} (h0 : 0 ≤ h) (h1 : h ≤ 1) : ∃ j : Nat, (j : Int) = h ∧ sides[j]? = some (sideS h) ∧ ∀ m, m < j → sides[m]? ≠ some (sideS h) := by
  have : h = 0 ∨ h = 1 := by omega
  rcases this with rfl | rfl
  · exact ⟨0, rfl, rfl, fun m hm => by omega⟩
  · refine ⟨1, rfl, rfl, ?_⟩
    decide +kernel
def spLongOfWords (K : PySem.W.Frag) (C : Addr) : Sp := fun vs H Q _ => ∃ (x a : Addr) (wd : Wd) (n1 n2 : Str) (i k : Nat) (h : Int), vs = [.ref x, .ref a] ∧ LineAt K C wd H x ∧ SqL K H a ([Str.ofString "long", n1, n2, sideS h].map V.str) ∧ posOf wd.ps n1 = some i ∧ posOf wd.ps n2 = some k ∧ 0 ≤ h ∧ h ≤ 1 ∧
  ∀ t H', H t = none → Same H H' → H' t = some (.tup [.int (i : Nat), .int (k : Nat), .int h]) → Q (.ref t) H'
theorem ok_long_of_words {f f1 C : Addr} {fd fd1 : FuncData} (F : Fun K "_long_of_words" "_long_of_words" s_long_of_words f fd) (T : Txt mg) (TC : ClsT K C) (gSIDES : mg "SIDES" = some (.ref aSIDES)) (cSIDES : Cst K aSIDES sides)
    (Mnumber_of : Mt K C "number_of" "Line.number_of" s_number_of ["self", "name"] f1 fd1) (Gnumber_of : FnOk P w K mg base CX0 1 f1 fd1 ["self", "name"] (spNum K C)) :
    FnOk P w K mg base CX0 2 f fd ["line", "words"] (spLongOfWords K C) := by
  refine F.ok sc_long_of_words (fun vs H Q E h => ?_) (fun cdv A outer s H vs Q E hr h => ?_)
  · obtain ⟨x, a, wd, n1, n2, i, k, h, rfl, _⟩ := h
    rfl
  · obtain ⟨x, a, wd, n1, n2, i, k, h, rfl, hL, hl, p1, p2, h0, h1, kk⟩ := h
    obtain ⟨j, ej, j1, j2⟩ := side_idx h0 h1
    refine ⟨_, pss_one (ps_ret (pe_tup (pa_cons (pe_meth (pv 0) TC.cl Mnumber_of.m Gnumber_of (hr.mono (by decide)) Mnumber_of.b .nil pass0 (pa_cons (pe_ix ix_list (pv 1) pe_int (fun _ _ => rfl)) pa_nil)) (pa_cons (pe_meth (pv 0) TC.cl Mnumber_of.m Gnumber_of (hr.mono (by decide)) Mnumber_of.b .nil pass0 (pa_cons (pe_ix ix_list (pv 1) pe_int (fun _ _ => rfl)) pa_nil)) (pa_cons (pe_bm PySem.F.plainAttrs_tuple PySem.F.slot_tuple_index PySem.F.type_tuple_index mt_tup_index (pe_glob (v := .ref aSIDES) (by rfl) gSIDES rfl) (pa_cons (pe_ix ix_list (pv 1) pe_int (fun _ _ => rfl)) pa_nil)) pa_nil))))), ?_⟩
    obtain ⟨dx, q1, q2, q3, d, _, _, _, hx, _⟩ := id hL
    have nm := lf_no q1 q2 q3 d (m := Str.ofString "number_of") (by decide +kernel)
    refine ⟨_, rfl, x, dx, _, rfl, hx, nm, _, rfl, a, _, 1, _, rfl, rfl, hl, rfl, x, n1, wd, i, rfl, hL, p1, ?_⟩
    refine ⟨_, rfl, x, dx, _, rfl, hx, nm, _, rfl, a, _, 2, _, rfl, rfl, hl, rfl, x, n2, wd, k, rfl, hL, p2, ?_⟩
    refine ⟨.inr (.inl ⟨rfl, cSIDES.2⟩), _, rfl, a, _, 3, _, rfl, rfl, hl, rfl, aSIDES, sides, _, j, rfl, rfl, cSIDES.1 _, j1, j2, three_line, fun t ht => kk t _ ht (same_alloc ht) ?_⟩
    rw [upd_same, ej]
end
end K7

set_option maxRecDepth 100000
set_option maxHeartbeats 400000
namespace K7
open PySem PySem.Spec PyProof.Rows L2 GxR Gd TL My
/-- one row of a line -/
inductive Row
  | P (p : Str × Int) | S (p : Str × Int) | L (p : Int × Int × Int)
def Row.w (ps : List (Str × Int)) : Row → List Str
  | .P p => wP p
  | .S p => wS p
  | .L p => wL ps p
def rowsR (wd : Wd) : List Row := wd.ps.map Row.P ++ wd.st.map Row.S ++ wd.lo.map Row.L
theorem rowsW_R (wd : Wd) : rowsW wd = (rowsR wd).map (Row.w wd.ps) := by
  unfold rowsW rowsR
  rw [List.map_append, List.map_append, List.map_map, List.map_map, List.map_map]
  rfl
def FP : Row → Option PyData
  | .P p => some (dP p)
  | _ => none
def FS : Row → Option PyData
  | .S p => some (dP p)
  | _ => none
def FL : Row → Option PyData
  | .L p => some (dL p)
  | _ => none
theorem fm_some {α β γ : Type} (F : β → Option γ) (g : α → β) (f : α → γ) (h : ∀ a, F (g a) = some (f a)) : ∀ l : List α, (l.map g).filterMap F = l.map f
  | [] => rfl
  | a :: r => by
    rw [List.map_cons, List.filterMap_cons, h, List.map_cons, fm_some F g f h r]
theorem fm_none {α β γ : Type} (F : β → Option γ) (g : α → β) (h : ∀ a, F (g a) = none) : ∀ l : List α, (l.map g).filterMap F = []
  | [] => rfl
  | a :: r => by
    rw [List.map_cons, List.filterMap_cons, h, fm_none F g h r]
theorem fm_P (wd : Wd) : (rowsR wd).filterMap FP = wd.ps.map dP := by
  unfold rowsR
  rw [List.filterMap_append, List.filterMap_append, fm_some FP Row.P dP (fun _ => rfl), fm_none FP Row.S (fun _ => rfl), fm_none FP Row.L (fun _ => rfl), List.append_nil, List.append_nil]
theorem fm_S (wd : Wd) : (rowsR wd).filterMap FS = wd.st.map dP := by
  unfold rowsR
  rw [List.filterMap_append, List.filterMap_append, fm_none FS Row.P (fun _ => rfl), fm_some FS Row.S dP (fun _ => rfl), fm_none FS Row.L (fun _ => rfl), List.append_nil, List.nil_append]
theorem fm_L (wd : Wd) : (rowsR wd).filterMap FL = wd.lo.map dL := by
  unfold rowsR
  rw [List.filterMap_append, List.filterMap_append, fm_none FL Row.P (fun _ => rfl), fm_none FL Row.S (fun _ => rfl), fm_some FL Row.L dL (fun _ => rfl), List.nil_append, List.nil_append]
theorem fm_all {α β : Type} (f : α → β) : ∀ l : List α, l.filterMap (fun a => some (f a)) = l.map f
  | [] => rfl
  | a :: r => by
    rw [List.filterMap_cons, List.map_cons, fm_all f r]
theorem rowsR_ok {wd : Wd} (ok : wd.Ok) : ∀ r ∈ rowsR wd, (∃ p ∈ wd.ps, r = .P p) ∨ (∃ p ∈ wd.st, r = .S p) ∨ ∃ p ∈ wd.lo, r = .L p := by
  intro r hr
  unfold rowsR at hr
  rcases List.mem_append.mp hr with hr | hr
  · rcases List.mem_append.mp hr with hr | hr
    · obtain ⟨p, hp, rfl⟩ := List.mem_map.mp hr
      exact .inl ⟨p, hp, rfl⟩
    · obtain ⟨p, hp, rfl⟩ := List.mem_map.mp hr
      exact .inr (.inl ⟨p, hp, rfl⟩)
  · obtain ⟨p, hp, rfl⟩ := List.mem_map.mp hr
    exact .inr (.inr ⟨p, hp, rfl⟩)
def rTidx (K : PySem.W.Frag) : V → List V → Hp → VK → Prop := fun x xs H Q => ∃ p, ∃ ys : List Str, ∃ z j, x = .ref p ∧ xs = [.str z] ∧ SqT K H p (ys.map V.str) ∧ ys[j]? = some z ∧ (∀ m, m < j → ys[m]? ≠ some z) ∧ Q (.int (j : Nat)) H
theorem tidxK {X : Cx} {K : PySem.W.Frag} (h : X.K = K) : MtR X "tuple.index" (rTidx K) := h ▸ mt_tup_index
theorem pe_bmK {X : Cx} {K : PySem.W.Frag} {o e : Expr} {es : List Expr} {to : TE} {t : TA} {name : Str} {apos cpos : Pos} {T id : String} {r : V → List V → Hp → VK → Prop} (h : X.K = K) (pa : PlainAttrs T) (slot : Slot T name id) (hty : typeOf (.builtin id) = pure (.type "method_descriptor")) (hm : MtR X id r) (ho : PE X o to) (ha : PA X (e :: es) t)
    (hbase : attributeBase o name X.env (eval o X.env) = eval o X.env := by rfl)
    (hfew : ((backTo cpos (starEach (e :: es) X.env)).all (fun x => !x.1) && (backToKw cpos (keywordEach [] X.env)).all (fun x => x.1.isSome)
      && decide ((e :: es).length + ([] : List Keyword).length + (if ([] : List Keyword).isEmpty then 0 else 1) < 30)) = true := by rfl)
    (hline : (apos.endLine == cpos.line) = true := by rfl) (hs : starEach (e :: es) X.env = (false, eval e X.env) :: starEach es X.env := by rfl) (hplain : (backTo cpos (starEach es X.env)).any (·.1) = false := by rfl) :
    PE X (.Call (.Attribute o name apos) (e :: es) [] cpos) (tBM K T r to t) := h ▸ pe_bm pa slot hty hm ho ha hbase hfew hline hs hplain
theorem rowsT_R (wd : Wd) : rowsT wd = (rowsR wd).map fun r => rowW (r.w wd.ps) := by
  unfold rowsT
  rw [rowsW_R, List.map_map]
  rfl
theorem rowsR_len (wd : Wd) : (rowsR wd).length = (rowsW wd).length := by rw [rowsW_R, List.length_map]
theorem rowsR_wrd {wd : Wd} (ok : wd.Ok) {r : Row} (h : r ∈ rowsR wd) : r.w wd.ps ≠ [] ∧ (r.w wd.ps).length ≤ 4 ∧ ∀ z ∈ r.w wd.ps, Wrd z := rows_wrd ok _ (by
  rw [rowsW_R]
  exact List.mem_map.mpr ⟨r, h, rfl⟩)
theorem KT.back {Pt x : Addr} {H H' : Hp} (k : KT Pt H H') (h : H' x = none) : H x = none := by
  cases e : H x with
  | none => rfl
  | some o =>
    by_cases q : x = Pt
    · obtain ⟨ps, z, _⟩ := k.tab
      rw [← q, h] at z
      cases z
    · rw [k.keep x o q e] at h
      cases h
section
variable {P : Program} {w : World} {K : PySem.W.Frag} {mg : Str → Option Value} {base : Heap} {aSIDES aSORTS : Addr}
def spLineOf (K : PySem.W.Frag) (C Pt : Addr) : Sp := fun vs H Q _ => ∃ (a : Addr) (wd : Wd), vs = [.ref a] ∧ SqL K H a ((rowsT wd).map V.str) ∧ wd.Ok ∧ TabG H Pt ∧ ∀ x H', H x = none → KT Pt H H' → LineAt K C wd H' x → Q (.ref x) H'
theorem ok_line_of_rows {f f1 fI C Pt : Addr} {fd fd1 fdI : FuncData} (F : Fun K "line_of_rows" "line_of_rows" s_line_of_rows f fd) (T : Txt mg) (TC : ClsT K C) (gSIDES : mg "SIDES" = some (.ref aSIDES)) (cSIDES : Cst K aSIDES sides)
    (ML : Mk K C fI) (gL : mg "Line" = some (.ref C)) (bI : Binds K fdI ["self", "places", "stretches", "longs"] []) (bI2 : Binds K fdI ["self", "places", "stretches", "longs"] [.none])
    (Ginit : FnOk P w K mg base CX0 5 fI fdI ["self", "places", "stretches", "longs"] (spInit K C Pt))
    (Nlong_of_words : Fn K mg "_long_of_words" s_long_of_words ["line", "words"] f1 fd1) (Glong_of_words : FnOk P w K mg base CX0 2 f1 fd1 ["line", "words"] (spLongOfWords K C)) :
    FnOk P w K mg base CX0 7 f fd ["rows"] (spLineOf K C Pt) := by
  refine F.ok sc_line_of_rows (fun vs H Q E h => ?_) (fun cdv A outer s H vs Q E hr h => ?_)
  · obtain ⟨a, wd, rfl, _⟩ := h
    rfl
  · obtain ⟨a, wd, rfl, hl, ok, tb, k⟩ := h
    refine ⟨_, pss_cons (ps_setLc (i := 1) (own := [("row", 6)]) (g := gName 6) (tt := tYes) rfl sc_line_of_rows.nd rfl rfl (sw_true rfl rfl rfl (by decide +kernel)) (pi_list (pv 0)) (blkOk_by (own := [("row", 6)]) (N := ["rows", "parted", "places", "stretches", "line", "longs", "row", "words"]) (sc := defScope s_line_of_rows) (by decide +kernel)) (fun _ _ _ _ _ => (pg_name (i := 6) sc_line_of_rows.nd rfl (Or.inl rfl))) (fun _ _ _ _ _ => pts_nil) (fun _ _ _ _ _ => (pe_split (pv 6) pe_str)))
      (pss_cons (ps_setLc (i := 2) (own := [("words", 7)]) (g := gName 7) rfl sc_line_of_rows.nd rfl rfl (sw_true rfl rfl rfl (by decide +kernel)) (pi_list (pv 1)) (blkOk_by (own := [("words", 7)]) (N := ["rows", "parted", "places", "stretches", "line", "longs", "row", "words"]) (sc := defScope s_line_of_rows) (by decide +kernel)) (fun _ _ _ _ _ => (pg_name (i := 7) sc_line_of_rows.nd rfl (Or.inl rfl))) (fun _ _ _ _ _ => pts_one (pt_cmpR op_eq (pe_ix (ixL (K := K) rfl) (pv 7) pe_int (fun _ _ => rfl)) pe_str (nomark _))) (fun _ _ _ _ _ => (pe_tup (pa_cons (pe_ix (ixL (K := K) rfl) (pv 7) pe_int (fun _ _ => rfl)) (pa_cons (pe_callTy call_int_str (by rfl) T.int_ (by decide +kernel) (pa_cons (pe_ix (ixL (K := K) rfl) (pv 7) pe_int (fun _ _ => rfl)) pa_nil)) pa_nil)))))
      (pss_cons (ps_setLc (i := 3) (own := [("words", 7)]) (g := gName 7) rfl sc_line_of_rows.nd rfl rfl (sw_true rfl rfl rfl (by decide +kernel)) (pi_list (pv 1)) (blkOk_by (own := [("words", 7)]) (N := ["rows", "parted", "places", "stretches", "line", "longs", "row", "words"]) (sc := defScope s_line_of_rows) (by decide +kernel)) (fun _ _ _ _ _ => (pg_name (i := 7) sc_line_of_rows.nd rfl (Or.inl rfl))) (fun _ _ _ _ _ => pts_one (pt_cmpR op_eq (pe_ix (ixL (K := K) rfl) (pv 7) pe_int (fun _ _ => rfl)) pe_str (nomark _))) (fun _ _ _ _ _ => (pe_tup (pa_cons (pe_ix (ixL (K := K) rfl) (pv 7) pe_int (fun _ _ => rfl)) (pa_cons (pe_bmK (K := K) rfl PySem.F.plainAttrs_tuple PySem.F.slot_tuple_index PySem.F.type_tuple_index (tidxK (K := K) rfl) (pe_glob (v := .ref aSIDES) (by rfl) gSIDES rfl) (pa_cons (pe_ix (ixL (K := K) rfl) (pv 7) pe_int (fun _ _ => rfl)) pa_nil)) pa_nil)))))
      (pss_cons (ps_set (i := 4) sc_line_of_rows.nd rfl (Or.inr rfl) (pe_make ML Ginit (hr.mono (by decide)) (by rfl) gL bI2 (dvs := [.non]) (.cons rfl .nil) pass0 (pa_cons (pv 2) (pa_cons (pv 3) pa_nil))))
      (pss_cons (ps_setLc (i := 5) (own := [("words", 7)]) (g := gName 7) rfl sc_line_of_rows.nd rfl rfl (sw_true rfl rfl rfl (by decide +kernel)) (pi_list (pv 1)) (blkOk_by (own := [("words", 7)]) (N := ["rows", "parted", "places", "stretches", "line", "longs", "row", "words"]) (sc := defScope s_line_of_rows) (by decide +kernel)) (fun _ _ _ _ _ => (pg_name (i := 7) sc_line_of_rows.nd rfl (Or.inl rfl))) (fun _ _ _ _ _ => pts_one (pt_cmpR op_eq (pe_ix (ixL (K := K) rfl) (pv 7) pe_int (fun _ _ => rfl)) pe_str (nomark _))) (fun _ _ _ _ _ => (pe_call Glong_of_words (hr.mono (by decide)) (by rfl) Nlong_of_words.g Nlong_of_words.kp Nlong_of_words.b .nil pass0 (pa_cons (pv 4) (pa_cons (pv 7) pa_nil)))))
      (pss_one (ps_ret (pe_make ML Ginit (hr.mono (by decide)) (by rfl) gL bI .nil pass0 (pa_cons (pv 2) (pa_cons (pv 3) (pa_cons (pv 5) pa_nil)))))))))), ?_⟩
    generalize hσ : L2.start _ _ = σ0
    obtain rfl : σ0 = [some (.ref a), none, none, none, none, none, none, none] := hσ.symm.trans rfl
    have ln := rowsW_len ok
    rw [← rowsR_len] at ln
    refine ⟨_, rfl, a, rfl, ⟨_, hl⟩, fun D hD => filt_it (K := K) (walk_list (K := K) (xs := (rowsT wd).map V.str)) (src := rowsR wd) (F := fun r => some (wD (r.w wd.ps))) (by rw [List.length_map, rowsT_R, List.length_map]) (by omega) hD (fun H' kb => (KB.seq' hD kb).seq hl) ?_ ?_⟩
    · rintro i v r H' C B hv hr kb hne k _
      rw [rowsT_R, List.getElem?_map, List.getElem?_map, hr] at hv
      obtain rfl := Option.some.inj hv
      obtain ⟨w1, w2, w3⟩ := rowsR_wrd ok (List.mem_of_getElem? hr)
      have rl := row_len w2 w3
      refine ⟨wipe1 (by simp), lcY ⟨_, rfl, ⟨_, rfl⟩, _, _, rfl, rfl, by decide +kernel, fit2 (by show (rowW (r.w wd.ps)).length + 2 ≤ _; omega), fun p hp => ?_⟩⟩
      rw [row_split w1 w3]
      have npD : p ≠ D := fun e => hne (e ▸ hp)
      exact k _ _ _ rfl (same_alloc hp) (.lst (SqL.of (by rw [hide_ne npD]; exact upd_same)) (strs_dp _))
    · intro H1 ys kb1 eD dW
      rw [fm_all] at dW
      have dW := dpAll_nt (hide_nt D H1) dW
      have s1 := KB.same hD kb1
      clear kb1
      have lY : ys.length = (rowsR wd).length := by rw [dpAll_len dW, List.length_map]
      have word : ∀ {H' : Hp} {i : Nat} {v : V} {r : Row}, Same H1 H' → ys[i]? = some v → (rowsR wd)[i]? = some r → ∃ q, v = .ref q ∧ SqL K H' q ((r.w wd.ps).map V.str) := by
        intro H' i v r s hv hr
        obtain ⟨d, hd1, hd2⟩ := dpAll_get dW hv
        rw [List.getElem?_map, hr] at hd1
        obtain rfl := Option.some.inj hd1
        obtain ⟨q, e, h⟩ := dp_words hd2
        exact ⟨q, e, (same_nt s).seq h⟩
      simp only [List.set_cons_succ, List.set_cons_zero]
      refine ⟨_, rfl, D, rfl, ⟨_, SqL.of eD⟩, fun D2 hD2 => filt_it (K := K) (walk_list (K := K) (xs := ys)) (src := rowsR wd) (F := FP) lY.symm (by omega) hD2 (fun H' kb => (KB.seq' hD2 kb).seq (SqL.of eD)) ?_ ?_⟩
      · rintro i v r H' C B hv hr kb hne k kn
        obtain ⟨q, rfl, hq⟩ := word (KB.same hD2 kb) hv hr
        have new : ∀ {t : Addr}, H' t = none → t ≠ D2 := fun h e => hne (e ▸ h)
        rcases rowsR_ok ok r (List.mem_of_getElem? hr) with ⟨p, hp, rfl⟩ | ⟨p, hp, rfl⟩ | ⟨p, hp, rfl⟩
        · obtain ⟨n1, n2, n3⟩ := ok.nm p hp
          obtain ⟨d1, _, _, d4⟩ := num_dig n2 n3
          refine ⟨wipe1 (by simp), _, rfl, q, _, 0, _, rfl, rfl, hq, atI_nat (j := 0) rfl, rfl, true, by rw [decide_eq_true rfl], iteT ?_⟩
          refine ⟨_, rfl, q, _, 1, _, rfl, rfl, hq, atI_nat (j := 1) rfl, _, rfl, q, _, 2, _, rfl, rfl, hq, atI_nat (j := 2) rfl, _, p.2, rfl, d4, by omega, two_line, fun t ht => ?_⟩
          exact k _ _ _ rfl (same_alloc ht) (.tup (SqT.of (by rw [hide_ne (new ht)]; exact upd_same)) (.cons (.str _) (.cons (.int _) .nil)))
        · exact ⟨wipe1 (by simp), _, rfl, q, _, 0, _, rfl, rfl, hq, atI_nat (j := 0) rfl, rfl, false, by decide +kernel, iteF (kn _ rfl (Same.refl _))⟩
        · exact ⟨wipe1 (by simp), _, rfl, q, _, 0, _, rfl, rfl, hq, atI_nat (j := 0) rfl, rfl, false, by decide +kernel, iteF (kn _ rfl (Same.refl _))⟩
      · intro H2 xp kb2 eP dP'
        rw [fm_P] at dP'
        have dP' := dpAll_nt (hide_nt D2 H2) dP'
        have s2 := KB.same hD2 kb2
        have eD2 := s2 _ _ eD
        clear kb2
        simp only [List.set_cons_succ, List.set_cons_zero]
        refine ⟨_, rfl, D, rfl, ⟨_, SqL.of eD2⟩, fun D3 hD3 => filt_it (K := K) (walk_list (K := K) (xs := ys)) (src := rowsR wd) (F := FS) lY.symm (by omega) hD3 (fun H' kb => (KB.seq' hD3 kb).seq (SqL.of eD2)) ?_ ?_⟩
        · rintro i v r H' C B hv hr kb hne k kn
          obtain ⟨q, rfl, hq⟩ := word (s2.trans (KB.same hD3 kb)) hv hr
          have new : ∀ {t : Addr}, H' t = none → t ≠ D3 := fun h e => hne (e ▸ h)
          rcases rowsR_ok ok r (List.mem_of_getElem? hr) with ⟨p, hp, rfl⟩ | ⟨p, hp, rfl⟩ | ⟨p, hp, rfl⟩
          · exact ⟨wipe1 (by simp), _, rfl, q, _, 0, _, rfl, rfl, hq, atI_nat (j := 0) rfl, rfl, false, by decide +kernel, iteF (kn _ rfl (Same.refl _))⟩
          · obtain ⟨n1, n2, n3⟩ := ok.st p hp
            obtain ⟨j, ej, j1, j2⟩ := side_idx n2 n3
            refine ⟨wipe1 (by simp), _, rfl, q, _, 0, _, rfl, rfl, hq, atI_nat (j := 0) rfl, rfl, true, by rw [decide_eq_true rfl], iteT ?_⟩
            refine ⟨_, rfl, q, _, 1, _, rfl, rfl, hq, atI_nat (j := 1) rfl, .inr (.inl ⟨rfl, cSIDES.2⟩), _, rfl, q, _, 2, _, rfl, rfl, hq, atI_nat (j := 2) rfl, aSIDES, sides, _, j, rfl, rfl, cSIDES.1 _, j1, j2, two_line, fun t ht => ?_⟩
            refine k _ _ _ rfl (same_alloc ht) (.tup (SqT.of (by rw [hide_ne (new ht)]; exact upd_same)) (.cons (.str _) (.cons ?_ .nil)))
            rw [ej]
            exact .int _
          · exact ⟨wipe1 (by simp), _, rfl, q, _, 0, _, rfl, rfl, hq, atI_nat (j := 0) rfl, rfl, false, by decide +kernel, iteF (kn _ rfl (Same.refl _))⟩
        · intro H3 xs kb3 eS dS
          rw [fm_S] at dS
          have dS := dpAll_nt (hide_nt D3 H3) dS
          have s3 := KB.same hD3 kb3
          have eD3 := s3 _ _ eD2
          have eP3 := s3 _ _ eP
          have dP3 := dpAll_nt (same_nt s3) dP'
          have s13 := s2.trans s3
          clear kb3 eP dP' eD2
          have tb3 := same_kt tb (s1.trans s13)
          simp only [List.set_cons_succ, List.set_cons_zero]
          have ok0 : (Wd.mk wd.ps wd.st [] wd.sp).Ok := ⟨ok.p2, ok.p6, ok.nm, ok.nd, ok.sl, ok.st, Nat.zero_le _, True.intro, ok.sn, ok.s0⟩
          refine ⟨_, rfl, _, rfl, fun x dx hx0 hdx ne => ?_⟩
          have s34 : Same H3 (upd (upd H3 dx (.own x)) x (.ins C dx [])) := (same_alloc hdx).trans (same_alloc (by rw [upd_ne ne.symm]; exact hx0))
          have e4 := same_nt s34
          refine ⟨x, dx, D2, D3, .non, xp, xs, ⟨wd.ps, wd.st, [], wd.sp⟩, rfl, upd_same, .inl (e4.seq (SqL.of eP3)), dpAll_nt e4 dP3, .inl (e4.seq (SqL.of eS)), dpAll_nt e4 dS, .inl ⟨rfl, rfl⟩, ok0, (same_kt tb3.tab s34).tab, fun H5 ki hLine _ => ⟨rfl, ?_⟩⟩
          have k35 : KT Pt H3 H5 := ⟨fun c o n h => ki.keep c o (ne_of_none h hx0) n (s34 c o h), ki.tab⟩
          have n35 := KT.nt tb3.tab k35
          have k5 := tb3.trans k35
          have eP5 := n35 _ _ (by simp) eP3
          have eS5 := n35 _ _ (by simp) eS
          have eD5 := n35 _ _ (by simp) eD3
          have dP5 := dpAll_nt n35 dP3
          have dS5 := dpAll_nt n35 dS
          have n15 := (same_nt s13).trans n35
          have word5 : ∀ {H' : Hp} {i : Nat} {v : V} {r : Row}, Same H5 H' → ys[i]? = some v → (rowsR wd)[i]? = some r → ∃ q, v = .ref q ∧ SqL K H' q ((r.w wd.ps).map V.str) := by
            intro H' i v r s hv hr
            obtain ⟨q, e, h⟩ := word (Same.refl _) hv hr
            exact ⟨q, e, (n15.trans (same_nt s)).seq h⟩
          clear word eP3 eS eD3 dP3 dS s13 s34 e4 n15 ki k35 n35 tb3 hx0 hdx
          simp only [List.set_cons_succ, List.set_cons_zero]
          refine ⟨_, rfl, D, rfl, ⟨_, SqL.of eD5⟩, fun D6 hD6 => filt_it (K := K) (walk_list (K := K) (xs := ys)) (src := rowsR wd) (F := FL) lY.symm (by omega) hD6 (fun H' kb => (KB.seq' hD6 kb).seq (SqL.of eD5)) ?_ ?_⟩
          · rintro i v r H' C' B hv hr kb hne k kn
            obtain ⟨q, rfl, hq⟩ := word5 (KB.same hD6 kb) hv hr
            have hLine' := hLine.nt (same_nt (KB.same hD6 kb))
            have new : ∀ {t : Addr}, H' t = none → t ≠ D6 := fun h e => hne (e ▸ h)
            rcases rowsR_ok ok r (List.mem_of_getElem? hr) with ⟨p, hp, rfl⟩ | ⟨p, hp, rfl⟩ | ⟨p, hp, rfl⟩
            · exact ⟨wipe1 (by simp), _, rfl, q, _, 0, _, rfl, rfl, hq, atI_nat (j := 0) rfl, rfl, false, by decide +kernel, iteF (kn _ rfl (Same.refl _))⟩
            · exact ⟨wipe1 (by simp), _, rfl, q, _, 0, _, rfl, rfl, hq, atI_nat (j := 0) rfl, rfl, false, by decide +kernel, iteF (kn _ rfl (Same.refl _))⟩
            · obtain ⟨i1, i2, h, rfl, ha, hc, _, h0, h1⟩ := longs_in ok hp
              obtain ⟨pa, epa⟩ : ∃ p, wd.ps[i1]? = some p := ⟨_, List.getElem?_eq_getElem ha⟩
              obtain ⟨pc, epc⟩ : ∃ p, wd.ps[i2]? = some p := ⟨_, List.getElem?_eq_getElem hc⟩
              have hq2 : SqL K H' q ([Str.ofString "long", pa.1, pc.1, sideS h].map V.str) := by
                have z : Row.w wd.ps (.L ((i1 : Int), (i2 : Int), h)) = [Str.ofString "long", pa.1, pc.1, sideS h] := by
                  show wL wd.ps ((i1 : Int), (i2 : Int), h) = _
                  unfold wL
                  rw [nameAt_at epa, nameAt_at epc]
                rw [← z]
                exact hq
              refine ⟨wipe1 (by simp), _, rfl, q, _, 0, _, rfl, rfl, hq2, atI_nat (j := 0) rfl, rfl, true, by rw [decide_eq_true rfl], iteT ?_⟩
              refine ⟨_, rfl, _, rfl, x, q, _, pa.1, pc.1, i1, i2, h, rfl, hLine', hq2, posOf_at ok.nd epa, posOf_at ok.nd epc, h0, h1, fun t H4 ht s e => ?_⟩
              exact k _ _ _ rfl s (.tup (SqT.of (by rw [hide_ne (new ht)]; exact e)) (.cons (.int _) (.cons (.int _) (.cons (.int _) .nil))))
          · intro H6 xl kb6 eL dL'
            rw [fm_L] at dL'
            have dL6 := dpAll_nt (hide_nt D6 H6) dL'
            have s6 := KB.same hD6 kb6
            have n6 := same_nt s6
            have k6 := k5.trans (same_kt k5.tab s6)
            have eP6 := s6 _ _ eP5
            have eS6 := s6 _ _ eS5
            have dP6 := dpAll_nt n6 dP5
            have dS6 := dpAll_nt n6 dS5
            clear kb6 dL' dP5 dS5 eP5 eS5 eD5
            simp only [List.set_cons_succ, List.set_cons_zero]
            refine ⟨_, rfl, _, rfl, _, rfl, fun y dy hy0 hdy ne => ?_⟩
            have s7 : Same H6 (upd (upd H6 dy (.own y)) y (.ins C dy [])) := (same_alloc hdy).trans (same_alloc (by rw [upd_ne ne.symm]; exact hy0))
            have e7 := same_nt s7
            refine ⟨y, dy, D2, D3, .ref D6, xp, xs, wd, rfl, upd_same, .inl (e7.seq (SqL.of eP6)), dpAll_nt e7 dP6, .inl (e7.seq (SqL.of eS6)), dpAll_nt e7 dS6, .inr ⟨D6, xl, rfl, .inl (e7.seq (SqL.of eL)), dpAll_nt e7 dL6⟩, ok, (same_kt k6.tab s7).tab, fun H8 ki hLine8 _ => ⟨rfl, ?_⟩⟩
            have k68 : KT Pt H6 H8 := ⟨fun c o n h => ki.keep c o (ne_of_none h hy0) n (s7 c o h), ki.tab⟩
            exact k y H8 (KT.back k6 hy0) (k6.trans k68) hLine8
end
end K7

set_option maxRecDepth 100000
set_option maxHeartbeats 400000
namespace K7
open PySem PySem.Spec PyProof.Rows L2 GxR Gd TL My
def srt : Row → Nat
  | .P _ => 0
  | .S _ => 1
  | .L _ => 2
theorem rows_up (wd : Wd) : (rowsR wd).Pairwise fun a b => srt a ≤ srt b := by
  have same : ∀ {α : Type} (g : α → Row) (n : Nat) (h : ∀ a, srt (g a) = n) (l : List α), (l.map g).Pairwise fun a b => srt a ≤ srt b := fun g n h l => by
    induction l with
    | nil => exact .nil
    | cons a r ih =>
      rw [List.map_cons]
      refine List.pairwise_cons.mpr ⟨fun b hb => ?_, ih⟩
      obtain ⟨c, _, rfl⟩ := List.mem_map.mp hb
      rw [h, h]
      exact Nat.le_refl _
  unfold rowsR
  rw [List.pairwise_append, List.pairwise_append]
  refine ⟨⟨same _ 0 (fun _ => rfl) _, same _ 1 (fun _ => rfl) _, ?_⟩, same _ 2 (fun _ => rfl) _, ?_⟩
  · intro a ha b hb
    obtain ⟨p, _, rfl⟩ := List.mem_map.mp ha
    exact Nat.zero_le _
  · intro a ha b hb
    obtain ⟨p, _, rfl⟩ := List.mem_map.mp hb
    rcases List.mem_append.mp ha with ha | ha
    · obtain ⟨p, _, rfl⟩ := List.mem_map.mp ha
      exact Nat.zero_le _
    · obtain ⟨p, _, rfl⟩ := List.mem_map.mp ha
      exact Nat.le_succ 1
theorem frm_of {wd : Wd} (ok : wd.Ok) {r : Row} (h : r ∈ rowsR wd) : Frm (srt r) (r.w wd.ps) := by
  rcases rowsR_ok ok r h with ⟨p, hp, rfl⟩ | ⟨p, hp, rfl⟩ | ⟨p, hp, rfl⟩
  · exact .inl ⟨rfl, p, rfl, ok.nm p hp⟩
  · exact .inr (.inl ⟨rfl, p, rfl, ok.st p hp⟩)
  · obtain ⟨a, c, hh, rfl, ha, hc, _, h0, h1⟩ := longs_in ok hp
    refine .inr (.inr ⟨rfl, nameAt wd.ps a, nameAt wd.ps c, hh, rfl, ?_, ?_, h0, h1⟩)
    · rw [nameAt_at (List.getElem?_eq_getElem ha)]
      exact (ok.nm _ (List.getElem_mem ha)).1
    · rw [nameAt_at (List.getElem?_eq_getElem hc)]
      exact (ok.nm _ (List.getElem_mem hc)).1
section
variable {P : Program} {w : World} {K : PySem.W.Frag} {mg : Str → Option Value} {base : Heap} {aSIDES aSORTS : Addr}
abbrev s_read_line : Stmt := top 34
theorem sc_read_line : FnScope ["text", "rows", "ahead", "number", "row", "sort"] ["text"] (defScope s_read_line) := ⟨rfl, rfl, rfl, by decide +kernel, rfl, by decide +kernel, by decide +kernel⟩
def spReadLine (K : PySem.W.Frag) (C Pt : Addr) : Sp := fun vs H Q _ => ∃ (wd : Wd), vs = [.str (textT wd)] ∧ wd.Ok ∧ TabG H Pt ∧ ∀ x H', H x = none → KT Pt H H' → LineAt K C wd H' x → Q (.ref x) H'
theorem ok_read_line {f f1 f2 f3 C Pt : Addr} {fd fd1 fd2 fd3 : FuncData} (F : Fun K "read_line" "read_line" s_read_line f fd) (T : Txt mg)
    (Nrows_of : Fn K mg "rows_of" s_rows_of ["text"] f1 fd1) (Grows_of : FnOk P w K mg base CX0 1 f1 fd1 ["text"] spRowsOf)
    (Nline_sort : Fn K mg "line_sort" s_line_sort ["row"] f2 fd2) (Gline_sort : FnOk P w K mg base CX0 4 f2 fd2 ["row"] (spSort K Pt))
    (Nline_of_rows : Fn K mg "line_of_rows" s_line_of_rows ["rows"] f3 fd3) (Gline_of_rows : FnOk P w K mg base CX0 7 f3 fd3 ["rows"] (spLineOf K C Pt)) :
    FnOk P w K mg base CX0 8 f fd ["text"] (spReadLine K C Pt) := by
  refine F.ok sc_read_line (fun vs H Q E h => ?_) (fun cdv A outer s H vs Q E hr h => ?_)
  · obtain ⟨wd, rfl, _⟩ := h
    rfl
  · obtain ⟨wd, rfl, ok, tb, k⟩ := h
    refine ⟨_, pss_cons (ps_set (i := 1) sc_read_line.nd rfl (Or.inl rfl) (pe_call Grows_of (hr.mono (by decide)) (by rfl) Nrows_of.g Nrows_of.kp Nrows_of.b .nil pass0 (pa_cons (pv 0) pa_nil)))
      (pss_cons (ps_set (i := 2) sc_read_line.nd rfl (Or.inl rfl) pe_int)
      (pss_cons (ps_for PassesOwn.never rfl (pi_enumS (by rfl) T.enumerate_ (pa_cons (pv 1) pa_nil) (pk_cons pe_int pk_nil)) (pg_tup (by rfl) (pgs_cons (pg_name (i := 3) sc_read_line.nd rfl (Or.inl rfl)) (pgs_cons (pg_name (i := 4) sc_read_line.nd rfl (Or.inl rfl)) pgs_nil))) (pss_cons (ps_set (i := 5) sc_read_line.nd rfl (Or.inl rfl) (pe_call Gline_sort (hr.mono (by decide)) (by rfl) Nline_sort.g Nline_sort.kp Nline_sort.b .nil pass0 (pa_cons (pv 4) pa_nil)))
          (pss_cons (ps_if (PW.pt (pw_or (pt_cmpR op_isN (pv 5) pe_non (nomark _)) (pw_or1 (pt_cmpR op_lt (pv 5) (pv 2) (nomark _))))) (pss_one ps_never) pss_nil)
          (pss_one (ps_set (i := 2) sc_read_line.nd rfl (Or.inl rfl) (pv 5))))))
      (pss_one (ps_ret (pe_call Gline_of_rows (hr.mono (by decide)) (by rfl) Nline_of_rows.g Nline_of_rows.kp Nline_of_rows.b .nil pass0 (pa_cons (pv 1) pa_nil)))))), ?_⟩
    generalize hσ : L2.start _ _ = σ0
    obtain rfl : σ0 = [some (.str (textT wd)), none, none, none, none, none] := hσ.symm.trans rfl
    refine ⟨_, rfl, _, rfl, text_ne ok, text_len ok, fun p hp => ?_⟩
    rw [text_split ok]
    have s1 : Same H (upd H p (.lst ((rowsT wd).map V.str))) := same_alloc hp
    have e1 : (upd H p (.lst ((rowsT wd).map V.str))) p = some (.lst ((rowsT wd).map V.str)) := upd_same
    generalize upd H p (.lst ((rowsT wd).map V.str)) = H1 at s1 e1 ⊢
    simp only [List.set_cons_succ, List.set_cons_zero]
    have k1 := same_kt tb s1
    refine ⟨_, rfl, p, _, 1, rfl, rfl, by decide, by decide, SqL.of e1, for_it (walk_enumS (K := K) (xs := (rowsT wd).map V.str)) (fun i σ H' => ∃ (u3 u4 u5 : Option V) (m : Nat), σ = [some (.str (textT wd)), some (.ref p), some (.int (m : Nat)), u3, u4, u5] ∧ (∀ k r, i ≤ k → (rowsR wd)[k]? = some r → m ≤ srt r) ∧ KT Pt H1 H') ?_ ?_ ?_ ?_⟩
    · exact ⟨_, _, _, 0, rfl, fun _ _ _ _ => Nat.zero_le _, KT.refl k1.tab⟩
    · rintro i σ H' _ ⟨_, _, _, _, _, _, k2⟩
      exact seq_kt k1.tab k2 (SqL.of e1)
    · rintro i v σ X1 X2 hi ⟨u3, u4, u5, m, rfl, up, k2⟩ ⟨T1, X, Y, rfl, hT1, rfl, z1, z2⟩
      obtain rfl := Option.some.inj z1
      replace z2 : ((rowsT wd).map V.str)[i]? = some Y := z2
      rw [rowsT_R, List.getElem?_map, List.getElem?_map] at z2
      cases er : (rowsR wd)[i]? with
      | none => rw [er] at z2; cases z2
      | some r =>
        rw [er] at z2
        obtain rfl := Option.some.inj z2
        have hm := List.mem_of_getElem? er
        have k3 := k2.trans (KT.alloc (o := .tup [.int (1 + (i : Nat)), .str (rowW (r.w wd.ps))]) k2.tab hT1)
        have eT : upd X1 T1 (.tup [.int (1 + (i : Nat)), .str (rowW (r.w wd.ps))]) T1 = some (.tup [.int (1 + (i : Nat)), .str (rowW (r.w wd.ps))]) := upd_same
        refine ⟨T1, _, rfl, SqT.of eT, rfl, _, _, rfl, _, _, rfl, rfl, ?_⟩
        simp only [List.set_cons_succ, List.set_cons_zero]
        refine ⟨_, rfl, r.w wd.ps, srt r, rfl, frm_of ok hm, k3.tab, fun H4 k4 => ?_⟩
        refine ⟨_, rfl, rfl, false, congrArg V.bl (decide_eq_false (by simp)), iteF ⟨_, rfl, _, rfl, _, _, rfl, rfl, false, ?_, iteF ?_⟩⟩
        · have := up i r (Nat.le_refl _) er
          exact congrArg V.bl (decide_eq_false (by omega))
        · refine ⟨_, rfl, _, _, _, srt r, rfl, fun k r' hk hr' => ?_, k3.trans k4⟩
          have pw := List.pairwise_iff_getElem.mp (rows_up wd)
          obtain ⟨h1, rfl⟩ := List.getElem?_eq_some_iff.mp er
          obtain ⟨h2, rfl⟩ := List.getElem?_eq_some_iff.mp hr'
          exact pw i k h1 h2 (by omega)
    · rintro σ H2 ⟨u3, u4, u5, m, rfl, up, k2⟩
      exact ⟨_, rfl, p, wd, rfl, seq_kt k1.tab k2 (SqL.of e1), ok, k2.tab, fun x H' hx k4 hL => k x H' (KT.back (k1.trans k2) hx) ((k1.trans k2).trans k4) hL⟩
end
end K7

set_option maxRecDepth 100000
set_option maxHeartbeats 400000
namespace K7
open PySem PySem.Spec PyProof.Rows L2 GxR Gd TL My
theorem ifF {A B : Prop} {b : Bool} (h : b = false) (k : B) : if b = true then A else B := by rw [if_neg (by rw [h]; exact Bool.false_ne_true)]; exact k
section
variable {P : Program} {w : World} {K : PySem.W.Frag} {mg : Str → Option Value} {base : Heap} {aSIDES aSORTS : Addr}
abbrev s_law_right : Stmt := top 52
theorem sc_law_right : FnScope ["_law_line", "_law_world_here", "_law_text", "_law_other", "_law_due"] ["_law_line", "_law_world_here"] (defScope s_law_right) := ⟨rfl, rfl, rfl, by decide +kernel, rfl, by decide +kernel, by decide +kernel⟩
def spRight (K : PySem.W.Frag) (C Pt : Addr) : Sp := fun vs H Q _ => ∃ (x : Addr) (v : V) (wd : Wd), vs = [.ref x, v] ∧ LineAt K C wd H x ∧ Dp K H v wd.data ∧ wd.Ok ∧ TabG H Pt ∧ ∀ H', KT Pt H H' → Q (.bl true) H'
theorem ok_right {f f1 f2 f3 f4 f5 C Pt : Addr} {fd fd1 fd2 fd3 fd4 fd5 : FuncData} (F : Fun K "_law_right" "_law_right" s_law_right f fd) (T : Txt mg) (TC : ClsT K C) (IC : C8.InsC K C) (gLine : mg "Line" = some (.ref C))
    (Nlaw_rows : Fn K mg "_law_rows" s_law_rows ["_law_world_here"] f1 fd1) (Glaw_rows : FnOk P w K mg base CX0 1 f1 fd1 ["_law_world_here"] (spLawRows K))
    (Nshow_line : Fn K mg "show_line" s_show_line ["line"] f2 fd2) (Gshow_line : FnOk P w K mg base CX0 2 f2 fd2 ["line"] (spShow K C))
    (Nread_line : Fn K mg "read_line" s_read_line ["text"] f3 fd3) (Gread_line : FnOk P w K mg base CX0 8 f3 fd3 ["text"] (spReadLine K C Pt))
    (Mtold : Mt K C "told" "Line.told" s_told ["self"] f4 fd4) (Gtold : FnOk P w K mg base CX0 1 f4 fd4 ["self"] (spTold K C))
    (Nlaw_asked_right : Fn K mg "_law_asked_right" s_law_asked_right ["_law_line", "_law_world_here"] f5 fd5) (Glaw_askedL : GOk P w K mg base CX0 6 f5 fd5 ["_law_line", "_law_world_here"] (spAsk K C Wd.data)) :
    GOk P w K mg base CX0 9 f fd ["_law_line", "_law_world_here"] (spRight K C Pt) := by
  refine gok F sc_law_right (fun vs H Q E h => ?_) (fun cdv A outer s H vs Q E gd hr h => ?_)
  · obtain ⟨x, v, wd, rfl, _⟩ := h
    rfl
  · obtain ⟨x, v, wd, rfl, hL, hD, ok, tb, k⟩ := h
    have hDk := hD
    obtain ⟨wa, vp, vs_, vl, vu, rfl, hw, hp, hs, hl, _⟩ := dp_four hD
    obtain ⟨ap, xp, rfl, hap, dap⟩ := dp_list hp
    obtain ⟨as_, xs, rfl, has, das⟩ := dp_list hs
    obtain ⟨al, xl, rfl, hal, dal⟩ := dp_list hl
    refine ⟨_, pss_cons (ps_set (i := 2) sc_law_right.nd rfl (Or.inl rfl) (pe_join pe_str (pe_call Glaw_rows (hr.mono (by decide)) (by rfl) Nlaw_rows.g Nlaw_rows.kp Nlaw_rows.b .nil pass0 (pa_cons (pv 1) pa_nil))))
      (pss_cons (ps_if (pt_cmpR op_ne (pe_call Gshow_line (hr.mono (by decide)) (by rfl) Nshow_line.g Nshow_line.kp Nshow_line.b .nil pass0 (pa_cons (pv 0) pa_nil)) (pv 2) (nomark _)) (pss_one (ps_ret pe_bl)) pss_nil)
      (pss_cons (ps_set (i := 3) sc_law_right.nd rfl (Or.inl rfl) (pe_call Gread_line (hr.mono (by decide)) (by rfl) Nread_line.g Nread_line.kp Nread_line.b .nil pass0 (pa_cons (pv 2) pa_nil)))
      (pss_cons (ps_set (i := 4) sc_law_right.nd rfl (Or.inl rfl) (pe_tup (pa_cons (pe_callTy call_tuple_of (by rfl) T.tuple_ (by decide +kernel) (pa_cons (pe_ix ix_list (pv 1) pe_int (fun _ _ => rfl)) pa_nil)) (pa_cons (pe_callTy call_tuple_of (by rfl) T.tuple_ (by decide +kernel) (pa_cons (pe_ix ix_list (pv 1) pe_int (fun _ _ => rfl)) pa_nil)) (pa_cons (pe_callTy call_tuple_of (by rfl) T.tuple_ (by decide +kernel) (pa_cons (pe_ix ix_list (pv 1) pe_int (fun _ _ => rfl)) pa_nil)) pa_nil)))))
      (pss_cons (ps_if (PW.pt (pw_or (pt_not (pt_val (pe_callB (C8.call_isC IC) (by rfl) T.isinstance_ (by decide +kernel) (pa_cons (pv 3) (pa_cons (pe_glob (v := .ref C) (by rfl) gLine rfl) pa_nil))))) (pw_or1 (pt_cmpR op_ne (pe_callB (call_repr gd hr) (by rfl) T.repr_ (by decide +kernel) (pa_cons (pe_meth0 (pv 3) TC.cl Mtold.m Gtold (hr.mono (by decide)) Mtold.b .nil pass0) pa_nil)) (pe_callB (call_repr gd hr) (by rfl) T.repr_ (by decide +kernel) (pa_cons (pv 4) pa_nil)) (nomark _))))) (pss_one (ps_ret pe_bl)) pss_nil)
      (pss_one (ps_ret (pe_and (pe_gcall gd Glaw_askedL (hr.mono (by decide)) (by rfl) Nlaw_asked_right.g Nlaw_asked_right.kp Nlaw_asked_right.b .nil pass0 (pa_cons (pv 3) (pa_cons (pv 1) pa_nil))) (pe_one (pe_cmpR op_eq (pe_call Gshow_line (hr.mono (by decide)) (by rfl) Nshow_line.g Nshow_line.kp Nshow_line.b .nil pass0 (pa_cons (pv 3) pa_nil)) (pv 2) (nomark _)))))))))), ?_⟩
    generalize hσ : L2.start _ _ = σ0
    obtain rfl : σ0 = [some (.ref x), some (.ref wa), none, none, none] := hσ.symm.trans rfl
    have small : ∀ p ∈ wd.lo, p.1.natAbs ≤ 1000 ∧ p.2.1.natAbs ≤ 1000 ∧ p.2.2.natAbs ≤ 1000 := lo_small ok
    obtain ⟨m1, m2, m3⟩ := (sm_told ok small).rep (by decide) (by decide)
    obtain ⟨dw, hdw⟩ : ∃ dw, dw = toldD wd := ⟨_, rfl⟩
    rw [← hdw] at m1 m2 m3
    refine ⟨⟨_, rfl⟩, _, rfl, .ref wa, wd, rfl, hDk, ok, fun t1 H1 s1 e1 => ⟨_, t1, rowsT wd, rfl, rfl, .inl (SqL.of e1), rows_fit ok, ?_⟩⟩
    simp only [List.set_cons_succ, List.set_cons_zero]
    refine ⟨_, rfl, x, wd, rfl, hL.nt (same_nt s1), ok, fun H2 s2 => ⟨_, rfl, rfl, false, ?_, iteF ?_⟩⟩
    · exact congrArg V.bl (by rw [show PySem.Txt.join (Str.ofString "\n") (rowsT wd) = textT wd from rfl, decide_eq_true rfl]; rfl)
    have s12 := s1.trans s2
    have k2 := same_kt tb s12
    refine ⟨_, rfl, wd, rfl, ok, k2.tab, fun y H3 _ k23 hLy => ?_⟩
    have k3 := k2.trans k23
    have n3 := KT.nt tb k3
    simp only [List.set_cons_succ, List.set_cons_zero]
    refine ⟨_, rfl, wa, _, 0, _, rfl, rfl, n3.seq hw, rfl, ap, xp, rfl, .inl ⟨n3.seq hap, fun u1 hu1 => ?_⟩⟩
    have q1 : Same H3 (upd H3 u1 (.tup xp)) := same_alloc hu1
    have e1 : upd H3 u1 (.tup xp) u1 = some (.tup xp) := upd_same
    generalize upd H3 u1 (.tup xp) = H6 at q1 e1 ⊢
    refine ⟨_, rfl, wa, _, 1, _, rfl, rfl, (n3.trans (same_nt q1)).seq hw, rfl, as_, xs, rfl, .inl ⟨(n3.trans (same_nt q1)).seq has, fun u2 hu2 => ?_⟩⟩
    have q2 : Same H6 (upd H6 u2 (.tup xs)) := same_alloc hu2
    have e2 : upd H6 u2 (.tup xs) u2 = some (.tup xs) := upd_same
    generalize upd H6 u2 (.tup xs) = H7 at q2 e2 ⊢
    have s11 := q1.trans q2
    refine ⟨_, rfl, wa, _, 2, _, rfl, rfl, (n3.trans (same_nt s11)).seq hw, rfl, al, xl, rfl, .inl ⟨(n3.trans (same_nt s11)).seq hal, fun u3 hu3 => ?_⟩⟩
    have q3 : Same H7 (upd H7 u3 (.tup xl)) := same_alloc hu3
    have e3 : upd H7 u3 (.tup xl) u3 = some (.tup xl) := upd_same
    generalize upd H7 u3 (.tup xl) = H8 at q3 e3 ⊢
    have s12' := s11.trans q3
    refine ⟨three_line, fun u4 hu4 => ?_⟩
    have q4 : Same H8 (upd H8 u4 (.tup [.ref u1, .ref u2, .ref u3])) := same_alloc hu4
    have e4 : (upd H8 u4 (.tup [.ref u1, .ref u2, .ref u3])) u4 = some (.tup [.ref u1, .ref u2, .ref u3]) := upd_same
    generalize upd H8 u4 (.tup [.ref u1, .ref u2, .ref u3]) = H9 at q4 e4 ⊢
    have s13 := s12'.trans q4
    have n9 := n3.trans (same_nt s13)
    have due : Dp K H9 (.ref u4) dw := by
      rw [hdw]
      exact .tup (SqT.of e4) (.cons (.tup (SqT.of (q4 _ _ (q3 _ _ (q2 _ _ e1)))) (dpAll_nt n9 dap)) (.cons (.tup (SqT.of (q4 _ _ (q3 _ _ e2))) (dpAll_nt n9 das)) (.cons (.tup (SqT.of (q4 _ _ e3)) (dpAll_nt n9 dal)) .nil)))
    have hLy9 := hLy.nt (same_nt s13)
    have k9 := k3.trans (same_kt k3.tab s13)
    have hD9 := dp_nt n9 hDk
    clear q1 q2 q3 q4 e1 e2 e3 e4 s11 s12' s13 hw hap has hal dap das dal n3 hLy k3 k23 k2 s12
    obtain ⟨dy, p1, p2, p3, d, _, _, _, hy, _⟩ := id hLy9
    have nt := lf_no p1 p2 p3 d (m := Str.ofString "told") (by decide +kernel)
    have cw : ∀ {H' : Hp} {t : Addr}, Dp K H' (.ref t) (.tuple [.tuple (wd.ps.map dP), .tuple (wd.st.map dP), .tuple (wd.lo.map dL)]) → Dp K H' (.ref t) dw := fun h => by rw [hdw]; exact h
    have not_ : ∀ {a : Str}, (!decide (V.str a = V.str a)) = false := fun {a} => by rw [decide_eq_true rfl]; rfl
    simp only [List.set_cons_succ, List.set_cons_zero]
    refine ⟨_, rfl, y, dy, _, rfl, hy, _, rfl, iteF ?_⟩
    refine ⟨_, rfl, y, dy, _, rfl, hy, nt, y, wd, rfl, hLy9, fun t4 H10 s10 d4 => ⟨_, dw, rfl, cw d4, m1, m2, m3, _, rfl, _, dw, rfl, dp_nt (same_nt s10) due, m1, m2, m3, rfl, _, rfl, ifF not_ ?_⟩⟩
    have n10 := same_nt s10
    have k10 := k9.trans (same_kt k9.tab s10)
    refine ⟨_, rfl, _, rfl, y, .ref wa, wd, rfl, hLy9.nt n10, dp_nt n10 hD9, ok, fun H11 s11 => ⟨true, rfl, iteT ?_⟩⟩
    refine ⟨_, rfl, y, wd, rfl, hLy9.nt (n10.trans (same_nt s11)), ok, fun H12 s12 => ⟨_, rfl, rfl, ?_⟩⟩
    rw [show PySem.Txt.join (Str.ofString "\n") (rowsT wd) = textT wd from rfl, decide_eq_true rfl]
    exact k _ (k10.trans (same_kt k10.tab (s11.trans s12)))
end
end K7

set_option maxRecDepth 100000
set_option maxHeartbeats 1000000
namespace K7
open PySem PySem.Spec PyProof.Rows L2 GxR Gd TL My
/-- a line and the world that it was made of -/
def Pair (K : PySem.W.Frag) (C : Addr) (H : Hp) (y : V) : Prop := ∃ (T x : Addr) (v : V) (wd : Wd), y = .ref T ∧ SqT K H T [.ref x, v] ∧ LineAt K C wd H x ∧ Dp K H v wd.data ∧ wd.Ok
theorem Pair.nt {K : PySem.W.Frag} {C : Addr} {H H' : Hp} {y : V} (e : Nt H H') (h : Pair K C H y) : Pair K C H' y := by
  obtain ⟨T, x, v, wd, rfl, h1, h2, h3, h4⟩ := h
  exact ⟨T, x, v, wd, rfl, e.seqT h1, h2.nt e, dp_nt e h3, h4⟩
theorem nw_hide {H0 H : Hp} {L : Addr} (h : H0 L ≠ none) : Nt (nw H0 H) (hide L H) := fun c o _ e => by
  obtain ⟨h1, h2⟩ := nw_some e
  rw [hide_ne (fun q : c = L => h (by rw [← q]; exact h1))]
  exact h2
theorem sqT_hide {K : PySem.W.Frag} {H : Hp} {L a : Addr} {its xs : List V} (hL : H L = some (.lst its)) (h : SqT K H a xs) : SqT K (hide L H) a xs := by
  rcases h with (h | ⟨o, h⟩) | h
  · exact .inl (.inl (by rw [hide_ne (fun e => by rw [e, hL] at h; cases h)]; exact h))
  · exact .inl (.inr ⟨o, by rw [hide_ne (fun e => by rw [e, hL] at h; cases h)]; exact h⟩)
  · exact .inr h
theorem dpP_hide {K : PySem.W.Frag} {H : Hp} {L : Addr} {its : List V} (hL : H L = some (.lst its)) : ∀ {xs : List V} {ps : List (Str × Int)}, DpAll K H xs (ps.map dP) → DpAll K (hide L H) xs (ps.map dP)
  | _, [], .nil => .nil
  | _, p :: r, .cons a t => by
    obtain ⟨u, x, y, rfl, h, q1, q2⟩ := dp_two a
    obtain rfl := dp_str q1
    obtain rfl := dp_int q2
    exact .cons (.tup (sqT_hide hL h) (.cons (.str _) (.cons (.int _) .nil))) (dpP_hide hL t)
theorem dpL_hide {K : PySem.W.Frag} {H : Hp} {L : Addr} {its : List V} (hL : H L = some (.lst its)) : ∀ {xs : List V} {ps : List (Int × Int × Int)}, DpAll K H xs (ps.map dL) → DpAll K (hide L H) xs (ps.map dL)
  | _, [], .nil => .nil
  | _, p :: r, .cons a t => by
    obtain ⟨u, x, y, z, rfl, h, q1, q2, q3⟩ := dp_three a
    obtain rfl := dp_int q1
    obtain rfl := dp_int q2
    obtain rfl := dp_int q3
    exact .cons (.tup (sqT_hide hL h) (.cons (.int _) (.cons (.int _) (.cons (.int _) .nil)))) (dpL_hide hL t)
theorem line_hide {K : PySem.W.Frag} {C : Addr} {wd : Wd} {H : Hp} {x L : Addr} {its : List V} (hL : H L = some (.lst its)) (h : LineAt K C wd H x) : LineAt K C wd (hide L H) x := by
  obtain ⟨dx, p1, p2, p3, d, xs1, xs2, xs3, h1, h2, h3, h4, h5, h6, h7, kvs, h8, h9⟩ := h
  exact ⟨dx, p1, p2, p3, d, xs1, xs2, xs3, by rw [hide_ne (fun e => by rw [e, hL] at h1; cases h1)]; exact h1, sqT_hide hL h2, dpP_hide hL h3, sqT_hide hL h4, dpP_hide hL h5, sqT_hide hL h6, dpL_hide hL h7, kvs, by rw [hide_ne (fun e => by rw [e, hL] at h8; cases h8)]; exact h8, h9⟩
theorem mem_cut {xs : List V} {lo hi : Option Int} {y : V} (h : y ∈ cutV xs lo hi) : y ∈ xs := List.mem_of_mem_drop (List.mem_of_mem_take h)
section
variable {P : Program} {w : World} {K : PySem.W.Frag} {mg : Str → Option Value} {base : Heap}
abbrev s_law : Stmt := top 53
theorem sc_law : FnScope ["_law_script", "_law_kept", "_law_k", "_law_world_here", "_law_one", "_law_other"] ["_law_script"] (defScope s_law) := ⟨rfl, rfl, rfl, by decide +kernel, rfl, by decide +kernel, by decide +kernel⟩
def spLaw (K : PySem.W.Frag) (Pt : Addr) : Sp := fun vs H Q _ => ∃ (l : Addr) (ns : List Int), vs = [.ref l] ∧ SqL K H l (ns.map V.int) ∧ ns.length ≤ 63 ∧ TabG H Pt ∧ ∀ H', Q (.bl true) H'
theorem ok_law {f fC fB fW fI fR C Pt : Addr} {fd fdC fdB fdW fdI fdR : FuncData} (F : Fun K "law" "law" s_law f fd) (T : Txt mg) (TC : ClsT K C) (ML : Mk K C fI) (gL : mg "Line" = some (.ref C)) (bI : Binds K fdI ["self", "places", "stretches", "longs"] [])
    (Ginit : FnOk P w K mg base CX0 5 fI fdI ["self", "places", "stretches", "longs"] (spInit K C Pt))
    (Nlaw_cell : Fn K mg "_law_cell" sCell ["_law_script", "_law_k"] fC fdC) (Glaw_cell : FnOk P w K mg base CX0 1 fC fdC ["_law_script", "_law_k"] (spCell K))
    (Nlaw_box : Fn K mg "_law_box" sBox ["_law_cell_here"] fB fdB) (Glaw_box : FnOk P w K mg base CX0 1 fB fdB ["_law_cell_here"] spBox)
    (Nlaw_world : Fn K mg "_law_world" s_law_world ["_law_box_here"] fW fdW) (Glaw_world : FnOk P w K mg base CX0 3 fW fdW ["_law_box_here"] (spWorld K))
    (Nlaw_right : Fn K mg "_law_right" s_law_right ["_law_line", "_law_world_here"] fR fdR) (Glaw_right : GOk P w K mg base CX0 9 fR fdR ["_law_line", "_law_world_here"] (spRight K C Pt)) :
    GOk P w K mg base CX0 10 f fd ["_law_script"] (spLaw K Pt) := by
  refine gok F sc_law (fun vs H Q E h => ?_) (fun cdv A outer s H vs Q E gd hr h => ?_)
  · obtain ⟨l, ns, rfl, _⟩ := h
    rfl
  · obtain ⟨l, ns, rfl, hS, hlen, hT, k⟩ := h
    refine ⟨_, pss_cons (ps_set (i := 1) sc_law.nd rfl (Or.inl rfl) (pe_lst pa_nil))
      (pss_cons (ps_for PassesOwn.never rfl (pi_range1 (by rfl) T.range_ (pa_cons (pe_callB (call_max2 rfl) (by rfl) T.max_ (by decide +kernel) (pa_cons pe_int (pa_cons (pe_callB (call_min2 rfl) (by rfl) T.min_ (by decide +kernel) (pa_cons pe_int (pa_cons (pe_callB call_len_seq (by rfl) T.len_ PySem.boot_len (pa_cons (pv 0) pa_nil)) pa_nil))) pa_nil))) pa_nil)) (pg_name (i := 2) sc_law.nd rfl (Or.inl rfl)) (pss_cons (ps_set (i := 3) sc_law.nd rfl (Or.inl rfl) (pe_call Glaw_world (hr.mono (by decide)) (by rfl) Nlaw_world.g Nlaw_world.kp Nlaw_world.b .nil pass0 (pa_cons (pe_call Glaw_box (hr.mono (by decide)) (by rfl) Nlaw_box.g Nlaw_box.kp Nlaw_box.b .nil pass0 (pa_cons (pe_call Glaw_cell (hr.mono (by decide)) (by rfl) Nlaw_cell.g Nlaw_cell.kp Nlaw_cell.b .nil pass0 (pa_cons (pv 0) (pa_cons (pv 2) pa_nil))) pa_nil)) pa_nil)))
          (pss_cons (ps_expr (pe_bm PySem.F.plainAttrs_list PySem.F.slot_list_append PySem.F.type_list_append mt_append (pv 1) (pa_cons (pe_tup (pa_cons (pe_make ML Ginit (hr.mono (by decide)) (by rfl) gL bI .nil pass0 (pa_cons (pe_ix ix_list (pv 3) pe_int (fun _ _ => rfl)) (pa_cons (pe_ix ix_list (pv 3) pe_int (fun _ _ => rfl)) (pa_cons (pe_ix ix_list (pv 3) pe_int (fun _ _ => rfl)) pa_nil)))) (pa_cons (pv 3) pa_nil))) pa_nil)))
          (pss_one (ps_for PassesOwn.never rfl (pi_list (pe_slice sl_list (pv 1) (po_some (pe_un un_neg pe_int)) po_none)) (pg_tup (by rfl) (pgs_cons (pg_name (i := 4) sc_law.nd rfl (Or.inl rfl)) (pgs_cons (pg_name (i := 5) sc_law.nd rfl (Or.inl rfl)) pgs_nil))) (pss_one (ps_if (pt_not (pt_val (pe_gcall gd Glaw_right (hr.mono (by decide)) (by rfl) Nlaw_right.g Nlaw_right.kp Nlaw_right.b .nil pass0 (pa_cons (pv 4) (pa_cons (pv 5) pa_nil))))) (pss_one (ps_ret pe_bl)) pss_nil)))))))
      (pss_one (ps_ret pe_bl))), ?_⟩
    generalize hσ : L2.start _ _ = σ0
    obtain rfl : σ0 = [some (.ref l), none, none, none, none, none] := hσ.symm.trans rfl
    refine ⟨Nat.zero_le _, fun L hL => ?_⟩
    have kL : KT Pt H (upd H L (.lst [])) := KT.alloc hT hL
    have hL0 : (upd H L (.lst [])) L = some (.lst []) := upd_same
    generalize upd H L (.lst []) = H0 at kL hL0 ⊢
    have hS0 := seq_kt hT kL hS
    simp only [List.set_cons_succ, List.set_cons_zero]
    refine ⟨_, rfl, l, _, rfl, .inl hS0, _, _, rfl, _, _, rfl, ?_⟩
    obtain ⟨N, hN, N2, N10⟩ : ∃ N : Nat, (if (if (((ns.map V.int).length : Nat) : Int) < 10 then (((ns.map V.int).length : Nat) : Int) else 10) > 2 then (if (((ns.map V.int).length : Nat) : Int) < 10 then (((ns.map V.int).length : Nat) : Int) else 10) else 2) = (N : Int) ∧ 2 ≤ N ∧ N ≤ 10 := by
      rw [List.length_map]
      refine ⟨max 2 (min 10 ns.length), ?_, by omega, by omega⟩
      split <;> split <;> omega
    rw [hN]
    refine ⟨_, rfl, by omega, by omega, ?_⟩
    rw [Int.toNat_natCast]
    refine for_range (lo := 0) (n := N) (fun i σ H' => ∃ (v2 v3 v4 v5 : Option V) (its : List V), σ = [some (.ref l), some (.ref L), v2, v3, v4, v5] ∧ H' L = some (.lst its) ∧ its.length ≤ i ∧ (∀ y ∈ its, Pair K C (hide L H') y) ∧ KT Pt H H') ⟨_, _, _, _, [], rfl, hL0, Nat.zero_le _, by simp, kL⟩ ?_ ?_
    · rintro i σ H1 hi ⟨v2, v3, v4, v5, its, rfl, hI, hIl, hP, k1⟩
      have hS1 := seq_kt hT k1 hS
      refine ⟨_, rfl, _, rfl, l, ns, i, ?_, hS1, fun c => ⟨c, rfl, fun b H2 fb off2 B2 => ⟨b, 0, rfl, B2, by omega, fun wd v H3 ok k3 hD B3 => ?_⟩⟩⟩
      · show [V.ref l, V.int (0 + (i : Int))] = [V.ref l, V.int i]
        rw [Int.zero_add]
      have kk : KT Pt H1 H3 := KT.box k1.tab fb off2 k3
      have nLP : L ≠ Pt := ne_tab k1.tab hI (by simp)
      have hI2 : H2 L ≠ none := by
        rw [off2 L (ne_of_none hI fb), hI]
        simp
      have tab3 := kk.tab
      have hDL := dp_nt (nw_hide (H := H3) hI2) (Dr.dp (K := K) hD)
      have hI3 : H3 L = some (.lst its) := kk.keep _ _ nLP hI
      clear hD B3 k3 off2 B2 hI2
      have hDk := hDL
      obtain ⟨wa, vp, vs_, vl, vu, rfl, hw, hp, hs, hl, hu4⟩ := dp_four hDL
      obtain ⟨ap, xp, rfl, hap, dap⟩ := dp_list hp
      obtain ⟨as_, xs, rfl, has, das⟩ := dp_list hs
      obtain ⟨al, xl, rfl, hal, dal⟩ := dp_list hl
      have hn : Nt (hide L H3) H3 := hide_nt L H3
      simp only [List.set_cons_succ, List.set_cons_zero]
      refine ⟨_, rfl, .inl ⟨rfl, _, SqL.of hI3⟩, _, rfl, wa, _, 0, .ref ap, rfl, rfl, hn.seq hw, rfl, _, rfl, wa, _, 1, .ref as_, rfl, rfl, hn.seq hw, rfl, _, rfl, wa, _, 2, .ref al, rfl, rfl, hn.seq hw, rfl, fun x dx hx0 hdx ne => ?_⟩
      have s34 : Same H3 (upd (upd H3 dx (.own x)) x (.ins C dx [])) := (same_alloc hdx).trans (same_alloc (by rw [upd_ne ne.symm]; exact hx0))
      have e4 := hn.trans (same_nt s34)
      refine ⟨x, dx, ap, as_, .ref al, xp, xs, wd, rfl, upd_same, .inl (e4.seq hap), dpAll_nt e4 dap, .inl (e4.seq has), dpAll_nt e4 das, .inr ⟨al, xl, rfl, .inl (e4.seq hal), dpAll_nt e4 dal⟩, ok, (same_kt tab3 s34).tab, fun H5 ki hLine _ => ⟨rfl, ?_⟩⟩
      have k35 : KT Pt H3 H5 := ⟨fun c o n h => ki.keep c o (ne_of_none h hx0) n (s34 c o h), ki.tab⟩
      have hI5 : H5 L = some (.lst its) := k35.keep _ _ nLP hI3
      have k15 := kk.trans k35
      have hD5 := dp_nt (hide_mono (KT.nt tab3 k35)) hDk
      clear hDk hDL hw hp hs hl hap has hal dap das dal hn e4 s34 ki hu4 hI3 tab3
      refine ⟨_, rfl, two_line, fun T hT => ?_⟩
      have nLT : L ≠ T := ne_of_none hI5 hT
      have hI7 : (upd H5 T (.tup [.ref x, .ref wa])) L = some (.lst its) := by rw [upd_ne nLT]; exact hI5
      refine ⟨L, its, .ref T, rfl, rfl, hI7, Nat.lt_of_le_of_lt hIl (lt_line _ (by omega)), ?_⟩
      have eO : Nt (hide L H1) (hide L (upd (upd H5 T (.tup [.ref x, .ref wa])) L (.lst (its ++ [.ref T])))) := ((hide_mono (KT.nt k1.tab k15)).trans (hide_mono (Nt.alloc hT))).trans hide_put1
      have eN : Nt (hide L H5) (hide L (upd (upd H5 T (.tup [.ref x, .ref wa])) L (.lst (its ++ [.ref T])))) := (hide_mono (Nt.alloc hT)).trans hide_put1
      have k57 : KT Pt H (upd (upd H5 T (.tup [.ref x, .ref wa])) L (.lst (its ++ [.ref T]))) := KT.put ((k1.trans k15).trans (KT.alloc k15.tab hT)) hL nLP
      have hI8 : (upd (upd H5 T (.tup [.ref x, .ref wa])) L (.lst (its ++ [.ref T]))) L = some (.lst (its ++ [.ref T])) := upd_same
      have hT8 : hide L (upd (upd H5 T (.tup [.ref x, .ref wa])) L (.lst (its ++ [.ref T]))) T = some (.tup [.ref x, .ref wa]) := by rw [hide_ne nLT.symm, upd_ne nLT.symm]; exact upd_same
      generalize upd (upd H5 T (.tup [.ref x, .ref wa])) L (.lst (its ++ [.ref T])) = H7 at eO eN k57 hI8 hT8 ⊢
      have hP7 : ∀ y ∈ its ++ [V.ref T], Pair K C (hide L H7) y := by
        intro y hy
        rcases List.mem_append.mp hy with q | q
        · exact (hP y q).nt eO
        · obtain rfl := List.mem_singleton.mp q
          exact ⟨T, x, _, wd, rfl, SqT.of hT8, (line_hide hI5 hLine).nt eN, dp_nt eN hD5, ok⟩
      have hl7 : (its ++ [V.ref T]).length ≤ i + 1 := by
        rw [List.length_append]
        exact Nat.succ_le_succ hIl
      generalize its ++ [V.ref T] = it7 at hI8 hP7 hl7 ⊢
      refine ⟨_, rfl, _, rfl, _, rfl, L, _, rfl, SqL.of hI8, fun p hp => ⟨p, rfl, ⟨_, SqL.of upd_same⟩, for_list (K := K) (a := p) (xs := cutV it7 (some (-2)) none) (fun j σ H' => ∃ u4 u5 : Option V, σ = [some (.ref l), some (.ref L), some (.int (0 + (i : Int))), some (.ref wa), u4, u5] ∧ KT Pt (upd H7 p (.lst (cutV it7 (some (-2)) none))) H') ⟨_, _, rfl, KT.refl (KT.alloc k57.tab hp).tab⟩ (fun j σ H' _ ⟨_, _, _, q⟩ => seq_kt (KT.alloc k57.tab hp).tab q (SqL.of upd_same)) ?_ ?_⟩⟩
      · rintro j y σ H9 hy ⟨w4, w5, rfl, s9⟩
        have s79 := (KT.alloc k57.tab hp).trans s9
        obtain ⟨T', x', v', wd', rfl, g1, g2, g3, g4⟩ := ((hP7 y (mem_cut (List.mem_of_getElem? hy))).nt (hide_nt L H7)).nt (KT.nt k57.tab s79)
        exact ⟨T', _, rfl, g1, rfl, _, _, rfl, _, _, rfl, rfl, _, rfl, _, rfl, x', v', wd', rfl, g2, g3, g4, s9.tab, fun H10 s10 => ⟨_, rfl, iteF ⟨_, _, rfl, s9.trans s10⟩⟩⟩
      · rintro σ H9 ⟨w4, w5, rfl, s9⟩
        have s79 := (KT.alloc k57.tab hp).trans s9
        exact ⟨_, _, _, _, it7, rfl, s79.keep _ _ nLP hI8, hl7, fun y hy => (hP7 y hy).nt (hide_mono (KT.nt k57.tab s79)), k57.trans s79⟩
    · rintro σ H1 ⟨v2, v3, v4, v5, its, rfl, _⟩
      exact k H1
end
end K7

namespace K7
open PySem PySem.Spec L2
theorem cst2 {K : PySem.W.Frag} {a : Addr} {o : Obj} {z0 z1 : Str} {t0 t1 : Tok} {n : Nat} {zs : List Str} (l : K.lookup a = some o) (c : o.cls = .type "tuple") (d : o.dict = none) (e : o.data = .seq #[.str z0 t0, .str z1 t1] n) (h : [z0, z1] = zs) : Cst K a zs := by
  subst h
  exact ⟨fun H => .inr ⟨o, _, n, l, c, e, fit (by simp), .cons ⟨_, rfl⟩ (.cons ⟨_, rfl⟩ .nil)⟩, o, l, c, d⟩
theorem cst3 {K : PySem.W.Frag} {a : Addr} {o : Obj} {z0 z1 z2 : Str} {t0 t1 t2 : Tok} {n : Nat} {zs : List Str} (l : K.lookup a = some o) (c : o.cls = .type "tuple") (d : o.dict = none) (e : o.data = .seq #[.str z0 t0, .str z1 t1, .str z2 t2] n) (h : [z0, z1, z2] = zs) : Cst K a zs := by
  subst h
  exact ⟨fun H => .inr ⟨o, _, n, l, c, e, fit (by simp), .cons ⟨_, rfl⟩ (.cons ⟨_, rfl⟩ (.cons ⟨_, rfl⟩ .nil))⟩, o, l, c, d⟩
end K7

set_option maxRecDepth 100000
set_option maxHeartbeats 4000000
namespace K7
open PySem PySem.Spec PyProof.Rows L2 GxR Gd TL My
theorem all_mk {l : PySem.W.OpenLaw} {q : Program} {w : World} {K : PySem.W.Frag} {h : Heap} {mg : Str → Option Value} {fa C aSI aSO f1 f2 f3 f4 f5 f6 f7 f8 f9 f10 f11 f12 f13 f14 f15 f16 f17 f18 f19 f20 f21 f22 f23 f24 f25 f26 f27 f28 f29 f30 f31 f32 f33 f34 f35 f36 f37 f38 f39 f40 f41 f42 f43 f44 f45 f46 f47 co tb : Addr} {eo : Value} {eoD : Option Addr} {us : Array Value} {usl : Array (Option Value)}
    (X : K.In h) (G : h.Ns mainGlobals mg) (hfa : mg "law" = some (.ref fa)) (em : Empt q K h)
    {dT : Addr} {oT : Obj} {mT : Nat} {oSI oSO : Obj} {zl0 zl1 zp0 zp1 zp2 : Str} {kl0 kl1 kp0 kp1 kp2 : Tok} {nSI nSO : Nat} {od1 an1 : Option Addr} {sl1 : Array (Option Value)} {oc1 kV1 dc1 pm1 cd1 ct1 : Value} {od2 an2 : Option Addr} {sl2 : Array (Option Value)} {oc2 kV2 dc2 pm2 ct2 : Value} {od3 an3 : Option Addr} {sl3 : Array (Option Value)} {oc3 kV3 dc3 pm3 cd3 ct3 : Value} {od4 an4 : Option Addr} {sl4 : Array (Option Value)} {oc4 kV4 dc4 pm4 cd4 ct4 : Value} {od5 an5 : Option Addr} {sl5 : Array (Option Value)} {oc5 kV5 dc5 pm5 cd5 ct5 : Value} {od6 an6 : Option Addr} {sl6 : Array (Option Value)} {oc6 kV6 dc6 pm6 cd6 ct6 : Value} {od7 an7 : Option Addr} {sl7 : Array (Option Value)} {oc7 kV7 dc7 pm7 cd7 ct7 : Value} {od8 an8 : Option Addr} {sl8 : Array (Option Value)} {oc8 kV8 dc8 pm8 cd8 ct8 : Value} {od9 an9 : Option Addr} {sl9 : Array (Option Value)} {oc9 kV9 dc9 pm9 cd9 ct9 : Value} {od10 an10 : Option Addr} {sl10 : Array (Option Value)} {oc10 kV10 dc10 pm10 cd10 ct10 : Value} {od11 an11 : Option Addr} {sl11 : Array (Option Value)} {oc11 kV11 dc11 pm11 cd11 ct11 : Value} {od12 an12 : Option Addr} {sl12 : Array (Option Value)} {oc12 kV12 dc12 pm12 cd12 ct12 : Value} {od13 an13 : Option Addr} {sl13 : Array (Option Value)} {oc13 kV13 dc13 pm13 cd13 ct13 : Value} {od14 an14 : Option Addr} {sl14 : Array (Option Value)} {oc14 kV14 dc14 pm14 cd14 ct14 : Value} {od15 an15 : Option Addr} {sl15 : Array (Option Value)} {oc15 kV15 dc15 pm15 cd15 ct15 : Value} {od16 an16 : Option Addr} {sl16 : Array (Option Value)} {oc16 kV16 dc16 pm16 cd16 ct16 : Value} {od17 an17 : Option Addr} {sl17 : Array (Option Value)} {oc17 kV17 dc17 pm17 cd17 ct17 : Value} {od18 an18 : Option Addr} {sl18 : Array (Option Value)} {oc18 kV18 dc18 pm18 cd18 ct18 : Value} {od19 an19 : Option Addr} {sl19 : Array (Option Value)} {oc19 kV19 dc19 pm19 cd19 ct19 : Value} {od20 an20 : Option Addr} {sl20 : Array (Option Value)} {oc20 kV20 dc20 pm20 cd20 ct20 : Value} {od21 an21 : Option Addr} {sl21 : Array (Option Value)} {oc21 kV21 dc21 pm21 cd21 ct21 : Value} {od22 an22 : Option Addr} {sl22 : Array (Option Value)} {oc22 kV22 dc22 pm22 cd22 ct22 : Value} {od23 an23 : Option Addr} {sl23 : Array (Option Value)} {oc23 kV23 dc23 pm23 cd23 ct23 : Value} {od24 an24 : Option Addr} {sl24 : Array (Option Value)} {oc24 kV24 dc24 pm24 cd24 ct24 : Value} {od25 an25 : Option Addr} {sl25 : Array (Option Value)} {oc25 kV25 dc25 pm25 cd25 ct25 : Value} {od26 an26 : Option Addr} {sl26 : Array (Option Value)} {oc26 kV26 dc26 pm26 cd26 ct26 : Value} {od27 an27 : Option Addr} {sl27 : Array (Option Value)} {oc27 kV27 dc27 pm27 cd27 ct27 : Value} {od28 an28 : Option Addr} {sl28 : Array (Option Value)} {oc28 kV28 dc28 pm28 cd28 ct28 : Value} {od29 an29 : Option Addr} {sl29 : Array (Option Value)} {oc29 kV29 dc29 pm29 cd29 ct29 : Value} {od30 an30 : Option Addr} {sl30 : Array (Option Value)} {oc30 kV30 dc30 pm30 cd30 ct30 : Value} {od31 an31 : Option Addr} {sl31 : Array (Option Value)} {oc31 kV31 dc31 pm31 cd31 ct31 : Value} {od32 an32 : Option Addr} {sl32 : Array (Option Value)} {oc32 kV32 dc32 pm32 cd32 ct32 : Value} {od33 an33 : Option Addr} {sl33 : Array (Option Value)} {oc33 kV33 dc33 pm33 cd33 ct33 : Value} {od34 an34 : Option Addr} {sl34 : Array (Option Value)} {oc34 kV34 dc34 pm34 cd34 ct34 : Value} {od35 an35 : Option Addr} {sl35 : Array (Option Value)} {oc35 kV35 dc35 pm35 cd35 ct35 : Value} {od36 an36 : Option Addr} {sl36 : Array (Option Value)} {oc36 kV36 dc36 pm36 cd36 ct36 : Value} {od37 an37 : Option Addr} {sl37 : Array (Option Value)} {oc37 kV37 dc37 pm37 cd37 ct37 : Value} {od38 an38 : Option Addr} {sl38 : Array (Option Value)} {oc38 kV38 dc38 pm38 cd38 ct38 : Value} {od39 an39 : Option Addr} {sl39 : Array (Option Value)} {oc39 kV39 dc39 pm39 cd39 ct39 : Value} {od40 an40 : Option Addr} {sl40 : Array (Option Value)} {oc40 kV40 dc40 pm40 cd40 ct40 : Value} {od41 an41 : Option Addr} {sl41 : Array (Option Value)} {oc41 kV41 dc41 pm41 cd41 ct41 : Value} {od42 an42 : Option Addr} {sl42 : Array (Option Value)} {oc42 kV42 dc42 pm42 cd42 ct42 : Value} {od43 an43 : Option Addr} {sl43 : Array (Option Value)} {oc43 kV43 dc43 pm43 cd43 ct43 : Value} {od44 an44 : Option Addr} {sl44 : Array (Option Value)} {oc44 kV44 dc44 pm44 cd44 ct44 : Value} {od45 an45 : Option Addr} {sl45 : Array (Option Value)} {oc45 kV45 dc45 pm45 cd45 ct45 : Value} {od46 an46 : Option Addr} {sl46 : Array (Option Value)} {oc46 kV46 dc46 pm46 cd46 ct46 : Value} {od47 an47 : Option Addr} {sl47 : Array (Option Value)} {oc47 kV47 dc47 pm47 cd47 ct47 : Value}
    (aC : PySem.W.nsIn K mainGlobals "Line" = some (some (.ref C))) (pgC : PySem.W.plainGet K C Str.empty = true) (hdC : PySem.W.hasDictIn K C = true) (poC : PySem.W.plainOver K C = true) (saC : PySem.W.findIn K (.ref C) "__setattr__" = some (some (.builtin "object.__setattr__"))) (mkC : PySem.W.makesIn K C = true) (kcC : PySem.W.keepIn K (.ref C) = true) (n0C : PySem.W.findIn K (.ref C) "_places" = some none) (n1C : PySem.W.findIn K (.ref C) "_stretches" = some none) (n2C : PySem.W.findIn K (.ref C) "_longs" = some none) (n3C : PySem.W.findIn K (.ref C) "_numbers" = some none) (a1 : PySem.W.nsIn K mainGlobals "is_whole" = some (some (.ref f1))) (l1 : K.lookup f1 = some ⟨oc1, od1, .func (PySem.W.fnOf "is_whole" "is_whole" (defArgs sWhole) (defBody sWhole) (defScope sWhole) .none kV1 dc1 pm1 an1 cd1 ct1), sl1⟩) (c1 : PySem.W.codeIn K cd1 "is_whole" = true) (k1 : PySem.W.keepIn K (.ref f1) = true) (a2 : PySem.W.nsIn K mainGlobals "is_name" = some (some (.ref f2))) (l2 : K.lookup f2 = some ⟨oc2, od2, .func (PySem.W.fnOf "is_name" "is_name" (defArgs sName) (defBody sName) (defScope sName) .none kV2 dc2 pm2 an2 (.ref co) ct2), sl2⟩) (c2 : PySem.W.codeIn K (.ref co) "is_name" = true) (k2 : PySem.W.keepIn K (.ref f2) = true) (a3 : PySem.W.nsIn K mainGlobals "is_list" = some (some (.ref f3))) (l3 : K.lookup f3 = some ⟨oc3, od3, .func (PySem.W.fnOf "is_list" "is_list" (defArgs s_is_list) (defBody s_is_list) (defScope s_is_list) .none kV3 dc3 pm3 an3 cd3 ct3), sl3⟩) (c3 : PySem.W.codeIn K cd3 "is_list" = true) (k3 : PySem.W.keepIn K (.ref f3) = true) (a4 : PySem.W.nsIn K mainGlobals "is_tuple" = some (some (.ref f4))) (l4 : K.lookup f4 = some ⟨oc4, od4, .func (PySem.W.fnOf "is_tuple" "is_tuple" (defArgs s_is_tuple) (defBody s_is_tuple) (defScope s_is_tuple) .none kV4 dc4 pm4 an4 cd4 ct4), sl4⟩) (c4 : PySem.W.codeIn K cd4 "is_tuple" = true) (k4 : PySem.W.keepIn K (.ref f4) = true) (a5 : PySem.W.nsIn K mainGlobals "rows_of" = some (some (.ref f5))) (l5 : K.lookup f5 = some ⟨oc5, od5, .func (PySem.W.fnOf "rows_of" "rows_of" (defArgs s_rows_of) (defBody s_rows_of) (defScope s_rows_of) .none kV5 dc5 pm5 an5 cd5 ct5), sl5⟩) (c5 : PySem.W.codeIn K cd5 "rows_of" = true) (k5 : PySem.W.keepIn K (.ref f5) = true) (a6 : PySem.W.nsIn K mainGlobals "_check_place" = some (some (.ref f6))) (l6 : K.lookup f6 = some ⟨oc6, od6, .func (PySem.W.fnOf "_check_place" "_check_place" (defArgs s_check_place) (defBody s_check_place) (defScope s_check_place) .none kV6 dc6 pm6 an6 cd6 ct6), sl6⟩) (c6 : PySem.W.codeIn K cd6 "_check_place" = true) (k6 : PySem.W.keepIn K (.ref f6) = true) (a7 : PySem.W.nsIn K mainGlobals "_check_places" = some (some (.ref f7))) (l7 : K.lookup f7 = some ⟨oc7, od7, .func (PySem.W.fnOf "_check_places" "_check_places" (defArgs s_check_places) (defBody s_check_places) (defScope s_check_places) .none kV7 dc7 pm7 an7 cd7 ct7), sl7⟩) (c7 : PySem.W.codeIn K cd7 "_check_places" = true) (k7 : PySem.W.keepIn K (.ref f7) = true) (a8 : PySem.W.nsIn K mainGlobals "is_stretch_lines" = some (some (.ref f8))) (l8 : K.lookup f8 = some ⟨oc8, od8, .func (PySem.W.fnOf "_is_stretch" "_is_stretch" (defArgs s_is_stretch_lines) (defBody s_is_stretch_lines) (defScope s_is_stretch_lines) .none kV8 dc8 pm8 an8 cd8 ct8), sl8⟩) (c8 : PySem.W.codeIn K cd8 "_is_stretch" = true) (k8 : PySem.W.keepIn K (.ref f8) = true) (a9 : PySem.W.nsIn K mainGlobals "_check_stretches" = some (some (.ref f9))) (l9 : K.lookup f9 = some ⟨oc9, od9, .func (PySem.W.fnOf "_check_stretches" "_check_stretches" (defArgs s_check_stretches) (defBody s_check_stretches) (defScope s_check_stretches) .none kV9 dc9 pm9 an9 cd9 ct9), sl9⟩) (c9 : PySem.W.codeIn K cd9 "_check_stretches" = true) (k9 : PySem.W.keepIn K (.ref f9) = true) (a10 : PySem.W.nsIn K mainGlobals "is_long_lines" = some (some (.ref f10))) (l10 : K.lookup f10 = some ⟨oc10, od10, .func (PySem.W.fnOf "_is_long" "_is_long" (defArgs s_is_long_lines) (defBody s_is_long_lines) (defScope s_is_long_lines) .none kV10 dc10 pm10 an10 cd10 ct10), sl10⟩) (c10 : PySem.W.codeIn K cd10 "_is_long" = true) (k10 : PySem.W.keepIn K (.ref f10) = true) (a11 : PySem.W.nsIn K mainGlobals "_check_longs" = some (some (.ref f11))) (l11 : K.lookup f11 = some ⟨oc11, od11, .func (PySem.W.fnOf "_check_longs" "_check_longs" (defArgs s_check_longs) (defBody s_check_longs) (defScope s_check_longs) .none kV11 dc11 pm11 an11 cd11 ct11), sl11⟩) (c11 : PySem.W.codeIn K cd11 "_check_longs" = true) (k11 : PySem.W.keepIn K (.ref f11) = true) (a12 : PySem.W.findIn K (.ref C) "__init__" = some (some (.ref f12))) (i12 : PySem.W.isFn K (.ref f12) = true) (l12 : K.lookup f12 = some ⟨oc12, od12, .func (PySem.W.fnOf "__init__" "Line.__init__" (defArgs s_init) (defBody s_init) (defScope s_init) (.ref dT) kV12 dc12 pm12 an12 cd12 ct12), sl12⟩) (c12 : PySem.W.codeIn K cd12 "Line.__init__" = true) (k12 : PySem.W.keepIn K (.ref f12) = true) (a13 : PySem.W.findIn K (.ref C) "number_of" = some (some (.ref f13))) (i13 : PySem.W.isFn K (.ref f13) = true) (l13 : K.lookup f13 = some ⟨oc13, od13, .func (PySem.W.fnOf "number_of" "Line.number_of" (defArgs s_number_of) (defBody s_number_of) (defScope s_number_of) .none kV13 dc13 pm13 an13 cd13 ct13), sl13⟩) (c13 : PySem.W.codeIn K cd13 "Line.number_of" = true) (k13 : PySem.W.keepIn K (.ref f13) = true) (a14 : PySem.W.findIn K (.ref C) "names" = some (some (.ref f14))) (i14 : PySem.W.isFn K (.ref f14) = true) (l14 : K.lookup f14 = some ⟨oc14, od14, .func (PySem.W.fnOf "names" "Line.names" (defArgs s_names) (defBody s_names) (defScope s_names) .none kV14 dc14 pm14 an14 cd14 ct14), sl14⟩) (c14 : PySem.W.codeIn K cd14 "Line.names" = true) (k14 : PySem.W.keepIn K (.ref f14) = true) (a15 : PySem.W.findIn K (.ref C) "roads" = some (some (.ref f15))) (i15 : PySem.W.isFn K (.ref f15) = true) (l15 : K.lookup f15 = some ⟨oc15, od15, .func (PySem.W.fnOf "roads" "Line.roads" (defArgs s_roads) (defBody s_roads) (defScope s_roads) .none kV15 dc15 pm15 an15 cd15 ct15), sl15⟩) (c15 : PySem.W.codeIn K cd15 "Line.roads" = true) (k15 : PySem.W.keepIn K (.ref f15) = true) (a16 : PySem.W.findIn K (.ref C) "many_stretches" = some (some (.ref f16))) (i16 : PySem.W.isFn K (.ref f16) = true) (l16 : K.lookup f16 = some ⟨oc16, od16, .func (PySem.W.fnOf "many_stretches" "Line.many_stretches" (defArgs s_many_stretches) (defBody s_many_stretches) (defScope s_many_stretches) .none kV16 dc16 pm16 an16 cd16 ct16), sl16⟩) (c16 : PySem.W.codeIn K cd16 "Line.many_stretches" = true) (k16 : PySem.W.keepIn K (.ref f16) = true) (a17 : PySem.W.findIn K (.ref C) "_check_stretch" = some (some (.ref f17))) (i17 : PySem.W.isFn K (.ref f17) = true) (l17 : K.lookup f17 = some ⟨oc17, od17, .func (PySem.W.fnOf "_check_stretch" "Line._check_stretch" (defArgs s_check_stretch) (defBody s_check_stretch) (defScope s_check_stretch) .none kV17 dc17 pm17 an17 cd17 ct17), sl17⟩) (c17 : PySem.W.codeIn K cd17 "Line._check_stretch" = true) (k17 : PySem.W.keepIn K (.ref f17) = true) (a18 : PySem.W.findIn K (.ref C) "ends" = some (some (.ref f18))) (i18 : PySem.W.isFn K (.ref f18) = true) (l18 : K.lookup f18 = some ⟨oc18, od18, .func (PySem.W.fnOf "ends" "Line.ends" (defArgs s_ends) (defBody s_ends) (defScope s_ends) .none kV18 dc18 pm18 an18 cd18 ct18), sl18⟩) (c18 : PySem.W.codeIn K cd18 "Line.ends" = true) (k18 : PySem.W.keepIn K (.ref f18) = true) (a19 : PySem.W.findIn K (.ref C) "kind" = some (some (.ref f19))) (i19 : PySem.W.isFn K (.ref f19) = true) (l19 : K.lookup f19 = some ⟨oc19, od19, .func (PySem.W.fnOf "kind" "Line.kind" (defArgs s_kind) (defBody s_kind) (defScope s_kind) .none kV19 dc19 pm19 an19 cd19 ct19), sl19⟩) (c19 : PySem.W.codeIn K cd19 "Line.kind" = true) (k19 : PySem.W.keepIn K (.ref f19) = true) (a20 : PySem.W.findIn K (.ref C) "home" = some (some (.ref f20))) (i20 : PySem.W.isFn K (.ref f20) = true) (l20 : K.lookup f20 = some ⟨oc20, od20, .func (PySem.W.fnOf "home" "Line.home" (defArgs s_home) (defBody s_home) (defScope s_home) .none kV20 dc20 pm20 an20 cd20 ct20), sl20⟩) (c20 : PySem.W.codeIn K cd20 "Line.home" = true) (k20 : PySem.W.keepIn K (.ref f20) = true) (a21 : PySem.W.findIn K (.ref C) "between" = some (some (.ref f21))) (i21 : PySem.W.isFn K (.ref f21) = true) (l21 : K.lookup f21 = some ⟨oc21, od21, .func (PySem.W.fnOf "between" "Line.between" (defArgs s_between) (defBody s_between) (defScope s_between) .none kV21 dc21 pm21 an21 cd21 ct21), sl21⟩) (c21 : PySem.W.codeIn K cd21 "Line.between" = true) (k21 : PySem.W.keepIn K (.ref f21) = true) (a22 : PySem.W.findIn K (.ref C) "many_longs" = some (some (.ref f22))) (i22 : PySem.W.isFn K (.ref f22) = true) (l22 : K.lookup f22 = some ⟨oc22, od22, .func (PySem.W.fnOf "many_longs" "Line.many_longs" (defArgs s_many_longs) (defBody s_many_longs) (defScope s_many_longs) .none kV22 dc22 pm22 an22 cd22 ct22), sl22⟩) (c22 : PySem.W.codeIn K cd22 "Line.many_longs" = true) (k22 : PySem.W.keepIn K (.ref f22) = true) (a23 : PySem.W.findIn K (.ref C) "_long" = some (some (.ref f23))) (i23 : PySem.W.isFn K (.ref f23) = true) (l23 : K.lookup f23 = some ⟨oc23, od23, .func (PySem.W.fnOf "_long" "Line._long" (defArgs s_long) (defBody s_long) (defScope s_long) .none kV23 dc23 pm23 an23 cd23 ct23), sl23⟩) (c23 : PySem.W.codeIn K cd23 "Line._long" = true) (k23 : PySem.W.keepIn K (.ref f23) = true) (a24 : PySem.W.findIn K (.ref C) "long_ends" = some (some (.ref f24))) (i24 : PySem.W.isFn K (.ref f24) = true) (l24 : K.lookup f24 = some ⟨oc24, od24, .func (PySem.W.fnOf "long_ends" "Line.long_ends" (defArgs s_long_ends) (defBody s_long_ends) (defScope s_long_ends) .none kV24 dc24 pm24 an24 cd24 ct24), sl24⟩) (c24 : PySem.W.codeIn K cd24 "Line.long_ends" = true) (k24 : PySem.W.keepIn K (.ref f24) = true) (a25 : PySem.W.findIn K (.ref C) "long_stretches" = some (some (.ref f25))) (i25 : PySem.W.isFn K (.ref f25) = true) (l25 : K.lookup f25 = some ⟨oc25, od25, .func (PySem.W.fnOf "long_stretches" "Line.long_stretches" (defArgs s_long_stretches) (defBody s_long_stretches) (defScope s_long_stretches) .none kV25 dc25 pm25 an25 cd25 ct25), sl25⟩) (c25 : PySem.W.codeIn K cd25 "Line.long_stretches" = true) (k25 : PySem.W.keepIn K (.ref f25) = true) (a26 : PySem.W.findIn K (.ref C) "long_home" = some (some (.ref f26))) (i26 : PySem.W.isFn K (.ref f26) = true) (l26 : K.lookup f26 = some ⟨oc26, od26, .func (PySem.W.fnOf "long_home" "Line.long_home" (defArgs s_long_home) (defBody s_long_home) (defScope s_long_home) .none kV26 dc26 pm26 an26 cd26 ct26), sl26⟩) (c26 : PySem.W.codeIn K cd26 "Line.long_home" = true) (k26 : PySem.W.keepIn K (.ref f26) = true) (a27 : PySem.W.findIn K (.ref C) "long_between" = some (some (.ref f27))) (i27 : PySem.W.isFn K (.ref f27) = true) (l27 : K.lookup f27 = some ⟨oc27, od27, .func (PySem.W.fnOf "long_between" "Line.long_between" (defArgs s_long_between) (defBody s_long_between) (defScope s_long_between) .none kV27 dc27 pm27 an27 cd27 ct27), sl27⟩) (c27 : PySem.W.codeIn K cd27 "Line.long_between" = true) (k27 : PySem.W.keepIn K (.ref f27) = true) (a28 : PySem.W.findIn K (.ref C) "long_of" = some (some (.ref f28))) (i28 : PySem.W.isFn K (.ref f28) = true) (l28 : K.lookup f28 = some ⟨oc28, od28, .func (PySem.W.fnOf "long_of" "Line.long_of" (defArgs s_long_of) (defBody s_long_of) (defScope s_long_of) .none kV28 dc28 pm28 an28 cd28 ct28), sl28⟩) (c28 : PySem.W.codeIn K cd28 "Line.long_of" = true) (k28 : PySem.W.keepIn K (.ref f28) = true) (a29 : PySem.W.findIn K (.ref C) "told" = some (some (.ref f29))) (i29 : PySem.W.isFn K (.ref f29) = true) (l29 : K.lookup f29 = some ⟨oc29, od29, .func (PySem.W.fnOf "told" "Line.told" (defArgs s_told) (defBody s_told) (defScope s_told) .none kV29 dc29 pm29 an29 cd29 ct29), sl29⟩) (c29 : PySem.W.codeIn K cd29 "Line.told" = true) (k29 : PySem.W.keepIn K (.ref f29) = true) (a30 : PySem.W.nsIn K mainGlobals "show_line" = some (some (.ref f30))) (l30 : K.lookup f30 = some ⟨oc30, od30, .func (PySem.W.fnOf "show_line" "show_line" (defArgs s_show_line) (defBody s_show_line) (defScope s_show_line) .none kV30 dc30 pm30 an30 cd30 ct30), sl30⟩) (c30 : PySem.W.codeIn K cd30 "show_line" = true) (k30 : PySem.W.keepIn K (.ref f30) = true) (a31 : PySem.W.nsIn K mainGlobals "_is_place" = some (some (.ref f31))) (l31 : K.lookup f31 = some ⟨oc31, od31, .func (PySem.W.fnOf "_is_place" "_is_place" (defArgs s_is_place) (defBody s_is_place) (defScope s_is_place) .none kV31 dc31 pm31 an31 cd31 ct31), sl31⟩) (c31 : PySem.W.codeIn K cd31 "_is_place" = true) (k31 : PySem.W.keepIn K (.ref f31) = true) (a32 : PySem.W.nsIn K mainGlobals "is_stretch_linetext" = some (some (.ref f32))) (l32 : K.lookup f32 = some ⟨oc32, od32, .func (PySem.W.fnOf "_is_stretch" "_is_stretch" (defArgs s_is_stretch_linetext) (defBody s_is_stretch_linetext) (defScope s_is_stretch_linetext) .none kV32 dc32 pm32 an32 cd32 ct32), sl32⟩) (c32 : PySem.W.codeIn K cd32 "_is_stretch" = true) (k32 : PySem.W.keepIn K (.ref f32) = true) (a33 : PySem.W.nsIn K mainGlobals "is_long_linetext" = some (some (.ref f33))) (l33 : K.lookup f33 = some ⟨oc33, od33, .func (PySem.W.fnOf "_is_long" "_is_long" (defArgs s_is_long_linetext) (defBody s_is_long_linetext) (defScope s_is_long_linetext) .none kV33 dc33 pm33 an33 cd33 ct33), sl33⟩) (c33 : PySem.W.codeIn K cd33 "_is_long" = true) (k33 : PySem.W.keepIn K (.ref f33) = true) (a34 : PySem.W.nsIn K mainGlobals "line_sort" = some (some (.ref f34))) (l34 : K.lookup f34 = some ⟨oc34, od34, .func (PySem.W.fnOf "line_sort" "line_sort" (defArgs s_line_sort) (defBody s_line_sort) (defScope s_line_sort) .none kV34 dc34 pm34 an34 cd34 ct34), sl34⟩) (c34 : PySem.W.codeIn K cd34 "line_sort" = true) (k34 : PySem.W.keepIn K (.ref f34) = true) (a35 : PySem.W.nsIn K mainGlobals "_long_of_words" = some (some (.ref f35))) (l35 : K.lookup f35 = some ⟨oc35, od35, .func (PySem.W.fnOf "_long_of_words" "_long_of_words" (defArgs s_long_of_words) (defBody s_long_of_words) (defScope s_long_of_words) .none kV35 dc35 pm35 an35 cd35 ct35), sl35⟩) (c35 : PySem.W.codeIn K cd35 "_long_of_words" = true) (k35 : PySem.W.keepIn K (.ref f35) = true) (a36 : PySem.W.nsIn K mainGlobals "line_of_rows" = some (some (.ref f36))) (l36 : K.lookup f36 = some ⟨oc36, od36, .func (PySem.W.fnOf "line_of_rows" "line_of_rows" (defArgs s_line_of_rows) (defBody s_line_of_rows) (defScope s_line_of_rows) .none kV36 dc36 pm36 an36 cd36 ct36), sl36⟩) (c36 : PySem.W.codeIn K cd36 "line_of_rows" = true) (k36 : PySem.W.keepIn K (.ref f36) = true) (a37 : PySem.W.nsIn K mainGlobals "read_line" = some (some (.ref f37))) (l37 : K.lookup f37 = some ⟨oc37, od37, .func (PySem.W.fnOf "read_line" "read_line" (defArgs s_read_line) (defBody s_read_line) (defScope s_read_line) .none kV37 dc37 pm37 an37 cd37 ct37), sl37⟩) (c37 : PySem.W.codeIn K cd37 "read_line" = true) (k37 : PySem.W.keepIn K (.ref f37) = true) (a38 : PySem.W.nsIn K mainGlobals "_law_cell" = some (some (.ref f38))) (l38 : K.lookup f38 = some ⟨oc38, od38, .func (PySem.W.fnOf "_law_cell" "_law_cell" (defArgs sCell) (defBody sCell) (defScope sCell) .none kV38 dc38 pm38 an38 cd38 ct38), sl38⟩) (c38 : PySem.W.codeIn K cd38 "_law_cell" = true) (k38 : PySem.W.keepIn K (.ref f38) = true) (a39 : PySem.W.nsIn K mainGlobals "_law_box" = some (some (.ref f39))) (l39 : K.lookup f39 = some ⟨oc39, od39, .func (PySem.W.fnOf "_law_box" "_law_box" (defArgs sBox) (defBody sBox) (defScope sBox) .none kV39 dc39 pm39 an39 cd39 ct39), sl39⟩) (c39 : PySem.W.codeIn K cd39 "_law_box" = true) (k39 : PySem.W.keepIn K (.ref f39) = true) (a40 : PySem.W.nsIn K mainGlobals "_law_take" = some (some (.ref f40))) (l40 : K.lookup f40 = some ⟨oc40, od40, .func (PySem.W.fnOf "_law_take" "_law_take" (defArgs sTake) (defBody sTake) (defScope sTake) .none kV40 dc40 pm40 an40 cd40 ct40), sl40⟩) (c40 : PySem.W.codeIn K cd40 "_law_take" = true) (k40 : PySem.W.keepIn K (.ref f40) = true) (a41 : PySem.W.nsIn K mainGlobals "_law_names" = some (some (.ref f41))) (l41 : K.lookup f41 = some ⟨oc41, od41, .func (PySem.W.fnOf "_law_names" "_law_names" (defArgs s_law_names) (defBody s_law_names) (defScope s_law_names) .none kV41 dc41 pm41 an41 cd41 ct41), sl41⟩) (c41 : PySem.W.codeIn K cd41 "_law_names" = true) (k41 : PySem.W.keepIn K (.ref f41) = true) (a42 : PySem.W.nsIn K mainGlobals "_law_world" = some (some (.ref f42))) (l42 : K.lookup f42 = some ⟨oc42, od42, .func (PySem.W.fnOf "_law_world" "_law_world" (defArgs s_law_world) (defBody s_law_world) (defScope s_law_world) .none kV42 dc42 pm42 an42 cd42 ct42), sl42⟩) (c42 : PySem.W.codeIn K cd42 "_law_world" = true) (k42 : PySem.W.keepIn K (.ref f42) = true) (a43 : PySem.W.nsIn K mainGlobals "_law_rows" = some (some (.ref f43))) (l43 : K.lookup f43 = some ⟨oc43, od43, .func (PySem.W.fnOf "_law_rows" "_law_rows" (defArgs s_law_rows) (defBody s_law_rows) (defScope s_law_rows) .none kV43 dc43 pm43 an43 cd43 ct43), sl43⟩) (c43 : PySem.W.codeIn K cd43 "_law_rows" = true) (k43 : PySem.W.keepIn K (.ref f43) = true) (a44 : PySem.W.nsIn K mainGlobals "_law_stretches_asked_right" = some (some (.ref f44))) (l44 : K.lookup f44 = some ⟨oc44, od44, .func (PySem.W.fnOf "_law_stretches_asked_right" "_law_stretches_asked_right" (defArgs s_law_stretches_asked_right) (defBody s_law_stretches_asked_right) (defScope s_law_stretches_asked_right) .none kV44 dc44 pm44 an44 cd44 ct44), sl44⟩) (c44 : PySem.W.codeIn K cd44 "_law_stretches_asked_right" = true) (k44 : PySem.W.keepIn K (.ref f44) = true) (a45 : PySem.W.nsIn K mainGlobals "_law_asked_right" = some (some (.ref f45))) (l45 : K.lookup f45 = some ⟨oc45, od45, .func (PySem.W.fnOf "_law_asked_right" "_law_asked_right" (defArgs s_law_asked_right) (defBody s_law_asked_right) (defScope s_law_asked_right) .none kV45 dc45 pm45 an45 cd45 ct45), sl45⟩) (c45 : PySem.W.codeIn K cd45 "_law_asked_right" = true) (k45 : PySem.W.keepIn K (.ref f45) = true) (a46 : PySem.W.nsIn K mainGlobals "_law_right" = some (some (.ref f46))) (l46 : K.lookup f46 = some ⟨oc46, od46, .func (PySem.W.fnOf "_law_right" "_law_right" (defArgs s_law_right) (defBody s_law_right) (defScope s_law_right) .none kV46 dc46 pm46 an46 cd46 ct46), sl46⟩) (c46 : PySem.W.codeIn K cd46 "_law_right" = true) (k46 : PySem.W.keepIn K (.ref f46) = true) (a47 : PySem.W.nsIn K mainGlobals "law" = some (some (.ref f47))) (l47 : K.lookup f47 = some ⟨oc47, od47, .func (PySem.W.fnOf "law" "law" (defArgs s_law) (defBody s_law) (defScope s_law) .none kV47 dc47 pm47 an47 cd47 ct47), sl47⟩) (c47 : PySem.W.codeIn K cd47 "law" = true) (k47 : PySem.W.keepIn K (.ref f47) = true) (lT : K.lookup dT = some oT) (oTd : oT.data = .seq #[.none] mT) (lco : K.lookup co = some ⟨eo, eoD, .fields us, usl⟩) (u11 : us[11]? = some (.ref tb)) (ntb : K.lookup tb = none) (hrec : ((PyProof.Rows.recsOf q).any fun r => r.name == "is_name") = true) (z0 : PySem.W.nsIn K mainGlobals "isinstance" = some none) (z1 : PySem.W.nsIn K mainGlobals "int" = some none) (z2 : PySem.W.nsIn K mainGlobals "bool" = some none) (z3 : PySem.W.nsIn K mainGlobals "str" = some none) (z4 : PySem.W.nsIn K mainGlobals "len" = some none) (z5 : PySem.W.nsIn K mainGlobals "all" = some none) (z6 : PySem.W.nsIn K mainGlobals "max" = some none) (z7 : PySem.W.nsIn K mainGlobals "min" = some none) (z8 : PySem.W.nsIn K mainGlobals "range" = some none) (z9 : PySem.W.nsIn K mainGlobals "repr" = some none) (z10 : PySem.W.nsIn K mainGlobals "list" = some none) (z11 : PySem.W.nsIn K mainGlobals "tuple" = some none) (z12 : PySem.W.nsIn K mainGlobals "enumerate" = some none) (z13 : PySem.W.nsIn K mainGlobals "sorted" = some none) (gSI : PySem.W.nsIn K mainGlobals "SIDES" = some (some (.ref aSI))) (lSI : K.lookup aSI = some oSI) (cSI : oSI.cls = .type "tuple") (hSI : oSI.dict = none) (dSI : oSI.data = .seq #[.str zl0 kl0, .str zl1 kl1] nSI) (zSI : [zl0, zl1] = K7.sides) (gSO : PySem.W.nsIn K mainGlobals "SORTS" = some (some (.ref aSO))) (lSO : K.lookup aSO = some oSO) (cSO : oSO.cls = .type "tuple") (hSO : oSO.dict = none) (dSO : oSO.data = .seq #[.str zp0 kp0, .str zp1 kp1, .str zp2 kp2] nSO) (zSO : [zp0, zp1, zp2] = K7.sorts) (haC : PySem.W.findIn K (.ref C) "__class__" = some (some (.builtin "object.__class__"))) (cg : PySem.W.specialIn K (.builtin "object.__class__") "__get__" = some (some (.builtin "getset_descriptor.__get__"))) (ct : PySem.W.takesIn K (.builtin "object.__class__") = some true) (mrC : PySem.W.mroIn K C (.type "object") = some true) (meC : PySem.W.kitOne K (.ref C) (.ref C) = some true) :
    GLaw l w K CX0 10 63 "_law_script" mg fa h := by
  have e := hfa.symm.trans (PySem.W.mg_of X G a47)
  cases e
  have T : Txt mg := ⟨PySem.W.mg_none_of X G z0, PySem.W.mg_none_of X G z1, PySem.W.mg_none_of X G z2, PySem.W.mg_none_of X G z3, PySem.W.mg_none_of X G z4, PySem.W.mg_none_of X G z5, PySem.W.mg_none_of X G z6, PySem.W.mg_none_of X G z7, PySem.W.mg_none_of X G z8, PySem.W.mg_none_of X G z9, PySem.W.mg_none_of X G z10, PySem.W.mg_none_of X G z11, PySem.W.mg_none_of X G z12, PySem.W.mg_none_of X G z13⟩
  have F1 := fun_mk (st := sWhole) l1 c1 k1
  have b1 := F1.binds (ps := ["thing", "low", "high"]) fun _ _ _ _ _ _ us hl => match us, hl with | [_, _, _], _ => rfl
  have F2 := fun_mk (st := sName) l2 c2 k2
  have b2 := F2.binds (ps := ["thing"]) fun _ _ _ _ _ _ us hl => match us, hl with | [_], _ => rfl
  have F3 := fun_mk (st := s_is_list) l3 c3 k3
  have b3 := F3.binds (ps := ["thing", "low", "high"]) fun _ _ _ _ _ _ us hl => match us, hl with | [_, _, _], _ => rfl
  have F4 := fun_mk (st := s_is_tuple) l4 c4 k4
  have b4 := F4.binds (ps := ["thing", "many"]) fun _ _ _ _ _ _ us hl => match us, hl with | [_, _], _ => rfl
  have F5 := fun_mk (st := s_rows_of) l5 c5 k5
  have b5 := F5.binds (ps := ["text"]) fun _ _ _ _ _ _ us hl => match us, hl with | [_], _ => rfl
  have F6 := fun_mk (st := s_check_place) l6 c6 k6
  have b6 := F6.binds (ps := ["place", "ahead"]) fun _ _ _ _ _ _ us hl => match us, hl with | [_, _], _ => rfl
  have F7 := fun_mk (st := s_check_places) l7 c7 k7
  have b7 := F7.binds (ps := ["places"]) fun _ _ _ _ _ _ us hl => match us, hl with | [_], _ => rfl
  have F8 := fun_mk (st := s_is_stretch_lines) l8 c8 k8
  have b8 := F8.binds (ps := ["thing"]) fun _ _ _ _ _ _ us hl => match us, hl with | [_], _ => rfl
  have F9 := fun_mk (st := s_check_stretches) l9 c9 k9
  have b9 := F9.binds (ps := ["stretches", "many"]) fun _ _ _ _ _ _ us hl => match us, hl with | [_, _], _ => rfl
  have F10 := fun_mk (st := s_is_long_lines) l10 c10 k10
  have b10 := F10.binds (ps := ["thing", "low", "top"]) fun _ _ _ _ _ _ us hl => match us, hl with | [_, _, _], _ => rfl
  have F11 := fun_mk (st := s_check_longs) l11 c11 k11
  have b11 := F11.binds (ps := ["longs", "top"]) fun _ _ _ _ _ _ us hl => match us, hl with | [_, _], _ => rfl
  have F12 : FunV K "__init__" "Line.__init__" s_init f12 _ := ⟨⟨_, _, _, _, _, _, _, _, _, _, rfl, l12, c12⟩⟩
  have b12 : Binds K (PySem.W.fnOf "__init__" "Line.__init__" (defArgs s_init) (defBody s_init) (defScope s_init) (.ref dT) kV12 dc12 pm12 an12 cd12 ct12) ["self", "places", "stretches", "longs"] [] := fun s us X hl => by
    rw [List.append_nil] at hl ⊢
    match us, hl with
    | [_, _, _, _], _ => exact BindsTo.of_defaults rfl (X _ _ lT) oTd rfl rfl
  have bd12 : Binds K (PySem.W.fnOf "__init__" "Line.__init__" (defArgs s_init) (defBody s_init) (defScope s_init) (.ref dT) kV12 dc12 pm12 an12 cd12 ct12) ["self", "places", "stretches", "longs"] [.none] := fun s us X hl => by
    have hl2 : us.length = 3 := by simpa using hl
    match us, hl2 with
    | [_, _, _], _ => exact BindsTo.of_defaults rfl (X _ _ lT) oTd rfl rfl
  have F13 := fun_mk (st := s_number_of) l13 c13 k13
  have b13 := F13.binds (ps := ["self", "name"]) fun _ _ _ _ _ _ us hl => match us, hl with | [_, _], _ => rfl
  have F14 := fun_mk (st := s_names) l14 c14 k14
  have b14 := F14.binds (ps := ["self"]) fun _ _ _ _ _ _ us hl => match us, hl with | [_], _ => rfl
  have F15 := fun_mk (st := s_roads) l15 c15 k15
  have b15 := F15.binds (ps := ["self", "name"]) fun _ _ _ _ _ _ us hl => match us, hl with | [_, _], _ => rfl
  have F16 := fun_mk (st := s_many_stretches) l16 c16 k16
  have b16 := F16.binds (ps := ["self"]) fun _ _ _ _ _ _ us hl => match us, hl with | [_], _ => rfl
  have F17 := fun_mk (st := s_check_stretch) l17 c17 k17
  have b17 := F17.binds (ps := ["self", "k"]) fun _ _ _ _ _ _ us hl => match us, hl with | [_, _], _ => rfl
  have F18 := fun_mk (st := s_ends) l18 c18 k18
  have b18 := F18.binds (ps := ["self", "k"]) fun _ _ _ _ _ _ us hl => match us, hl with | [_, _], _ => rfl
  have F19 := fun_mk (st := s_kind) l19 c19 k19
  have b19 := F19.binds (ps := ["self", "k"]) fun _ _ _ _ _ _ us hl => match us, hl with | [_, _], _ => rfl
  have F20 := fun_mk (st := s_home) l20 c20 k20
  have b20 := F20.binds (ps := ["self", "k"]) fun _ _ _ _ _ _ us hl => match us, hl with | [_, _], _ => rfl
  have F21 := fun_mk (st := s_between) l21 c21 k21
  have b21 := F21.binds (ps := ["self", "one", "other"]) fun _ _ _ _ _ _ us hl => match us, hl with | [_, _, _], _ => rfl
  have F22 := fun_mk (st := s_many_longs) l22 c22 k22
  have b22 := F22.binds (ps := ["self"]) fun _ _ _ _ _ _ us hl => match us, hl with | [_], _ => rfl
  have F23 := fun_mk (st := s_long) l23 c23 k23
  have b23 := F23.binds (ps := ["self", "j"]) fun _ _ _ _ _ _ us hl => match us, hl with | [_, _], _ => rfl
  have F24 := fun_mk (st := s_long_ends) l24 c24 k24
  have b24 := F24.binds (ps := ["self", "j"]) fun _ _ _ _ _ _ us hl => match us, hl with | [_, _], _ => rfl
  have F25 := fun_mk (st := s_long_stretches) l25 c25 k25
  have b25 := F25.binds (ps := ["self", "j"]) fun _ _ _ _ _ _ us hl => match us, hl with | [_, _], _ => rfl
  have F26 := fun_mk (st := s_long_home) l26 c26 k26
  have b26 := F26.binds (ps := ["self", "j"]) fun _ _ _ _ _ _ us hl => match us, hl with | [_, _], _ => rfl
  have F27 := fun_mk (st := s_long_between) l27 c27 k27
  have b27 := F27.binds (ps := ["self", "one", "other"]) fun _ _ _ _ _ _ us hl => match us, hl with | [_, _, _], _ => rfl
  have F28 := fun_mk (st := s_long_of) l28 c28 k28
  have b28 := F28.binds (ps := ["self", "k"]) fun _ _ _ _ _ _ us hl => match us, hl with | [_, _], _ => rfl
  have F29 := fun_mk (st := s_told) l29 c29 k29
  have b29 := F29.binds (ps := ["self"]) fun _ _ _ _ _ _ us hl => match us, hl with | [_], _ => rfl
  have F30 := fun_mk (st := s_show_line) l30 c30 k30
  have b30 := F30.binds (ps := ["line"]) fun _ _ _ _ _ _ us hl => match us, hl with | [_], _ => rfl
  have F31 := fun_mk (st := s_is_place) l31 c31 k31
  have b31 := F31.binds (ps := ["words"]) fun _ _ _ _ _ _ us hl => match us, hl with | [_], _ => rfl
  have F32 := fun_mk (st := s_is_stretch_linetext) l32 c32 k32
  have b32 := F32.binds (ps := ["words"]) fun _ _ _ _ _ _ us hl => match us, hl with | [_], _ => rfl
  have F33 := fun_mk (st := s_is_long_linetext) l33 c33 k33
  have b33 := F33.binds (ps := ["words"]) fun _ _ _ _ _ _ us hl => match us, hl with | [_], _ => rfl
  have F34 := fun_mk (st := s_line_sort) l34 c34 k34
  have b34 := F34.binds (ps := ["row"]) fun _ _ _ _ _ _ us hl => match us, hl with | [_], _ => rfl
  have F35 := fun_mk (st := s_long_of_words) l35 c35 k35
  have b35 := F35.binds (ps := ["line", "words"]) fun _ _ _ _ _ _ us hl => match us, hl with | [_, _], _ => rfl
  have F36 := fun_mk (st := s_line_of_rows) l36 c36 k36
  have b36 := F36.binds (ps := ["rows"]) fun _ _ _ _ _ _ us hl => match us, hl with | [_], _ => rfl
  have F37 := fun_mk (st := s_read_line) l37 c37 k37
  have b37 := F37.binds (ps := ["text"]) fun _ _ _ _ _ _ us hl => match us, hl with | [_], _ => rfl
  have F38 := fun_mk (st := sCell) l38 c38 k38
  have b38 := F38.binds (ps := ["_law_script", "_law_k"]) fun _ _ _ _ _ _ us hl => match us, hl with | [_, _], _ => rfl
  have F39 := fun_mk (st := sBox) l39 c39 k39
  have b39 := F39.binds (ps := ["_law_cell_here"]) fun _ _ _ _ _ _ us hl => match us, hl with | [_], _ => rfl
  have F40 := fun_mk (st := sTake) l40 c40 k40
  have b40 := F40.binds (ps := ["_law_box_here", "_law_many"]) fun _ _ _ _ _ _ us hl => match us, hl with | [_, _], _ => rfl
  have F41 := fun_mk (st := s_law_names) l41 c41 k41
  have b41 := F41.binds (ps := ["_law_box_here", "_law_many"]) fun _ _ _ _ _ _ us hl => match us, hl with | [_, _], _ => rfl
  have F42 := fun_mk (st := s_law_world) l42 c42 k42
  have b42 := F42.binds (ps := ["_law_box_here"]) fun _ _ _ _ _ _ us hl => match us, hl with | [_], _ => rfl
  have F43 := fun_mk (st := s_law_rows) l43 c43 k43
  have b43 := F43.binds (ps := ["_law_world_here"]) fun _ _ _ _ _ _ us hl => match us, hl with | [_], _ => rfl
  have F44 := fun_mk (st := s_law_stretches_asked_right) l44 c44 k44
  have b44 := F44.binds (ps := ["_law_line", "_law_world_here"]) fun _ _ _ _ _ _ us hl => match us, hl with | [_, _], _ => rfl
  have F45 := fun_mk (st := s_law_asked_right) l45 c45 k45
  have b45 := F45.binds (ps := ["_law_line", "_law_world_here"]) fun _ _ _ _ _ _ us hl => match us, hl with | [_, _], _ => rfl
  have F46 := fun_mk (st := s_law_right) l46 c46 k46
  have b46 := F46.binds (ps := ["_law_line", "_law_world_here"]) fun _ _ _ _ _ _ us hl => match us, hl with | [_, _], _ => rfl
  have F47 := fun_mk (st := s_law) l47 c47 k47
  have TC : ClsT K C := ⟨⟨pgC, hdC, poC, saC⟩, n0C, n1C, n2C, n3C⟩
  have IC : C8.InsC K C := ⟨TC.cl, haC, cg, ct, mrC, meC⟩
  have CS : Cst K aSI sides := cst2 lSI cSI hSI dSI zSI
  have CO : Cst K aSO sorts := cst3 lSO cSO hSO dSO zSO
  obtain ⟨ch, tabh⟩ := em "is_name" f2 co tb _ _ eo eoD us usl hrec a2 l2 rfl rfl lco u11
  refine ⟨PySem.W.fnOf "law" "law" (defArgs s_law) (defBody s_law) (defScope s_law) .none kV47 dc47 pm47 an47 cd47 ct47, [(co, tb)], spLaw K tb, ?_, ?_, ?_, fun s v => .of_eq rfl, ?_, ?_⟩
  · intro p hp
    obtain rfl := List.mem_singleton.mp hp
    exact tabh
  · intro p hp
    obtain rfl := List.mem_singleton.mp hp
    exact ntb
  · intro p hp
    obtain rfl := List.mem_singleton.mp hp
    exact ch
  · intro H a ns hn _ hT hS
    exact ⟨a, ns, rfl, hS, hn, ⟨#[], hT (co, tb) (List.mem_singleton.mpr rfl), trivial⟩, fun _ => rfl⟩
  · intro base kb nb TB
    have gis_whole : FnOk l.prog w K mg base CX0 _ f1 _ _ _ := ok_whole F1 T
    have gis_name := ok_name (P := l.prog) (w := w) l2 c2 T (TB (co, tb) (List.mem_singleton.mpr rfl))
    have gis_list : FnOk l.prog w K mg base CX0 _ f3 _ _ _ := ok_is_list F3 T
    have gis_tuple : FnOk l.prog w K mg base CX0 _ f4 _ _ _ := ok_is_tuple F4 T
    have grows_of : FnOk l.prog w K mg base CX0 _ f5 _ _ _ := ok_rows_of F5 T
    have gcheck_place : FnOk l.prog w K mg base CX0 _ f6 _ _ _ := ok_check_place F6 T ⟨F4, PySem.W.mg_of X G a4, b4⟩ gis_tuple ⟨F2, PySem.W.mg_of X G a2, b2⟩ gis_name ⟨F1, PySem.W.mg_of X G a1, b1⟩ gis_whole
    have gcheck_places : FnOk l.prog w K mg base CX0 _ f7 _ _ _ := ok_check_places F7 T ⟨F3, PySem.W.mg_of X G a3, b3⟩ gis_list ⟨F6, PySem.W.mg_of X G a6, b6⟩ gcheck_place
    have gis_stretch_lines : FnOk l.prog w K mg base CX0 _ f8 _ _ _ := ok_is_stretch_lines F8 T ⟨F4, PySem.W.mg_of X G a4, b4⟩ gis_tuple ⟨F1, PySem.W.mg_of X G a1, b1⟩ gis_whole
    have gcheck_stretches : FnOk l.prog w K mg base CX0 _ f9 _ _ _ := ok_check_stretches F9 T ⟨F3, PySem.W.mg_of X G a3, b3⟩ gis_list ⟨F8, PySem.W.mg_of X G a8, b8⟩ gis_stretch_lines
    have gis_long_lines : FnOk l.prog w K mg base CX0 _ f10 _ _ _ := ok_is_long_lines F10 T ⟨F4, PySem.W.mg_of X G a4, b4⟩ gis_tuple ⟨F1, PySem.W.mg_of X G a1, b1⟩ gis_whole
    have gcheck_longs : FnOk l.prog w K mg base CX0 _ f11 _ _ _ := ok_check_longs F11 T ⟨F3, PySem.W.mg_of X G a3, b3⟩ gis_list ⟨F10, PySem.W.mg_of X G a10, b10⟩ gis_long_lines
    have ginit : FnOk l.prog w K mg base CX0 _ f12 _ _ _ := ok_init F12 T TC ⟨F7, PySem.W.mg_of X G a7, b7⟩ gcheck_places ⟨F9, PySem.W.mg_of X G a9, b9⟩ gcheck_stretches ⟨F11, PySem.W.mg_of X G a11, b11⟩ gcheck_longs
    have gnumber_of : FnOk l.prog w K mg base CX0 _ f13 _ _ _ := ok_num F13 T TC
    have gnames : FnOk l.prog w K mg base CX0 _ f14 _ _ _ := ok_names_of F14 T TC
    have groads : FnOk l.prog w K mg base CX0 _ f15 _ _ _ := ok_roads F15 T TC ⟨F13, ⟨a13, i13, k13⟩, b13⟩ gnumber_of
    have gmany_stretches : FnOk l.prog w K mg base CX0 _ f16 _ _ _ := ok_many_stretches F16 T TC
    have gcheck_stretch : FnOk l.prog w K mg base CX0 _ f17 _ _ _ := ok_check_stretch F17 T TC ⟨F1, PySem.W.mg_of X G a1, b1⟩ gis_whole
    have gends : FnOk l.prog w K mg base CX0 _ f18 _ _ _ := ok_ends F18 T TC ⟨F17, ⟨a17, i17, k17⟩, b17⟩ gcheck_stretch
    have gkind : FnOk l.prog w K mg base CX0 _ f19 _ _ _ := ok_kind F19 T TC ⟨F17, ⟨a17, i17, k17⟩, b17⟩ gcheck_stretch
    have ghome : FnOk l.prog w K mg base CX0 _ f20 _ _ _ := ok_home F20 T TC ⟨F18, ⟨a18, i18, k18⟩, b18⟩ gends
    have gbetween : FnOk l.prog w K mg base CX0 _ f21 _ _ _ := ok_between F21 T TC ⟨F13, ⟨a13, i13, k13⟩, b13⟩ gnumber_of
    have gmany_longs : FnOk l.prog w K mg base CX0 _ f22 _ _ _ := ok_many_longs F22 T TC
    have glong : FnOk l.prog w K mg base CX0 _ f23 _ _ _ := ok_long F23 T TC ⟨F1, PySem.W.mg_of X G a1, b1⟩ gis_whole
    have glong_ends : FnOk l.prog w K mg base CX0 _ f24 _ _ _ := ok_long_ends F24 T TC ⟨F23, ⟨a23, i23, k23⟩, b23⟩ glong
    have glong_stretches : FnOk l.prog w K mg base CX0 _ f25 _ _ _ := ok_long_stretches F25 T TC ⟨F23, ⟨a23, i23, k23⟩, b23⟩ glong
    have glong_home : FnOk l.prog w K mg base CX0 _ f26 _ _ _ := ok_long_home F26 T TC ⟨F24, ⟨a24, i24, k24⟩, b24⟩ glong_ends
    have glong_between : FnOk l.prog w K mg base CX0 _ f27 _ _ _ := ok_long_between F27 T TC ⟨F13, ⟨a13, i13, k13⟩, b13⟩ gnumber_of
    have glong_of : FnOk l.prog w K mg base CX0 _ f28 _ _ _ := ok_long_of F28 T TC ⟨F17, ⟨a17, i17, k17⟩, b17⟩ gcheck_stretch
    have gtold : FnOk l.prog w K mg base CX0 _ f29 _ _ _ := ok_told F29 T TC
    have gshow_line : FnOk l.prog w K mg base CX0 _ f30 _ _ _ := ok_show_line F30 T TC (PySem.W.mg_of X G gSI) CS ⟨F29, ⟨a29, i29, k29⟩, b29⟩ gtold
    have gis_place : FnOk l.prog w K mg base CX0 _ f31 _ _ _ := ok_is_place F31 T ⟨F2, PySem.W.mg_of X G a2, b2⟩ gis_name
    have gis_stretch_linetext : FnOk l.prog w K mg base CX0 _ f32 _ _ _ := ok_is_stretch_linetext (Pt := tb) F32 T (PySem.W.mg_of X G gSI) CS
    have gis_long_linetext : FnOk l.prog w K mg base CX0 _ f33 _ _ _ := ok_is_long_linetext F33 T (PySem.W.mg_of X G gSI) CS ⟨F2, PySem.W.mg_of X G a2, b2⟩ gis_name
    have gline_sort : FnOk l.prog w K mg base CX0 _ f34 _ _ _ := ok_line_sort F34 T (PySem.W.mg_of X G gSO) CO ⟨F31, PySem.W.mg_of X G a31, b31⟩ gis_place ⟨F32, PySem.W.mg_of X G a32, b32⟩ gis_stretch_linetext ⟨F33, PySem.W.mg_of X G a33, b33⟩ gis_long_linetext
    have glong_of_words : FnOk l.prog w K mg base CX0 _ f35 _ _ _ := ok_long_of_words F35 T TC (PySem.W.mg_of X G gSI) CS ⟨F13, ⟨a13, i13, k13⟩, b13⟩ gnumber_of
    have gline_of_rows : FnOk l.prog w K mg base CX0 _ f36 _ _ _ := ok_line_of_rows F36 T TC (PySem.W.mg_of X G gSI) CS ⟨mkC, a12, i12, kcC⟩ (PySem.W.mg_of X G aC) b12 bd12 ginit ⟨F35, PySem.W.mg_of X G a35, b35⟩ glong_of_words
    have gread_line : FnOk l.prog w K mg base CX0 _ f37 _ _ _ := ok_read_line F37 T ⟨F5, PySem.W.mg_of X G a5, b5⟩ grows_of ⟨F34, PySem.W.mg_of X G a34, b34⟩ gline_sort ⟨F36, PySem.W.mg_of X G a36, b36⟩ gline_of_rows
    have glaw_cell : FnOk l.prog w K mg base CX0 _ f38 _ _ _ := ok_cell F38 T
    have glaw_box : FnOk l.prog w K mg base CX0 _ f39 _ _ _ := ok_box F39 T
    have glaw_take : FnOk l.prog w K mg base CX0 _ f40 _ _ _ := ok_take F40
    have glaw_names : FnOk l.prog w K mg base CX0 _ f41 _ _ _ := ok_names F41 T ⟨F40, PySem.W.mg_of X G a40, b40⟩ glaw_take
    have glaw_world : FnOk l.prog w K mg base CX0 _ f42 _ _ _ := ok_world F42 T ⟨F40, PySem.W.mg_of X G a40, b40⟩ glaw_take ⟨F41, PySem.W.mg_of X G a41, b41⟩ glaw_names
    have glaw_rows : FnOk l.prog w K mg base CX0 _ f43 _ _ _ := ok_law_rows F43 T
    have glaw_stretches_asked_right : GOk l.prog w K mg base CX0 _ f44 _ _ _ := ok_stretches_askedL F44 T TC ⟨F16, ⟨a16, i16, k16⟩, b16⟩ gmany_stretches ⟨F22, ⟨a22, i22, k22⟩, b22⟩ gmany_longs ⟨F18, ⟨a18, i18, k18⟩, b18⟩ gends ⟨F19, ⟨a19, i19, k19⟩, b19⟩ gkind ⟨F20, ⟨a20, i20, k20⟩, b20⟩ ghome ⟨F28, ⟨a28, i28, k28⟩, b28⟩ glong_of ⟨F24, ⟨a24, i24, k24⟩, b24⟩ glong_ends ⟨F25, ⟨a25, i25, k25⟩, b25⟩ glong_stretches ⟨F26, ⟨a26, i26, k26⟩, b26⟩ glong_home
    have glaw_asked_right : GOk l.prog w K mg base CX0 _ f45 _ _ _ := ok_askedL F45 T TC ⟨F15, ⟨a15, i15, k15⟩, b15⟩ groads ⟨F14, ⟨a14, i14, k14⟩, b14⟩ gnames ⟨F13, ⟨a13, i13, k13⟩, b13⟩ gnumber_of ⟨F21, ⟨a21, i21, k21⟩, b21⟩ gbetween ⟨F27, ⟨a27, i27, k27⟩, b27⟩ glong_between ⟨F44, PySem.W.mg_of X G a44, b44⟩ glaw_stretches_asked_right
    have glaw_right : GOk l.prog w K mg base CX0 _ f46 _ _ _ := ok_right F46 T TC IC (PySem.W.mg_of X G aC) ⟨F43, PySem.W.mg_of X G a43, b43⟩ glaw_rows ⟨F30, PySem.W.mg_of X G a30, b30⟩ gshow_line ⟨F37, PySem.W.mg_of X G a37, b37⟩ gread_line ⟨F29, ⟨a29, i29, k29⟩, b29⟩ gtold ⟨F45, PySem.W.mg_of X G a45, b45⟩ glaw_asked_right
    exact (ok_law F47 T TC ⟨mkC, a12, i12, kcC⟩ (PySem.W.mg_of X G aC) b12 ginit ⟨F38, PySem.W.mg_of X G a38, b38⟩ glaw_cell ⟨F39, PySem.W.mg_of X G a39, b39⟩ glaw_box ⟨F42, PySem.W.mg_of X G a42, b42⟩ glaw_world ⟨F46, PySem.W.mg_of X G a46, b46⟩ glaw_right)
end K7

open PySem PySem.W PyProof.Rows in
set_option maxRecDepth 100000 in
set_option maxHeartbeats 0 in
theorem PySem.Challenge.cw_onestaff_k07_lines_as_texts_holds : PySem.Challenge.rw_onestaff_k07_lines_as_texts.Holds := by
  w_on; o_law; k_head; (case hw => w_witness2)
  k_fill
  refine Gd.walk_g (l := PySem.Challenge.rw_onestaff_k07_lines_as_texts) (n := 63) (k := 10) (x := "_law_script") (CX := fun _ => L2.CX0) rfl (by decide) rfl ⟨rfl, by decide, by decide⟩ (fun w h Y => PySem.W.kIn_of Y) ?F (fun _ _ _ _ _ z => z)
  case F =>
    intro w mg fa h Y KX G hmg em
    refine' K7.all_mk KX G hmg em ?QaC ?QpgC ?QhdC ?QpoC ?QsaC ?QmkC ?QkcC ?Qn0C ?Qn1C ?Qn2C ?Qn3C ?Qa1 ?Ql1 ?Qc1 ?Qk1 ?Qa2 ?Ql2 ?Qc2 ?Qk2 ?Qa3 ?Ql3 ?Qc3 ?Qk3 ?Qa4 ?Ql4 ?Qc4 ?Qk4 ?Qa5 ?Ql5 ?Qc5 ?Qk5 ?Qa6 ?Ql6 ?Qc6 ?Qk6 ?Qa7 ?Ql7 ?Qc7 ?Qk7 ?Qa8 ?Ql8 ?Qc8 ?Qk8 ?Qa9 ?Ql9 ?Qc9 ?Qk9 ?Qa10 ?Ql10 ?Qc10 ?Qk10 ?Qa11 ?Ql11 ?Qc11 ?Qk11 ?Qa12 ?Qi12 ?Ql12 ?Qc12 ?Qk12 ?Qa13 ?Qi13 ?Ql13 ?Qc13 ?Qk13 ?Qa14 ?Qi14 ?Ql14 ?Qc14 ?Qk14 ?Qa15 ?Qi15 ?Ql15 ?Qc15 ?Qk15 ?Qa16 ?Qi16 ?Ql16 ?Qc16 ?Qk16 ?Qa17 ?Qi17 ?Ql17 ?Qc17 ?Qk17 ?Qa18 ?Qi18 ?Ql18 ?Qc18 ?Qk18 ?Qa19 ?Qi19 ?Ql19 ?Qc19 ?Qk19 ?Qa20 ?Qi20 ?Ql20 ?Qc20 ?Qk20 ?Qa21 ?Qi21 ?Ql21 ?Qc21 ?Qk21 ?Qa22 ?Qi22 ?Ql22 ?Qc22 ?Qk22 ?Qa23 ?Qi23 ?Ql23 ?Qc23 ?Qk23 ?Qa24 ?Qi24 ?Ql24 ?Qc24 ?Qk24 ?Qa25 ?Qi25 ?Ql25 ?Qc25 ?Qk25 ?Qa26 ?Qi26 ?Ql26 ?Qc26 ?Qk26 ?Qa27 ?Qi27 ?Ql27 ?Qc27 ?Qk27 ?Qa28 ?Qi28 ?Ql28 ?Qc28 ?Qk28 ?Qa29 ?Qi29 ?Ql29 ?Qc29 ?Qk29 ?Qa30 ?Ql30 ?Qc30 ?Qk30 ?Qa31 ?Ql31 ?Qc31 ?Qk31 ?Qa32 ?Ql32 ?Qc32 ?Qk32 ?Qa33 ?Ql33 ?Qc33 ?Qk33 ?Qa34 ?Ql34 ?Qc34 ?Qk34 ?Qa35 ?Ql35 ?Qc35 ?Qk35 ?Qa36 ?Ql36 ?Qc36 ?Qk36 ?Qa37 ?Ql37 ?Qc37 ?Qk37 ?Qa38 ?Ql38 ?Qc38 ?Qk38 ?Qa39 ?Ql39 ?Qc39 ?Qk39 ?Qa40 ?Ql40 ?Qc40 ?Qk40 ?Qa41 ?Ql41 ?Qc41 ?Qk41 ?Qa42 ?Ql42 ?Qc42 ?Qk42 ?Qa43 ?Ql43 ?Qc43 ?Qk43 ?Qa44 ?Ql44 ?Qc44 ?Qk44 ?Qa45 ?Ql45 ?Qc45 ?Qk45 ?Qa46 ?Ql46 ?Qc46 ?Qk46 ?Qa47 ?Ql47 ?Qc47 ?Qk47 ?QlT ?QoTd ?Qlco ?Qu11 ?Qntb ?Qhrec ?Qz0 ?Qz1 ?Qz2 ?Qz3 ?Qz4 ?Qz5 ?Qz6 ?Qz7 ?Qz8 ?Qz9 ?Qz10 ?Qz11 ?Qz12 ?Qz13 ?QgSI ?QlSI ?QcSI ?QhSI ?QdSI ?QzSI ?QgSO ?QlSO ?QcSO ?QhSO ?QdSO ?QzSO ?QhaC ?Qcg ?Qct ?QmrC ?QmeC
    (case QaC => k_is)
    (case QpgC => k_is)
    (case QhdC => k_is)
    (case QpoC => k_is)
    (case QsaC => k_is)
    (case QmkC => k_is)
    (case QkcC => k_is)
    (case Qn0C => k_is)
    (case Qn1C => k_is)
    (case Qn2C => k_is)
    (case Qn3C => k_is)
    (case Qa1 => k_is)
    (case Ql1 => k_is)
    (case Qc1 => k_is)
    (case Qk1 => k_is)
    (case Qa2 => k_is)
    (case Ql2 => k_is)
    (case Qc2 => k_is)
    (case Qk2 => k_is)
    (case Qa3 => k_is)
    (case Ql3 => k_is)
    (case Qc3 => k_is)
    (case Qk3 => k_is)
    (case Qa4 => k_is)
    (case Ql4 => k_is)
    (case Qc4 => k_is)
    (case Qk4 => k_is)
    (case Qa5 => k_is)
    (case Ql5 => k_is)
    (case Qc5 => k_is)
    (case Qk5 => k_is)
    (case Qa6 => k_is)
    (case Ql6 => k_is)
    (case Qc6 => k_is)
    (case Qk6 => k_is)
    (case Qa7 => k_is)
    (case Ql7 => k_is)
    (case Qc7 => k_is)
    (case Qk7 => k_is)
    (case Qa8 => k_is)
    (case Ql8 => k_is)
    (case Qc8 => k_is)
    (case Qk8 => k_is)
    (case Qa9 => k_is)
    (case Ql9 => k_is)
    (case Qc9 => k_is)
    (case Qk9 => k_is)
    (case Qa10 => k_is)
    (case Ql10 => k_is)
    (case Qc10 => k_is)
    (case Qk10 => k_is)
    (case Qa11 => k_is)
    (case Ql11 => k_is)
    (case Qc11 => k_is)
    (case Qk11 => k_is)
    (case Qa12 => k_is)
    (case Qi12 => k_is)
    (case Ql12 => k_is)
    (case Qc12 => k_is)
    (case Qk12 => k_is)
    (case Qa13 => k_is)
    (case Qi13 => k_is)
    (case Ql13 => k_is)
    (case Qc13 => k_is)
    (case Qk13 => k_is)
    (case Qa14 => k_is)
    (case Qi14 => k_is)
    (case Ql14 => k_is)
    (case Qc14 => k_is)
    (case Qk14 => k_is)
    (case Qa15 => k_is)
    (case Qi15 => k_is)
    (case Ql15 => k_is)
    (case Qc15 => k_is)
    (case Qk15 => k_is)
    (case Qa16 => k_is)
    (case Qi16 => k_is)
    (case Ql16 => k_is)
    (case Qc16 => k_is)
    (case Qk16 => k_is)
    (case Qa17 => k_is)
    (case Qi17 => k_is)
    (case Ql17 => k_is)
    (case Qc17 => k_is)
    (case Qk17 => k_is)
    (case Qa18 => k_is)
    (case Qi18 => k_is)
    (case Ql18 => k_is)
    (case Qc18 => k_is)
    (case Qk18 => k_is)
    (case Qa19 => k_is)
    (case Qi19 => k_is)
    (case Ql19 => k_is)
    (case Qc19 => k_is)
    (case Qk19 => k_is)
    (case Qa20 => k_is)
    (case Qi20 => k_is)
    (case Ql20 => k_is)
    (case Qc20 => k_is)
    (case Qk20 => k_is)
    (case Qa21 => k_is)
    (case Qi21 => k_is)
    (case Ql21 => k_is)
    (case Qc21 => k_is)
    (case Qk21 => k_is)
    (case Qa22 => k_is)
    (case Qi22 => k_is)
    (case Ql22 => k_is)
    (case Qc22 => k_is)
    (case Qk22 => k_is)
    (case Qa23 => k_is)
    (case Qi23 => k_is)
    (case Ql23 => k_is)
    (case Qc23 => k_is)
    (case Qk23 => k_is)
    (case Qa24 => k_is)
    (case Qi24 => k_is)
    (case Ql24 => k_is)
    (case Qc24 => k_is)
    (case Qk24 => k_is)
    (case Qa25 => k_is)
    (case Qi25 => k_is)
    (case Ql25 => k_is)
    (case Qc25 => k_is)
    (case Qk25 => k_is)
    (case Qa26 => k_is)
    (case Qi26 => k_is)
    (case Ql26 => k_is)
    (case Qc26 => k_is)
    (case Qk26 => k_is)
    (case Qa27 => k_is)
    (case Qi27 => k_is)
    (case Ql27 => k_is)
    (case Qc27 => k_is)
    (case Qk27 => k_is)
    (case Qa28 => k_is)
    (case Qi28 => k_is)
    (case Ql28 => k_is)
    (case Qc28 => k_is)
    (case Qk28 => k_is)
    (case Qa29 => k_is)
    (case Qi29 => k_is)
    (case Ql29 => k_is)
    (case Qc29 => k_is)
    (case Qk29 => k_is)
    (case Qa30 => k_is)
    (case Ql30 => k_is)
    (case Qc30 => k_is)
    (case Qk30 => k_is)
    (case Qa31 => k_is)
    (case Ql31 => k_is)
    (case Qc31 => k_is)
    (case Qk31 => k_is)
    (case Qa32 => k_is)
    (case Ql32 => k_is)
    (case Qc32 => k_is)
    (case Qk32 => k_is)
    (case Qa33 => k_is)
    (case Ql33 => k_is)
    (case Qc33 => k_is)
    (case Qk33 => k_is)
    (case Qa34 => k_is)
    (case Ql34 => k_is)
    (case Qc34 => k_is)
    (case Qk34 => k_is)
    (case Qa35 => k_is)
    (case Ql35 => k_is)
    (case Qc35 => k_is)
    (case Qk35 => k_is)
    (case Qa36 => k_is)
    (case Ql36 => k_is)
    (case Qc36 => k_is)
    (case Qk36 => k_is)
    (case Qa37 => k_is)
    (case Ql37 => k_is)
    (case Qc37 => k_is)
    (case Qk37 => k_is)
    (case Qa38 => k_is)
    (case Ql38 => k_is)
    (case Qc38 => k_is)
    (case Qk38 => k_is)
    (case Qa39 => k_is)
    (case Ql39 => k_is)
    (case Qc39 => k_is)
    (case Qk39 => k_is)
    (case Qa40 => k_is)
    (case Ql40 => k_is)
    (case Qc40 => k_is)
    (case Qk40 => k_is)
    (case Qa41 => k_is)
    (case Ql41 => k_is)
    (case Qc41 => k_is)
    (case Qk41 => k_is)
    (case Qa42 => k_is)
    (case Ql42 => k_is)
    (case Qc42 => k_is)
    (case Qk42 => k_is)
    (case Qa43 => k_is)
    (case Ql43 => k_is)
    (case Qc43 => k_is)
    (case Qk43 => k_is)
    (case Qa44 => k_is)
    (case Ql44 => k_is)
    (case Qc44 => k_is)
    (case Qk44 => k_is)
    (case Qa45 => k_is)
    (case Ql45 => k_is)
    (case Qc45 => k_is)
    (case Qk45 => k_is)
    (case Qa46 => k_is)
    (case Ql46 => k_is)
    (case Qc46 => k_is)
    (case Qk46 => k_is)
    (case Qa47 => k_is)
    (case Ql47 => k_is)
    (case Qc47 => k_is)
    (case Qk47 => k_is)
    (case QlT => k_is)
    (case QoTd => rfl)
    (case Qlco => k_is)
    (case Qu11 => rfl)
    (case Qntb => rfl)
    (case Qhrec => decide +kernel)
    (case Qz0 => k_is)
    (case Qz1 => k_is)
    (case Qz2 => k_is)
    (case Qz3 => k_is)
    (case Qz4 => k_is)
    (case Qz5 => k_is)
    (case Qz6 => k_is)
    (case Qz7 => k_is)
    (case Qz8 => k_is)
    (case Qz9 => k_is)
    (case Qz10 => k_is)
    (case Qz11 => k_is)
    (case Qz12 => k_is)
    (case Qz13 => k_is)
    (case QgSI => k_is)
    (case QlSI => k_is)
    (case QcSI => rfl)
    (case QhSI => rfl)
    (case QdSI => rfl)
    (case QzSI => first | rfl | kernel_rfl)
    (case QgSO => k_is)
    (case QlSO => k_is)
    (case QcSO => rfl)
    (case QhSO => rfl)
    (case QdSO => rfl)
    (case QzSO => first | rfl | kernel_rfl)
    (case QhaC => k_is)
    (case Qcg => k_is)
    (case Qct => k_is)
    (case QmrC => k_is)
    (case QmeC => first | kit_is | kernel_rfl | k_is)

