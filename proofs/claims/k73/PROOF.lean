import PyProof.Rows.All
import Wide.All
import OpenK.AllK
import Wide.FinOn
import PyProof.EqAt
import PyProof.EqKinds
import PyProof.TupleCall
import HandS.Base
import HandS.Call
import HandS.List
import HandS.Comp
import HandS.Ends
import HandS.Text
import HandS.Exc
import HandS.Words
import HandS.WordsList
import HandS.Iter
import HandS.Dict
import HandS.Wide
import HandS.IsInst
import HandS.AnyAll
import HandS.EndBits
import HandS.EndTab
import KE.KEqDict
import KE.GoesMore
import KE.GoesEnum
import HandS.Walk
import HandS.DictComp
import HandS.GenList
import PyProof.ConsumeS
import HandS.Zip
import PyProof.ListStr
import HandS.More
import PyProof.Rows.RegFStrParts
import PyProof.Rows.ReprShort
import HandS.Conv
import HandS.RaiseMore
import HandS.TupAny
import HandS.CallLocal
import HandS.Replace
import HandS.NoneIn
import PySem.Challenge.RW_onestaff_k73_deeds_written_and_read
set_option Elab.async false
set_option linter.all false
set_option maxRecDepth 100000
set_option maxHeartbeats 4000000
/-! Defs that show lists and tuples: they run where no display is under way. -/
namespace Gd
open PySem PySem.Spec PyProof.Rows L2

/-- a def's promise, kept wherever no display is under way -/
structure GOk (P : Program) (w : World) (K : PySem.W.Frag) (mg : Str → Option Value) (base : Heap) (CX : CXT) (k : Nat) (f : Addr) (fd : FuncData) (ps : List Str) (sp : Sp) : Prop where
  size : ∀ vs H Q E, sp vs H Q E → vs.length = ps.length
  go : ∀ (A : Around) (out : List Env) (s : Shared) (H : Hp) (ar : Args) (us : List Value) (vs : List V) (Q : VK) (E : XK), A.guards = some [] →
    Room k A → Env0 P w K mg base A out s H → BindsTo s fd ar (ps.zip us) → Vals vs us → sp vs H Q E →
    codeAny (model P w) A (.call (.ref f) ar) (CR CX out P w H s Q E) s

section
variable {P : Program} {w : World} {K : PySem.W.Frag} {mg : Str → Option Value} {base : Heap}

/-- by its body -/
theorem gok_body {CX : CXT} {k : Nat} {x qual : Str} {st : Stmt} {f : Addr} {fd : FuncData} {N ps : List Str} {sp : Sp} (F : Fun K x qual st f fd) (S : FnScope N ps (defScope st))
    (size : ∀ vs H Q E, sp vs H Q E → vs.length = ps.length)
    (body : ∀ (cd : Value) (A : Around) (out : List Env) (s : Shared) (H : Hp) (vs : List V) (Q : VK) (E : XK), A.guards = some [] →
      Room k (A.deeper (envOfC qual (defScope st) s.heap.objs.size f cd)) → sp vs H Q E →
      ∃ t, PSs (cxOf CX P w K mg base N qual (defScope st) f cd A out s H E) (defBody st) t ∧ t { nx := fun _ H' => Q .non H', rt := Q } (start N vs) H) :
    GOk P w K mg base CX (k + 1) f fd ps sp := by
  obtain ⟨oc, od, kV, doc, pm, an, cd, ct, osl, rfl, lk, hcd⟩ := F.ex
  refine ⟨size, fun A out s H ar us vs Q E gd hr e0 hb r hsp => ?_⟩
  have hl := size _ _ _ _ hsp
  have KX : K.In s.heap := e0.mod.kin.keeps fun b o z => (e0.bs b o z).1
  have kinds : ∀ y ∈ ps.zip us, (defScope st).names.lookup y.1 = some .local ∨
      ((defScope st).names.lookup y.1 = some .cell ∧ ((cellsFrom (s.heap.objs.size + 1) (defScope st).names []).lookup y.1).isSome = true) := by
    rintro ⟨n, v⟩ hy
    have hm := (List.of_mem_zip hy).1
    cases S.par n hm with
    | inl q => exact .inl q
    | inr q => exact .inr ⟨q, PySem.W.cellsFrom_some _ _ _ (.inl q)⟩
  have Z := PySem.W.codeRec_of KX hcd
  refine codeAny_call_function hr.depth (KX _ _ lk) rfl S.co S.gen rfl Z (hb _ _ _ _ ?_)
  refine wpAny_newFunctionEnv_cells S.kind kinds fun env he s1 ic => ?_
  subst he
  have lim : s.heap.NoLimit := e0.mod.nolimit.keeps fun b o z => (e0.bs b o z).1
  refine ⟨lim.keeps ic.toInCall.keep, codeAny_func ?_⟩
  obtain ⟨t, ht, hq⟩ := body cd A out s H vs Q E gd (hr.deeper _) hsp
  have I := inv_start (CX := CX) (E := E) S hr.hd e0 hl r ic
  refine wpAny_mono (ht.run [] s1 (start N vs) H _ I hq) ?_ (fun _ _ z => z)
  intro fl s' hs
  cases fl with
  | brk => obtain ⟨_, _, _, q⟩ := hs; exact q.elim
  | cont => obtain ⟨_, _, _, q⟩ := hs; exact q.elim
  | next =>
    obtain ⟨σ', H', J, q⟩ := hs
    exact ⟨V.non, H', J.os, J.bare, J.base, J.hok, rfl, q⟩
  | ret u =>
    obtain ⟨v, σ', H', J, rv, q⟩ := hs
    exact ⟨v, H', J.os, J.bare, J.base, J.hok, rv, q⟩
/-- the same where nothing is raised -/
theorem gok {k : Nat} {x qual : Str} {st : Stmt} {f : Addr} {fd : FuncData} {N ps : List Str} {sp : Sp} (F : Fun K x qual st f fd) (S : FnScope N ps (defScope st))
    (size : ∀ vs H Q E, sp vs H Q E → vs.length = ps.length)
    (body : ∀ (cd : Value) (A : Around) (out : List Env) (s : Shared) (H : Hp) (vs : List V) (Q : VK) (E : XK), A.guards = some [] →
      Room k (A.deeper (envOfC qual (defScope st) s.heap.objs.size f cd)) → sp vs H Q E →
      ∃ t, PSs (cxOf CX0 P w K mg base N qual (defScope st) f cd A out s H E).nox (defBody st) t ∧ t { nx := fun _ H' => Q .non H', rt := Q } (start N vs) H) :
    GOk P w K mg base CX0 (k + 1) f fd ps sp := by
  refine gok_body F S size fun cd A out s H vs Q E gd hr q => ?_
  obtain ⟨t, h, z⟩ := body cd A out s H vs Q E gd hr q
  exact ⟨t, h.nox, z⟩
theorem GOk.mono {CX : CXT} {j k : Nat} {f : Addr} {fd : FuncData} {ps : List Str} {sp : Sp} (F : GOk P w K mg base CX j f fd ps sp) (h : j ≤ k) : GOk P w K mg base CX k f fd ps sp :=
  ⟨F.size, fun A out s H ar us vs Q E gd hr => F.go A out s H ar us vs Q E gd (hr.mono h)⟩
theorem gok_of {CX : CXT} {k : Nat} {f : Addr} {fd : FuncData} {ps : List Str} {sp : Sp} (F : FnOk P w K mg base CX k f fd ps sp) : GOk P w K mg base CX k f fd ps sp :=
  ⟨F.len, fun A out s H ar us vs Q E _ hr => F.run A out s H ar us vs Q E hr⟩
end

section
variable {X : Cx} {CX : CXT} {k : Nat} {f : Addr} {fd : FuncData} {ps : List Str} {sp : Sp} {dvs : List V} {ds : List Value} {E : XK} {x : Str} {p pos : Pos} {e : Expr} {es : List Expr} {t : TA}
/-- f(e, ..), f such a def, from a body of such a def -/
theorem pe_gcall (gd : X.A.guards = some []) (F : GOk X.prog X.w X.K X.mg X.base CX k f fd ps sp) (hr : Room k X.A) (hg : Gl X x) (hm : X.mg x = some (.ref f)) (hk : PySem.W.keepIn X.K (.ref f) = true)
    (hb : Binds X.K fd ps ds) (hd : Vals dvs ds) (hx : Passes CX X E) (ha : PA X (e :: es) t) (hdb : (x == ("__debug__" : Str)) = false := by decide)
    (he : starEach (e :: es) X.env = (false, eval e X.env) :: starEach es X.env := by rfl) (hpl : (backTo pos (starEach es X.env)).any (·.1) = false := by rfl) :
    PE X (.Call (.Name x p) (e :: es) [] pos) (tCall sp dvs E t) := by
  refine ⟨fun pins s σ H Q I h => wpAny_Call_Name_kw (ld_glob I hg hm ?_ hdb)⟩
  have A1 := ha.run pos pins s σ H _ I h
  refine PySem.W.callWith_K (h₀ := X.base) I.ok.mod.kin hk (thn A1 ?_) he hpl
  rintro us s1 ⟨vs, H1, I1, r, q⟩
  refine ⟨I1.kIn, ?_⟩
  have both := r.append hd
  have hl : (us ++ ds).length = ps.length := (both.length).symm.trans (F.size _ _ _ _ q)
  have run1 := F.go X.A X.stack s1 H1 ⟨us, []⟩ (us ++ ds) (vs ++ dvs) Q E gd hr I1.env0 (hb s1 us I1.kIn hl) both q
  refine wpAny_call (codeAny_mono run1 ?_)
  intro res s' hq
  match res, hq with
  | .error e, hq => exact hx pins σ H1 s1 e s' I1 hq
  | .ok (.ret u), hq => exact I1.after hq
  | .ok .next, hq => exact hq.elim
  | .ok .brk, hq => exact hq.elim
  | .ok .cont, hq => exact hq.elim

/-! ### repr of data -/
mutual
theorem dp_noDict {K : PySem.W.Frag} {H : Hp} : ∀ {v : V} {d : PyData}, Dp K H v d → d.hasDict = false
  | _, _, .non => by simp only [PyData.hasDict]
  | _, _, .bl _ => by simp only [PyData.hasDict]
  | _, _, .int _ => by simp only [PyData.hasDict]
  | _, _, .str _ => by simp only [PyData.hasDict]
  | _, _, .lst _ h => by simp only [PyData.hasDict]; exact dpAll_noDict h
  | _, _, .tup _ h => by simp only [PyData.hasDict]; exact dpAll_noDict h
theorem dpAll_noDict {K : PySem.W.Frag} {H : Hp} : ∀ {vs : List V} {ds : List PyData}, DpAll K H vs ds → PyData.hasDictAll ds = false
  | _, _, .nil => by simp only [PyData.hasDictAll]
  | _, _, .cons h t => by simp only [PyData.hasDictAll, dp_noDict h, dpAll_noDict t, Bool.or_self]
end
/-- repr(v), v some data d -/
def rRepr (K : PySem.W.Frag) : List V → Hp → VK → Prop := fun xs H Q => ∃ v d, xs = [v] ∧ Dp K H v d ∧ d.showable = true ∧ d.depth ≤ 100 ∧ d.shown.length ≤ sizeLine ∧ Q (.str d.shown) H
theorem call_repr (gd : X.A.guards = some []) (hr : Room k X.A) : CallR X (.builtin "repr") (rRepr X.K) := by
  intro pins s σ H xs us Q I r h
  obtain ⟨v, d, rfl, dp, hs, hdep, hsz, q⟩ := h
  cases r with
  | cons rv rn =>
    cases rn
    have hun := hr.un
    cases dp with
    | non =>
      cases rv
      refine PySem.P.repr_of_none ⟨.str _, H, I.tok _, ⟨_, rfl⟩, ?_⟩
      simpa only [PyData.shown] using q
    | bl b =>
      cases rv
      refine PySem.P.repr_of_bool ⟨.str _, H, I.tok _, ⟨_, rfl⟩, ?_⟩
      simpa only [PyData.shown] using q
    | int i =>
      obtain ⟨t, rfl⟩ := rv
      refine PySem.P.repr_of_int (by simpa [PyData.showable] using hs) ⟨.str _, H, I.tok _, ⟨_, rfl⟩, ?_⟩
      simpa only [PyData.shown] using q
    | str z =>
      obtain ⟨t, rfl⟩ := rv
      refine PySem.P.repr_of_str ⟨.str _, H, I.tok _, ⟨_, rfl⟩, ?_⟩ (by simpa only [PyData.shown] using hsz)
      simpa only [PyData.shown] using q
    | lst hl ha =>
      cases rv
      obtain ⟨as, rd⟩ := Dp.reads I _ _ _ (.lst hl ha) rfl
      refine repr_of_reads' rd hs (PyData.noDict_hsm (dp_noDict (.lst hl ha))) gd (by omega) (fun _ _ z => z) (fun h' u tk hk => ?_) hsz
      exact ⟨.str _, H, I.kept hk, ⟨_, rfl⟩, q⟩
    | tup hl ha =>
      cases rv
      obtain ⟨as, rd⟩ := Dp.reads I _ _ _ (.tup hl ha) rfl
      refine repr_of_reads' rd hs (PyData.noDict_hsm (dp_noDict (.tup hl ha))) gd (by omega) (fun _ _ z => z) (fun h' u tk hk => ?_) hsz
      exact ⟨.str _, H, I.kept hk, ⟨_, rfl⟩, q⟩
end
end Gd

set_option maxRecDepth 100000
set_option maxHeartbeats 4000000
/-! The end of a law whose own def shows data: no display is under way at its call. -/
namespace Gd
open PySem PySem.Spec PyProof.Rows L2 GxR

/-- the script's own object -/
def scriptO (vs : List Value) : Obj := { cls := .type "list", data := .seq vs.toArray }
def tabO : Obj := { cls := .none, data := .fields #[] }
open Classical in
/-- what is tracked at the law's call: the script (where the written part hasn't it), the tables -/
noncomputable def h0 (K : PySem.W.Frag) (a : Addr) (vs : List Value) (ns : List Int) (T : List Addr) : Hp := fun b =>
  if b = a ∧ K.lookup a = none then some (.frz (scriptO vs) (.lst (ns.map V.int))) else if b ∈ T then some (.tbl #[]) else none

theorem h0_inv {K : PySem.W.Frag} {a b : Addr} {vs : List Value} {ns : List Int} {T : List Addr} {u : HO} (h : h0 K a vs ns T b = some u) :
    (b = a ∧ K.lookup a = none ∧ u = .frz (scriptO vs) (.lst (ns.map V.int))) ∨ (b ∈ T ∧ u = .tbl #[]) := by
  unfold h0 at h
  by_cases c1 : b = a ∧ K.lookup a = none
  · rw [if_pos c1] at h
    exact .inl ⟨c1.1, c1.2, (Option.some.inj h).symm⟩
  · rw [if_neg c1] at h
    by_cases c2 : b ∈ T
    · rw [if_pos c2] at h
      exact .inr ⟨c2, (Option.some.inj h).symm⟩
    · rw [if_neg c2] at h
      cases h

section
variable {P : Program} {w : World} {K : PySem.W.Frag} {mg mb : Str → Option Value} {CX : CXT} {k : Nat} {fa a : Addr} {cs : List (Addr × Addr)} {fd : FuncData} {x : Str} {sp : Sp} {s1 : Shared} {vs : List Value} {ns : List Int}
theorem law_gcall (KX : K.In s1.heap) (nsG : s1.heap.Ns mainGlobals mg) (nsB : s1.heap.Ns builtinsNs mb) (isB : ∀ x : Str, x ≠ "__name__" → mb x = bootBuiltins x) (lim : s1.heap.NoLimit) (gens : s1.gens = #[])
    (tabs : ∀ p ∈ cs, s1.heap.get? p.2 = some tabO) (tabK : ∀ p ∈ cs, K.lookup p.2 = none) (codes : ∀ p ∈ cs, PySem.W.CodeHd s1.heap p.1 p.2)
    (bmain : ∃ (bm : Addr) (ob : Obj), mg "__builtins__" = some (.ref bm) ∧ bm ≠ builtinsNs ∧ s1.heap.get? bm = some ob ∧ ob.cls = .type "module" ∧ ob.dict = some builtinsNs ∧ ob.data = .plain)
    (ha : s1.heap.get? a = some (scriptO vs)) (hi : IntsAre vs ns) (hl : ns.length ≤ sizeLine) (hr : Room k callerA)
    (F : ∀ base : Heap, K.In base → base.Ns mainGlobals mg → (∀ p ∈ cs, TabB base mg p.1 p.2) → GOk P w K mg base CX k fa fd [x] sp)
    (hbind : ∀ (s : Shared) (u : Value), BindsTo s fd ⟨[u], []⟩ [(x, u)])
    (hsp : ∀ H : Hp, (∀ p ∈ cs, H p.2 = some (.tbl #[])) → SqL K H a (ns.map V.int) → sp [.ref a] H (fun v _ => v = .bl true) fun _ _ _ => False)
    (hCX : ∀ H e s', CX [] H s1 (fun _ _ _ => False) e s' → False) :
    codeAny (model P w) callerA (.call (.ref fa) ⟨[.ref a], []⟩) (fun r s' => r = .ok (.ret (.bool true)) ∧ OldK s1.heap s'.heap ∧ s'.os = s1.os ∧ AllBare s'.gens) s1 := by
  have rv := vals_ints hi
  have hlen := hi.length
  let T := cs.map Prod.snd
  have inT : ∀ p ∈ cs, p.2 ∈ T := fun p hp => List.mem_map.mpr ⟨p, hp, rfl⟩
  have ofT : ∀ b ∈ T, s1.heap.get? b = some tabO ∧ K.lookup b = none := by
    intro b hb
    obtain ⟨p, hp, rfl⟩ := List.mem_map.mp hb
    exact ⟨tabs p hp, tabK p hp⟩
  have neT : a ∉ T := fun z => by
    have q := (ofT a z).1
    rw [ha] at q
    cases q
  let H := h0 K a vs ns T
  -- a tracked object is the script or a table
  have seen : ∀ {b : Addr} {o : Obj}, s1.heap.get? b = some o → (∀ us n, o.data ≠ .seq us n) → o.data ≠ .fields #[] → H b = none := by
    intro b o e n1 n2
    cases q : H b with
    | none => rfl
    | some u =>
      exfalso
      rcases h0_inv q with ⟨rfl, _, _⟩ | ⟨hb, _⟩
      · rw [ha] at e
        cases e
        exact n1 _ _ rfl
      · rw [(ofT b hb).1] at e
        cases e
        exact n2 rfl
  have keepHid : ∀ {b : Addr} {o : Obj}, s1.heap.get? b = some o → H b = none → (hidT s1.heap H).get? b = some o := fun e n => hidT_get e n
  have dictHid : ∀ {b : Addr} {o : Obj} {es : Array DictEntry} {ep : Nat}, s1.heap.get? b = some o → o.data = .dict es ep → (hidT s1.heap H).get? b = some o := by
    intro b o es ep e d
    refine keepHid e (seen e (fun us n z => ?_) fun z => ?_) <;> (rw [d] at z; cases z)
  have nsHid : ∀ {b : Addr} {m : Str → Option Value}, s1.heap.Ns b m → (hidT s1.heap H).Ns b m := by
    rintro b m ⟨o, es, ep, e, d, rest⟩
    exact ⟨o, es, ep, dictHid e d, d, rest⟩
  have KH : K.In (hidT s1.heap H) := by
    intro b o e
    refine keepHid (KX b o e) ?_
    cases q : H b with
    | none => rfl
    | some u =>
      exfalso
      rcases h0_inv q with ⟨rfl, z, _⟩ | ⟨hb, _⟩
      · rw [z] at e
        cases e
      · rw [(ofT b hb).2] at e
        cases e
  have limH : (hidT s1.heap H).NoLimit := by
    obtain ⟨mc, h1, h2⟩ := lim
    exact ⟨mc, nsHid h1, h2⟩
  have M : L2.Mod K mg (hidT s1.heap H) := ⟨KH, nsHid nsG, ⟨mb, nsHid nsB, isB⟩, limH⟩
  have TB : ∀ p ∈ cs, TabB (hidT s1.heap H) mg p.1 p.2 := by
    intro p hp
    have tp := tabs p hp
    refine ⟨?_, ?_, ?_⟩
    · obtain ⟨o, us, file, tf, flags, tg, inF, text, tt, e1, r1, r2, r3, rest⟩ := codes p hp
      refine ⟨o, us, file, tf, flags, tg, inF, text, tt, keepHid e1 (seen e1 (fun vs n z => ?_) fun z => ?_), r1, r2, r3, rest⟩
      · rw [r2] at z
        cases z
      · rw [r2] at z
        cases z
        simp at r3
    · obtain ⟨bm, ob, b1, b2, b3, b4, b5, b6⟩ := bmain
      have g1 : bm ≠ mainGlobals := by
        rintro rfl
        obtain ⟨o, es, ep, e, d, _⟩ := nsG
        rw [b3] at e
        cases e
        rw [b6] at d
        cases d
      have g2 : bm ≠ p.2 := by
        rintro rfl
        rw [tp] at b3
        cases b3
        cases b6
      refine ⟨bm, ob, b1, b2, g1, g2, keepHid b3 (seen b3 (fun vs n z => ?_) fun z => ?_), b4, b5, b6⟩ <;> (rw [b6] at z; cases z)
    · intro z
      obtain ⟨o, es, ep, e, d, _⟩ := nsG
      rw [z, tp] at e
      cases e
      cases d
  have hH : ∀ p ∈ cs, H p.2 = some (.tbl #[]) := by
    intro p hp
    have n1 : ¬ (p.2 = a ∧ K.lookup a = none) := fun z => neT (z.1 ▸ inT p hp)
    exact (if_neg n1).trans (if_pos (inT p hp))
  have hS : SqL K H a (ns.map V.int) := by
    cases q : K.lookup a with
    | none => exact .inl (.inr ⟨scriptO vs, if_pos ⟨rfl, q⟩⟩)
    | some o =>
      have e := KX a o q
      rw [ha] at e
      cases e
      exact .inr ⟨_, vs.toArray, _, q, rfl, rfl, rfl, by rw [List.size_toArray, hlen]; exact hl, by simpa using rv⟩
  have hok : HOk P w H s1.heap := by
    intro b u q
    rcases h0_inv q with ⟨rfl, _, rfl⟩ | ⟨hb, rfl⟩
    · exact ⟨ha, by rw [List.length_map]; exact hl, vs, _, rv, ha⟩
    · exact (ofT b hb).1
  have e0 : Env0 P w K mg (hidT s1.heap H) callerA [] s1 H :=
    ⟨rfl, M, fun b o e => of_hidT e, Nat.le_of_eq (hidT_size _ _), trivial, (fun b hb => by cases (show b ∈ ([] : List Addr) from hb)), hok, .of_eq gens⟩
  have run := (F _ KH (nsHid nsG) TB).go callerA [] s1 H ⟨[.ref a], []⟩ [.ref a] [.ref a] (fun v _ => v = .bl true) (fun _ _ _ => False) rfl hr e0 (hbind s1 (.ref a)) (.cons rfl .nil) (hsp H hH hS)
  refine codeAny_mono run ?_
  intro r s' h
  match r, h with
  | .error e, h => exact (hCX H e s' h).elim
  | .ok .next, h => exact h.elim
  | .ok .brk, h => exact h.elim
  | .ok .cont, h => exact h.elim
  | .ok (.ret u), h =>
    obtain ⟨v, H', os, bare, un, hok', r', q⟩ := h
    obtain rfl : v = .bl true := q
    obtain rfl : u = Value.bool true := r'
    have plain : ∀ b o, b ∉ T → s1.heap.get? b = some o → s'.heap.get? b = some o := by
      intro b o nb e
      cases q : H b with
      | none => exact un.keep b o e q (fun z => by cases (show b ∈ ([] : List Addr) from z)) (by simp)
      | some y =>
        rcases h0_inv q with ⟨rfl, _, rfl⟩ | ⟨hb, _⟩
        · obtain ⟨e2, _⟩ := hok' b _ (un.frzs b _ _ q)
          rw [ha] at e
          cases e
          exact e2
        · exact absurd hb nb
    have grown : ∀ p ∈ cs, ∃ more : Array Value, s'.heap.get? p.2 = some { cls := .none, data := .fields more } := by
      intro p hp
      obtain ⟨more, z⟩ := un.tbls p.2 #[] (hH p hp)
      exact ⟨_, hok' p.2 _ z⟩
    refine ⟨rfl, ⟨fun b o e => ?_, fun b o e => ?_⟩, os, bare⟩ <;> by_cases hb : b ∈ T
    · obtain ⟨p, hp, rfl⟩ := List.mem_map.mp hb
      obtain ⟨more, hm⟩ := grown p hp
      rw [tabs p hp] at e
      cases e
      exact .inr (.inl ⟨((codes p hp).tab (tabs p hp)).isCodeTable, rfl, #[], more, rfl, by rw [Array.empty_append]; exact hm⟩)
    · exact .inl (plain b o hb e)
    · obtain ⟨p, hp, rfl⟩ := List.mem_map.mp hb
      obtain ⟨more, hm⟩ := grown p hp
      exact ⟨_, hm⟩
    · exact ⟨o, plain b o hb e⟩
end

/-- the tables of the text's own defs are empty behind the top -/
def Empt (q : Program) (K : PySem.W.Frag) (h : Heap) : Prop := ∀ (x : Str) (f c t : Addr) (o : Obj) (fd : FuncData) (e : Value) (dd : Option Addr) (us : Array Value) (sl : Array (Option Value)),
  ((PyProof.Rows.recsOf q).any fun r => r.name == x) = true → PySem.W.nsIn K mainGlobals x = some (some (.ref f)) → K.lookup f = some o → o.data = .func fd → fd.code = .ref c →
  K.lookup c = some ⟨e, dd, .fields us, sl⟩ → us[11]? = some (.ref t) → PySem.W.CodeHd h c t ∧ h.get? t = some tabO
/-- what is to be known of the law at the head's heap -/
def GLaw (l : PySem.W.OpenLaw) (w : World) (K : PySem.W.Frag) (CX : CXT) (k n : Nat) (x : Str) (mg : Str → Option Value) (fa : Addr) (h : Heap) : Prop :=
  ∃ (fd : FuncData) (cs : List (Addr × Addr)) (sp : Sp), (∀ p ∈ cs, h.get? p.2 = some tabO) ∧ (∀ p ∈ cs, K.lookup p.2 = none) ∧ (∀ p ∈ cs, PySem.W.CodeHd h p.1 p.2) ∧
    (∀ (s : Shared) (u : Value), BindsTo s fd ⟨[u], []⟩ [(x, u)]) ∧
    (∀ (H : Hp) (a : Addr) (ns : List Int), ns.length ≤ n → (∀ z ∈ ns, Builtin.Int.intBits z ≤ 1048576) → (∀ p ∈ cs, H p.2 = some (.tbl #[])) → SqL K H a (ns.map V.int) →
      sp [.ref a] H (fun v _ => v = .bl true) fun _ _ _ => False) ∧
    ∀ base : Heap, K.In base → base.Ns mainGlobals mg → (∀ p ∈ cs, TabB base mg p.1 p.2) → GOk l.prog w K mg base CX k fa fd [x] sp
theorem walk_g {l : PySem.W.OpenLaw} {n k : Nat} {q : Program} {loose : List Str} {XP : (Str → Option Value) → Heap → Prop} {YP : World → Heap → Prop} {d : DefRec} {K : Params → PySem.W.Frag} {CX : World → CXT} {x : Str}
    (hn : l.most = some n) (small : n ≤ sizeLine) (hdf : d.params.defaults = []) (hr : Room k callerA) (hY : ∀ (w : World) (h : Heap), YP w h → (K w.params).In h)
    (F : ∀ (w : World) (mg : Str → Option Value) (fa : Addr) (h : Heap), YP w h → (K w.params).In h → h.Ns mainGlobals mg → mg d.name = some (.ref fa) → Empt q (K w.params) h → GLaw l w (K w.params) (CX w) k n x mg fa h)
    (hCX : ∀ (w : World) (H : Hp) (s : Shared) (e : Value) (s' : Shared), CX w [] H s (fun _ _ _ => False) e s' → False) :
    PySem.W.WalkO q loose XP YP l.row.toRowW d [] (fun f vs => PySem.call f vs) := by
  refine Att.attach_callB hn hdf ?_
  intro w sA s1 mg mb fa o pm cd doc a vs ns G Y ho hd hcd hmg hobj hints hlen hbits hg
  have KX := hY w _ Y
  have em : Empt q (K w.params) s1.heap := by
    intro x f c t o1 fd1 e dd us sl hx k1 k2 k3 k4 k5 k6
    obtain ⟨r, hr1, hr2⟩ := List.any_eq_true.mp hx
    have hn1 : r.name = x := beq_iff_eq.mp hr2
    obtain ⟨a1, o2, fd2, c2, t2, y1, y2, y3, y4, y5, y6⟩ := G.T.tab r hr1
    have z1 := PySem.W.mg_of KX G.T.g k1
    rw [hn1, z1] at y1
    cases y1
    have z2 := KX _ _ k2
    rw [z2] at y2
    cases y2
    rw [k3] at y3
    cases y3
    rw [k4] at y4
    cases y4
    have y6b := y6
    obtain ⟨⟨oc, vc, e1, e2, e3, e4⟩, hP⟩ := y6b
    have z5 := KX _ _ k5
    rw [z5] at e1
    cases e1
    cases e3
    rw [k6] at e4
    cases e4
    exact ⟨PySem.W.CodeHd.of y5 y6, hP⟩
  obtain ⟨fd, cs, sp, t1, t2, t3, hb, hsp, hF⟩ := F w mg fa _ Y KX G.T.g hmg em
  exact law_gcall KX G.T.g G.T.b G.T.builtins G.T.nolimit hg t1 t2 t3 G.T.bmain hobj hints (Nat.le_trans hlen small) hr hF hb (fun H a1 a2 => hsp H a ns hlen hbits a1 a2) (fun H e s' => hCX w H s1 e s')
end Gd

set_option maxRecDepth 100000
set_option maxHeartbeats 4000000
/-! Things, boxes, texts: what the laws share, over no program. -/
namespace My
open PySem PySem.Spec PyProof.Rows L2 GxR Gd TL
/-! ### things -/
def Good (z : Str) : Prop := ∀ c ∈ z.cps.toList, c < 1114112
inductive Th (H : Hp) : V → Prop
  | non : Th H .non
  | bl (b : Bool) : Th H (.bl b)
  | int (i : Int) : Th H (.int i)
  | str (z : Str) (h : z.length ≤ 1000000) (g : Good z) : Th H (.str z)
  | lst (a : Addr) (xs : List V) (h : H a = some (.lst xs)) : Th H (.ref a)
  | tup (a : Addr) (xs : List V) (h : H a = some (.tup xs)) : Th H (.ref a)
  | dic (a : Addr) {kvs : List (Key × V)} (h : H a = some (.dK kvs)) : Th H (.ref a)
def lc (c : Nat) : Bool := decide (97 ≤ c) && decide (c ≤ 122)
def nm : V → Bool
  | .str z => decide (1 ≤ z.length) && decide (z.length ≤ 6) && z.cps.toList.all lc
  | _ => false
def wh (lo hi : Int) : V → Bool
  | .int i => decide (lo ≤ i) && decide (i ≤ hi)
  | _ => false
/-- its kind -/
theorem Th.ty {K : PySem.W.Frag} {H : Hp} {v : V} (h : Th H v) : ∃ t, TyX K H v (.type t) ∧
    ((∃ i, v = .int i ∧ t = "int") ∨ (∃ b, v = .bl b ∧ t = "bool") ∨ (∃ z, v = .str z ∧ (z.length ≤ 1000000 ∧ Good z) ∧ t = "str") ∨
     ((∀ i, v ≠ .int i) ∧ (∀ b, v ≠ .bl b) ∧ (∀ z, v ≠ .str z) ∧ (t = "NoneType" ∨ t = "list" ∨ t = "tuple" ∨ t = "dict"))) := by
  cases h with
  | non => exact ⟨_, .base .non, .inr (.inr (.inr ⟨by simp, by simp, by simp, .inl rfl⟩))⟩
  | bl b => exact ⟨_, .base (.bl b), .inr (.inl ⟨b, rfl, rfl⟩)⟩
  | int i => exact ⟨_, .base (.int i), .inl ⟨i, rfl, rfl⟩⟩
  | str z h g => exact ⟨_, .base (.str z), .inr (.inr (.inl ⟨z, rfl, ⟨h, g⟩, rfl⟩))⟩
  | lst a xs h => exact ⟨_, .base (.lst h), .inr (.inr (.inr ⟨by simp, by simp, by simp, .inr (.inl rfl)⟩))⟩
  | tup a xs h => exact ⟨_, .base (.tup h), .inr (.inr (.inr ⟨by simp, by simp, by simp, .inr (.inr (.inl rfl))⟩))⟩
  | dic a h => exact ⟨_, .base (.dK h), .inr (.inr (.inr ⟨by simp, by simp, by simp, .inr (.inr (.inr rfl))⟩))⟩
/-- all but the table stays -/
structure KT (P : Addr) (H H' : Hp) : Prop where
  keep : ∀ c o, c ≠ P → H c = some o → H' c = some o
  tab : TabG H' P
theorem TabG.at {H : Hp} {P : Addr} (t : TabG H P) : ∃ ps, H P = some (.tbl ps) := let ⟨ps, h, _⟩ := t; ⟨ps, h⟩
theorem ne_tab {H : Hp} {P a : Addr} {o : HO} (t : TabG H P) (h : H a = some o) (n : ∀ ps, o ≠ .tbl ps) : a ≠ P := by
  rintro rfl
  obtain ⟨ps, e⟩ := TabG.at t
  rw [h] at e
  exact n ps (Option.some.inj e)
theorem KT.refl {P : Addr} {H : Hp} (t : TabG H P) : KT P H H := ⟨fun _ _ _ h => h, t⟩
theorem KT.trans {P : Addr} {H H1 H2 : Hp} (a : KT P H H1) (b : KT P H1 H2) : KT P H H2 := ⟨fun c o n h => b.keep c o n (a.keep c o n h), b.tab⟩
theorem KT.of {P : Addr} {H H' : Hp} (t : Tabbed P H H') : KT P H H' := ⟨fun c o n h => by rw [t.2 c n]; exact h, t.1⟩
theorem KT.alloc {P p : Addr} {H : Hp} {o : HO} (t : TabG H P) (n : H p = none) : KT P H (upd H p o) := by
  obtain ⟨ps, e, ht⟩ := t
  refine ⟨fun c q _ h => by rw [upd_ne (ne_of_none h n)]; exact h, ps, by rw [upd_ne (ne_of_none e n)]; exact e, ht⟩
theorem Th.kt {P : Addr} {H H' : Hp} (t : TabG H P) (k : KT P H H') {v : V} (h : Th H v) : Th H' v := by
  cases h with
  | non => exact .non
  | bl b => exact .bl b
  | int i => exact .int i
  | str z h g => exact .str z h g
  | lst a xs h => exact .lst a xs (k.keep _ _ (ne_tab t h (by simp)) h)
  | tup a xs h => exact .tup a xs (k.keep _ _ (ne_tab t h (by simp)) h)
  | dic a h => exact .dic a (k.keep _ _ (ne_tab t h (by simp)) h)

theorem elt_between {prog : Program} {w : World} {scope : Scope} {x a b : Str} {j1 j2 : Nat} {p1 p2 p3 p4 : Pos} (hk : scope.kind = .function) (hl : scope.names.lookup x = some .local)
    (hd : (x == ("__debug__" : Str)) = false := by decide) :
    EltP prog w scope x (.Compare (.Constant (.str a) j1 p1) [.LtE, .LtE] [.Name x p2, .Constant (.str b) j2 p3] p4) (fun c => !decide ([c] < a.cps.toList) && !decide (b.cps.toList < [c])) := by
  intro cenv A' E' c t s2 m2 hs hn hm
  refine Compare_chain ?_ (by with_unfolding_all rfl)
  refine Calls.Constant_str (chain_link ?_)
  refine wpAny_Name (wpAny_loadName_local (by rw [hs]; exact hk) (show cenv.scope.names.lookup x = some .local by rw [hs]; exact hl) hn hm ?_) hd
  refine PySem.P.le_str ?_
  refine wpAny_truthy_bool ?_
  cases q : decide ([c] < a.cps.toList) with
  | true =>
    refine ite_ff ⟨?_, keeps_tok _ _⟩
    have q' : decide ((⟨#[c]⟩ : Str).cps.toList < a.cps.toList) = true := q
    simp [q']
  | false =>
    refine ite_tt (chain_last ?_)
    refine Calls.Constant_str ?_
    refine PySem.P.le_str ⟨?_, keeps_tok _ _⟩
    have q2 : ¬ [c] < a.cps.toList := of_decide_eq_false q
    simp [List.not_lt.mp q2]
def genSc : Scope := { kind := ScopeKind.function, names := [(Str.ofString ".0", NameKind.local), (Str.ofString "sign", NameKind.local)], isGenerator := true, isCoroutine := false }
theorem no_free : ∀ y ∈ genSc.names, y.2 ≠ NameKind.free := by decide +kernel
theorem one_lt (c d : Nat) : [c] < [d] ↔ c < d := by
  rw [List.cons_lt_cons_iff]
  constructor
  · rintro (h | ⟨_, h⟩)
    · exact h
    · exact absurd h (List.not_lt_nil _)
  · exact .inl
theorem lc_eq (c : Nat) : (!decide ([c] < [97]) && !decide ([122] < [c])) = lc c := by
  unfold lc
  rw [Bool.eq_iff_iff]
  simp only [Bool.and_eq_true, Bool.not_eq_true', decide_eq_false_iff_not, decide_eq_true_eq, one_lt]
  omega
/-! ### the box -/
def Bx (b : Addr) (n : Int) (H : Hp) : Prop := ∃ x y z : Int, H b = some (.lst [.int x, .int y, .int z]) ∧ 0 ≤ x ∧ 0 ≤ y ∧ y < 2147483629 ∧ 0 ≤ z ∧ z ≤ n
theorem Bx.same {b : Addr} {n : Int} {H H' : Hp} (h : Bx b n H) (e : H' b = H b) : Bx b n H' := by
  obtain ⟨x, y, z, h1, r⟩ := h
  exact ⟨x, y, z, e.trans h1, r⟩
theorem Bx.mono {b : Addr} {n m : Int} {H : Hp} (h : Bx b n H) (e : n ≤ m) : Bx b m H := by
  obtain ⟨x, y, z, h1, h2, h3, h4, h5, h6⟩ := h
  exact ⟨x, y, z, h1, h2, h3, h4, h5, by omega⟩
theorem i0 (a b c : V) : atI [a, b, c] 0 = some a := rfl
theorem i1 (a b c : V) : atI [a, b, c] 1 = some b := rfl
theorem i2 (a b c : V) : atI [a, b, c] 2 = some c := rfl
theorem j0 : ixN 3 0 = some 0 := rfl
theorem j2 : ixN 3 2 = some 2 := rfl
/-! ### lists and texts -/
theorem atI_ex {α : Type} {xs : List α} {d : Int} (h0 : 0 ≤ d) (h1 : d < xs.length) : ∃ v, v ∈ xs ∧ atI xs d = some v := by
  obtain ⟨j, rfl⟩ := Int.eq_ofNat_of_zero_le h0
  have hj : j < xs.length := by omega
  exact ⟨xs[j], List.getElem_mem hj, atI_nat (List.getElem?_eq_getElem hj)⟩
theorem joinL_len (S : List Nat) : ∀ ps : List (List Nat), (joinL S ps).length ≤ (ps.map List.length).sum + ps.length * S.length
  | [] => by simp [joinL]
  | [p] => by simp [joinL]
  | p :: q :: r => by
    have ih := joinL_len S (q :: r)
    have e : joinL S (p :: q :: r) = p ++ (S ++ joinL S (q :: r)) := rfl
    rw [e, List.length_append, List.length_append, List.map_cons, List.sum_cons, List.length_cons, Nat.succ_mul]
    omega
theorem tl_len (z : Str) : (tl z).length = z.length := by
  show z.cps.toList.length = z.cps.size
  simp
theorem join_len (y : Str) (ps : List Str) : (Txt.join y ps).length ≤ (ps.map (·.length)).sum + ps.length * y.length := by
  have h := joinL_len (tl y) (ps.map tl)
  rw [← tl_len, join_eq, tl_join]
  have e : (ps.map tl).map List.length = ps.map (·.length) := by
    rw [List.map_map]
    exact List.map_congr_left fun z _ => tl_len z
  rw [e, List.length_map, tl_len] at h
  exact h
theorem sum_ones (ps : List Str) (h : ∀ z ∈ ps, z.length ≤ 1) : (ps.map (·.length)).sum ≤ ps.length := by
  induction ps with
  | nil => simp
  | cons a r ih =>
    have h1 := h a List.mem_cons_self
    have h2 := ih fun z hz => h z (List.mem_cons_of_mem _ hz)
    simp only [List.map_cons, List.sum_cons, List.length_cons]
    omega
theorem lcY {A : TE} {σ : L2.St} {H : Hp} {G : VK} {B : Hp → Prop} (h : A σ H G) : tYes σ H (fun b H3 => if b = true then A σ H3 G else B H3) := by
  show if true = true then A σ H G else B H
  exact iteT h
theorem good_app {a b : Str} (h : Good a) (k : Good b) : Good (a ++ b) := fun c hc => by
  have e : (a ++ b).cps.toList = a.cps.toList ++ b.cps.toList := tl_append a b
  rw [e] at hc
  exact (List.mem_append.mp hc).elim (h c) (k c)
theorem good_cut {a : Str} (h : Good a) (lo hi : Option Int) : Good (cutS a lo hi) := fun c hc => by
  unfold cutS at hc
  exact h c (List.mem_of_mem_drop (List.mem_of_mem_take (by simpa using hc)))
theorem good_joinL {S : List Nat} (hS : ∀ c ∈ S, c < 1114112) : ∀ ps : List (List Nat), (∀ p ∈ ps, ∀ c ∈ p, c < 1114112) → ∀ c ∈ joinL S ps, c < 1114112
  | [], _, c, h => by simp [joinL] at h
  | [p], hp, c, h => hp p List.mem_cons_self c (by simpa [joinL] using h)
  | p :: q :: r, hp, c, h => by
    have e : joinL S (p :: q :: r) = p ++ (S ++ joinL S (q :: r)) := rfl
    rw [e, List.mem_append, List.mem_append] at h
    rcases h with h | h | h
    · exact hp p List.mem_cons_self c h
    · exact hS c h
    · exact good_joinL hS (q :: r) (fun z hz => hp z (List.mem_cons_of_mem _ hz)) c h
theorem good_join {y : Str} {ps : List Str} (hy : Good y) (h : ∀ z ∈ ps, Good z) : Good (Txt.join y ps) := fun c hc => by
  have e : (Txt.join y ps).cps.toList = joinL (tl y) (ps.map tl) := by rw [join_eq]; exact tl_join y ps
  rw [e] at hc
  refine good_joinL hy _ (fun p hp => ?_) c hc
  obtain ⟨z, hz, rfl⟩ := List.mem_map.mp hp
  exact h z hz
theorem good_of (x : String) : Good (Str.ofString x) := fun c hc => by
  have e : (Str.ofString x).cps.toList = x.toList.map Char.toNat := by
    rw [Str.ofString_eq_toList]
  rw [e] at hc
  obtain ⟨d, _, rfl⟩ := List.mem_map.mp hc
  have := d.valid
  unfold UInt32.isValidChar Nat.isValidChar at this
  show d.val.toNat < 1114112
  omega
theorem good_one {z : Str} {c : Nat} (h : Good z) (hc : c ∈ z.cps.toList) : Good ⟨#[c]⟩ := fun d hd => by
  have e : d = c := by simpa using hd
  rw [e]
  exact h c hc
/-- all but the box stays -/
def KB (b : Addr) (H H' : Hp) : Prop := ∀ c o, c ≠ b → H c = some o → H' c = some o
theorem KB.refl (b : Addr) (H : Hp) : KB b H H := fun _ _ _ h => h
theorem KB.trans {b : Addr} {H H1 H2 : Hp} (a : KB b H H1) (c : KB b H1 H2) : KB b H H2 := fun x o n h => c x o n (a x o n h)
theorem KB.off {b : Addr} {H H' : Hp} (h : ∀ a, a ≠ b → H' a = H a) : KB b H H' := fun c o n e => (h c n).trans e
theorem KB.alloc {b p : Addr} {H : Hp} {o : HO} (n : H p = none) : KB b H (upd H p o) := fun c u _ h => by rw [upd_ne (ne_of_none h n)]; exact h
theorem Bx.alloc {b p : Addr} {n : Int} {H : Hp} {o : HO} (h : Bx b n H) (f : H p = none) : Bx b n (upd H p o) := by
  obtain ⟨x, y, z, h1, r⟩ := h
  exact ⟨x, y, z, by rw [upd_ne (ne_of_none h1 f)]; exact h1, r⟩
theorem Bx.put {b p : Addr} {n : Int} {H : Hp} {o : HO} (h : Bx b n H) (f : p ≠ b) : Bx b n (upd H p o) := by
  obtain ⟨x, y, z, h1, r⟩ := h
  exact ⟨x, y, z, by rw [upd_ne f.symm]; exact h1, r⟩
/-- a comprehension over a text's signs -/
theorem lc_text {z : Str} {g : TG} {tt : TT} {te : TE} {vs : List Nat} {σ : L2.St} {H1 : Hp} {D : Addr} {Qd : Hp → Prop} (Pv : Nat → Hp → Prop) (h0 : Pv 0 (upd H1 D (.lst [])))
    (hs : ∀ i c H, z.cps.toList[i]? = some c → Pv i H → g (.str ⟨#[c]⟩) (wipe σ vs) H fun σ2 H2 => wipe σ2 vs = wipe σ vs ∧ tt σ2 H2 fun b H3 =>
      if b = true then te σ2 H3 fun y H4 => ∃ acc, H4 D = some (.lst acc) ∧ acc.length < sizeLine ∧ Pv (i + 1) (upd H4 D (.lst (acc ++ [y]))) else Pv (i + 1) H3) (hd : ∀ H, Pv z.length H → Qd H) :
    ∃ W : Nat → Nat → Hp → Prop, (∃ m, W 0 m (upd H1 D (.lst []))) ∧ ∀ i m H, W i m H →
      ((Its z).stop i H ∧ Qd H) ∨ ((Its z).go i H ∧ ∃ Nx : Hp → Prop, (∀ H', Nx H' → ∃ m', m' < m ∧ W (i + 1) m' H') ∧ ∀ x H', (Its z).yld i H x H' → g x (wipe σ vs) H' fun σ2 H2 => wipe σ2 vs = wipe σ vs ∧ tt σ2 H2 fun b H3 =>
        if b = true then te σ2 H3 fun y H4 => ∃ acc, H4 D = some (.lst acc) ∧ acc.length < sizeLine ∧ Nx (upd H4 D (.lst (acc ++ [y]))) else Nx H3) := by
  refine ⟨fun i m H => i + m = z.cps.size ∧ Pv i H, ⟨z.cps.size, by simp, h0⟩, fun i m H hW => ?_⟩
  obtain ⟨e, p⟩ := hW
  cases m with
  | zero =>
    have ei : i = z.cps.size := e
    subst ei
    exact .inl ⟨Nat.le_refl _, hd H p⟩
  | succ m =>
    refine .inr ⟨show i < z.cps.size by omega, Pv (i + 1), fun H' q => ⟨m, Nat.lt_succ_self m, by omega, q⟩, ?_⟩
    rintro x H' ⟨rfl, c, hc, rfl⟩
    exact hs i c _ (by rw [← hc]; simp) p
def badOf (l : List Nat) : List V := (l.filter fun c => !lc c).map fun c => V.str ⟨#[c]⟩
theorem bad_data {K : PySem.W.Frag} {H : Hp} : ∀ l : List Nat, DpAll K H (l.map fun c => V.str ⟨#[c]⟩) (l.map fun c => PyData.str ⟨#[c]⟩)
  | [] => .nil
  | c :: r => .cons (.str _) (bad_data r)
theorem one_ok {c : Nat} (h : c < 1114112) : PyData.strOk ⟨#[c]⟩ = true := by
  simp [PyData.strOk, h]
theorem bad_shaped : ∀ l : List Nat, (∀ c ∈ l, c < 1114112) → PyData.canLayAll0 (l.map fun c => PyData.str ⟨#[c]⟩) = true
  | [], _ => by simp [PyData.canLayAll0]
  | c :: r, h => by
    simp only [List.map_cons, PyData.canLayAll0, PyData.canLay0, Bool.and_eq_true]
    exact ⟨one_ok (h c List.mem_cons_self), bad_shaped r fun d hd => h d (List.mem_cons_of_mem _ hd)⟩
theorem bad_depth : ∀ l : List Nat, PyData.depthAll (l.map fun c => PyData.str ⟨#[c]⟩) = 0
  | [] => by simp [PyData.depthAll]
  | c :: r => by
    simp only [List.map_cons, PyData.depthAll, PyData.depth, bad_depth r]
    rfl
theorem letters_mem (c : Nat) : decide (c ∈ (Str.ofString "abcdefghijklmnopqrstuvwxyz").cps.toList) = lc c := by
  have e : (Str.ofString "abcdefghijklmnopqrstuvwxyz").cps.toList = (List.range 26).map (· + 97) := by decide +kernel
  rw [e]
  unfold lc
  rw [Bool.eq_iff_iff]
  simp only [decide_eq_true_eq, List.mem_map, List.mem_range, Bool.and_eq_true]
  constructor
  · rintro ⟨a, h, rfl⟩
    omega
  · intro h
    exact ⟨c - 97, by omega, by omega⟩
/-- a fresh place is no box -/
theorem Bx.fresh {b p : Addr} {n : Int} {H : Hp} (h : Bx b n H) (f : H p = none) : p ≠ b := by
  rintro rfl
  obtain ⟨x, y, z, e, _⟩ := h
  rw [f] at e
  cases e
theorem dec9000 {m : Int} (h0 : 0 < m) (h : m ≤ 10 ^ 30) : m.natAbs.log2 < 9000 := by
  have h1 : m.natAbs ≤ 10 ^ 30 := by omega
  have h2 : m.natAbs < 2 ^ 100 := Nat.lt_of_le_of_lt h1 (by decide)
  have h3 := (Nat.log2_lt (by omega)).mpr h2
  omega
theorem log1900 {m : Int} (h : m.natAbs ≤ 10 ^ 31) : m.natAbs.log2 < 1900 := by
  by_cases h0 : m.natAbs = 0
  · rw [h0]
    decide
  · have h2 : m.natAbs < 2 ^ 110 := Nat.lt_of_le_of_lt h (by decide)
    have h3 := (Nat.log2_lt h0).mpr h2
    omega
/-- a place in a list of the script stays -/
theorem seq_kt {K : PySem.W.Frag} {P a : Addr} {H H' : Hp} {xs : List V} (t : TabG H P) (k : KT P H H') (h : SqL K H a xs) : SqL K H' a xs := by
  rcases h with (h | ⟨o, h⟩) | h
  · exact .inl (.inl (k.keep _ _ (ne_tab t h (by simp)) h))
  · exact .inl (.inr ⟨o, k.keep _ _ (ne_tab t h (by simp)) h⟩)
  · exact .inr h
/-- what a row of steps with the box does to all else -/
theorem KT.box {P b : Addr} {H H' H1 : Hp} (t : TabG H P) (f : H b = none) (e : ∀ a, a ≠ b → H1 a = H a) (k : KB b H1 H') : KT P H H' := by
  obtain ⟨ps, ht, tr⟩ := t
  have nb : P ≠ b := ne_of_none ht f
  exact ⟨fun c o _ h => k c o (ne_of_none h f) ((e c (ne_of_none h f)).trans h), ps, k P _ nb ((e P nb).trans ht), tr⟩
theorem two_bools (a b : Bool) : (PyData.list [.bool a, .bool b]).shown.length ≤ sizeLine := by
  cases a <;> cases b <;> decide +kernel
end My

set_option maxRecDepth 100000
set_option maxHeartbeats 4000000
namespace D3
open PySem PySem.Spec PyProof.Rows L2 GxR Gd TL My
/-! ### the text -/
def top (i : Nat) : Stmt := PySem.Challenge.pw_onestaff_k73_deeds_written_and_read.main.body.getD i (.Pass ⟨0, 0, 0, 0⟩)
abbrev sWhole : Stmt := top 7
abbrev sName : Stmt := top 8
abbrev sCell : Stmt := top 30
abbrev sBox : Stmt := top 31
abbrev sTake : Stmt := top 32
structure Txt (mg : Str → Option Value) : Prop where
  isinstance_ : mg "isinstance" = none
  int_ : mg "int" = none
  bool_ : mg "bool" = none
  str_ : mg "str" = none
  len_ : mg "len" = none
  all_ : mg "all" = none
  max_ : mg "max" = none
  min_ : mg "min" = none
  range_ : mg "range" = none
  repr_ : mg "repr" = none
  list_ : mg "list" = none
  tuple_ : mg "tuple" = none
  enumerate_ : mg "enumerate" = none
  sorted_ : mg "sorted" = none
  zip_ : mg "zip" = none
structure Fn (K : PySem.W.Frag) (mg : Str → Option Value) (x : Str) (st : Stmt) (ps : List Str) (f : Addr) (fd : FuncData) : Prop where
  fn : Fun K x x st f fd
  g : mg x = some (.ref f)
  b : Binds K fd ps []
theorem Fn.kp {K : PySem.W.Frag} {mg : Str → Option Value} {x : Str} {st : Stmt} {ps : List Str} {f : Addr} {fd : FuncData} (h : Fn K mg x st ps f fd) : PySem.W.keepIn K (.ref f) = true := h.fn.kp
section
variable {P : Program} {w : World} {K : PySem.W.Frag} {mg : Str → Option Value} {base : Heap}
def spWhole : Sp := fun vs H Q _ => ∃ (v : V) (lo hi : Int), vs = [v, .int lo, .int hi] ∧ Th H v ∧ Q (.bl (wh lo hi v)) H
theorem scWhole : FnScope ["thing", "low", "high"] ["thing", "low", "high"] (defScope sWhole) := ⟨rfl, rfl, rfl, by decide +kernel, rfl, by decide +kernel, by decide +kernel⟩
theorem ok_whole {f : Addr} {fd : FuncData} (F : Fun K "is_whole" "is_whole" sWhole f fd) (T : Txt mg) : FnOk P w K mg base CX0 1 f fd ["thing", "low", "high"] spWhole := by
  refine F.ok scWhole (fun vs H Q E h => ?_) (fun cdv A outer s H vs Q E hr h => ?_)
  · obtain ⟨v, lo, hi, rfl, _⟩ := h
    rfl
  · obtain ⟨v, lo, hi, rfl, th, k⟩ := h
    obtain ⟨t, ty, cs⟩ := th.ty (K := K)
    refine ⟨_, pss_cons (ps_if (PW.pt (pw_or (pt_not (pt_val (pe_callB call_isi (by rfl) T.isinstance_ (by decide +kernel) (pa_cons (pv 0) (pa_cons (pe_bltn (v := .ty "int") (by rfl) T.int_ (by decide +kernel) rfl) pa_nil)))))
        (pw_or1 (pt_val (pe_callB call_isi (by rfl) T.isinstance_ (by decide +kernel) (pa_cons (pv 0) (pa_cons (pe_bltn (v := .ty "bool") (by rfl) T.bool_ (by decide +kernel) rfl) pa_nil)))))))
        (pss_one (ps_ret pe_bl)) pss_nil)
      (pss_one (ps_ret (pe_chain op_le op_le (pv 1) (pv 0) (pv 2)))), ?_⟩
    rcases cs with ⟨i, rfl, rfl⟩ | ⟨b, rfl, rfl⟩ | ⟨z, rfl, _, rfl⟩ | ⟨n1, n2, n3, ht⟩
    · refine ⟨_, rfl, _, _, _, _, true, rfl, .ty "int", ty, (by rfl), _, rfl, iteF ?_⟩
      refine ⟨_, rfl, _, _, _, _, false, rfl, .ty "bool", ty, (by rfl), _, rfl, iteF ?_⟩
      refine ⟨_, rfl, _, rfl, _, _, rfl, rfl, _, rfl, ?_⟩
      refine ite2 (fun c => ?_) (fun c => ?_)
      · refine ⟨_, rfl, _, _, rfl, rfl, ?_⟩
        have e : (decide (i ≤ hi)) = wh lo hi (.int i) := by simp [wh, of_decide_eq_true c]
        show Q (.bl (decide (i ≤ hi))) H
        rw [e]; exact k
      · have e : false = wh lo hi (.int i) := by simp at c; simp [wh]; omega
        rw [e]; exact k
    · refine ⟨_, rfl, _, _, _, _, true, rfl, .ty "int", ty, (by rfl), _, rfl, iteF ?_⟩
      refine ⟨_, rfl, _, _, _, _, true, rfl, .ty "bool", ty, (by rfl), _, rfl, iteT ?_⟩
      exact k
    · refine ⟨_, rfl, _, _, _, _, false, rfl, .ty "int", ty, (by rfl), _, rfl, iteT (iteT ?_)⟩
      exact k
    · have e : wh lo hi v = false := by
        cases v with
        | int i => exact absurd rfl (n1 i)
        | _ => rfl
      rw [e] at k
      rcases ht with rfl | rfl | rfl | rfl
      · exact ⟨_, rfl, _, _, _, _, false, rfl, .ty "int", ty, (by rfl), _, rfl, iteT (iteT k)⟩
      · exact ⟨_, rfl, _, _, _, _, false, rfl, .ty "int", ty, (by rfl), _, rfl, iteT (iteT k)⟩
      · exact ⟨_, rfl, _, _, _, _, false, rfl, .ty "int", ty, (by rfl), _, rfl, iteT (iteT k)⟩
      · exact ⟨_, rfl, _, _, _, _, false, rfl, .ty "int", ty, (by rfl), _, rfl, iteT (iteT k)⟩

/-! ### is_name -/
theorem scName : FnScope ["thing"] ["thing"] (defScope sName) := ⟨rfl, rfl, rfl, by decide +kernel, rfl, by decide +kernel, by decide +kernel⟩
def spName (Pt : Addr) : Sp := fun vs H Q _ => ∃ (v : V), vs = [v] ∧ Th H v ∧ TabG H Pt ∧ ∀ H', KT Pt H H' → Q (.bl (nm v)) H'
theorem ok_name {f Pt c : Addr} {oc kV doc pm ct : Value} {od an : Option Addr} {osl : Array (Option Value)}
    (lk : K.lookup f = some ⟨oc, od, .func (PySem.W.fnOf "is_name" "is_name" (defArgs sName) (defBody sName) (defScope sName) .none kV doc pm an (.ref c) ct), osl⟩) (hcd : PySem.W.codeIn K (.ref c) "is_name" = true)
    (T : Txt mg) (TB : TabB base mg c Pt) : FnOk P w K mg base CX0 2 f (PySem.W.fnOf "is_name" "is_name" (defArgs sName) (defBody sName) (defScope sName) .none kV doc pm an (.ref c) ct) ["thing"] (spName Pt) := by
  refine fn_of lk hcd scName (fun vs H Q E h => ?_) (fun A outer s H vs Q E hr h => ?_)
  · obtain ⟨v, rfl, _⟩ := h
    rfl
  · obtain ⟨v, rfl, th, tb, k⟩ := h
    obtain ⟨t, ty, cs⟩ := th.ty (K := K)
    refine ⟨_, (pss_cons (ps_if (PW.pt (pw_or (pt_not (pt_val (pe_callB call_isi (by rfl) T.isinstance_ (by decide +kernel) (pa_cons (pv 0) (pa_cons (pe_bltn (v := .ty "str") (by rfl) T.str_ (by decide +kernel) rfl) pa_nil)))))
        (pw_or1 (pt_not (pt_chain op_le op_le pe_int (pe_callB call_len_str (by rfl) T.len_ PySem.boot_len (pa_cons (pv 0) pa_nil)) pe_int)))))
        (pss_one (ps_ret pe_bl)) pss_nil)
      (pss_one (ps_ret (pe_allS hr (by rfl) T.all_ (by decide +kernel) TB rfl ⟨rfl, rfl, by decide +kernel, by decide +kernel, by decide +kernel, fun y hy e => absurd e (no_free y hy)⟩ (pv 0) (elt_between (by rfl) (by decide +kernel)) (fun _ => rfl))))).nox, ?_⟩
    have no : ∀ e : nm v = false, Q (.bl false) H := fun e => e ▸ k H (KT.refl tb)
    rcases cs with ⟨i, rfl, rfl⟩ | ⟨b, rfl, rfl⟩ | ⟨z, rfl, ⟨hz, _⟩, rfl⟩ | ⟨n1, n2, n3, ht⟩
    · exact ⟨_, rfl, _, _, _, _, false, rfl, .ty "str", ty, (by rfl), _, rfl, iteT (iteT (no rfl))⟩
    · exact ⟨_, rfl, _, _, _, _, false, rfl, .ty "str", ty, (by rfl), _, rfl, iteT (iteT (no rfl))⟩
    · refine ⟨_, rfl, _, _, _, _, true, rfl, .ty "str", ty, (by rfl), _, rfl, iteF ?_⟩
      have hz2 : z.length ≤ sizeLine := Nat.le_trans hz (by decide)
      refine ⟨_, rfl, z, rfl, hz2, _, _, rfl, rfl, _, rfl, ite2 (fun c1 => ?_) (fun c1 => ?_)⟩
      · have c1' : (1 : Int) ≤ z.length := of_decide_eq_true c1
        refine ⟨_, _, rfl, rfl, _, rfl, ?_⟩
        refine ite2 (fun c2 => ?_) (fun c2 => ?_)
        · refine no ?_
          have c2' : ¬ (z.length : Int) ≤ 6 := by simpa using c2
          have n6 : ¬ z.length ≤ 6 := by omega
          simp [nm, n6]
        · have c2' : (z.length : Int) ≤ 6 := by simpa using c2
          have n6 : z.length ≤ 6 := by omega
          have n1 : 1 ≤ z.length := by omega
          refine ⟨_, rfl, z, rfl, tb, fun H2 ht => ?_⟩
          have e : z.cps.toList.all (fun c => !decide ([c] < (Str.ofString "a").cps.toList) && !decide ((Str.ofString "z").cps.toList < [c])) = nm (.str z) := by
            have ea : (Str.ofString "a").cps.toList = [97] := by decide +kernel
            have ez : (Str.ofString "z").cps.toList = [122] := by decide +kernel
            rw [ea, ez]
            simp only [lc_eq]
            simp [nm, n6, n1]
          show Q (.bl (z.cps.toList.all _)) H2
          rw [e]
          exact k H2 (KT.of ht)
      · refine ⟨_, rfl, iteT (no ?_)⟩
        have c1' : ¬ (1 : Int) ≤ z.length := by simpa using c1
        have n1 : ¬ 1 ≤ z.length := by omega
        simp [nm, n1]
    · have e : nm v = false := by
        cases v with
        | str z => exact absurd rfl (n3 z)
        | _ => rfl
      rcases ht with rfl | rfl | rfl | rfl
      · exact ⟨_, rfl, _, _, _, _, false, rfl, .ty "str", ty, (by rfl), _, rfl, iteT (iteT (no e))⟩
      · exact ⟨_, rfl, _, _, _, _, false, rfl, .ty "str", ty, (by rfl), _, rfl, iteT (iteT (no e))⟩
      · exact ⟨_, rfl, _, _, _, _, false, rfl, .ty "str", ty, (by rfl), _, rfl, iteT (iteT (no e))⟩
      · exact ⟨_, rfl, _, _, _, _, false, rfl, .ty "str", ty, (by rfl), _, rfl, iteT (iteT (no e))⟩
def spCell (K : PySem.W.Frag) : Sp := fun vs H Q _ => ∃ (l : Addr) (ns : List Int) (j : Nat), vs = [.ref l, .int (j : Int)] ∧ SqL K H l (ns.map V.int) ∧ ∀ i : Int, Q (.int i) H
theorem scCell : FnScope ["_law_script", "_law_k"] ["_law_script", "_law_k"] (defScope sCell) := ⟨rfl, rfl, rfl, by decide +kernel, rfl, by decide +kernel, by decide +kernel⟩
theorem ok_cell {f : Addr} {fd : FuncData} (F : Fun K "_law_cell" "_law_cell" sCell f fd) (T : Txt mg) : FnOk P w K mg base CX0 1 f fd ["_law_script", "_law_k"] (spCell K) := by
  refine F.ok scCell (fun vs H Q E h => ?_) (fun cdv A outer s H vs Q E hr h => ?_)
  · obtain ⟨l, ns, j, rfl, _⟩ := h
    rfl
  · obtain ⟨l, ns, j, rfl, hS, k⟩ := h
    refine ⟨_, pss_cons (ps_if (pt_cmpR op_lt (pv 1) (pe_callB call_len_seq (by rfl) T.len_ PySem.boot_len (pa_cons (pv 0) pa_nil)) (nomark _)) (pss_one (ps_ret (pe_ix ix_list (pv 0) (pv 1) (fun _ _ => rfl)))) pss_nil)
      (pss_one (ps_ret (pe_op op_add (pe_op op_mul pe_int (pv 1)) pe_int))), ?_⟩
    refine ⟨_, rfl, _, rfl, l, _, rfl, .inl hS, _, _, rfl, rfl, _, rfl, ite2 (fun c => ?_) (fun c => ?_)⟩
    · have c1 : (j : Int) < ((ns.map V.int).length : Nat) := of_decide_eq_true c
      have c2 : j < ns.length := by rw [List.length_map] at c1; omega
      refine ⟨_, rfl, _, rfl, l, _, _, _, rfl, rfl, hS, atI_nat (v := .int ns[j]) ?_, k _⟩
      rw [List.getElem?_map, List.getElem?_eq_getElem c2]
      rfl
    · exact ⟨_, rfl, _, _, rfl, rfl, .inl ⟨by decide, by decide⟩, _, _, rfl, rfl, k _⟩
def spBox : Sp := fun vs H Q _ => ∃ c : Int, vs = [.int c] ∧ ∀ b H', H b = none → (∀ a, a ≠ b → H' a = H a) → Bx b 0 H' → Q (.ref b) H'
theorem scBox : FnScope ["_law_cell_here"] ["_law_cell_here"] (defScope sBox) := ⟨rfl, rfl, rfl, by decide +kernel, rfl, by decide +kernel, by decide +kernel⟩
theorem ok_box {f : Addr} {fd : FuncData} (F : Fun K "_law_box" "_law_box" sBox f fd) (T : Txt mg) : FnOk P w K mg base CX0 1 f fd ["_law_cell_here"] spBox := by
  refine F.ok scBox (fun vs H Q E h => ?_) (fun cdv A outer s H vs Q E hr h => ?_)
  · obtain ⟨c, rfl, _⟩ := h
    rfl
  · obtain ⟨c, rfl, k⟩ := h
    refine ⟨_, pss_one (ps_ret (pe_lst (pa_cons (pe_callB (call_max2 rfl) (by rfl) T.max_ (by decide +kernel) (pa_cons pe_int (pa_cons (pe_op op_sub (pv 0) (pe_op op_pow pe_int pe_int)) pa_nil))) (pa_cons (pe_op op_mod (pv 0) pe_int) (pa_cons pe_int pa_nil))))), ?_⟩
    refine ⟨_, rfl, _, _, rfl, rfl, ⟨by decide, by decide, by decide⟩, _, _, rfl, rfl, _, _, rfl, ?_⟩
    refine ⟨_, rfl, _, _, rfl, rfl, (by show (0 : Int) < 2147483629; decide), ?_⟩
    refine ⟨(by show 3 ≤ sizeLine; decide), fun b hb => ?_⟩
    refine k b _ hb (fun a na => upd_ne na) ⟨_, _, 0, upd_same, ?_, ?_, ?_, Int.le_refl _, Int.le_refl _⟩
    · split <;> omega
    · exact Int.emod_nonneg _ (by decide)
    · exact Int.emod_lt_of_pos _ (by decide)
def spTake : Sp := fun vs H Q _ => ∃ (b : Addr) (many n : Int), vs = [.ref b, .int many] ∧ Bx b n H ∧ n ≤ 100000 ∧ 0 < many ∧ many.natAbs.log2 < 9000 ∧
  ∀ d H', 0 ≤ d → d < many → (∀ a, a ≠ b → H' a = H a) → Bx b (n + 1) H' → Q (.int d) H'
theorem scTake : FnScope ["_law_box_here", "_law_many", "_law_digit", "_law_number_here"] ["_law_box_here", "_law_many"] (defScope sTake) := ⟨rfl, rfl, rfl, by decide +kernel, rfl, by decide +kernel, by decide +kernel⟩
theorem ok_take {f : Addr} {fd : FuncData} (F : Fun K "_law_take" "_law_take" sTake f fd) : FnOk P w K mg base CX0 1 f fd ["_law_box_here", "_law_many"] spTake := by
  refine F.ok scTake (fun vs H Q E h => ?_) (fun cdv A outer s H vs Q E hr h => ?_)
  · obtain ⟨b, many, n, rfl, _⟩ := h
    rfl
  · obtain ⟨b, many, n, rfl, ⟨x, y, z, hb, x0, y0, y1, z0, zn⟩, hn, m0, ml, k⟩ := h
    refine ⟨_, pss_cons (ps_if (pt_cmpR op_gt (pe_ix ix_list (pv 0) pe_int (fun _ _ => rfl)) pe_int (nomark _))
        (pss_cons (ps_set (i := 2) scTake.nd rfl (Or.inl rfl) (pe_op op_mod (pe_ix ix_list (pv 0) pe_int (fun _ _ => rfl)) (pv 1)))
        (pss_cons (ps_asg (pe_op op_fdivW (pe_ix ix_list (pv 0) pe_int (fun _ _ => rfl)) (pv 1)) (pg_sub (pv 0) pe_int set_list))
        (pss_one (ps_ret (pv 2))))) pss_nil)
      (pss_cons (ps_asg (pe_op op_add (pe_ix ix_list (pv 0) pe_int (fun _ _ => rfl)) pe_int) (pg_sub (pv 0) pe_int set_list))
      (pss_cons (ps_set (i := 3) scTake.nd rfl (Or.inl rfl) (pe_op op_mod (pe_op op_pow (pe_op op_add (pe_op op_add (pe_ix ix_list (pv 0) pe_int (fun _ _ => rfl)) (pe_op op_mul pe_int (pe_ix ix_list (pv 0) pe_int (fun _ _ => rfl)))) pe_int) pe_int) pe_int))
      (pss_cons (ps_set (i := 3) scTake.nd rfl (Or.inl rfl) (pe_op op_mod (pe_op op_pow (pe_op op_add (pv 3) (pe_op op_mul pe_int (pe_ix ix_list (pv 0) pe_int (fun _ _ => rfl)))) pe_int) pe_int))
      (pss_one (ps_ret (pe_op op_mod (pe_op op_fdiv (pv 3) pe_int) (pv 1))))))), ?_⟩
    have hL : SqL K H b [.int x, .int y, .int z] := SqL.of hb
    refine ⟨_, rfl, b, _, _, _, rfl, rfl, hL, i0 _ _ _, _, _, rfl, rfl, _, rfl, ite2 (fun c => ?_) (fun c => ?_)⟩
    · refine ⟨_, rfl, b, _, _, _, rfl, rfl, hL, i0 _ _ _, _, rfl, _, _, rfl, rfl, m0, ?_⟩
      refine ⟨_, rfl, b, _, _, _, rfl, rfl, hL, i0 _ _ _, _, rfl, _, _, rfl, rfl, ⟨m0, ml⟩, ?_⟩
      refine ⟨_, rfl, b, _, _, _, rfl, rfl, hb, j0, ?_⟩
      refine ⟨_, rfl, ?_⟩
      exact k _ _ (Int.emod_nonneg _ (by omega)) (Int.emod_lt_of_pos _ m0) (fun a na => upd_ne na) ⟨_, _, _, upd_same, Int.ediv_nonneg x0 (by omega), y0, y1, z0, by omega⟩
    · refine ⟨_, rfl, b, _, _, _, rfl, rfl, hL, i2 _ _ _, _, _, rfl, rfl, ?_⟩
      refine ⟨_, rfl, b, _, _, _, rfl, rfl, hb, j2, ?_⟩
      have h1 : upd H b (.lst ([V.int x, .int y, .int z].set 2 (.int (z + 1)))) b = some (.lst [.int x, .int y, .int (z + 1)]) := upd_same
      have hL1 : SqL K (upd H b (.lst ([V.int x, .int y, .int z].set 2 (.int (z + 1))))) b [.int x, .int y, .int (z + 1)] := SqL.of h1
      refine ⟨_, rfl, b, _, _, _, rfl, rfl, hL1, i1 _ _ _, _, rfl, b, _, _, _, rfl, rfl, hL1, i2 _ _ _, _, _, rfl, rfl, .inl ⟨by decide, by decide⟩, _, _, rfl, rfl, _, _, rfl, rfl,
        _, _, rfl, rfl, ⟨by decide, by decide, ?_⟩, _, _, rfl, rfl, (by show (0 : Int) < 2147483647; decide), ?_⟩
      · omega
      refine ⟨_, rfl, _, rfl, b, _, _, _, rfl, rfl, hL1, i2 _ _ _, _, _, rfl, rfl, .inl ⟨by decide, by decide⟩, _, _, rfl, rfl,
        _, _, rfl, rfl, ⟨by decide, by decide, ?_⟩, _, _, rfl, rfl, (by show (0 : Int) < 2147483587; decide), ?_⟩
      · have g0 := Int.emod_nonneg ((y + 7919 * (z + 1) + 11) ^ (5 : Int).toNat) (show (2147483647 : Int) ≠ 0 by decide)
        have g1 := Int.emod_lt_of_pos ((y + 7919 * (z + 1) + 11) ^ (5 : Int).toNat) (show (0 : Int) < 2147483647 by decide)
        generalize (y + 7919 * (z + 1) + 11) ^ (5 : Int).toNat % 2147483647 = q at g0 g1 ⊢
        omega
      refine ⟨_, rfl, _, _, rfl, rfl, ⟨by decide, by decide⟩, _, rfl, _, _, rfl, rfl, m0, ?_⟩
      exact k _ _ (Int.emod_nonneg _ (by omega)) (Int.emod_lt_of_pos _ m0) (fun a na => upd_ne na) ⟨_, _, _, h1, x0, y0, y1, by omega, by omega⟩
end
end D3


set_option maxRecDepth 100000
set_option maxHeartbeats 4000000
/-! Data in the heap, kept by steps that change a box, a table. -/
namespace My
open PySem PySem.Spec PyProof.Rows L2 GxR Gd TL
/-- all but tables stays -/
def Nt (H H' : Hp) : Prop := ∀ c o, (∀ ps, o ≠ .tbl ps) → H c = some o → H' c = some o
theorem Nt.refl (H : Hp) : Nt H H := fun _ _ _ h => h
theorem Nt.trans {H H1 H2 : Hp} (a : Nt H H1) (b : Nt H1 H2) : Nt H H2 := fun c o n h => b c o n (a c o n h)
theorem KT.nt {P : Addr} {H H' : Hp} (t : TabG H P) (k : KT P H H') : Nt H H' := fun c o n h => k.keep c o (ne_tab t h n) h
theorem Nt.alloc {H : Hp} {p : Addr} {o : HO} (n : H p = none) : Nt H (upd H p o) := fun c u _ h => by rw [upd_ne (ne_of_none h n)]; exact h
/-- the heap but the box -/
def hide (b : Addr) (H : Hp) : Hp := fun c => if c = b then none else H c
theorem hide_ne {b c : Addr} {H : Hp} (h : c ≠ b) : hide b H c = H c := if_neg h
theorem hide_some {b c : Addr} {H : Hp} {o : HO} (h : hide b H c = some o) : c ≠ b ∧ H c = some o := by
  unfold hide at h
  by_cases q : c = b
  · rw [if_pos q] at h
    cases h
  · rw [if_neg q] at h
    exact ⟨q, h⟩
theorem KB.nt {b : Addr} {H H' : Hp} (k : KB b H H') : Nt (hide b H) (hide b H') := fun c o _ h => by
  obtain ⟨n, h⟩ := hide_some h
  rw [hide_ne n]
  exact k c o n h
theorem hide_nt (b : Addr) (H : Hp) : Nt (hide b H) H := fun c o _ h => (hide_some h).2
theorem Nt.seq {K : PySem.W.Frag} {H H' : Hp} {a : Addr} {xs : List V} (e : Nt H H') (h : SqL K H a xs) : SqL K H' a xs := by
  rcases h with (h | ⟨o, h⟩) | h
  · exact .inl (.inl (e _ _ (by simp) h))
  · exact .inl (.inr ⟨o, e _ _ (by simp) h⟩)
  · exact .inr h
theorem Nt.seqT {K : PySem.W.Frag} {H H' : Hp} {a : Addr} {xs : List V} (e : Nt H H') (h : SqT K H a xs) : SqT K H' a xs := by
  rcases h with (h | ⟨o, h⟩) | h
  · exact .inl (.inl (e _ _ (by simp) h))
  · exact .inl (.inr ⟨o, e _ _ (by simp) h⟩)
  · exact .inr h
section
variable {K : PySem.W.Frag} {H H' : Hp}
mutual
theorem dp_nt (e : Nt H H') : ∀ {v : V} {d : PyData}, Dp K H v d → Dp K H' v d
  | _, _, .non => .non
  | _, _, .bl b => .bl b
  | _, _, .int i => .int i
  | _, _, .str z => .str z
  | _, _, .lst h a => .lst (e.seq h) (dpAll_nt e a)
  | _, _, .tup h a => .tup (e.seqT h) (dpAll_nt e a)
theorem dpAll_nt (e : Nt H H') : ∀ {vs : List V} {ds : List PyData}, DpAll K H vs ds → DpAll K H' vs ds
  | _, _, .nil => .nil
  | _, _, .cons h t => .cons (dp_nt e h) (dpAll_nt e t)
end
theorem dp_list {v : V} {ds : List PyData} (h : Dp K H v (.list ds)) : ∃ a xs, v = .ref a ∧ SqL K H a xs ∧ DpAll K H xs ds := by
  cases h with
  | lst h a => exact ⟨_, _, rfl, h, a⟩
theorem dp_tuple {v : V} {ds : List PyData} (h : Dp K H v (.tuple ds)) : ∃ a xs, v = .ref a ∧ SqT K H a xs ∧ DpAll K H xs ds := by
  cases h with
  | tup h a => exact ⟨_, _, rfl, h, a⟩
theorem dp_str {v : V} {z : Str} (h : Dp K H v (.str z)) : v = .str z := by
  cases h
  rfl
theorem dp_int {v : V} {i : Int} (h : Dp K H v (.int i)) : v = .int i := by
  cases h
  rfl
theorem dp_none {v : V} (h : Dp K H v .none) : v = .non := by
  cases h
  rfl
theorem dpAll_len : ∀ {xs : List V} {ds : List PyData}, DpAll K H xs ds → xs.length = ds.length
  | _, _, .nil => rfl
  | _, _, .cons _ t => congrArg (· + 1) (dpAll_len t)
theorem dpAll_get : ∀ {xs : List V} {ds : List PyData}, DpAll K H xs ds → ∀ {i : Nat} {x : V}, xs[i]? = some x → ∃ d, ds[i]? = some d ∧ Dp K H x d
  | _, _, .nil, _, _, h => by simp at h
  | _, _, .cons a _, 0, _, h => by simp at h; subst h; exact ⟨_, rfl, a⟩
  | _, _, .cons _ t, i + 1, x, h => by
    obtain ⟨d, h1, h2⟩ := dpAll_get t (i := i) (x := x) (by simpa using h)
    exact ⟨d, by simpa using h1, h2⟩
theorem dpAll_at : ∀ {xs : List V} {ds : List PyData}, DpAll K H xs ds → ∀ {i : Nat} {d : PyData}, ds[i]? = some d → ∃ x, xs[i]? = some x ∧ Dp K H x d
  | _, _, .nil, _, _, h => by simp at h
  | _, _, .cons a _, 0, _, h => by simp at h; subst h; exact ⟨_, rfl, a⟩
  | _, _, .cons _ t, i + 1, d, h => by
    obtain ⟨x, h1, h2⟩ := dpAll_at t (i := i) (d := d) (by simpa using h)
    exact ⟨x, by simpa using h1, h2⟩
theorem dpAll_app : ∀ {xs ys : List V} {ds es : List PyData}, DpAll K H xs ds → DpAll K H ys es → DpAll K H (xs ++ ys) (ds ++ es)
  | _, _, _, _, .nil, h => h
  | _, _, _, _, .cons a t, h => .cons a (dpAll_app t h)
theorem dp_two {v : V} {c d : PyData} (h : Dp K H v (.tuple [c, d])) : ∃ a x y, v = .ref a ∧ SqT K H a [x, y] ∧ Dp K H x c ∧ Dp K H y d := by
  obtain ⟨a, xs, rfl, h1, h2⟩ := dp_tuple h
  cases h2 with
  | cons p t =>
    cases t with
    | cons q t =>
      cases t
      exact ⟨a, _, _, rfl, h1, p, q⟩
theorem dp_three {v : V} {c d e : PyData} (h : Dp K H v (.tuple [c, d, e])) : ∃ a x y z, v = .ref a ∧ SqT K H a [x, y, z] ∧ Dp K H x c ∧ Dp K H y d ∧ Dp K H z e := by
  obtain ⟨a, xs, rfl, h1, h2⟩ := dp_tuple h
  cases h2 with
  | cons p t =>
    cases t with
    | cons q t =>
      cases t with
      | cons r t =>
        cases t
        exact ⟨a, _, _, _, rfl, h1, p, q, r⟩
theorem dp_four {v : V} {c d e f : PyData} (h : Dp K H v (.list [c, d, e, f])) : ∃ a x y z u, v = .ref a ∧ SqL K H a [x, y, z, u] ∧ Dp K H x c ∧ Dp K H y d ∧ Dp K H z e ∧ Dp K H u f := by
  obtain ⟨a, xs, rfl, h1, h2⟩ := dp_list h
  cases h2 with
  | cons p t =>
    cases t with
    | cons q t =>
      cases t with
      | cons r t =>
        cases t with
        | cons s t =>
          cases t
          exact ⟨a, _, _, _, _, rfl, h1, p, q, r, s⟩
end
/-! ### names that are good, worlds of lines -/
def NameOk (z : Str) : Prop := 1 ≤ z.length ∧ z.length ≤ 6 ∧ z.cps.toList.all lc = true
theorem NameOk.good {z : Str} (h : NameOk z) : Good z := fun c hc => by
  have := List.all_eq_true.mp h.2.2 c hc
  unfold lc at this
  simp at this
  omega
theorem NameOk.nm {z : Str} (h : NameOk z) : nm (.str z) = true := by
  obtain ⟨h1, h2, h3⟩ := h
  simp [My.nm, h1, h2, h3]
theorem NameOk.th {z : Str} {H : Hp} (h : NameOk z) : Th H (.str z) := .str z (by have := h.2.1; omega) h.good
structure Wd where
  ps : List (Str × Int)
  st : List (Str × Int)
  lo : List (Int × Int × Int)
  sp : Str
def longsOk (top : Int) : Int → List (Int × Int × Int) → Prop
  | _, [] => True
  | low, (f, l, h) :: r => low ≤ f ∧ f + 2 ≤ l ∧ l ≤ top ∧ 0 ≤ h ∧ h ≤ 1 ∧ longsOk top l r
structure Wd.Ok (w : Wd) : Prop where
  p2 : 2 ≤ w.ps.length
  p6 : w.ps.length ≤ 6
  nm : ∀ p ∈ w.ps, NameOk p.1 ∧ 1 ≤ p.2 ∧ p.2 ≤ 3
  nd : (w.ps.map (·.1)).Nodup
  sl : w.st.length + 1 = w.ps.length
  st : ∀ p ∈ w.st, (p.1 = "staff" ∨ p.1 = "ticket") ∧ 0 ≤ p.2 ∧ p.2 ≤ 1
  ll : w.lo.length ≤ 2
  lo : longsOk (w.ps.length - 1 : Nat) 0 w.lo
  sn : NameOk w.sp
  s0 : w.sp ∉ w.ps.map (·.1)
def dP (p : Str × Int) : PyData := .tuple [.str p.1, .int p.2]
def dL (p : Int × Int × Int) : PyData := .tuple [.int p.1, .int p.2.1, .int p.2.2]
def Wd.data (w : Wd) : PyData := .list [.list (w.ps.map dP), .list (w.st.map dP), .list (w.lo.map dL), .str w.sp]
end My

set_option maxRecDepth 100000
set_option maxHeartbeats 4000000
/-! the names that a law draws: three ways, all good, all apart -/
namespace My
open PySem PySem.Spec PyProof.Rows L2 GxR Gd TL
theorem tl_inj {a b : Str} (h : tl a = tl b) : a = b := by
  obtain ⟨⟨x⟩⟩ := a
  obtain ⟨⟨y⟩⟩ := b
  have e : x = y := h
  rw [e]
theorem name_of {z : Str} (h1 : 1 ≤ (tl z).length) (h2 : (tl z).length ≤ 6) (h3 : ∀ c ∈ tl z, lc c = true) : NameOk z := by
  rw [tl_len] at h1 h2
  exact ⟨h1, h2, List.all_eq_true.mpr h3⟩
theorem tl_to {z : Str} {j : Nat} (h : j ≤ (tl z).length) : tl (cutS z none (some (j : Int))) = (tl z).take j := by
  show (((tl z).drop (HT.sIx z.length 0 none)).take (HT.sIx z.length z.length (some (j : Int)) - HT.sIx z.length 0 none)) = _
  rw [HT.sIx_none, HT.sIx_nat, ← tl_len, Nat.min_eq_left h]
  simp
theorem tl_cut {z : Str} {a b : Nat} (h : b ≤ (tl z).length) (ha : a ≤ b) : tl (cutS z (some (a : Int)) (some (b : Int))) = ((tl z).drop a).take (b - a) := by
  show (((tl z).drop (HT.sIx z.length 0 (some (a : Int)))).take (HT.sIx z.length z.length (some (b : Int)) - HT.sIx z.length 0 (some (a : Int)))) = _
  rw [HT.sIx_nat, HT.sIx_nat, ← tl_len, Nat.min_eq_left h, Nat.min_eq_left (Nat.le_trans ha h)]
theorem joinL_ones : ∀ cs : List Nat, joinL [] (cs.map fun c => [c]) = cs
  | [] => rfl
  | [c] => rfl
  | c :: d :: r => by
    have ih := joinL_ones (d :: r)
    show [c] ++ ([] ++ joinL [] ((d :: r).map fun c => [c])) = _
    rw [ih]
    rfl
theorem tl_ones (cs : List Nat) : tl (Txt.join (Str.ofString "") (cs.map fun c => ⟨#[c]⟩)) = cs := by
  rw [join_eq, tl_join, List.map_map]
  have e : tl (Str.ofString "") = [] := by decide +kernel
  rw [e]
  exact joinL_ones cs
/-- all good, all apart -/
structure Nms (ns : List Str) : Prop where
  ok : ∀ z ∈ ns, NameOk z
  nd : ns.Nodup
theorem nms_of {f : Nat → Str} {n : Nat} (ok : ∀ k, k < n → NameOk (f k)) (ap : ∀ j k, j < k → k < n → f j ≠ f k) : Nms ((List.range n).map f) := by
  refine ⟨fun z hz => ?_, ?_⟩
  · obtain ⟨k, hk, rfl⟩ := List.mem_map.mp hz
    exact ok k (List.mem_range.mp hk)
  · show ((List.range n).map f).Pairwise (· ≠ ·)
    rw [List.pairwise_map]
    have p : (List.range n).Pairwise (fun a b => a < b) := List.pairwise_lt_range
    refine List.Pairwise.imp_of_mem ?_ p
    intro a b ha hb hab
    exact ap a b hab (List.mem_range.mp hb)
/-! the first way -/
def wds : List Str := ["place", "staff", "ticket", "low", "high", "long", "pilot", "train", "at", "to", "in", "get", "a"]
theorem wds_ok : ∀ z ∈ wds, NameOk z := by
  intro z hz
  have h : (wds.all fun z => decide (1 ≤ (tl z).length) && decide ((tl z).length ≤ 6) && (tl z).all lc) = true := by decide +kernel
  have q := List.all_eq_true.mp h z hz
  rw [Bool.and_eq_true, Bool.and_eq_true, decide_eq_true_eq, decide_eq_true_eq] at q
  exact name_of q.1.1 q.1.2 (List.all_eq_true.mp q.2)
theorem wds_nd : wds.Nodup := by decide +kernel
def nm0 (a : Int) (k : Nat) : Str := (wds[((a + 5 * (k : Int)) % 13).toNat]?).getD ⟨#[]⟩
theorem nm0_at (a : Int) (k : Nat) : atI wds ((a + 5 * (k : Int)) % 13) = some (nm0 a k) := by
  have h0 := Int.emod_nonneg (a + 5 * (k : Int)) (by decide : (13 : Int) ≠ 0)
  have h1 := Int.emod_lt_of_pos (a + 5 * (k : Int)) (by decide : (0 : Int) < 13)
  have hl : wds.length = 13 := by decide +kernel
  generalize e : (a + 5 * (k : Int)) % 13 = m at h0 h1
  obtain ⟨j, rfl⟩ := Int.eq_ofNat_of_zero_le h0
  have hj : j < wds.length := by omega
  unfold nm0
  rw [e, Int.toNat_natCast, List.getElem?_eq_getElem hj]
  exact atI_nat (List.getElem?_eq_getElem hj)
theorem nm0_ok (a : Int) (n : Nat) (hn : n ≤ 7) : Nms ((List.range n).map (nm0 a)) := by
  have hl : wds.length = 13 := by decide +kernel
  have key : ∀ k : Nat, ∃ j : Nat, ((j : Nat) : Int) = (a + 5 * (k : Int)) % 13 ∧ ∃ h : j < wds.length, nm0 a k = wds[j] := fun k => by
    have h0 := Int.emod_nonneg (a + 5 * (k : Int)) (by decide : (13 : Int) ≠ 0)
    have h1 := Int.emod_lt_of_pos (a + 5 * (k : Int)) (by decide : (0 : Int) < 13)
    unfold nm0
    generalize (a + 5 * (k : Int)) % 13 = m at h0 h1
    obtain ⟨j, rfl⟩ := Int.eq_ofNat_of_zero_le h0
    have hj : j < wds.length := by omega
    exact ⟨j, rfl, hj, by rw [Int.toNat_natCast, List.getElem?_eq_getElem hj]; rfl⟩
  refine nms_of (fun k hk => ?_) (fun j k hjk hk e => ?_)
  · obtain ⟨j, _, hj, e⟩ := key k
    rw [e]
    exact wds_ok _ (List.getElem_mem hj)
  · obtain ⟨j1, a1, b1, c1⟩ := key j
    obtain ⟨j2, a2, b2, c2⟩ := key k
    rw [c1, c2] at e
    have nd : wds.Pairwise (· ≠ ·) := wds_nd
    rcases Nat.lt_trichotomy j1 j2 with h | h | h
    · exact List.pairwise_iff_getElem.mp nd j1 j2 b1 b2 h e
    · omega
    · exact List.pairwise_iff_getElem.mp nd j2 j1 b2 b1 h e.symm
/-! the second way -/
structure Stem (z : Str) : Prop where
  len : (tl z).length = 6
  ok : ∀ c ∈ tl z, lc c = true
def nm1 (z : Str) (a : Int) (k : Nat) : Str := cutS z none (some (1 + (a + 5 * (k : Int)) % 6))
theorem nm1_ok {z : Str} (h : Stem z) (a : Int) (n : Nat) (hn : n < 7) : Nms ((List.range n).map (nm1 z a)) := by
  have key : ∀ k : Nat, ∃ j : Nat, ((j : Nat) : Int) = 1 + (a + 5 * (k : Int)) % 6 ∧ 1 ≤ j ∧ j ≤ 6 ∧ tl (nm1 z a k) = (tl z).take j := fun k => by
    have h0 := Int.emod_nonneg (a + 5 * (k : Int)) (by decide : (6 : Int) ≠ 0)
    have h1 := Int.emod_lt_of_pos (a + 5 * (k : Int)) (by decide : (0 : Int) < 6)
    unfold nm1
    generalize (a + 5 * (k : Int)) % 6 = m at h0 h1
    obtain ⟨j, rfl⟩ := Int.eq_ofNat_of_zero_le h0
    refine ⟨1 + j, by omega, by omega, by omega, ?_⟩
    have e : (1 + (j : Int)) = ((1 + j : Nat) : Int) := by omega
    rw [e]
    exact tl_to (by rw [h.len]; omega)
  refine nms_of (fun k hk => ?_) (fun j k hjk hk e => ?_)
  · obtain ⟨j, _, j1, j6, e⟩ := key k
    have hl := h.len
    refine name_of ?_ ?_ (fun c hc => h.ok c (by rw [e] at hc; exact List.mem_of_mem_take hc)) <;> rw [e, List.length_take] <;> omega
  · obtain ⟨j1, a1, _, b1, c1⟩ := key j
    obtain ⟨j2, a2, _, b2, c2⟩ := key k
    have l := congrArg (fun z => (tl z).length) e
    have hl := h.len
    simp only [c1, c2, List.length_take] at l
    omega
/-! the third way -/
def abc : Str := "abcdefghijklmnopqrstuvwxyz"
def lt1 (a : Int) (k : Nat) : Nat := 97 + ((a + 7 * (k : Int)) % 26).toNat
theorem abc_at {i : Int} (h0 : 0 ≤ i) (h1 : i < 26) : atI abc.cps.toList i = some (97 + i.toNat) := by
  obtain ⟨j, rfl⟩ := Int.eq_ofNat_of_zero_le h0
  have h : ∀ j : Fin 26, abc.cps.toList[j.1]? = some (97 + j.1) := by decide +kernel
  rw [Int.toNat_natCast]
  exact atI_nat (h ⟨j, by omega⟩)
theorem lt1_at (a : Int) (k : Nat) : atI abc.cps.toList ((a + 7 * (k : Int)) % 26) = some (lt1 a k) := abc_at (Int.emod_nonneg _ (by decide)) (Int.emod_lt_of_pos _ (by decide))
theorem lt1_lc (a : Int) (k : Nat) : lc (lt1 a k) = true := by
  have h0 := Int.emod_nonneg (a + 7 * (k : Int)) (by decide : (26 : Int) ≠ 0)
  have h1 := Int.emod_lt_of_pos (a + 7 * (k : Int)) (by decide : (0 : Int) < 26)
  unfold lt1 lc
  rw [Bool.and_eq_true, decide_eq_true_eq, decide_eq_true_eq]
  omega
def nm2 (z : Str) (a t : Int) (k : Nat) : Str := cutS z none (some t) ++ ⟨#[lt1 a k]⟩ ++ cutS z (some t) (some (t + (a + (k : Int)) % (6 - t)))
theorem nm2_ok {z : Str} (h : Stem z) (a t : Int) (t0 : 0 ≤ t) (t6 : t < 6) (n : Nat) (hn : n ≤ 7) : Nms ((List.range n).map (nm2 z a t)) := by
  obtain ⟨t, rfl⟩ := Int.eq_ofNat_of_zero_le t0
  have hl := h.len
  have key : ∀ k : Nat, ∃ m : Nat, t + m < 6 ∧ tl (nm2 z a t k) = (tl z).take t ++ ([lt1 a k] ++ ((tl z).drop t).take m) := fun k => by
    have h0 := Int.emod_nonneg (a + (k : Int)) (show (6 - (t : Int)) ≠ 0 by omega)
    have h1 := Int.emod_lt_of_pos (a + (k : Int)) (show (0 : Int) < 6 - (t : Int) by omega)
    unfold nm2
    generalize (a + (k : Int)) % (6 - (t : Int)) = m at h0 h1
    obtain ⟨m, rfl⟩ := Int.eq_ofNat_of_zero_le h0
    refine ⟨m, by omega, ?_⟩
    rw [tl_append, tl_append, tl_to (by omega), show ((t : Int) + (m : Int)) = ((t + m : Nat) : Int) by omega, tl_cut (by omega) (by omega), show t + m - t = m by omega, List.append_assoc]
  refine nms_of (fun k hk => ?_) (fun j k hjk hk e => ?_)
  · obtain ⟨m, hm, e⟩ := key k
    refine name_of ?_ ?_ (fun c hc => ?_)
    · rw [e, List.length_append, List.length_append]
      simp
      omega
    · rw [e, List.length_append, List.length_append, List.length_take, List.length_take, List.length_drop]
      simp
      omega
    · rw [e] at hc
      rcases List.mem_append.mp hc with q | q
      · exact h.ok c (List.mem_of_mem_take q)
      · rcases List.mem_append.mp q with q | q
        · rw [List.mem_singleton.mp q]
          exact lt1_lc a k
        · exact h.ok c (List.mem_of_mem_drop (List.mem_of_mem_take q))
  · obtain ⟨m1, hm1, c1⟩ := key j
    obtain ⟨m2, hm2, c2⟩ := key k
    have l := congrArg (fun z => (tl z)[t]?) e
    simp only [c1, c2] at l
    have lt : ((tl z).take t).length = t := by rw [List.length_take]; omega
    have g : ∀ (c : Nat) (r : List Nat), ((tl z).take t ++ ([c] ++ r))[t]? = some c := fun c r => by
      rw [List.getElem?_append_right (by omega), lt, Nat.sub_self]
      rfl
    rw [g, g] at l
    have l := Option.some.inj l
    unfold lt1 at l
    have h0 := Int.emod_nonneg (a + 7 * (j : Int)) (by decide : (26 : Int) ≠ 0)
    have h1 := Int.emod_nonneg (a + 7 * (k : Int)) (by decide : (26 : Int) ≠ 0)
    omega
end My

set_option maxRecDepth 100000
set_option maxHeartbeats 400000
/-! Names wiped behind a comprehension. -/
namespace My
open PySem PySem.Spec PyProof.Rows L2 GxR Gd TL
theorem wipe_set_out {σ : L2.St} {i : Nat} {x : Option V} : ∀ {vs : List Nat}, i ∉ vs → wipe (σ.set i x) vs = (wipe σ vs).set i x
  | [], _ => rfl
  | v :: vs, h => by
    simp only [List.mem_cons, not_or] at h
    show (wipe (σ.set i x) vs).set v none = ((wipe σ vs).set v none).set i x
    rw [wipe_set_out h.2, List.set_comm _ _ h.1]
theorem wipe_set {σ : L2.St} {i : Nat} {x : Option V} : ∀ {vs : List Nat}, i ∈ vs → wipe (σ.set i x) vs = wipe σ vs
  | [], h => by cases h
  | v :: vs, h => by
    show (wipe (σ.set i x) vs).set v none = (wipe σ vs).set v none
    by_cases q : i ∈ vs
    · rw [wipe_set q]
    · have e : i = v := by
        rcases List.mem_cons.mp h with e | e
        · exact e
        · exact absurd e q
      subst e
      rw [wipe_set_out q, List.set_set]
theorem wipe_wipe {σ : L2.St} : ∀ {us vs : List Nat}, (∀ u ∈ us, u ∈ vs) → wipe (wipe σ us) vs = wipe σ vs
  | [], _, _ => rfl
  | u :: us, vs, h => by
    show wipe ((wipe σ us).set u none) vs = _
    rw [wipe_set (h u (by simp)), wipe_wipe fun x hx => h x (by simp [hx])]
theorem wipe1 {σ : L2.St} {vs : List Nat} {i : Nat} {a : Option V} (hi : i ∈ vs) : wipe ((wipe σ vs).set i a) vs = wipe σ vs := by
  rw [wipe_set hi, wipe_wipe fun _ h => h]
theorem wipe2 {σ : L2.St} {vs : List Nat} {i j : Nat} {a b : Option V} (hi : i ∈ vs) (hj : j ∈ vs) : wipe (((wipe σ vs).set i a).set j b) vs = wipe σ vs := by
  rw [wipe_set hj, wipe_set hi, wipe_wipe fun _ h => h]
theorem wipe3 {σ : L2.St} {vs : List Nat} {i j k : Nat} {a b c : Option V} (hi : i ∈ vs) (hj : j ∈ vs) (hk : k ∈ vs) : wipe ((((wipe σ vs).set i a).set j b).set k c) vs = wipe σ vs := by
  rw [wipe_set hk, wipe_set hj, wipe_set hi, wipe_wipe fun _ h => h]
theorem wipe4 {σ : L2.St} {vs : List Nat} {i j k l : Nat} {a b c d : Option V} (hi : i ∈ vs) (hj : j ∈ vs) (hk : k ∈ vs) (hl : l ∈ vs) : wipe (((((wipe σ vs).set i a).set j b).set k c).set l d) vs = wipe σ vs := by
  rw [wipe_set hl, wipe_set hk, wipe_set hj, wipe_set hi, wipe_wipe fun _ h => h]
end My

set_option maxRecDepth 100000
set_option maxHeartbeats 1000000
/-! The end of a law whose own def shows dicts: the module table is tracked, so that no new thing is it. For laws without tables. -/
namespace Gd
open PySem PySem.Spec PyProof.Rows L2 GxR
/-- the module table: it is there -/
def smU : HO := .ext fun h => ∃ o, h.get? sysModules = some o
def SmAt (H : Hp) : Prop := ∃ o, H sysModules = some (.frz o smU)
theorem SmAt.same {H H' : Hp} (h : SmAt H) (s : Same H H') : SmAt H' := let ⟨o, e⟩ := h; ⟨o, s _ _ e⟩
theorem smU_ne {u : HO} (n : ∀ φ, u ≠ .ext φ) : smU ≠ u := fun z => n _ z.symm
open Classical in
noncomputable def hs0 (K : PySem.W.Frag) (a : Addr) (vs : List Value) (ns : List Int) (o1 : Obj) : Hp := fun b =>
  if b = sysModules then some (.frz o1 smU) else if b = a ∧ K.lookup a = none then some (.frz (scriptO vs) (.lst (ns.map V.int))) else none
theorem hs0_inv {K : PySem.W.Frag} {a b : Addr} {vs : List Value} {ns : List Int} {o1 : Obj} {u : HO} (h : hs0 K a vs ns o1 b = some u) :
    (b = sysModules ∧ u = .frz o1 smU) ∨ (b = a ∧ K.lookup a = none ∧ u = .frz (scriptO vs) (.lst (ns.map V.int))) := by
  unfold hs0 at h
  split at h
  · rename_i c
    exact .inl ⟨c, (Option.some.inj h).symm⟩
  · split at h
    · rename_i c
      exact .inr ⟨c.1, c.2, (Option.some.inj h).symm⟩
    · cases h
section
variable {P : Program} {w : World} {K : PySem.W.Frag} {mg mb : Str → Option Value} {CX : CXT} {k : Nat} {fa a : Addr} {fd : FuncData} {x : Str} {sp : Sp} {s1 : Shared} {vs : List Value} {ns : List Int}
theorem law_scall (KX : K.In s1.heap) (nsG : s1.heap.Ns mainGlobals mg) (nsB : s1.heap.Ns builtinsNs mb) (isB : ∀ x : Str, x ≠ "__name__" → mb x = bootBuiltins x) (lim : s1.heap.NoLimit) (gens : s1.gens = #[])
    (hsm : ∃ o, s1.heap.get? sysModules = some o) (k1 : K.lookup sysModules = none) (na : a ≠ sysModules) (ha : s1.heap.get? a = some (scriptO vs)) (hi : IntsAre vs ns) (hl : ns.length ≤ sizeLine) (hr : Room k callerA)
    (F : ∀ base : Heap, K.In base → base.Ns mainGlobals mg → GOk P w K mg base CX k fa fd [x] sp) (hbind : ∀ (s : Shared) (u : Value), BindsTo s fd ⟨[u], []⟩ [(x, u)])
    (hsp : ∀ H : Hp, SmAt H → SqL K H a (ns.map V.int) → sp [.ref a] H (fun v _ => v = .bl true) fun _ _ _ => False) (hCX : ∀ H e s', CX [] H s1 (fun _ _ _ => False) e s' → False) :
    codeAny (model P w) callerA (.call (.ref fa) ⟨[.ref a], []⟩) (fun r s' => r = .ok (.ret (.bool true)) ∧ OldK s1.heap s'.heap ∧ s'.os = s1.os ∧ AllBare s'.gens) s1 := by
  have rv := vals_ints hi
  have hlen := hi.length
  obtain ⟨o1, ho1⟩ := hsm
  let H := hs0 K a vs ns o1
  have off : ∀ {b : Addr}, b ≠ sysModules → b ≠ a → H b = none := fun {b} n1 n2 => by
    cases q : H b with
    | none => rfl
    | some u =>
      rcases hs0_inv q with ⟨e, _⟩ | ⟨e, _⟩
      · exact absurd e n1
      · exact absurd e n2
  have dic : ∀ {b : Addr} {m : Str → Option Value}, b ≠ sysModules → s1.heap.Ns b m → (hidT s1.heap H).Ns b m := by
    rintro b m n1 ⟨o, es, ep, e, d, rest⟩
    refine ⟨o, es, ep, hidT_get e (off n1 ?_), d, rest⟩
    rintro rfl
    rw [ha] at e
    obtain rfl := Option.some.inj e
    cases d
  have KH : K.In (hidT s1.heap H) := by
    intro b o e
    refine hidT_get (KX b o e) ?_
    cases q : H b with
    | none => rfl
    | some u =>
      rcases hs0_inv q with ⟨rfl, _⟩ | ⟨rfl, z, _⟩
      · rw [k1] at e
        cases e
      · rw [z] at e
        cases e
  have limH : (hidT s1.heap H).NoLimit := let ⟨mc, h1, h2⟩ := lim; ⟨mc, dic (by decide) h1, h2⟩
  have M : L2.Mod K mg (hidT s1.heap H) := ⟨KH, dic (by decide) nsG, ⟨mb, dic (by decide) nsB, isB⟩, limH⟩
  have hS : SqL K H a (ns.map V.int) := by
    cases q : K.lookup a with
    | none => exact .inl (.inr ⟨scriptO vs, (if_neg na).trans (if_pos ⟨rfl, q⟩)⟩)
    | some o =>
      have e := KX a o q
      rw [ha] at e
      obtain rfl := Option.some.inj e
      exact .inr ⟨_, vs.toArray, _, q, rfl, rfl, rfl, by rw [List.size_toArray, hlen]; exact hl, by simpa using rv⟩
  have hok : HOk P w H s1.heap := by
    intro b u q
    rcases hs0_inv q with ⟨rfl, rfl⟩ | ⟨rfl, _, rfl⟩
    · exact ⟨ho1, ⟨_, ho1⟩, ⟨_, ho1⟩, fun h1 h2 ⟨o, z⟩ k => ⟨o, k _ z⟩⟩
    · exact ⟨ha, by rw [List.length_map]; exact hl, vs, _, rv, ha⟩
  have e0 : Env0 P w K mg (hidT s1.heap H) callerA [] s1 H :=
    ⟨rfl, M, fun b o e => of_hidT e, Nat.le_of_eq (hidT_size _ _), trivial, (fun b hb => by cases (show b ∈ ([] : List Addr) from hb)), hok, .of_eq gens⟩
  refine codeAny_mono ((F _ KH (dic (by decide) nsG)).go callerA [] s1 H ⟨[.ref a], []⟩ [.ref a] [.ref a] (fun v _ => v = .bl true) (fun _ _ _ => False) rfl hr e0 (hbind s1 (.ref a)) (.cons rfl .nil) (hsp H ⟨o1, if_pos rfl⟩ hS)) ?_
  intro r z h
  match r, h with
  | .ok .next, h => exact h.elim
  | .ok .brk, h => exact h.elim
  | .ok .cont, h => exact h.elim
  | .error e, h => exact (hCX H e z h).elim
  | .ok (.ret u), h =>
    obtain ⟨v, G, os, bare, un, hokG, rv', q⟩ := h
    obtain rfl : v = .bl true := q
    obtain rfl : u = Value.bool true := rv'
    have plain : ∀ b o, s1.heap.get? b = some o → z.heap.get? b = some o := by
      intro b o e
      cases q : H b with
      | none => exact un.keep b o e q (fun y => by cases (show b ∈ ([] : List Addr) from y)) (by simp)
      | some y =>
        rcases hs0_inv q with ⟨rfl, rfl⟩ | ⟨rfl, _, rfl⟩
        · obtain ⟨e2, _⟩ := hokG sysModules _ (un.frzs _ _ _ q)
          rw [ho1] at e
          exact Option.some.inj e ▸ e2
        · obtain ⟨e2, _⟩ := hokG b _ (un.frzs b _ _ q)
          rw [ha] at e
          exact Option.some.inj e ▸ e2
    exact ⟨rfl, ⟨fun b o e => .inl (plain b o e), fun b o e => ⟨o, plain b o e⟩⟩, os, bare⟩
end
/-- what is to be known of such a law -/
def GLawS (l : PySem.W.OpenLaw) (w : World) (K : PySem.W.Frag) (CX : CXT) (k n : Nat) (x : Str) (mg : Str → Option Value) (fa : Addr) : Prop :=
  ∃ (fd : FuncData) (sp : Sp), K.lookup sysModules = none ∧ (∀ (s : Shared) (u : Value), BindsTo s fd ⟨[u], []⟩ [(x, u)]) ∧
    (∀ (H : Hp) (a : Addr) (ns : List Int), ns.length ≤ n → SmAt H → SqL K H a (ns.map V.int) → sp [.ref a] H (fun v _ => v = .bl true) fun _ _ _ => False) ∧
    ∀ base : Heap, K.In base → base.Ns mainGlobals mg → GOk l.prog w K mg base CX k fa fd [x] sp
open PySem.W in
theorem walk_s {l : PySem.W.OpenLaw} {n k : Nat} {q : Program} {loose : List Str} {XP : (Str → Option Value) → Heap → Prop} {YP : World → Heap → Prop} {d : DefRec} {K : Params → PySem.W.Frag} {CX : World → CXT} {x : Str}
    (no : importsNone q = true) (hn : l.most = some n) (small : n ≤ sizeLine) (hdf : d.params.defaults = []) (hr : Room k callerA) (hY : ∀ (w : World) (h : Heap), YP w h → (K w.params).In h)
    (F : ∀ (w : World) (mg : Str → Option Value) (fa : Addr) (h : Heap), YP w h → (K w.params).In h → h.Ns mainGlobals mg → mg d.name = some (.ref fa) → GLawS l w (K w.params) (CX w) k n x mg fa)
    (hCX : ∀ (w : World) (H : Hp) (s : Shared) (e : Value) (s' : Shared), CX w [] H s (fun _ _ _ => False) e s' → False) :
    PySem.W.WalkO q loose XP YP l.row.toRowW d [] (fun f vs => PySem.call f vs) := by
  intro w s0 s1 mg mb G Y fa o pm cd doc dV kV ho hd hcd hD hmg hg args vals as pre lay rd well low
  obtain ⟨a, vs, ns, rfl, rfl, hobj, hints, hlen⟩ := Att.script_of hn pre well
  have na : a ≠ sysModules := by
    cases rd with
    | cons r1 r2 =>
      cases r1 with
      | list _ _ _ _ => exact beq_eq_false_iff_ne.mp (low a (by simp))
  have KX := hY w _ Y
  obtain ⟨fd, sp, k1, hb, hsp, hF⟩ := F w mg fa _ Y KX G.T.g hmg
  have run := law_scall KX G.T.g G.T.b G.T.builtins G.T.nolimit hg (let ⟨_, ⟨o, _, _, e, _⟩, _⟩ := (G.T.seer no).mods; ⟨o, e⟩) k1 na hobj hints (Nat.le_trans hlen small) hr hF hb (fun H a1 a2 => hsp H a ns hlen a1 a2) (fun H e s' => hCX w H s1 e s')
  refine enter_call (codeAny_mono run ?_)
  rintro r z ⟨rfl, old, os, bare⟩
  exact ⟨.inl ⟨.bool true, .bool true, [], rfl, fun _ => rfl, .bool true, Att.post_true l _, fun _ => ⟨List.Pairwise.nil, fun _ m => (nomatch m)⟩⟩, old, os, bare⟩
end Gd

set_option maxRecDepth 100000
set_option maxHeartbeats 1000000
/-! Data with dicts: what repr asks of them. -/
namespace My
open PySem PySem.Spec PyProof.Rows L2 GxR Gd TL
theorem same_new {H : Hp} {p : Addr} {o : HO} (n : H p = none) : Same H (upd H p o) := fun b u e => by rw [upd_ne (ne_of_none e n)]; exact e
theorem sameT {K : PySem.W.Frag} {H H' : Hp} {a : Addr} {xs : List V} (s : Same H H') (h : SqT K H a xs) : SqT K H' a xs := by
  rcases h with (h | ⟨o, h⟩) | h
  · exact .inl (.inl (s _ _ h))
  · exact .inl (.inr ⟨o, s _ _ h⟩)
  · exact .inr h
def keyD : Key → PyData
  | .inl i => .int i
  | .inr x => .str x
mutual
/-- v is the data d, dicts too -/
inductive Dq (K : PySem.W.Frag) (H : Hp) : V → PyData → Prop
  | non : Dq K H .non .none
  | bl (b : Bool) : Dq K H (.bl b) (.bool b)
  | int (i : Int) : Dq K H (.int i) (.int i)
  | str (z : Str) : Dq K H (.str z) (.str z)
  | lst {a : Addr} {xs : List V} {ds : List PyData} (e : SqL K H a xs) (h : DqAll K H xs ds) : Dq K H (.ref a) (.list ds)
  | tup {a : Addr} {xs : List V} {ds : List PyData} (e : SqT K H a xs) (h : DqAll K H xs ds) : Dq K H (.ref a) (.tuple ds)
  | dic {a : Addr} {kvs : List (Key × V)} {ds : List (PyData × PyData)} (e : H a = some (.dK kvs)) (h : DqKv K H kvs ds) : Dq K H (.ref a) (.dict ds)
inductive DqAll (K : PySem.W.Frag) (H : Hp) : List V → List PyData → Prop
  | nil : DqAll K H [] []
  | cons {v : V} {vs : List V} {d : PyData} {ds : List PyData} (h : Dq K H v d) (t : DqAll K H vs ds) : DqAll K H (v :: vs) (d :: ds)
inductive DqKv (K : PySem.W.Frag) (H : Hp) : List (Key × V) → List (PyData × PyData) → Prop
  | nil : DqKv K H [] []
  | cons {k : Key} {v : V} {r : List (Key × V)} {d : PyData} {ds : List (PyData × PyData)} (h : Dq K H v d) (t : DqKv K H r ds) : DqKv K H ((k, v) :: r) ((keyD k, d) :: ds)
end
mutual
theorem Dq.of {K : PySem.W.Frag} {H : Hp} : ∀ {v : V} {d : PyData}, Dp K H v d → Dq K H v d
  | _, _, .non => .non
  | _, _, .bl b => .bl b
  | _, _, .int i => .int i
  | _, _, .str z => .str z
  | _, _, .lst e h => .lst e (DqAll.of h)
  | _, _, .tup e h => .tup e (DqAll.of h)
theorem DqAll.of {K : PySem.W.Frag} {H : Hp} : ∀ {vs : List V} {ds : List PyData}, DpAll K H vs ds → DqAll K H vs ds
  | _, _, .nil => .nil
  | _, _, .cons h t => .cons (Dq.of h) (DqAll.of t)
end
mutual
theorem Dq.same {K : PySem.W.Frag} {H H' : Hp} (s : Same H H') : ∀ {v : V} {d : PyData}, Dq K H v d → Dq K H' v d
  | _, _, .non => .non
  | _, _, .bl b => .bl b
  | _, _, .int i => .int i
  | _, _, .str z => .str z
  | _, _, .lst e h => .lst (s.seq e) (DqAll.same s h)
  | _, _, .tup e h => .tup (sameT s e) (DqAll.same s h)
  | _, _, .dic e h => .dic (s _ _ e) (DqKv.same s h)
theorem DqAll.same {K : PySem.W.Frag} {H H' : Hp} (s : Same H H') : ∀ {vs : List V} {ds : List PyData}, DqAll K H vs ds → DqAll K H' vs ds
  | _, _, .nil => .nil
  | _, _, .cons h t => .cons (Dq.same s h) (DqAll.same s t)
theorem DqKv.same {K : PySem.W.Frag} {H H' : Hp} (s : Same H H') : ∀ {kvs : List (Key × V)} {ds : List (PyData × PyData)}, DqKv K H kvs ds → DqKv K H' kvs ds
  | _, _, .nil => .nil
  | _, _, .cons h t => .cons (Dq.same s h) (DqKv.same s t)
end
theorem keyD_reads {h : Heap} {k : Key} {v : Value} (e : keyIs k v = true) : Reads h v (keyD k) [] := by
  rcases keyIs_shape e with ⟨i, t, rfl, rfl⟩ | ⟨x, t, rfl, rfl⟩
  · exact .int i t
  · exact .str x t
section
variable {X : Cx} {pins : List (Addr × Obj)} {σ : L2.St} {H : Hp} {s : Shared}
theorem ne_sm {K : PySem.W.Frag} {H : Hp} {a : Addr} {xs : List V} (n : K.lookup sysModules = none) (sm : SmAt H) (h : SqL K H a xs) : a ≠ sysModules := by
  rintro rfl
  obtain ⟨o, e⟩ := sm
  rcases h with (h | ⟨u, h⟩) | ⟨u, _, _, h, _⟩
  · rw [e] at h
    cases h
  · rw [e] at h
    cases h
  · rw [n] at h
    cases h
mutual
theorem Dq.reads (n : X.K.lookup sysModules = none) (sm : SmAt H) (I : Inv X pins σ H s) : ∀ (d : PyData) (v : V) (u : Value), Dq X.K H v d → RelV v u → ∃ as, Reads s.heap u d as ∧ sysModules ∉ as
  | .none, _, _, h, r => by
    cases h
    cases r
    exact ⟨_, .none, by simp⟩
  | .bool b, _, _, h, r => by
    cases h
    cases r
    exact ⟨_, .bool b, by simp⟩
  | .int i, _, _, h, r => by
    cases h
    obtain ⟨t, rfl⟩ := r
    exact ⟨_, .int i t, by simp⟩
  | .str z, _, _, h, r => by
    cases h
    obtain ⟨t, rfl⟩ := r
    exact ⟨_, .str z t, by simp⟩
  | .list ds, _, _, h, r => by
    cases h with
    | lst hs ha =>
      cases r
      obtain ⟨its, rv, ⟨o, m, ho, hc, _, hd⟩, _⟩ := I.list hs
      obtain ⟨as, hr, no⟩ := Dq.readsAll n sm I ds _ its ha rv
      exact ⟨_, .list ho hc hd hr, fun m => (List.mem_cons.mp m).elim (ne_sm n sm hs).symm no⟩
  | .tuple ds, _, _, h, r => by
    cases h with
    | tup hs ha =>
      cases r
      obtain ⟨its, rv, ⟨o, ho, hc, m, hd⟩, _⟩ := I.tuple hs
      obtain ⟨as, hr, no⟩ := Dq.readsAll n sm I ds _ its ha rv
      exact ⟨_, .tuple ho hc hd hr, no⟩
  | .dict ds, _, _, h, r => by
    cases h with
    | dic e hk =>
      cases r
      obtain ⟨_, ne, vs, rel, o, es, ep, ho, hx, hd, _, hp, _⟩ := dk_of I.hok e
      obtain ⟨as, bs, h1, h2, n1, n2⟩ := Dq.readsKv n sm I ds _ vs es.toList hk rel hp
      refine ⟨_, .dict ho hx.1 hd h1 h2, fun m => ?_⟩
      rw [List.cons_append] at m
      rcases List.mem_cons.mp m with m | m
      · exact (beq_eq_false_iff_ne.mp ne) m.symm
      · exact (List.mem_append.mp m).elim n1 n2
theorem Dq.readsAll (n : X.K.lookup sysModules = none) (sm : SmAt H) (I : Inv X pins σ H s) : ∀ (ds : List PyData) (vs : List V) (us : List Value), DqAll X.K H vs ds → Vals vs us → ∃ as, ReadsAll s.heap us ds as ∧ sysModules ∉ as
  | [], _, _, h, r => by
    cases h
    cases r
    exact ⟨_, .nil, by simp⟩
  | d :: ds, _, _, h, r => by
    cases h with
    | cons h1 h2 =>
      cases r with
      | cons r1 r2 =>
        obtain ⟨as, q1, n1⟩ := Dq.reads n sm I d _ _ h1 r1
        obtain ⟨bs, q2, n2⟩ := Dq.readsAll n sm I ds _ _ h2 r2
        exact ⟨_, .cons q1 q2, fun m => (List.mem_append.mp m).elim n1 n2⟩
theorem Dq.readsKv (n : X.K.lookup sysModules = none) (sm : SmAt H) (I : Inv X pins σ H s) : ∀ (ds : List (PyData × PyData)) (kvs : List (Key × V)) (vs : List (Key × Value)) (es : List DictEntry), DqKv X.K H kvs ds → KV kvs vs → Pairs (mixKind X.prog X.w) es vs →
    ∃ as bs, ReadsAll s.heap (es.map (·.key)) (ds.map (·.1)) as ∧ ReadsAll s.heap (es.map (·.val)) (ds.map (·.2)) bs ∧ sysModules ∉ as ∧ sysModules ∉ bs
  | [], _, _, _, h, r, p => by
    cases h
    cases r
    cases p
    exact ⟨_, _, .nil, .nil, by simp, by simp⟩
  | (_, d) :: ds, _, _, _, h, r, p => by
    cases h with
    | cons h1 h2 =>
      cases r with
      | cons r1 r2 =>
        cases p with
        | cons p1 p2 p3 =>
          obtain ⟨as, q1, n1⟩ := Dq.reads n sm I d _ _ h1 r1.2
          obtain ⟨bs, cs, q2, q3, n2, n3⟩ := Dq.readsKv n sm I ds _ _ _ h2 r2 p3
          refine ⟨_, _, .cons (keyD_reads ?_) q2, .cons ?_ q3, by simpa using n2, fun m => (List.mem_append.mp m).elim n1 n3⟩
          · have e := r1.1
            dsimp only at e ⊢
            rw [e]
            exact p1
          · dsimp only
            rw [p2]
            exact q1
end
end
/-- repr(v), v data with dicts -/
def rReprQ (K : PySem.W.Frag) : List V → Hp → VK → Prop := fun xs H Q => ∃ v d, xs = [v] ∧ SmAt H ∧ Dq K H v d ∧ d.showable = true ∧ d.depth ≤ 100 ∧ d.shown.length ≤ sizeLine ∧ Q (.str d.shown) H
theorem call_reprQ {X : Cx} {k : Nat} (n : X.K.lookup sysModules = none) (gd : X.A.guards = some []) (hr : Room k X.A) : CallR X (.builtin "repr") (rReprQ X.K) := by
  rintro pins s σ H xs us Q I r ⟨v, d, rfl, sm, dq, hs, hdep, hsz, q⟩
  have whole : ∀ {a : Addr} {as : List Addr}, Reads s.heap (.ref a) d as → sysModules ∉ as → wpAny (model X.prog X.w) X.A (call (.builtin "repr") [.ref a]) (EP X pins σ Q) X.xe s := by
    intro a as rd no
    have hun := hr.un
    exact repr_of_reads' rd hs (fun _ => no) gd (by omega) (fun _ _ z => z) (fun h' u tk hk => ⟨.str _, H, I.kept hk, ⟨_, rfl⟩, q⟩) hsz
  cases dq with
  | non => exact call_repr gd hr pins s σ H _ us Q I r ⟨_, _, rfl, .non, hs, hdep, hsz, q⟩
  | bl b => exact call_repr gd hr pins s σ H _ us Q I r ⟨_, _, rfl, .bl b, hs, hdep, hsz, q⟩
  | int i => exact call_repr gd hr pins s σ H _ us Q I r ⟨_, _, rfl, .int i, hs, hdep, hsz, q⟩
  | str z => exact call_repr gd hr pins s σ H _ us Q I r ⟨_, _, rfl, .str z, hs, hdep, hsz, q⟩
  | lst e h =>
    obtain ⟨as, rd, no⟩ := Dq.reads n sm I _ _ us.head! (.lst e h) (by cases r with | cons a b => cases b; exact a)
    cases r with
    | cons a b => cases b; cases a; exact whole rd no
  | tup e h =>
    obtain ⟨as, rd, no⟩ := Dq.reads n sm I _ _ us.head! (.tup e h) (by cases r with | cons a b => cases b; exact a)
    cases r with
    | cons a b => cases b; cases a; exact whole rd no
  | dic e h =>
    obtain ⟨as, rd, no⟩ := Dq.reads n sm I _ _ us.head! (.dic e h) (by cases r with | cons a b => cases b; exact a)
    cases r with
    | cons a b => cases b; cases a; exact whole rd no
end My

set_option maxRecDepth 100000
set_option maxHeartbeats 1000000
/-! x in texts, x any thing -/
namespace My
open PySem PySem.Spec PyProof.Rows L2 GxR Gd TL
open PySem.SeqAt PySem.MeetsSeq in
theorem str_eq_dict (b : Str) (u : Tok) (l : Addr) (c : Value) (es : Array DictEntry) (n : Nat) (dd : Option Addr) (sl : Array (Option Value)) :
    Meets (Builtin.«str.__eq__» ⟨[.str b u, .ref l], []⟩) (fun _ R s => s.heap.get? l = some { cls := c, dict := dd, data := .dict es n, slots := sl } ∧ R (.ok (.ret .notImplemented)) s) :=
  .of_wp fun prog w A R s h => by obtain ⟨hp, g, d, tk, os⟩ := s; obtain ⟨hl, h⟩ := h; wp_walk using wpAny_loadPart hl, wpAny_load hl; exact ⟨_, rfl, h⟩
end My
namespace My
open PySem PySem.Spec PyProof.Rows L2 GxR Gd TL
open PySem.SeqAt PySem.MeetsSeq in
theorem rcAt_str_dict {A : Around} {s : Shared} {l : Addr} {o : Obj} {es : Array DictEntry} {n : Nat} (b : Str) (u : Tok) (ho : s.heap.get? l = some o) (hc : o.cls = .type "dict") (hd : o.data = .dict es n) (hu : A.units < cLine) : RcAt A s (.str b u) (.ref l) false := fun prog w E Q h => by
  obtain ⟨cls, dd, data, sl⟩ := o
  simp only at hc hd
  subst hc hd
  have ty : s.TypeIs (.ref l) "dict" := ⟨_, ho, rfl⟩
  refine rc_eq_decline_or (k := false) (typeIs_str s b u) ty (by decide) PySem.F.sub_dict_str PySem.F.slot_str_eq PySem.F.slot_dict_eq_refl
    (fun _ hq => call_meets PySem.F.slot_str_eq (typeIs_str s b u) PySem.F.entry_str_eq (PySem.F.args_str_eq_2 _ _) (str_eq_dict b u l (.type "dict") es n dd sl) ⟨ho, hq⟩)
    (fun _ hq => ?_)
    (fun _ hq => wpAny_of_eq (rfl : isSame (.str b u) (.ref l) = pure false) hq) (.inr hu) h
  refine wpAny_call_entry PySem.F.slot_dict_eq_refl ty PySem.F.entry_dict_eq ?_ (PySem.F.args_dict_eq_2 _ _)
  show wpAny _ _ (Builtin.Dict.dictSlotArgs "__eq__" ⟨[.ref l, .str b u], []⟩ >>= _) _ _ s
  refine wpAny_bind ?_
  unfold Builtin.Dict.dictSlotArgs
  refine wpAny_bind (wpAny_notOrdered_dict ty ?_)
  show wpAny _ _ (pure (Value.ref l, Value.str b u)) _ _ s
  refine wpAny_pure ?_
  refine wpAny_bind (wpAny_isInstance (T := "str") (typeIs_str s b u) PySem.F.sub_str_dict ?_)
  simp only [Bool.not_false, if_true]
  refine wpAny_bind (wpAny_rule (wpAny_pure ⟨_, rfl, hq⟩))
open PySem.SeqAt PySem.MeetsSeq in
theorem eqAt_str_dict {A : Around} {s : Shared} {l : Addr} {o : Obj} {es : Array DictEntry} {n : Nat} (b : Str) (u : Tok) (ho : s.heap.get? l = some o) (hc : o.cls = .type "dict") (hd : o.data = .dict es n) (hu : A.units < cLine) : EqAt A s (.str b u) (.ref l) false := fun prog w E Q h => by
  unfold eqBool
  refine wpAny_holding ?_
  refine wpAny_ite_split (fun hab => absurd (eq_of_beq hab) nofun) (fun _ => ?_)
  exact wpAny_bind (rcAt_str_dict b u ho hc hd hu prog w E _ (wpAny_truthy_bool h))
/-- any thing in a list of texts -/
def rInT (K : PySem.W.Frag) : R2 := fun x y H Q => ∃ (p : Addr) (zs : List Str), y = .ref p ∧ SqL K H p (zs.map V.str) ∧
  ((flatV x = true ∧ Q (.bl (inV x (zs.map V.str))) H) ∨ ((∃ a, x = .ref a ∧ ((∃ xs, SqL K H a xs) ∨ (∃ xs, SqT K H a xs) ∨ ∃ kvs, H a = some (.dK kvs))) ∧ Q (.bl false) H))
theorem any_false {α : Type} : ∀ xs : List α, (xs.any fun _ => false) = false
  | [] => rfl
  | _ :: r => by rw [List.any_cons, any_false r]; rfl
theorem op_inT {X : Cx} (hu : X.A.units + 2 < cLine) : OpR X (compareOp .In) (rInT X.K) := by
  rintro pins s σ H x y v u Q I rx ry ⟨p, zs, rfl, hp, cs⟩
  rcases cs with ⟨fx, q⟩ | ⟨⟨a, rfl, ha⟩, q⟩
  · refine op_in_seq pins s σ H x _ v u Q I rx ry ⟨p, _, rfl, .inl hp, fx, ?_, q⟩
    rw [List.all_map]
    exact List.all_eq_true.mpr fun _ _ => rfl
  · cases ry
    cases rx
    obtain ⟨its, r, pl, hz⟩ := I.list hp
    refine SeqAt.in_listAt (fun _ => false) pl.isList (fun w hw => ?_) ⟨.bl _, H, I, rfl, ?_⟩
    · obtain ⟨z, hz, rz⟩ : ∃ z : Str, z ∈ zs ∧ RelV (.str z) w := by
        have hw2 : w ∈ its := by simpa using hw
        clear pl hz hp hw
        induction zs generalizing its with
        | nil => cases r; cases hw2
        | cons z zs ih =>
          cases r with
          | cons r1 r2 =>
            rcases List.mem_cons.mp hw2 with rfl | hw
            · exact ⟨z, List.mem_cons_self, r1⟩
            · obtain ⟨z', h1, h2⟩ := ih _ r2 hw
              exact ⟨z', List.mem_cons_of_mem _ h1, h2⟩
      obtain ⟨t, rfl⟩ := rz
      have hu2 : X.A.in1.units < cLine := by show X.A.units + 1 < cLine; omega
      rcases ha with ⟨xs, h⟩ | ⟨xs, h⟩ | ⟨kvs, h⟩
      · obtain ⟨its2, _, pl2, _⟩ := I.list h
        exact SeqAt.EqAt.str_list z t pl2.isList hu2
      · obtain ⟨its2, _, pl2, _⟩ := I.tuple h
        exact SeqAt.EqAt.str_tuple z t pl2 hu2
      · obtain ⟨_, _, vs, _, o, es, ep, h1, h2, h3, _⟩ := dk_of I.hok h
        exact eqAt_str_dict z t h1 h2.1 h3 hu2
    · rw [← Array.any_toList, any_false]
      exact q
def rInTt (K : PySem.W.Frag) : R2 := fun x y H Q => ∃ (p : Addr) (zs : List Str), y = .ref p ∧ SqT K H p (zs.map V.str) ∧
  ((flatV x = true ∧ Q (.bl (inV x (zs.map V.str))) H) ∨ ((∃ a, x = .ref a ∧ ((∃ xs, SqL K H a xs) ∨ (∃ xs, SqT K H a xs) ∨ ∃ kvs, H a = some (.dK kvs))) ∧ Q (.bl false) H))
theorem op_inTt {X : Cx} (hu : X.A.units + 2 < cLine) : OpR X (compareOp .In) (rInTt X.K) := by
  rintro pins s σ H x y v u Q I rx ry ⟨p, zs, rfl, hp, cs⟩
  rcases cs with ⟨fx, q⟩ | ⟨⟨a, rfl, ha⟩, q⟩
  · refine op_in_seq pins s σ H x _ v u Q I rx ry ⟨p, _, rfl, .inr hp, fx, ?_, q⟩
    rw [List.all_map]
    exact List.all_eq_true.mpr fun _ _ => rfl
  · cases ry
    cases rx
    obtain ⟨its, r, pl, hz⟩ := I.tuple hp
    refine SeqAt.in_tupleAt (fun _ => false) pl (fun w hw => ?_) ⟨.bl _, H, I, rfl, ?_⟩
    · obtain ⟨z, hz, rz⟩ : ∃ z : Str, z ∈ zs ∧ RelV (.str z) w := by
        have hw2 : w ∈ its := by simpa using hw
        clear pl hz hp hw
        induction zs generalizing its with
        | nil => cases r; cases hw2
        | cons z zs ih =>
          cases r with
          | cons r1 r2 =>
            rcases List.mem_cons.mp hw2 with rfl | hw
            · exact ⟨z, List.mem_cons_self, r1⟩
            · obtain ⟨z', h1, h2⟩ := ih _ r2 hw
              exact ⟨z', List.mem_cons_of_mem _ h1, h2⟩
      obtain ⟨t, rfl⟩ := rz
      have hu2 : X.A.in1.units < cLine := by show X.A.units + 1 < cLine; omega
      rcases ha with ⟨xs, h⟩ | ⟨xs, h⟩ | ⟨kvs, h⟩
      · obtain ⟨its2, _, pl2, _⟩ := I.list h
        exact SeqAt.EqAt.str_list z t pl2.isList hu2
      · obtain ⟨its2, _, pl2, _⟩ := I.tuple h
        exact SeqAt.EqAt.str_tuple z t pl2 hu2
      · obtain ⟨_, _, vs, _, o, es, ep, h1, h2, h3, _⟩ := dk_of I.hok h
        exact eqAt_str_dict z t h1 h2.1 h3 hu2
    · rw [← Array.any_toList, any_false]
      exact q
end My

set_option maxRecDepth 100000
set_option maxHeartbeats 4000000
/-! enumerate(a tuple) -/
namespace My
open PySem PySem.Spec PyProof.Rows L2
open Builtin in
set_option maxHeartbeats 1000000 in
theorem meets_enum_of {v : Value} {o : Obj} {H : Heap → Prop} (B : Begins v o H) :
    Meets (Builtin.«enumerate.__new__» ⟨[.type "enumerate", v], []⟩) (fun _ R s => H s.heap ∧
      R (.ok (.ret (.ref (s.heap.push o).objs.size))) { s with heap := (s.heap.push o).push { cls := .type "enumerate", data := .fields #[.none, .bool false, .ref s.heap.objs.size, rawInt 0, .none, .none] } }) :=
  .of_wp fun prog w A R s hh => by
    obtain ⟨hp, g, d, tk, os⟩ := s
    obtain ⟨hB, hR⟩ := hh
    have hsub := sub_enumerate
    have it1 : ∀ {A' : Around} {E : Value → Shared → Prop} {Q : Value → Shared → Prop}, Q (.ref hp.objs.size) ⟨hp.push o, g, d, tk, os⟩ → wpAny (model prog w) A' (pyIter v) Q E ⟨hp, g, d, tk, os⟩ :=
      fun z => B.iter prog w _ _ ⟨hp, g, d, tk, os⟩ _ hB z
    wp_walk using it1
    refine wpAny_stack_any fun st => wpAny_pure ?_
    split
    · rename_i c _ _ _ _ _
      cases (c == Value.type "enumerate") <;> (wp_walk using it1; exact ⟨_, rfl, hR⟩)
    · wp_walk using it1
      exact ⟨_, rfl, hR⟩
theorem call_enum_tuple {prog : Program} {w : World} {A : Around} {E : Value → Shared → Prop} {s : Shared} {a : Addr} {items : Array Value} {Q : Value → Shared → Prop} (ht : s.heap.IsTuple a items)
    (h : ∀ h', IsEnum h' (s.heap.objs.size + 1) s.heap.objs.size 0 .none → h'.IsTupleIter s.heap.objs.size a 0 → (∀ b o, s.heap.get? b = some o → h'.get? b = some o) →
      Q (.ref (s.heap.objs.size + 1)) { s with heap := h' }) : wpAny (model prog w) A (call (.type "enumerate") [.ref a]) Q E s := by
  refine callType_new F.called_enumerate (by decide) (F.typeCall_enumerate_1 _) (F.newCall_enumerate_1 _) (fun obj => F.args_object_init_2 obj _) F.entry_enumerate_new (meets_enum_of (begins_tuple a items)) ⟨ht, ?_⟩
  have z1 : (s.heap.push { cls := .type "tuple_iterator", data := .fields #[.ref a, .int 0 0] }).objs.size = s.heap.objs.size + 1 := Heap.size_push ..
  have ge := Heap.get?_push_size (s.heap.push { cls := .type "tuple_iterator", data := .fields #[.ref a, .int 0 0] }) (o := { cls := .type "enumerate", data := .fields #[.none, .bool false, .ref s.heap.objs.size, rawInt 0, .none, .none] }) rfl
  rw [z1] at ge
  show _ ∧ _
  rw [z1]
  exact ⟨⟨_, ge, rfl⟩, h _ ge ⟨_, Heap.get?_push_of_some _ (Heap.get?_push_size _ rfl), rfl, rfl⟩ fun b o x => Heap.get?_push_of_some _ (Heap.get?_push_of_some _ x)⟩
/-- the tuple at a, each item in a new pair with its number -/
def IteT (K : PySem.W.Frag) (a : Addr) : It :=
  ⟨fun i H => ∃ (xs : List V) (x : V), SqT K H a xs ∧ xs[i]? = some x,
   fun i H v H' => ∃ T x, v = .ref T ∧ H T = none ∧ H' = upd H T (.tup [.int (i : Nat), x]) ∧ ∀ xs, SqT K H a xs → xs[i]? = some x,
   fun i H => ∃ xs : List V, SqT K H a xs ∧ xs.length ≤ i⟩
theorem turn_enumT {P : Program} {w : World} {K : PySem.W.Frag} {elts : List Expr} {kk : Nat} {tp : Pos} (a e it : Addr) :
    Turn P w K (.Tuple elts kk tp) (IteT K a) [e, it] e (fun i h => (∃ old, IsEnum h e it ((i : Nat) : Int) old) ∧ h.IsTupleIter it a i ∧ e ≠ it) := by
  have two : ∀ {b : Addr}, b ∈ [e, it] → b = e ∨ b = it := fun {b} hb => by simpa using hb
  constructor
  case mem => exact List.mem_cons_self
  case obj =>
    rintro i h ⟨⟨old, he⟩, ⟨o, ho, hc, hd⟩, hne⟩ b hb
    rcases two hb with rfl | rfl
    · exact ⟨_, he, fun v q => nomatch q⟩
    · exact ⟨o, ho, fun v q => by rw [hd] at q; cases q⟩
  case keep =>
    rintro i h h' ⟨⟨old, he⟩, ⟨o, ho, r⟩, hne⟩ k
    exact ⟨⟨old, k e List.mem_cons_self _ he⟩, ⟨o, k it (by simp) _ ho, r⟩, hne⟩
  case self =>
    rintro A i s Q E ⟨⟨_, he⟩, _⟩ hQ
    exact wpAny_pyIter_enum he hQ
  case item =>
    rintro X rfl rfl rfl hc i pins s σ H E I hf ⟨⟨old, he⟩, hit, hne⟩ ⟨xs, x, hq, hx⟩
    obtain ⟨its, rv, p, hz⟩ := I.tuple hq
    have pt : s.heap.IsTuple a its.toArray := let ⟨o, h1, h2, n, h3⟩ := p; ⟨o, h1, h2, n, h3⟩
    obtain ⟨u, hu, ru⟩ := rv.get hx
    have hi : i < its.toArray.size := by
      have := (List.getElem?_eq_some_iff.mp hu).1
      simpa using this
    have ane : a ≠ it := by
      rintro rfl
      obtain ⟨o1, h1, h2, _⟩ := hit
      obtain ⟨o2, h3, h4, _⟩ := pt
      rw [h1] at h3
      cases h3
      rw [h2] at h4
      simp at h4
    have aee : a ≠ e := by
      rintro rfl
      obtain ⟨o2, h3, h4, _⟩ := pt
      have h1 : s.heap.get? a = some _ := he
      rw [h1] at h3
      cases h3
      simp at h4
    have le : e < s.heap.objs.size := Heap.lt_size he
    have li : it < s.heap.objs.size := by
      obtain ⟨_, q, _⟩ := hit
      exact Heap.lt_size q
    have D := Draws.tuple (prog := X.prog) (w := X.w) (A := X.A.in1) (show X.A.in1.handled = none from I.ok.hd hc) it a ane its.toArray
    refine wpAny_pyNext_enum_itemD D he ⟨hit, pt⟩ hi hne (fun z => ?_) fun y h' tk hy ho hst hT hsz hk => ?_
    · rcases List.mem_cons.mp z with z | z
      · exact hne z
      · exact aee (List.mem_singleton.mp z).symm
    · have ey : y = u := by
        have z : its.toArray[i]? = some u := by simpa using hu
        exact Option.some.inj (hy.symm.trans z)
      subst ey
      refine ⟨_, rfl, wpAny_letOwnedTupleGo_enum (s := { s with heap := h', toks := tk + 1 }) ho fun h2 he2 sb => ?_⟩
      have hT2 : h2.get? s.heap.objs.size = some { cls := .type "tuple", data := .seq #[.int i tk, y] } := (sb.2 _ (Nat.ne_of_gt le)).trans hT
      have new : ObjOk X.prog X.w (upd H s.heap.objs.size (.tup [.int (i : Nat), x])) h2 s.heap.objs.size (.tup [.int (i : Nat), x]) :=
        ⟨(by show 2 ≤ sizeLine; decide), [.int i tk, y], .cons ⟨_, rfl⟩ (.cons ru .nil), ⟨_, hT2, rfl, _, rfl⟩⟩
      have I1 := I.turnedNew (t' := tk + 1) (ch := [e, it]) (h' := h2) (fun b o hb q => (sb.2 b (fun z => hb (by simp [z]))).trans (hk b o (fun z => hb (by simp [z])) (fun z => hb (by simp [z])) q)) hf (Nat.le_refl _) new
      refine ⟨.ref s.heap.objs.size, _, I1, rfl, ⟨_, x, rfl, I.hok.fresh (Nat.le_refl _), rfl, fun ys hy => by rw [I.tuple_inj hy hq]; exact hx⟩, ⟨⟨y, ?_⟩, ?_, hne⟩, fun b hb => ?_⟩
      · have e1 : ((i + 1 : Nat) : Int) = (i : Int) + 1 := by omega
        rw [e1]
        exact he2
      · obtain ⟨o, q1, q2⟩ := hst.1
        exact ⟨o, (sb.2 it (Ne.symm hne)).trans q1, q2⟩
      · have lb : b < s.heap.objs.size := by
          rcases two hb with rfl | rfl
          · exact le
          · exact li
        rw [upd_ne (Nat.ne_of_lt lb)]
        exact (hf b hb).1
  case done =>
    rintro X rfl rfl rfl hc i pins s σ H E I hf ⟨⟨old, he⟩, hit, hne⟩ ⟨xs, hq, hx⟩
    obtain ⟨its, rv, p, hz⟩ := I.tuple hq
    have pt : s.heap.IsTuple a its.toArray := let ⟨o, h1, h2, n, h3⟩ := p; ⟨o, h1, h2, n, h3⟩
    have ane : a ≠ it := by
      rintro rfl
      obtain ⟨o1, h1, h2, _⟩ := hit
      obtain ⟨o2, h3, h4, _⟩ := pt
      rw [h1] at h3
      cases h3
      rw [h2] at h4
      simp at h4
    obtain ⟨f0, f1, f2, f3, f4, f5⟩ := hf it (by simp)
    have hl := rv.length
    -- at the end the place is not told by Draws (it stands at any i ≥ the size): the library's end of a tuple's iterator
    have D : Draws X.prog X.w X.A.in1 it [it, a] i (fun _ _ => False) (fun j h => j = i ∧ h.IsTupleIter it a i ∧ h.IsTuple a its.toArray) := by
      constructor
      case live => rintro j h ⟨_, ⟨o, ho, _⟩, _⟩; exact ⟨o, ho⟩
      case frame => rintro j h h' ⟨ej, st1, st2⟩ hk; exact ⟨ej, st1.at fun o e => hk it (by simp) o e, st2.at fun o e => hk a (by simp) o e⟩
      case item => rintro j s Q E hj ⟨ej, _⟩ _; exact absurd hj (by omega)
      case done => rintro s Q E ⟨_, st1, st2⟩ hE; exact wpAny_nextOf_tuple_end (show X.A.in1.handled = none from I.ok.hd hc) st1 st2 (by simp; omega) hE
    exact wpAny_pyNext_enum_endD D he ⟨rfl, hit, pt⟩ fun h' eb => ⟨rfl, I.turned (t' := s.toks) (fun b o hb q => eb b o hb q) f0 f1 f3 f4 f5⟩
def iEnumT (K : PySem.W.Frag) (ta : TA) : TI := fun σ H R => ta σ H fun vs H1 => ∃ a xs, vs = [.ref a] ∧ SqT K H1 a xs ∧ R (IteT K a) H1
theorem pi_enumT {X : Cx} {e : Expr} {ta : TA} {p pos tp : Pos} {elts : List Expr} {kk : Nat} (hg : Gl X "enumerate") (hm : X.mg "enumerate" = none) (ha : PA X [e] ta) (hs : starEach [e] X.env = [(false, eval e X.env)] := by rfl) :
    PI X (.Tuple elts kk tp) (.Call (.Name "enumerate" p) [e] [] pos) (iEnumT X.K ta) := by
  refine ⟨fun pins s σ H R I h => Call_ (ld_blt I hg hm boot_enumerate (PyProof.Rows.callWith_type1 (thn (ha.run pos pins s σ H _ I h) ?_) hs rfl))⟩
  rintro us s1 ⟨vs, H1, I1, r1, a, xs, rfl, hq, q⟩
  cases r1 with
  | cons r rr =>
    cases rr
    cases r
    obtain ⟨its, rv, p, hz⟩ := I1.tuple hq
    have pt : s1.heap.IsTuple a its.toArray := let ⟨o, h1, h2, n, h3⟩ := p; ⟨o, h1, h2, n, h3⟩
    refine call_enum_tuple pt fun h' he hit hk => wpAny_pyIter_enum he ?_
    have I2 : Inv X pins σ H1 { s1 with heap := h' } := I1.kept (t' := s1.toks) hk
    refine ⟨s1.heap.objs.size + 1, [s1.heap.objs.size + 1, s1.heap.objs.size], _, _, H1, rfl, I2, turn_enumT a (s1.heap.objs.size + 1) s1.heap.objs.size, ⟨⟨.none, he⟩, hit, Nat.succ_ne_self _⟩, fun b hb => ?_, q⟩
    have lb : s1.heap.objs.size ≤ b := by
      have e' : b = s1.heap.objs.size + 1 ∨ b = s1.heap.objs.size := by simpa using hb
      rcases e' with z | z
      · rw [z]; exact Nat.le_add_right _ _
      · rw [z]; exact Nat.le_refl _
    exact I1.fpOk lb (I1.hok.fresh lb)
theorem walk_enumT {K : PySem.W.Frag} {a : Addr} {xs : List V} : Walk (IteT K a) xs.length (fun H => SqT K H a xs) (YPair (fun i => some (.int (i : Nat))) (fun i => xs[i]?)) := by
  refine ⟨fun i _ hi q => ⟨xs, xs[i], q, by simp [hi]⟩, fun _ q => ⟨xs, q, Nat.le_refl _⟩, ?_⟩
  rintro i H v H' _ q ⟨T, x, h1, h2, h3, h4⟩
  exact ⟨T, .int (i : Nat), x, h1, h2, h3, rfl, h4 xs q⟩
/-- a dict comprehension over a walk -/
theorem dc_it {J : It} {n : Nat} {G : Hp → Prop} {Y : Nat → Hp → V → Hp → Prop} (w : Walk J n G Y) {g : TG} {tt : TT} {tk tv : TE} {vs : List Nat} {σ : L2.St} {H1 : Hp} {D : Addr} {Qd : Hp → Prop} (Pv : Nat → Hp → Prop) (h0 : Pv 0 (upd H1 D (.dK [])))
    (hG : ∀ i H, i ≤ n → Pv i H → G H)
    (hs : ∀ i x H H', i < n → Pv i H → Y i H x H' → g x (wipe σ vs) H' fun σ2 H2 => wipe σ2 vs = wipe σ vs ∧ tt σ2 H2 fun b H3 =>
      if b = true then tk σ2 H3 fun y H4 => tv σ2 H4 fun z H5 => ∃ kvs k, y = kV k ∧ H5 D = some (.dK kvs) ∧ kvs.length < sizeLine ∧ Pv (i + 1) (upd H5 D (.dK (putK kvs k z))) else Pv (i + 1) H3) (hd : ∀ H, Pv n H → Qd H) :
    ∃ W : Nat → Nat → Hp → Prop, (∃ m, W 0 m (upd H1 D (.dK []))) ∧ ∀ i m H, W i m H →
      (J.stop i H ∧ Qd H) ∨ (J.go i H ∧ ∃ Nx : Hp → Prop, (∀ H', Nx H' → ∃ m', m' < m ∧ W (i + 1) m' H') ∧ ∀ x H', J.yld i H x H' → g x (wipe σ vs) H' fun σ2 H2 => wipe σ2 vs = wipe σ vs ∧ tt σ2 H2 fun b H3 =>
        if b = true then tk σ2 H3 fun y H4 => tv σ2 H4 fun z H5 => ∃ kvs k, y = kV k ∧ H5 D = some (.dK kvs) ∧ kvs.length < sizeLine ∧ Nx (upd H5 D (.dK (putK kvs k z))) else Nx H3) := by
  refine ⟨fun i m H => i + m = n ∧ Pv i H, ⟨n, by simp, h0⟩, ?_⟩
  rintro i m H ⟨ei, p⟩
  have g1 := hG i H (by omega) p
  cases m with
  | zero =>
    have e : i = n := by omega
    subst e
    exact .inl ⟨w.stops H g1, hd H p⟩
  | succ m =>
    refine .inr ⟨w.goes i H (by omega) g1, Pv (i + 1), fun H' q => ⟨m, Nat.lt_succ_self m, by omega, q⟩, fun x H' y => hs i x H H' (by omega) p (w.yields i H x H' (by omega) g1 y)⟩
end My

set_option maxRecDepth 100000
set_option maxHeartbeats 400000
namespace D3
open PySem PySem.Spec PyProof.Rows L2 GxR Gd TL My
theorem same_alloc {H : Hp} {p : Addr} {o : HO} (n : H p = none) : Same H (upd H p o) := fun c u h => by rw [upd_ne (ne_of_none h n)]; exact h
theorem take_at {α : Type} {l : List α} {i : Nat} {x : α} (h : l[i]? = some x) : l.take (i + 1) = l.take i ++ [x] := by
  rw [List.take_add_one, h]
  rfl
theorem lt_line (i : Nat) (h : i ≤ 100) : i < sizeLine := Nat.lt_of_le_of_lt h (by decide)
theorem two_line : 2 ≤ sizeLine := by decide
theorem three_line : 3 ≤ sizeLine := by decide
theorem drop_atG {α : Type} {xs : List α} {i : Nat} {x : α} (h : xs[i]? = some x) : xs.drop i = x :: xs.drop (i + 1) := by
  obtain ⟨hi, e⟩ := (List.getElem?_eq_some_iff.mp h)
  rw [← e]
  exact List.drop_eq_getElem_cons hi
theorem strs_dp {K : PySem.W.Frag} {H : Hp} : ∀ l : List Str, DpAll K H (l.map V.str) (l.map PyData.str)
  | [] => .nil
  | z :: r => .cons (.str z) (strs_dp r)
theorem small_line {n : Nat} (h : n ≤ 1000000) : n ≤ sizeLine := Nat.le_trans h (by rw [sizeLine_eq]; decide)
theorem fit2 {n : Nat} (h : n ≤ 1000000) : n ≤ sizeLine := small_line h
theorem fit {n : Nat} (h : n ≤ 1000) : n ≤ sizeLine := small_line (by omega)
theorem KB.same {D : Addr} {H H' : Hp} (n : H D = none) (k : KB D H H') : Same H H' := fun c o h => k c o (ne_of_none h n) h
/-- a comprehension that makes texts, by any walk over values -/
theorem strs_it {J : It} {G : Hp → Prop} {xs : List V} {out : List Str} (w : Walk J xs.length G (YAt xs)) {g : TG} {te : TE} {vs : List Nat} {σ : L2.St} {H : Hp} {D : Addr} {Qd : Hp → Prop} (hl : out.length = xs.length) (h20 : out.length ≤ 100) (hD : H D = none)
    (hG : ∀ H', KB D H H' → G H')
    (hs : ∀ (i : Nat) (v : V) (H' : Hp) (C : VK) (B : Hp → Prop), xs[i]? = some v → KB D H H' → (∀ z H4, out[i]? = some z → Same H' H4 → C (.str z) H4) → g v (wipe σ vs) H' fun σ2 H2 => wipe σ2 vs = wipe σ vs ∧ tYes σ2 H2 fun b H3 => if b = true then te σ2 H3 C else B H3)
    (hd : ∀ H', KB D H H' → H' D = some (.lst (out.map V.str)) → Qd H') :
    ∃ W : Nat → Nat → Hp → Prop, (∃ m, W 0 m (upd H D (.lst []))) ∧ ∀ i m H, W i m H →
    (J.stop i H ∧ Qd H) ∨ (J.go i H ∧ ∃ Nx : Hp → Prop, (∀ H', Nx H' → ∃ m', m' < m ∧ W (i + 1) m' H') ∧ ∀ x H', J.yld i H x H' → g x (wipe σ vs) H' fun σ2 H2 => wipe σ2 vs = wipe σ vs ∧ tYes σ2 H2 fun b H3 =>
      if b = true then te σ2 H3 fun y H4 => ∃ acc, H4 D = some (.lst acc) ∧ acc.length < sizeLine ∧ Nx (upd H4 D (.lst (acc ++ [y]))) else Nx H3) := by
  refine lc_it w (fun i H' => KB D H H' ∧ H' D = some (.lst ((out.take i).map V.str))) ⟨KB.alloc hD, upd_same⟩ (fun i H' _ h => hG H' h.1) ?_ ?_
  · rintro i v H' H'' hi ⟨kb, e⟩ ⟨rfl, hv⟩
    refine hs i v H'' _ _ hv kb fun z H4 hz s => ⟨_, s _ _ e, ?_, fun c o n h => by rw [upd_ne n]; exact s _ _ (kb c o n h), ?_⟩
    · (rw [List.length_map, List.length_take])
      exact lt_line _ (by omega)
    · rw [take_at hz, List.map_append]
      exact upd_same
  · rintro H' ⟨kb, e⟩
    rw [← hl, List.take_of_length_le (Nat.le_refl _)] at e
    exact hd H' kb e
theorem strs_flat (zs : List Str) : (zs.map V.str).all flatV = true := by
  rw [List.all_eq_true]
  intro x hx
  obtain ⟨z, _, rfl⟩ := List.mem_map.mp hx
  rfl
theorem strs_at {zs : List Str} {j : Nat} {k : Str} (h1 : zs[j]? = some k) : (zs.map V.str)[j]? = some (.str k) := by rw [List.getElem?_map, h1]; rfl
theorem strs_eq (k : Str) : eqV (.str k) (.str k) = true := by simp [eqV]
theorem strs_no {zs : List Str} {j : Nat} {k : Str} (h2 : ∀ m, m < j → zs[m]? ≠ some k) : ∀ (m : Nat) (z' : V), m < j → (zs.map V.str)[m]? = some z' → eqV z' (.str k) = false := by
  intro m z' hm e
  rw [List.getElem?_map] at e
  cases e2 : zs[m]? with
  | none => rw [e2] at e; cases e
  | some y =>
    rw [e2] at e
    obtain rfl := Option.some.inj e
    have : y ≠ k := fun h => h2 m hm (by rw [e2, h])
    simp [eqV, this]
theorem in_strs (z : Str) (zs : List Str) : inV (.str z) (zs.map V.str) = decide (z ∈ zs) := by
  rw [Bool.eq_iff_iff, decide_eq_true_iff]
  unfold inV
  rw [List.any_eq_true]
  constructor
  · rintro ⟨y, hy, q⟩
    obtain ⟨x, hx, rfl⟩ := List.mem_map.mp hy
    have q : V.str x = V.str z := by simpa [eqV] using q
    rw [← V.str.inj q]
    exact hx
  · intro h
    exact ⟨.str z, List.mem_map.mpr ⟨z, h, rfl⟩, by simp [eqV]⟩
end D3

set_option maxRecDepth 100000
set_option maxHeartbeats 1000000
/-! GxA: all(..) of a generator expression whose element calls: the consumer. -/
namespace My
open PySem PySem.Spec PyProof.Rows L2 GenW
/-- amid two turns the consumer changes nothing that stood -/
structure Woke (s s' : Shared) : Prop where
  os : s'.os = s.os
  bare : AllBare s'.gens
  keep : ∀ b o, s.heap.get? b = some o → s'.heap.get? b = some o
/-- a truth is handed out -/
def AY (a : Addr) (g : Nat) (Fw : Bool → Shared → Prop) : Protocol := fun _ _ v s kap =>
  AllBare s.gens ∧ ∃ b : Bool, v = .bool b ∧ (b = false → Fw false s) ∧ (b = true → s.heap.NoLimit ∧ s.heap.IsGen a g ∧ ∀ s', Woke s s' → kap (.send .none) s')
/-- all were true -/
def AR (Fw : Bool → Shared → Prop) : GenEnd := fun _ _ r s => r = .ok .next ∧ AllBare s.gens ∧ Fw true s
section
variable {P : Program} {w : World} {A : Around} {E : Value → Shared → Prop} {Fw : Bool → Shared → Prop} {a : Addr} {g : Nat} {R : Result → Shared → Prop}
theorem all_walk (hh : A.handled = none) (hd : A.depth < recursionLimit) (st : ∀ b s s', Woke s s' → Fw b s → Fw b s') (hR : ∀ b s, Fw b s → R (.ok (.ret (.bool b))) s) :
    ∀ (n : Nat) (s : Shared), s.heap.IsGen a g → s.heap.NoLimit → (∃ gs, s.gens[g]? = some gs ∧ gs.Goes (model P w) A.in1.in1 (AR Fw) (AY a g Fw) n (.send .none) (s.setGen g .running)) →
      codeAny (model P w) A (.builtin "all.loop" ⟨[.ref a], []⟩) R s := by
  intro n
  induction n with
  | zero =>
    intro s hg hl ⟨gs, hgs, hgo⟩
    refine (codeAny_builtin F.entry_all_loop ?_)
    (rw [Around.under_plainId F.plain_all_loop _])
    show (wpAny _ A.in1 (pyNext (.ref a) >>= _) _ _ s)
    refine wpAny_bind (wpAny_pyNext_genexpQ (A := A.in1) (P := fun _ _ s₁ => AllBare s₁.gens ∧ Fw true s₁) hh hl hd hg hgs hgo (fun v s₁ gs' hb hv => ?_) fun s₁ hp h' hk => ?_)
    · obtain ⟨hb1, b, rfl, hf, ht⟩ := hv
      refine wpAny_bind (wpAny_holding (wpAny_truthy_bool (wpAny_bind (wpAny_letGo ?_))))
      cases b with
      | true => exact False.elim ((ht rfl).2.2 s₁ ⟨rfl, hb1, fun _ _ e => e⟩)
      | false =>
        simp only [if_false, Bool.false_eq_true]
        exact wpAny_bind (wpAny_rule (wpAny_pure (hR false _ (st false s₁ _ ⟨rfl, allBare_setGen hb1 hb, fun _ _ e => e⟩ (hf rfl)))))
    · refine wpAny_bind (wpAny_rule (wpAny_pure (hR true _ (st true s₁ _ ⟨rfl, allBare_setGen hp.1 rfl, hk⟩ hp.2))))
  | succ n ih =>
    intro s hg hl ⟨gs, hgs, hgo⟩
    have hgl : (g < s.gens.size) := (Array.getElem?_eq_some_iff.mp hgs).1
    refine (codeAny_builtin F.entry_all_loop ?_)
    (rw [Around.under_plainId F.plain_all_loop _])
    show (wpAny _ A.in1 (pyNext (.ref a) >>= _) _ _ s)
    refine wpAny_bind (wpAny_gsz (n := g + 1) hgl (wpAny_pyNext_genexpQ (A := A.in1) (P := fun _ _ s₁ => AllBare s₁.gens ∧ Fw true s₁) hh hl hd hg hgs hgo (fun v s₁ gs' hb hv => ?_) fun s₁ hp h' hk => ?_))
    · intro hsz
      obtain ⟨hb1, b, rfl, hf, ht⟩ := hv
      refine wpAny_bind (wpAny_holding (wpAny_truthy_bool (wpAny_bind (wpAny_letGo ?_))))
      have hw : Woke s₁ (s₁.setGen g gs') := ⟨rfl, allBare_setGen hb1 hb, fun _ _ e => e⟩
      cases b with
      | true =>
        simp only [if_true]
        obtain ⟨hl1, hg1, hk⟩ := ht rfl
        have hsz1 : (g < s₁.gens.size) := by
          have q : ((s₁.setGen g gs').gens.size = s₁.gens.size) := setGen_size _ _ _
          omega
        refine wpAny_pure ⟨plainId_quiet F.plain_all_loop _, ih _ hg1 hl1 ⟨gs', setGen_at hsz1, ?_⟩⟩
        exact hk _ ⟨rfl, allBare_setGen (allBare_setGen hb1 hb) rfl, fun _ _ e => e⟩
      | false =>
        simp only [if_false, Bool.false_eq_true]
        exact wpAny_bind (wpAny_rule (wpAny_pure (hR false _ (st false s₁ _ hw (hf rfl)))))
    · intro _
      exact wpAny_bind (wpAny_rule (wpAny_pure (hR true _ (st true s₁ _ ⟨rfl, allBare_setGen hp.1 rfl, hk⟩ hp.2))))
/-- all(g), g a generator that has not begun -/
theorem call_all_own {Q : Value → Shared → Prop} {s : Shared} {c : Code} {n : Nat} (hh : A.handled = none) (hd : A.depth < recursionLimit) (st : ∀ b s s', Woke s s' → Fw b s → Fw b s') (hQ : ∀ b s, Fw b s → Q (.bool b) s)
    (hg : s.heap.IsGen a g) (hl : s.heap.NoLimit) (hgs : s.gens[g]? = some (.fresh c)) (hgo : Seg (model P w) A.in1.in1 (AR Fw) (AY a g Fw) n (s.setGen g .running) c ((model P w).den c) [] (s.setGen g .running)) :
    wpAny (model P w) A (call (.builtin "all") [.ref a]) Q E s := by
  refine (call_function_tree F.kind_all F.plain_all F.entry_all (F.args_all1 _) ?_)
  unfold Builtin.«all»
  refine (wpAny_bind (m := oneArg "all" _) (wpAny_pure ?_))
  refine wpAny_bind (wpAny_pyIter_gen hg ?_)
  exact wpAny_pure ⟨plainId_quiet F.plain_all_loop _, all_walk hh hd st hQ n s hg hl ⟨_, hgs, rfl, hgo⟩⟩
end
end My

set_option maxRecDepth 100000
set_option maxHeartbeats 1800000
/-! GxB: a generator expression's code, turn by turn. -/
namespace My
open PySem PySem.Spec PyProof.Rows L2 GenW
abbrev gxLoop (elt tg iter : Expr) (scope : Scope) (pos : Pos) (it : Addr) (env : Env) : Code := .compLoop (.GeneratorExp elt [⟨tg, iter, [], 0⟩] scope pos) 0 (.ref it) .none env
abbrev gxStart (elt tg iter : Expr) (scope : Scope) (pos : Pos) (it : Addr) (env : Env) : Code := .compStart (.GeneratorExp elt [⟨tg, iter, [], 0⟩] scope pos) 0 (.ref it) .none env
/-- what is wanted at each turn -/
def GxT (J : It) (g : TG) (te : TE) (vs : List Nat) (σ : L2.St) (QF : Bool → Hp → Prop) (W : Nat → Nat → Hp → Prop) : Prop :=
  ∀ i m H, W i m H → (J.stop i H ∧ QF true H) ∨ (J.go i H ∧ ∃ Nx : Hp → Prop, (∀ H', Nx H' → ∃ m', m' < m ∧ W (i + 1) m' H') ∧ ∀ x H', J.yld i H x H' → g x σ H' fun σ2 H2 => wipe σ2 vs = σ ∧ te σ2 H2 fun y H3 => ∃ b : Bool, y = .bl b ∧ (b = true → Nx H3) ∧ (b = false → QF false H3))
section
variable {G : Cx} {A : Around} {a it : Addr} {g : Nat} {Fw : Bool → Shared → Prop} {elt tg iter : Expr} {scope : Scope} {pos : Pos} {fp : List Addr} {tn : Nat → Heap → Prop} {J : It} {gt : TG} {te : TE} {vs : List Nat} {σ0 : L2.St} {QF : Bool → Hp → Prop} {W : Nat → Nat → Hp → Prop}
/-- how such code stands -/
structure GxOk (G : Cx) (A : Around) (a : Addr) (g : Nat) (Fw : Bool → Shared → Prop) (elt tg iter : Expr) (scope : Scope) (pos : Pos) (it : Addr) (fp : List Addr) (tn : Nat → Heap → Prop) (J : It) (gt : TG) (te : TE) (vs : List Nat) (σ0 : L2.St) (QF : Bool → Hp → Prop) (W : Nat → Nat → Hp → Prop) : Prop where
  noX : ∀ e s, ¬ G.xe e s
  calm : G.calm = true
  over : A.over (gxLoop elt tg iter scope pos it G.env) [] = G.A
  co : G.env.scope.isCoroutine = false
  ex : G.ex = fp
  pf : ∀ p ∈ G.pn, p.1 ∉ fp
  T : Turn G.prog G.w G.K tg J fp it tn
  pg : PG G tg gt
  pe : PE G elt te
  gen : ∀ pins σ H s, Inv G pins σ H s → s.heap.IsGen a g
  back : ∀ pins σ H s b, Inv G pins σ H s → QF b H → Fw b s
  wide : ∀ σ2 : L2.St, wipe σ2 vs = σ0 → σ2.length = σ0.length
  turn : GxT J gt te vs σ0 QF W
theorem gx_loop (o : GxOk G A a g Fw elt tg iter scope pos it fp tn J gt te vs σ0 QF W) : ∀ (m n i : Nat) (H' : Hp) (s s₀ : Shared), m < n → Inv G [] σ0 H' s → tn i s.heap → (∀ b ∈ fp, H' b = none) → W i m H' →
    Seg (model G.prog G.w) A (AR Fw) (AY a g Fw) n s₀ (gxLoop elt tg iter scope pos it G.env) ((model G.prog G.w).den (gxLoop elt tg iter scope pos it G.env)) [] s := by
  obtain ⟨noX, calm, over, co, ex, pf, T, pg, pe, gen, back, wide, turn⟩ := o
  have nox : ∀ {α : Type} {t : Sem α} {Q Q' : α → Shared → Prop} {E : Value → Shared → Prop} {s : Shared}, wpAny (model G.prog G.w) G.A t Q G.xe s → (∀ a s, Q a s → Q' a s) → wpAny (model G.prog G.w) G.A t Q' E s :=
    fun h k => wpAny_mono h k fun e s z => absurd z (noX e s)
  have stand : ∀ {σ' : L2.St} {H' : Hp} {s' : Shared}, Inv G [] σ' H' s' → (∀ b ∈ fp, H' b = none) → ∀ b ∈ fp, FpOk G [] H' b := fun {σ' H' s'} I' hn b hb => by
    have hb' : b ∈ G.ex := by rw [ex]; exact hb
    exact ⟨hn b hb, (I'.ok.exf b hb').1, I'.ok.exfs b hb', .inl hb', fun x c e => (I'.ok.exf b hb').2 x c e, fun p hp z => by
      rw [List.append_nil] at hp
      exact pf p hp (z ▸ hb)⟩
  intro m
  induction m using Nat.strongRecOn with -- case by case
  | ind m ih =>
    intro n i H1 s s₀ hmn I1 st1 n1 w1
    show Seg _ A _ _ _ s₀ _ ((compTurn (.GeneratorExp elt [⟨tg, iter, [], 0⟩] scope pos) 0 (.ref it) .none G.env).onRaise (leaving G.env)) [] s
    (rw [compTurn_gen, Sem.onRaise_eq_wrap])
    refine (seg_bind_wrap (wpAny_standAt ?_))
    refine seg_bind_wrap ?_
    rw [over]
    rcases turn i m H1 w1 with ⟨ss, qe⟩ | ⟨gg, Nf, gN, stp⟩
    · refine thnF (T.done G rfl rfl rfl calm i [] s _ H1 (fun _ _ => False) I1 (stand I1 n1) st1 ss) fun r s2 ⟨er, I2⟩ => ?_
      subst er
      exact seg_end (.ok .next) ⟨rfl, I2.bare, back _ _ _ _ _ I2 qe⟩
    · refine thnF (T.item G rfl rfl rfl calm i [] s _ H1 (fun _ _ => False) I1 (stand I1 n1) st1 gg) fun r s2 ⟨u, er, h2⟩ => ?_
      subst er
      refine seg_bind_wrap ?_
      rw [over]
      refine thnF h2 fun _ s3 ⟨x, H3, I3, rx, yx, st3, n3⟩ => ?_
      have I3' := I3.pinned (stand I3 n3) (T.obj _ _ st3)
      refine seg_bind_wrap ?_
      rw [over]
      refine nox (pg.run _ s3 _ H3 x u _ I3' rx (stp x H3 yx)) fun _ s4 ⟨σ4, H4, I4, hw4, q4⟩ => ?_
      refine seg_bind_wrap ?_
      rw [over, List.forIn_nil]
      refine wpAny_pure ?_
      simp only [if_true]
      have hy : ∀ v, yieldOut G.env v = yieldValue v := fun v => by simp only [yieldOut, co, Bool.false_eq_true, if_false]
      simp only [hy]
      (rw [Sem.bind_eq_wrap', Sem.bind_eq_wrap', Sem.wrap_wrap, Sem.wrap_wrap])
      refine seg_wrap ?_
      rw [over]
      refine nox (pe.run _ s4 σ4 H4 _ I4 q4) fun z s5 ⟨y, H5, I5, rz, b, eb, bt, bf⟩ => ?_
      subst eb
      have ez : z = .bool b := rz
      subst ez
      obtain ⟨k, rfl⟩ : ∃ k, n = k + 1 := ⟨n - 1, by omega⟩
      refine seg_at (seg_yield rfl rfl rfl ⟨I5.bare, b, rfl, fun hb => back _ _ _ _ _ I5 (bf hb), fun hb => ⟨I5.nolimit, gen _ _ _ _ I5, fun s6 wk => ?_⟩⟩)
      obtain ⟨m', lm, w'⟩ := gN H5 (bt hb)
      have pin' : ∀ b ∈ fp, ∀ o, s3.heap.get? b = some o → s5.heap.get? b = some o ∧ H5 b = none := fun b hb o e =>
        let z := I5.pin (b, o) (List.mem_append_right _ (List.mem_append_right _ (mem_pinsAt hb e)))
        ⟨z.1, z.2.1⟩
      have J5 : Inv G [] σ0 H5 s5 := (I5.unpinned (pins := [])).weak (wide σ4 hw4).symm fun j v e => by
        rw [← hw4] at e
        exact (wipe_some e).1
      have J6 : Inv G [] σ0 H5 s6 := J5.call' (ch := []) wk.os (Un.kept wk.keep) (J5.hok.kept wk.keep) wk.bare fun _ z => nomatch z
      refine seg_again rfl (ih m' lm k (i + 1) H5 s6 s6 (by omega) J6 (T.keep _ _ _ st3 fun b hb o e => wk.keep b o (pin' b hb o e).1) (fun b hb => ?_) w')
      obtain ⟨o, e, _⟩ := T.obj _ _ st3 b hb
      exact (pin' b hb o e).2
theorem gx_start (o : GxOk G A a g Fw elt tg iter scope pos it fp tn J gt te vs σ0 QF W) {m n : Nat} {H' : Hp} {s s₀ : Shared} (hmn : m < n) (I : Inv G [] σ0 H' s) (st : tn 0 s.heap) (n1 : ∀ b ∈ fp, H' b = none) (w1 : W 0 m H') :
    Seg (model G.prog G.w) A (AR Fw) (AY a g Fw) n s₀ (gxStart elt tg iter scope pos it G.env) ((model G.prog G.w).den (gxStart elt tg iter scope pos it G.env)) [] s := by
  have loop := gx_loop o m n 0 H' s s₀ hmn I st n1 w1
  show Seg _ A _ _ _ s₀ _ ((compStart (.GeneratorExp elt [⟨tg, iter, [], 0⟩] scope pos) 0 (.ref it) .none G.env).onRaise (leaving G.env)) [] s
  unfold compStart
  rw [Sem.onRaise_eq_wrap]
  show (Seg _ A _ _ _ s₀ _ ((ask >>= _).wrap _ _ _ _) [] s)
  refine (seg_bind_wrap (wpAny_askSetting ?_))
  split
  · exact seg_again rfl loop
  · refine seg_bind_wrap (wpAny_rule ?_)
    show Seg _ A _ _ _ s₀ _ ((standAt iter.pos >>= _).wrap _ _ _ _) [] s
    exact seg_bind_wrap (wpAny_standAt (seg_bind_wrap (o.T.self _ 0 s _ _ st (seg_again rfl loop))))
end
end My

set_option maxRecDepth 100000
set_option maxHeartbeats 1800000
/-! GxD: where a generator expression's code begins. -/
namespace My
open PySem PySem.Spec PyProof.Rows L2 GenW
/-- the context of a generator expression's code -/
abbrev GxC (X : Cx) (B : Around) (s : Shared) (H : Hp) (scope : Scope) (cenv : Env) (fp : List Addr) (pn : List (Addr × Obj)) : Cx :=
  { X with A := B, s_0 := s, H_0 := H, env := cenv, outer := X.stack, stack := cenv :: X.stack, ex := fp, fn := fun x => scope.names.lookup x == some .cell, pn := pn, xe := fun _ _ => False }
section
variable {X : Cx} {pins : List (Addr × Obj)} {σ : L2.St} {H : Hp} {s s1 : Shared}
theorem gx_begin {B : Around} {scope : Scope} {own : List (Str × Nat)} {fp : List Addr} {C a bi : Addr} {code : Value} {m : Str → Option Value} {go : Obj} (I : Inv X pins σ H s) (ok : BlkOk X.N X.env.scope scope own) (nc : ∀ y ∈ scope.names, y.2 ≠ .cell) (hN : X.N.Nodup)
    (hfp : ∀ b ∈ fp, FpOk X pins H b ∧ b < s.heap.objs.size) (hA : B.handled = none) (hC : C = s.heap.objs.size) (hbi : bi = builtinsNs) (hf : B.frames = some (genEnv scope (cloFrom X.env.cells scope.names []) C code bi X.env :: X.stack))
    (kp : ∀ b o, s.heap.get? b = some o → s1.heap.get? b = some o) (hos : s1.os = s.os) (hb : AllBare s1.gens) (hn : s1.heap.Ns C m) (ha : s1.heap.get? a = some go) (hgo : ∀ v, go.data ≠ .cell v) (haC : C < a) :
    Inv (GxC X B s H scope (genEnv scope (cloFrom X.env.cells scope.names []) C code bi X.env) fp [(a, go)]) [] (wipe σ (own.map (·.2))) H s1 := by
  have hfree : (∀ y ∈ scope.names, y.2 = .free → ∃ c, X.env.cells.lookup y.1 = some c) := fun y hy e => by
    rcases (ok.free y hy e) with k | k
    · exact I.ok.has _ (.inl k)
    · exact I.ok.has _ (.inr k)
  have cm : (∀ {y c}, (y, c) ∈ cloFrom X.env.cells scope.names [] → X.env.cells.lookup y = some c ∧ c < s.heap.objs.size) := fun {y c} hm => by
    rcases (cloFrom_mem hm) with hm | ⟨h1, rfl⟩
    · cases hm
    · obtain ⟨c, hc⟩ := (hfree _ h1 rfl)
      rw [hc]
      obtain ⟨w, z⟩ := (I.cell _ _ hc)
      exact ⟨rfl, z.lt⟩
  have mem : ∀ {y c}, (cloFrom X.env.cells scope.names []).lookup y = some c → X.env.cells.lookup y = some c ∧ c < s.heap.objs.size := fun {y c} e => cm (PySem.mem_of_lookup e)
  have look : ∀ {y}, scope.names.lookup y = some .free → ∃ c, (cloFrom X.env.cells scope.names []).lookup y = some c ∧ X.env.cells.lookup y = some c := fun {y} hl => by
    obtain ⟨c', e'⟩ := mem_lookup (cloFrom_has (cells := X.env.cells) (acc := []) (PySem.mem_of_lookup hl))
    exact ⟨c', e', (mem e').1⟩
  have noCell : ∀ {y}, scope.names.lookup y ≠ some .cell := fun {y} e => nc _ (PySem.mem_of_lookup e) rfl
  have stkLt : ∀ b ∈ frs X.stack, b < s.heap.objs.size := fun b hb => by
    obtain ⟨_, o, e, _⟩ := I.stack.mem hb
    exact Heap.lt_size e
  have okG : (GxC X B s H scope (genEnv scope (cloFrom X.env.cells scope.names []) C code bi X.env) fp [(a, go)]).Ok := by
    refine ⟨I.ok.mod, ok.kind, I.ok.glob, hbi, Nat.le_of_eq hC.symm, fun y z c e1 e2 => I.ok.inj y z c (mem e1).1 (mem e2).1, fun y hy => ?_, fun y c z e => ?_, fun _ => hA, hf, .inr ⟨rfl, rfl⟩,
      fun b hb => ⟨?_, fun y c e z => ?_⟩, I.bs, Nat.le_trans I.ok.bsz I.sz, fun b o e hb => ?_, fun b hb z => ?_, I.stack, I.stkFree⟩
    · rcases hy with hy | hy
      · exact absurd hy noCell
      · obtain ⟨c, h1, _⟩ := look hy
        exact ⟨c, h1⟩
    · have z : ((scope.names.lookup y == some NameKind.cell) = true) := z
      exact absurd (by simpa using z) (noCell (y := y))
    · show b ≠ C
      rw [hC]; exact Nat.ne_of_lt (hfp b hb).2
    · exact (hfp b hb).1.2.2.2.2.1 y c (mem e).1 z
    · rcases ((hfp b hb).1.2.2.2.1) with z | z
      · exact I.ok.noex b o e z
      · exact (absurd (Nat.lt_of_lt_of_le (Heap.lt_size e) (Nat.le_trans I.ok.bsz z)) (Nat.lt_irrefl _))
    · rcases (List.mem_cons.mp (I.stkSub b z)) with z | z
      · exact (hfp b hb).1.2.1 z
      · exact (hfp b hb).1.2.2.1 z
  refine ⟨okG, hos, hb, Un.kept kp, ⟨m, hn, fun i y av e1 e2 e3 => ?_⟩, fun y c e => ?_, ?_, fun y c e => ?_, fun p hp => ?_, I.hok.kept kp, by rw [wipe_length]; exact I.len⟩
  · obtain ⟨e2, hne⟩ := (wipe_some e2)
    have hfr : scope.names.lookup y = some .free := by
      have e3 : Vis scope y := e3
      rcases e3 with k | k | k
      · rcases ok.own _ (PySem.mem_of_lookup k) (.inl rfl) with e' | e'
        · obtain ⟨p, hp, hpy⟩ := (List.mem_map.mp e')
          have e3 := ok.ix p hp
          have : p.1 = y := hpy
          rw [this] at e3
          exact absurd (List.mem_map.mpr ⟨p, hp, nodup_ix hN e3 e1⟩) hne
        · exact absurd (List.mem_of_getElem? e1) e'
      · exact absurd k noCell
      · exact k
    obtain ⟨m', hn', hl⟩ := I.loc
    have hvis : Vis X.env.scope y := (ok.free _ (PySem.mem_of_lookup hfr) rfl).elim (fun k => .inr (.inl k)) (fun k => .inr (.inr k))
    obtain ⟨w, r, q⟩ := (hl i y av e1 e2 hvis)
    refine ⟨w, r, .inr ⟨.inr hfr, ?_⟩⟩
    obtain ⟨c, h1, h2⟩ := look hfr
    rcases (q) with ⟨k, _⟩ | ⟨_, c', e', z⟩
    · have k : (X.env.scope.names.lookup y = some .local) := k
      rcases ok.free _ (PySem.mem_of_lookup hfr) rfl with k' | k' <;> rw [show X.env.scope.names.lookup y = _ from k'] at k <;> cases k
    · rw [h2] at e'; cases e'
      exact ⟨c, h1, z.keeps kp⟩
  · obtain ⟨w, z⟩ := I.cell y c (mem e).1
    exact ⟨w, z.keeps kp⟩
  · show H C = none
    rw [hC]; exact I.hok.fresh (Nat.le_refl _)
  · exact I.freeC y c (mem e).1
  · obtain rfl := List.mem_singleton.mp (show p ∈ [(a, go)] from by simpa using hp)
    refine ⟨ha, I.hok.fresh (Nat.le_of_lt (by rw [← hC]; exact haC)), Nat.ne_of_gt haC, fun hm => ?_, hgo⟩
    have := stkLt a hm
    rw [← hC] at this
    exact absurd (Nat.lt_trans haC this) (Nat.lt_irrefl _)
end
end My

set_option maxRecDepth 100000
set_option maxHeartbeats 1800000
/-! GxE: all(elt for tg in iter), the element any expression that raises nothing: the rule. -/
namespace My
open PySem PySem.Spec PyProof.Rows L2 GenW GxR
/-- the generator expression's own scope -/
structure GxS (scope : Scope) : Prop where
  co : (scope.isCoroutine = false)
  nc : ∀ y ∈ scope.names, y.2 ≠ .cell
  dot : (scope.names.lookup (".0" : Str) = some NameKind.local)
/-- all(..): the def's table may have grown ahead of the first turn -/
def tAllX (P : Addr) (wi : TI) (g : TG) (te : TE) (vs : List Nat) : TE := fun σ H Q => wi σ H fun J H1 => TabG H1 P ∧ ∀ H2, Tabbed P H1 H2 → ∃ W : Nat → Nat → Hp → Prop, (∃ m, W 0 m H2) ∧ GxT J g te vs (wipe σ vs) (fun b H3 => Q (.bl b) H3) W
/-- the around of such code is a deeper one -/
theorem gx_over {A : Around} {elt tg iter : Expr} {scope : Scope} {pos : Pos} {it : Addr} {env : Env} : A.over (gxLoop elt tg iter scope pos it env) [] = A.deeper env := by
  obtain ⟨hd, d, fr, gs, u⟩ := (A)
  cases fr <;> cases gs <;> simp [Around.over, Around.deeper, marksOver, frameCount, unitsOf, envsOf, guardsOf, pushEnvs, pushGuards, Code.envs, Code.env?, Code.isFrame, Code.guards, Code.isGuard, Code.weight, Code.frames, Code.isCreation, Code.isCaller, Code.cUnits]
theorem in2_room {k : Nat} {A : Around} (r : Room (k + 1) A) (env : Env) : Room k (A.in1.in1.deeper env) :=
  ⟨r.hd, by have := r.dp; show A.depth + 1 + 3 * k + 5 < _; omega, by have := r.un; show A.units + 1 + 1 + 3 + 16 * k + 200 < _; omega⟩
theorem in2_frames {A : Around} {env : Env} {l : List Env} (h : A.frames = some l) : (A.in1.in1.deeper env).frames = some (env :: l) := Around.frames_deeper (A := A.in1.in1) h
section
variable {X : Cx} {k : Nat} {c P : Addr} {elt tg iter : Expr} {p pos gpos : Pos} {scope : Scope} {own : List (Str × Nat)} {wi : TI} {g : TG} {te : TE}
theorem pe_allX (hr : Room (k + 1) X.A) (hc : X.calm = true) (hN : X.N.Nodup) (hg : Gl X "all") (hm : X.mg "all" = none) (hb : bootBuiltins "all" = some (.builtin "all")) (TB : TabB X.base X.mg c P) (hcode : X.env.code = .ref c) (S : GxS scope) (ok : BlkOk X.N X.env.scope scope own) (hi : PI X tg iter wi)
    (hpg : ∀ (B : Around) (s : Shared) (H : Hp) (C : Addr) (cd : Value) (fp : List Addr) (pn : List (Addr × Obj)), Room k B → PG (GxC X B s H scope (genEnv scope (cloFrom X.env.cells scope.names []) C cd builtinsNs X.env) fp pn) tg g)
    (hpe : ∀ (B : Around) (s : Shared) (H : Hp) (C : Addr) (cd : Value) (fp : List Addr) (pn : List (Addr × Obj)), Room k B → PE (GxC X B s H scope (genEnv scope (cloFrom X.env.cells scope.names []) C cd builtinsNs X.env) fp pn) elt te)
    (hs : ∀ u, genFold iter X.env u = pure u)
    (he : starEach [.GeneratorExp elt [⟨tg, iter, [], 0⟩] scope gpos] X.env = (false, eval (.GeneratorExp elt [⟨tg, iter, [], 0⟩] scope gpos) X.env) :: starEach [] X.env := by rfl) :
    PE X (.Call (.Name "all" p) [.GeneratorExp elt [⟨tg, iter, [], 0⟩] scope gpos] [] pos) (tAllX P wi g te (own.map (·.2))) := by
  refine (⟨fun pins s σ H Q I h => ?_⟩)
  refine (wpAny_Call_Name_kw (ld_blt I hg hm hb ?_))
  refine (PyProof.Rows.callWith_builtin1 ?_ he (by rfl))
  rw [he]
  show wpAny _ _ (spliced ((false, eval (.GeneratorExp elt [⟨tg, iter, [], 0⟩] scope gpos) X.env) :: backTo pos (starEach [] X.env))) _ _ s
  have hfree : (∀ y ∈ scope.names, y.2 = .free → ∃ c, X.env.cells.lookup y.1 = some c) := fun y hy e => by
    rcases (ok.free y hy e) with k | k
    · exact I.ok.has _ (.inl k)
    · exact I.ok.has _ (.inr k)
  refine Calls.spliced_cons (wpAny_GeneratorExp_make S.co (closure_ok hfree) S.nc S.dot ok.kind (by have := hr.dp; omega) ?_ hs)
  refine thn (hi.run pins s σ H _ I h) fun xv s1 h1 => thn h1 fun itv s2 h2 => ?_
  obtain ⟨it, fp, tn, J, H2, rfl, I2, T, st2, f2, ⟨ps, hP, ht⟩, q⟩ := h2
  have hPs : s2.heap.get? P = some { cls := .none, data := .fields ps } := I2.hok P _ hP
  have cd : PySem.W.CodeHd s2.heap c P := TB.code.keeps I2.bk
  refine ⟨I2.nolimit, ?_⟩
  have cont : ∀ (code : Value) (h3 : Heap) (tk : Nat) (ps' : Array Value), Heap.ExtBut P s2.heap h3 → s2.heap.objs.size ≤ h3.objs.size → h3.get? P = some { cls := .none, data := .fields ps' } → (∃ more, ps' = ps ++ more) → TriplesOk ps'.toList →
      wpAny (model X.prog X.w) X.A (builtinsFor X.env.globals X.env.builtins) (fun bi s4 => ∀ h', h'.Ns s4.heap.objs.size (fun y => if y = ".0" then some (.ref it) else none) → Heap.SameBut s4.heap.objs.size (s4.heap.push { cls := .type "frame", data := .dict #[] }) h' →
        wpAny (model X.prog X.w) X.A (spliced (backTo pos (starEach [] X.env))) (fun us s6 => wpAny (model X.prog X.w) X.A (call (.builtin "all") (Value.ref h'.objs.size :: us)) (EP X pins σ Q) X.xe s6) X.xe { s4 with
          gens := s4.gens.push (.fresh (gxStart elt tg iter scope gpos it (genEnv scope (cloFrom X.env.cells scope.names []) s4.heap.objs.size code bi X.env)))
          toks := s4.toks + 1 + 1 + 1
          heap := h'.push { cls := .type "generator", data := .fields #[.int s4.gens.size 0, .str "<genexpr>" (s4.toks + 1), .str (X.env.qual ++ "<genexpr>") (s4.toks + 1 + 1)] } }) X.xe { s2 with heap := h3, toks := tk } := by
    intro code h3 tk ps'; intro hx hsz hP3 hmore ht3
    obtain ⟨bm, ob, e1, e2, e3, e4, e5, e6, e7, e8⟩ := (TB.bm)
    obtain ⟨more, rfl⟩ := hmore
    have keep3 : ∀ b u, b ≠ P → s2.heap.get? b = some u → h3.get? b = some u := fun b u hb e => hx b u hb e
    have I3 : Inv X pins σ (upd H2 P (.tbl (ps ++ more))) { s2 with heap := h3, toks := tk } := inv_tab (more := more) (h' := h3) (g' := s2.gens) (d' := s2.drawn) (t' := tk) I2 hP keep3 hP3 I2.bare
    have hT : Tabbed P H2 (upd H2 P (.tbl (ps ++ more))) := ⟨⟨ps ++ more, upd_same, ht3⟩, fun b hb => upd_ne hb⟩
    have nP : ∀ b ∈ fp, b ≠ P := fun b hb z => by
      have := (f2 b hb).1
      rw [z, hP] at this; cases this
    have sz : ∀ b ∈ fp, b < h3.objs.size := fun b hb => by
      obtain ⟨o, e, _⟩ := (T.obj _ _ st2 b hb)
      exact Nat.lt_of_lt_of_le (Heap.lt_size e) hsz
    have f3 : ∀ b ∈ fp, FpOk X pins (upd H2 P (.tbl (ps ++ more))) b ∧ b < h3.objs.size := fun b hb =>
      ⟨⟨by rw [upd_ne (nP b hb)]; exact (f2 b hb).1, (f2 b hb).2⟩, sz b hb⟩
    have st3 : tn 0 h3 := T.keep _ _ _ st2 fun b hb o e => keep3 b o (nP b hb) e
    refine wpAny_builtinsFor (m := X.mg) (by rw [I.ok.glob]; exact (I.mod.glob.keeps I2.bk).extBut hx TB.gP) e1 e2 (keep3 _ _ e4 (I2.bk _ _ e5)) e6 e7 e8 ?_
    intro h' hn' hs'
    obtain ⟨W, ⟨m0, w0⟩, turn⟩ := q _ hT
    generalize upd H2 P (.tbl (ps ++ more)) = H4 at I3 f3 w0 turn
    generalize es4 : ({ s2 with heap := h3, toks := tk } : Shared) = s4 at I3 hn' hs' ⊢
    have eh : s4.heap = h3 := by rw [← es4]
    rw [← eh] at f3 st3
    have hsz' : h'.objs.size = s4.heap.objs.size + 1 := by rw [hs'.1, Heap.size_push]
    have kp' : ∀ b o, s4.heap.get? b = some o → h'.get? b = some o := fun b o e => hs'.extBut b o (Nat.ne_of_lt (Heap.lt_size e)) (Heap.get?_push_of_some _ e)
    refine Calls.spliced_nil ?_
    obtain ⟨go, ego⟩ : ∃ go : Obj, go = { cls := .type "generator", data := .fields #[.int s4.gens.size 0, .str "<genexpr>" (s4.toks + 1), .str (X.env.qual ++ "<genexpr>") (s4.toks + 1 + 1)] } := ⟨_, rfl⟩
    rw [← ego]
    have hga : (h'.push go).get? h'.objs.size = some go := by rw [ego]; exact Heap.get?_push_size _ rfl
    have hgen : ∀ h : Heap, h.get? h'.objs.size = some go → h.IsGen h'.objs.size s4.gens.size := fun h e => ⟨go, _, _, e, by rw [ego], by rw [ego], by rw [ego]⟩
    have hgd : ∀ v, go.data ≠ .cell v := fun v => by rw [ego]; exact fun e => by cases e
    have kp5 : ∀ b o, s4.heap.get? b = some o → (h'.push go).get? b = some o := fun b o e => Heap.get?_push_of_some _ (kp' b o e)
    have hbg : AllBare (s4.gens.push (.fresh (gxStart elt tg iter scope gpos it (genEnv scope (cloFrom X.env.cells scope.names []) s4.heap.objs.size code builtinsNs X.env)))) := AllBare.push I3.bare rfl
    have st : ∀ (b : Bool) (s s' : Shared), Woke s s' → (∃ H', Inv X pins σ H' s ∧ Q (.bl b) H') → ∃ H', Inv X pins σ H' s' ∧ Q (.bl b) H' := fun b s s' wk ⟨H', J', q'⟩ =>
      ⟨H', J'.call' (ch := []) wk.os (Un.kept wk.keep) (J'.hok.kept wk.keep) wk.bare fun _ z => (nomatch z), q'⟩
    refine call_all_own (a := h'.objs.size) (g := s4.gens.size) (n := m0 + 1) (Fw := fun b s' => ∃ H', Inv X pins σ H' s' ∧ Q (.bl b) H') hr.hd (by have := hr.dp; omega) st (fun b s' ⟨H', J', q'⟩ => ⟨.bl b, H', J', rfl, q'⟩)
      (hgen _ hga) (I3.nolimit.keeps kp5) (Array.getElem?_push_size ..) ?_
    obtain ⟨ce, ece⟩ : ∃ ce, ce = genEnv scope (cloFrom X.env.cells scope.names []) s4.heap.objs.size code builtinsNs X.env := ⟨_, rfl⟩
    have IG := gx_begin (B := X.A.in1.in1.deeper ce) (C := s4.heap.objs.size) (a := h'.objs.size) (bi := builtinsNs) (code := code) (go := go) (s1 := ({ s4 with gens := s4.gens.push (.fresh (gxStart elt tg iter scope gpos it (genEnv scope (cloFrom X.env.cells scope.names []) s4.heap.objs.size code builtinsNs X.env))), toks := s4.toks + 1 + 1 + 1, heap := h'.push go } : Shared).setGen s4.gens.size .running)
      I3 ok S.nc hN f3 hr.hd rfl rfl (by rw [← ece]; exact in2_frames I3.ok.frames) kp5 rfl (allBare_setGen (s := { s4 with gens := _, toks := _, heap := _ }) hbg rfl) (hn'.push _) hga hgd (Nat.lt_of_lt_of_eq (Nat.lt_succ_self _) hsz'.symm)
    have pgG := hpg (X.A.in1.in1.deeper ce) s4 H4 s4.heap.objs.size code fp [(h'.objs.size, go)] (in2_room hr ce)
    have peG := hpe (X.A.in1.in1.deeper ce) s4 H4 s4.heap.objs.size code fp [(h'.objs.size, go)] (in2_room hr ce)
    rw [← ece] at IG pgG peG ⊢
    have cL : ce.locals = s4.heap.objs.size := by rw [ece]; rfl
    have cS : ce.scope = scope := by rw [ece]; rfl
    have wide : ∀ σ2 : L2.St, wipe σ2 (own.map (·.2)) = wipe σ (own.map (·.2)) → σ2.length = (wipe σ (own.map (·.2))).length := fun σ2 e => by
      have := congrArg List.length e
      rw [wipe_length, wipe_length] at this
      rw [wipe_length]
      exact this
    have bck : ∀ (pins' : List (Addr × Obj)) (σ' : L2.St) (H' : Hp) (s' : Shared) (b : Bool), Inv (GxC X (X.A.in1.in1.deeper ce) s4 H4 scope ce fp [(h'.objs.size, go)]) pins' σ' H' s' → Q (.bl b) H' → ∃ H', Inv X pins σ H' s' ∧ Q (.bl b) H' := fun pins' σ' H' s' b I' q' =>
      ⟨H', I3.call' (ch := fp) I'.os I'.base I'.hok I'.bare fun b hb => ⟨(f3 b hb).1.2.2.2.1, (f3 b hb).1.2.1, (f3 b hb).1.2.2.2.2.1, (f3 b hb).1.2.2.2.2.2⟩, q'⟩
    refine gx_start (G := GxC X (X.A.in1.in1.deeper ce) s4 H4 scope ce fp [(h'.objs.size, go)]) ⟨fun _ _ z => z, hc, gx_over, by show ce.scope.isCoroutine = false; rw [cS]; exact S.co, rfl, fun pp hp hm => ?_, T, pgG, peG,
      fun pins' σ' H' s' I' => hgen _ (I'.pin (h'.objs.size, go) (List.mem_append_left _ (List.mem_singleton.mpr rfl))).1, bck, wide, turn⟩ (Nat.lt_succ_self m0) IG (T.keep _ _ _ st3 fun b _ o e => kp5 b o e) (fun b hb => (f3 b hb).1.1) w0
    obtain rfl := (List.mem_singleton.mp hp)
    have h9 : h'.objs.size < s4.heap.objs.size := (f3 _ hm).2
    rw [hsz'] at h9
    exact absurd h9 (Nat.not_lt.mpr (Nat.le_succ _))
  cases hf : codeAmong gpos ps.toList with -- case by case
  | none =>
    refine wpAny_genexprCodeX hcode (cd.code hPs ht) (cd.tab hPs) hf fun c' h' tk hx hge hlt hco' _ htab' _ => ?_
    obtain ⟨o1, vs, f1, tf, fl, tg', inF, tx, tt, op, _, _, _, _, _, _, _, _, _, htr, _⟩ := hco'
    exact (cont _ h' tk _ hx (Nat.le_trans hge (Nat.le_of_lt hlt)) htab'.2 ⟨_, rfl⟩ htr)
  | some cv =>
    refine wpAny_genexprCode_hit hcode (cd.code hPs ht) hf ?_
    exact cont cv s2.heap s2.toks ps (Heap.ExtBut.refl _ _) (Nat.le_refl _) hPs ⟨#[], by simp⟩ ht
end
end My

set_option maxRecDepth 100000
set_option maxHeartbeats 1600000
/-! ZipM: zip of a list and a tuple. -/
namespace My
open PySem PySem.Spec PyProof.Rows L2 RZ
/-- the list at a and the tuple at b as they stand at each turn -/
def ItzM (K : PySem.W.Frag) (a b : Addr) : It where
  go i H := ∃ (xs ys : List V) (x y : V), SqL K H a xs ∧ SqT K H b ys ∧ xs[i]? = some x ∧ ys[i]? = some y
  yld i H v H' := ∃ T x y, v = .ref T ∧ H T = none ∧ H' = upd H T (.tup [x, y]) ∧ (∀ xs, SqL K H a xs → xs[i]? = some x) ∧ ∀ ys, SqT K H b ys → ys[i]? = some y
  stop i H := ∃ xs ys : List V, SqL K H a xs ∧ SqT K H b ys ∧ xs.length = i ∧ ys.length = i
theorem sep_of {z TI TO i1 i2 a b : Addr} (D : ZipApart z TI TO i1 i2 a b) : ZipSep2 z TI TO i1 i2 [i1, a] [i2, b] where
  TIz := D.TIz
  TOz := D.TOz
  TITO := D.TITO
  TIi1 := D.TIi1
  mem1 := by simp
  zf1 := by simp [D.i1z.symm, D.l1z.symm]
  Tf1 := by simp [D.TOi1, D.l1TO.symm]
  TIi2 := D.TIi2
  mem2 := by simp
  zf2 := by simp [D.i2z.symm, D.l2z.symm]
  Tf2 := by simp [D.TOi2, D.l2TO.symm]
  sep1_2 := by simp [D.i12, D.l2i1.symm]
  sep2_1 := by simp [D.i12.symm, D.l1i2.symm]
theorem turn_zipM {P : Program} {w : World} {K : PySem.W.Frag} {elts : List Expr} {kk : Nat} {tpos : Pos} {a b z TI TO i1 i2 : Addr} (D : ZipApart z TI TO i1 i2 a b) :
    Turn P w K (.Tuple elts kk tpos) (ItzM K a b) [z, TI, TO, i1, i2] z (fun i h => IsZip h z TI TO .none ∧ IsPair h TI (.ref i1) (.ref i2) ∧ (∃ x y, IsPair h TO x y) ∧ h.IsListIter i1 a i ∧ h.IsTupleIter i2 b i) where
  mem := by simp
  obj := fun i h st c hc => by
    obtain ⟨hz, hTI, ⟨x, y, hTO⟩, ⟨o1, e1, _, d1⟩, ⟨o2, e2, _, d2⟩⟩ := (st)
    have cs : c = z ∨ c = TI ∨ c = TO ∨ c = i1 ∨ c = i2 := by simpa using hc
    rcases cs with rfl | rfl | rfl | rfl | rfl
    · exact ⟨_, hz, nofun⟩
    · exact ⟨_, hTI, nofun⟩
    · exact ⟨_, hTO, nofun⟩
    · exact ⟨o1, e1, fun v q => by rw [d1] at q; cases q⟩
    · exact ⟨o2, e2, fun v q => by rw [d2] at q; cases q⟩
  keep := fun i h h' st k => by
    obtain ⟨hz, hTI, ⟨x, y, hTO⟩, h1, h2⟩ := (st)
    exact ⟨k z (by simp) _ hz, k TI (by simp) _ hTI, ⟨x, y, k TO (by simp) _ hTO⟩, h1.at fun o => k i1 (by simp) o, h2.at fun o => k i2 (by simp) o⟩
  item := by
    intro X hP hw hK; intro hc i pins s σ H E I hf st hg
    subst hP hw hK
    obtain ⟨hz, hTI, ⟨x0, y0, hTO⟩, h1, h2⟩ := (st)
    obtain ⟨xs, ys, x, y, hqx, hqy, hx, hy⟩ := (hg)
    obtain ⟨its, rv, p, _⟩ := (I.list hqx)
    obtain ⟨its2, rv2, p2, _⟩ := (I.tuple hqy)
    obtain ⟨u, hu, ru⟩ := (rv.get hx)
    obtain ⟨u2, hu2, ru2⟩ := (rv2.get hy)
    have zlt : z < s.heap.objs.size := Heap.lt_size hz
    have hh : X.A.in1.handled = none := I.ok.hd hc
    have lt1 : i < its.toArray.size := by rw [List.size_toArray]; exact (List.getElem?_eq_some_iff.mp hu).1
    have lt2 : i < its2.toArray.size := by rw [List.size_toArray]; exact (List.getElem?_eq_some_iff.mp hu2).1
    refine wpAny_pyNext_zipD2_item (i := i) (sep_of D) (Draws.list hh i1 a D.l1i1 its.toArray) (Draws.tuple hh i2 b D.l2i2 its2.toArray) hz hTI hTO ⟨h1, p.isList⟩ ⟨h2, p2⟩ lt1 lt2 fun v1 v2 h' tk e1 e2 z' TO' s1 s2 hT hsz hk => ?_
    obtain rfl : u = v1 := by
      have e1 : its.toArray[i]? = some v1 := e1
      rw [List.getElem?_toArray, hu] at e1
      exact Option.some.inj e1
    obtain rfl : u2 = v2 := by
      have e2 : its2.toArray[i]? = some v2 := e2
      rw [List.getElem?_toArray, hu2] at e2
      exact Option.some.inj e2
    refine ⟨_, rfl, wpAny_letOwnedTupleGo_zip (s := { s with heap := h', toks := tk }) z' fun h'' z'' sb => ?_⟩
    have hT2 : h''.get? s.heap.objs.size = some { cls := .type "tuple", data := .seq #[u, u2] } := (sb.2 _ (Nat.ne_of_gt zlt)).trans hT
    have up : ∀ c o, c ∉ [z, TI, TO, i1, i2] → s.heap.get? c = some o → h''.get? c = some o := fun c o hb q => by
      simp only [List.mem_cons, List.not_mem_nil, or_false, not_or] at hb
      exact (sb.2 c hb.1).trans (hk c o hb.1 hb.2.2.1 hb.2.2.2.1 hb.2.2.2.2 q)
    have I1 : Inv X pins σ (upd H s.heap.objs.size (.tup [x, y])) { s with heap := h'', toks := tk } :=
      I.turnedNew (t' := tk) (ch := [z, TI, TO, i1, i2]) up hf (Nat.le_refl _) ⟨by show 2 ≤ sizeLine; decide, [u, u2], .cons ru (.cons ru2 .nil), ⟨_, hT2, rfl, _, rfl⟩⟩
    refine ⟨.ref s.heap.objs.size, _, I1, rfl, ⟨_, x, y, rfl, I.hok.fresh (Nat.le_refl _), rfl, fun l hl => by rw [I.list_inj hl hqx]; exact hx, fun l hl => by rw [I.tuple_inj hl hqy]; exact hy⟩,
      ⟨z'', (sb.2 _ D.TIz).trans (hk _ _ D.TIz D.TITO D.TIi1 D.TIi2 hTI), ⟨u, u2, (sb.2 _ D.TOz).trans TO'⟩, s1.1.at fun o q => (sb.2 _ D.i1z).trans q, s2.1.at fun o q => (sb.2 _ D.i2z).trans q⟩, fun c hcm => ?_⟩
    have hlt : c < s.heap.objs.size := by
      have cs : c = z ∨ c = TI ∨ c = TO ∨ c = i1 ∨ c = i2 := by simpa using hcm
      rcases cs with rfl | rfl | rfl | rfl | rfl
      · exact zlt
      · exact Heap.lt_size hTI
      · exact Heap.lt_size hTO
      · obtain ⟨_, q, _⟩ := h1; exact Heap.lt_size q
      · obtain ⟨_, q, _⟩ := h2; exact Heap.lt_size q
    (rw [upd_ne (Nat.ne_of_lt hlt)])
    exact (hf c hcm).1
  done := by
    intro X hP hw hK; intro hc i pins s σ H E I hf st hg
    subst hP hw hK
    obtain ⟨hz, hTI, ⟨x0, y0, hTO⟩, h1, h2⟩ := (st)
    obtain ⟨xs, ys, hqx, hqy, l1, l2⟩ := hg
    obtain ⟨its, rv, p, _⟩ := (I.list hqx)
    obtain ⟨its2, rv2, p2, _⟩ := (I.tuple hqy)
    have hh : X.A.in1.handled = none := I.ok.hd hc
    have q1 : its.toArray.size = i := by rw [List.size_toArray, ← rv.length]; exact l1
    have q2 : its2.toArray.size = i := by rw [List.size_toArray, ← rv2.length]; exact l2
    refine wpAny_pyNext_zipD2_end (i := i) (sep_of D) (Draws.list hh i1 a D.l1i1 its.toArray) (Draws.tuple hh i2 b D.l2i2 its2.toArray) hz hTI hTO ⟨h1, p.isList⟩ ⟨h2, p2⟩ (Nat.le_of_eq q1.symm) (Nat.le_of_eq q2.symm) (.inl q1.symm) fun h' tk hk => ⟨rfl, ?_⟩
    refine I.turnedL (t' := tk) (ch := [z, TI, TO, i1, i2]) (fun c o hb q => ?_) hf
    simp only [List.mem_cons, List.not_mem_nil, or_false, not_or] at hb
    exact hk c o hb.1 hb.2.2.1 hb.2.2.2.1 hb.2.2.2.2 q
  self := fun A i s Q E st h => (wpAny_pyIter_zip st.1 h)
/-- zip of two lists or of a list and a tuple -/
def iZipM (K : PySem.W.Frag) (ta : TA) : TI := fun σ H R => ta σ H fun vs H1 => ∃ a b xs ys, vs = [.ref a, .ref b] ∧ SqL K H1 a xs ∧ ((SqT K H1 b ys ∧ R (ItzM K a b) H1) ∨ (SqL K H1 b ys ∧ R (Itz K a b) H1))
theorem pi_zipM {X : Cx} {e e2 : Expr} {ta : TA} {p pos tpos : Pos} {elts : List Expr} {kk : Nat} (hg : Gl X "zip") (hm : X.mg "zip" = none) (ha : PA X [e, e2] ta)
    (hs : (starEach [e, e2] X.env = (false, eval e X.env) :: starEach [e2] X.env) := by rfl) (hpl : (backTo pos (starEach [e2] X.env)).any (·.1) = false := by rfl) :
    PI X (.Tuple elts kk tpos) (.Call (.Name "zip" p) [e, e2] [] pos) (iZipM X.K ta) := by
  refine (⟨fun pins s σ H R I h => ?_⟩)
  refine (Call_ (ld_blt I hg hm PyProof.Rows.boot_zip (PyProof.Rows.callWith_type1 (thn (ha.run pos pins s σ H _ I h) fun us s1 ⟨vs, H1, I1, r1, q1⟩ => ?_) hs hpl)))
  obtain ⟨a, b, xs, ys, rfl, hqx, q⟩ := q1
  cases r1 with
  | cons r rr =>
    cases rr with
    | cons r' rr =>
      cases rr
      cases r
      cases r'
      have fresh5 : (∀ c, c ∈ [s1.heap.objs.size + 4, s1.heap.objs.size + 2, s1.heap.objs.size + 3, s1.heap.objs.size, s1.heap.objs.size + 1] → FpOk X pins H1 c) := fun c hcm => by
        have hle : (s1.heap.objs.size ≤ c) := by
          have cs : c = s1.heap.objs.size + 4 ∨ c = s1.heap.objs.size + 2 ∨ c = s1.heap.objs.size + 3 ∨ c = s1.heap.objs.size ∨ c = s1.heap.objs.size + 1 := by simpa using hcm
          rcases cs with rfl | rfl | rfl | rfl | rfl <;> first | exact Nat.le_add_right _ _ | exact Nat.le_refl _
        exact (I1.fpOk hle (I1.hok.fresh hle))
      obtain ⟨its, rv, p1, _⟩ := (I1.list hqx)
      rcases q with ⟨hqy, q⟩ | ⟨hqy, q⟩
      rotate_left
      · obtain ⟨its2, rv2, p2, _⟩ := I1.list hqy
        refine zip_begins2 (begins_list a its.toArray) (begins_list b its2.toArray) p1.isList p2.isList fun h' hz hTI hTO e1 e2 hsz hk => wpAny_pyIter_zip hz ?_
        exact ⟨s1.heap.objs.size + 4, [s1.heap.objs.size + 4, s1.heap.objs.size + 2, s1.heap.objs.size + 3, s1.heap.objs.size, s1.heap.objs.size + 1], _, _, H1, rfl, I1.kept (t' := s1.toks) hk,
          turn_zip (PySem.W.ktu_apart s1.heap.objs.size a b p1.lt p2.lt), ⟨hz, hTI, ⟨_, _, hTO⟩, ⟨_, e1, rfl, rfl⟩, ⟨_, e2, rfl, rfl⟩⟩, fresh5, q⟩
      obtain ⟨its2, rv2, p2, _⟩ := (I1.tuple hqy)
      obtain ⟨o2, ho2, _⟩ := id p2
      refine zip_begins2 (begins_list a its.toArray) (begins_tuple b its2.toArray) p1.isList p2 fun h' hz hTI hTO e1 e2 hsz hk => wpAny_pyIter_zip hz ?_
      exact ⟨s1.heap.objs.size + 4, [s1.heap.objs.size + 4, s1.heap.objs.size + 2, s1.heap.objs.size + 3, s1.heap.objs.size, s1.heap.objs.size + 1], _, _, H1, rfl, I1.kept (t' := s1.toks) hk,
        turn_zipM (PySem.W.ktu_apart s1.heap.objs.size a b p1.lt (Heap.lt_size ho2)), ⟨hz, hTI, ⟨_, _, hTO⟩, ⟨_, e1, rfl, rfl⟩, ⟨_, e2, rfl, rfl⟩⟩, fresh5, q⟩
end My

set_option maxRecDepth 100000
set_option maxHeartbeats 1000000
/-! list(a text) -/
namespace My
open PySem PySem.Spec PyProof.Rows L2
theorem vals_of : ∀ {xs : List V} {us : List Value}, xs.length = us.length → (∀ (j : Nat) (x : V) (u : Value), xs[j]? = some x → us[j]? = some u → RelV x u) → Vals xs us
  | [], [], _, _ => .nil
  | x :: xs, u :: us, h, k => .cons (k 0 x u rfl rfl) (vals_of (by simpa using h) fun j y v a b => k (j + 1) y v (by simpa using a) (by simpa using b))
def signsV (z : Str) : List V := z.cps.toList.map fun c => V.str ⟨#[c]⟩
def rListT : List V → Hp → VK → Prop := fun xs H Q => ∃ z, xs = [.str z] ∧ z.length ≤ sizeLine ∧ ∀ l, H l = none → Q (.ref l) (upd H l (.lst (signsV z)))
theorem call_list_text {X : Cx} (hc : X.calm = true) : CallR X (.type "list") rListT := by
  intro pins s σ H xs us Q I r h
  obtain ⟨z, rfl, hz, q⟩ := h
  obtain ⟨u, rfl, rx⟩ := vals1 r
  obtain ⟨t, rfl⟩ := rx
  refine call_list_str (I.ok.hd hc) z t (hn := hz) fun h' tk acc' c' hk hS' hacc => ?_
  have hl : (signsV z).length = acc'.toList.length := by
    have := hacc.1
    simp [signsV, this]
  have hv : Vals (signsV z) acc'.toList := vals_of hl fun j x v a b => by
    obtain ⟨c, w, hc2, rfl⟩ := hacc.2 j v (by simpa using b)
    unfold signsV at a
    rw [List.getElem?_map] at a
    have e : z.cps.toList[j]? = some c := by simpa using hc2
    rw [e] at a
    obtain rfl := Option.some.inj a
    exact ⟨_, rfl⟩
  refine ⟨.ref s.heap.objs.size, _, I.laid (t' := tk) hk (Nat.le_refl _) (show ObjOk X.prog X.w _ h' _ (.lst (signsV z)) from ⟨?_, acc'.toList, c', hv, by simpa using hS'⟩), rfl, q _ (I.hok.fresh (Nat.le_refl _))⟩
  simpa [signsV, Str.length] using hz
end My

set_option maxRecDepth 100000
set_option maxHeartbeats 400000
/-! small data: what repr asks of them -/
namespace My
open PySem PySem.Spec PyProof.Rows L2 GxR Gd TL
structure Sm (d : PyData) (k m : Nat) : Prop where
  lay : d.canLay0 = true
  dep : d.depth ≤ k
  wt : d.weight ≤ m
  ish : d.intsShort 13 = true
  sh : d.showable = true
theorem Sm.rep {d : PyData} {k m : Nat} (h : Sm d k m) (hk : k ≤ 64) (hm : m ≤ 2 ^ 20) : d.showable = true ∧ d.depth ≤ 100 ∧ d.shown.length ≤ sizeLine := by
  refine ⟨h.sh, Nat.le_trans h.dep (by omega), Nat.le_trans (shown_le13 ?_ h.ish) (by rw [sizeLine_eq]; decide)⟩
  unfold PyData.layable0
  rw [Bool.and_eq_true, Bool.and_eq_true, decide_eq_true_eq, decide_eq_true_eq]
  exact ⟨⟨h.lay, Nat.le_trans h.dep hk⟩, Nat.le_trans h.wt hm⟩
theorem Sm.mono {d : PyData} {k m k' m' : Nat} (h : Sm d k m) (hk : k ≤ k') (hm : m ≤ m') : Sm d k' m' := ⟨h.lay, Nat.le_trans h.dep hk, Nat.le_trans h.wt hm, h.ish, h.sh⟩
theorem sm_none : Sm .none 0 0 := ⟨rfl, Nat.le_refl 0, Nat.le_refl 0, rfl, rfl⟩
theorem sm_bool (b : Bool) : Sm (.bool b) 0 0 := ⟨rfl, Nat.le_refl 0, Nat.le_refl 0, rfl, rfl⟩
theorem sm_int {i : Int} (h : i.natAbs ≤ 1000) : Sm (.int i) 0 20 := by
  have hl : i.natAbs.log2 ≤ 10 := by
    by_cases z : i.natAbs = 0
    · rw [z]; decide
    · have : i.natAbs.log2 < 11 := (Nat.log2_lt z).mpr (by omega)
      omega
  refine ⟨rfl, Nat.le_refl 0, ?_, ?_, ?_⟩
  · unfold PyData.weight
    split
    · omega
    · omega
  · exact intsShort_of_noneOrIn (lo := -2000) (hi := 2000) (by decide) (by decide) (.int i) (by simp [noneOrIn]; omega)
  · unfold PyData.showable
    rw [decide_eq_true_eq]
    omega
theorem sm_str {z : Str} (g : Good z) (h : z.length ≤ 6) : Sm (.str z) 0 6 := by
  refine ⟨?_, Nat.le_refl 0, h, rfl, rfl⟩
  unfold PyData.canLay0
  unfold PyData.strOk
  rw [Array.all_eq_true_iff_forall_mem]
  intro c hc
  exact decide_eq_true (g c (Array.mem_toList_iff.mpr hc))
theorem sm_all {k m : Nat} : ∀ {ds : List PyData}, (∀ d ∈ ds, Sm d k m) → PyData.canLayAll0 ds = true ∧ PyData.depthAll ds ≤ k ∧ PyData.weightAll ds ≤ ds.length * (m + 1) ∧ PyData.intsShortAll 13 ds = true ∧ PyData.showableAll ds = true
  | [], _ => ⟨rfl, Nat.zero_le _, Nat.zero_le _, rfl, rfl⟩
  | d :: r, h => by
    obtain ⟨a1, a2, a3, a4, a5⟩ := sm_all (ds := r) fun x hx => h x (List.mem_cons_of_mem _ hx)
    have b := h d List.mem_cons_self
    refine ⟨?_, ?_, ?_, ?_, ?_⟩
    · unfold PyData.canLayAll0; rw [b.lay, a1]; rfl
    · unfold PyData.depthAll; exact Nat.max_le.mpr ⟨b.dep, a2⟩
    · unfold PyData.weightAll
      have := b.wt
      rw [List.length_cons, Nat.succ_mul]
      omega
    · unfold PyData.intsShortAll; rw [b.ish, a4]; rfl
    · unfold PyData.showableAll; rw [b.sh, a5]; rfl
theorem sm_list {k m : Nat} {ds : List PyData} (h : ∀ d ∈ ds, Sm d k m) : Sm (.list ds) (k + 1) (ds.length * (m + 1)) := by
  obtain ⟨a1, a2, a3, a4, a5⟩ := sm_all h
  exact ⟨by unfold PyData.canLay0; exact a1, by unfold PyData.depth; omega, by unfold PyData.weight; exact a3, by unfold PyData.intsShort; exact a4, by unfold PyData.showable; exact a5⟩
theorem sm_tuple {k m : Nat} {ds : List PyData} (h : ∀ d ∈ ds, Sm d k m) : Sm (.tuple ds) (k + 1) (ds.length * (m + 1)) := by
  obtain ⟨a1, a2, a3, a4, a5⟩ := sm_all h
  exact ⟨by unfold PyData.canLay0; exact a1, by unfold PyData.depth; omega, by unfold PyData.weight; exact a3, by unfold PyData.intsShort; exact a4, by unfold PyData.showable; exact a5⟩
theorem sm_dP {p : Str × Int} (g : Good p.1) (h : p.1.length ≤ 6) (hr : p.2.natAbs ≤ 1000) : Sm (dP p) 1 42 :=
  sm_tuple (k := 0) (m := 20) (ds := [.str p.1, .int p.2]) fun d hd => by
    simp only [List.mem_cons, List.not_mem_nil, or_false] at hd
    rcases hd with rfl | rfl
    · exact (sm_str g h).mono (Nat.le_refl 0) (by decide)
    · exact sm_int hr
theorem sm_names {a b : Str} (ha : NameOk a) (hb : NameOk b) : Sm (.tuple [.str a, .str b]) 1 14 :=
  sm_tuple (k := 0) (m := 6) (ds := [.str a, .str b]) fun d hd => by
    simp only [List.mem_cons, List.not_mem_nil, or_false] at hd
    rcases hd with rfl | rfl
    · exact sm_str ha.good ha.2.1
    · exact sm_str hb.good hb.2.1
end My

set_option maxRecDepth 100000
set_option maxHeartbeats 400000
/-! the numbers from a to b - 1, as values and as data -/
namespace My
open PySem PySem.Spec PyProof.Rows L2 GxR Gd TL
theorem rgV_snoc {f i : Int} (h : f ≤ i) : rgV f (i + 1) = rgV f i ++ [.int i] := by
  unfold rgV
  rw [show (i + 1 - f).toNat = (i - f).toNat + 1 by omega, List.range_succ, List.map_append]
  congr 1
  show [V.int (f + ((i - f).toNat : Nat))] = _
  rw [show f + ((i - f).toNat : Int) = i by omega]
theorem rgV_nil {f l : Int} (h : l ≤ f) : rgV f l = [] := by
  unfold rgV
  rw [show (l - f).toNat = 0 by omega]
  rfl
/-- how far a row has come that takes just the numbers from f to l - 1 -/
def upTo (f l : Int) (i : Nat) : Int := min l (max f (i : Int))
theorem upTo_in {f l : Int} {i : Nat} (h1 : f ≤ (i : Int)) (h2 : (i : Int) < l) : rgV f (upTo f l (i + 1)) = rgV f (upTo f l i) ++ [.int (i : Nat)] := by
  have e1 : upTo f l (i + 1) = (i : Int) + 1 := by unfold upTo; push_cast; omega
  have e2 : upTo f l i = (i : Int) := by unfold upTo; omega
  rw [e1, e2]
  exact rgV_snoc h1
theorem upTo_out {f l : Int} {i : Nat} (h : ¬ (f ≤ (i : Int) ∧ (i : Int) < l)) : upTo f l (i + 1) = upTo f l i := by
  unfold upTo
  push_cast
  omega
theorem upTo_all {f l : Int} {n : Nat} (h1 : f ≤ l) (h2 : l ≤ (n : Int)) : upTo f l n = l := by unfold upTo; omega
theorem upTo_0 {f l : Int} (h1 : 0 ≤ f) : rgV f (upTo f l 0) = [] := rgV_nil (by unfold upTo; omega)
def rgD (a b : Int) : List PyData := (List.range (b - a).toNat).map fun i => PyData.int (a + (i : Nat))
theorem rg_dp {K : PySem.W.Frag} {H : Hp} (a b : Int) : DpAll K H (rgV a b) (rgD a b) := by
  unfold rgV rgD
  generalize List.range (b - a).toNat = r
  induction r with
  | nil => exact .nil
  | cons i r ih => exact .cons (.int _) ih
theorem rg_sm {a b : Int} (h0 : 0 ≤ a) (h1 : b ≤ 1000) : Sm (.list (rgD a b)) 1 ((rgD a b).length * 21) := sm_list (k := 0) (m := 20) fun d hd => by
  unfold rgD at hd
  obtain ⟨i, hi, rfl⟩ := List.mem_map.mp hd
  have := List.mem_range.mp hi
  exact sm_int (by omega)
theorem rgD_len (a b : Int) : (rgD a b).length = (b - a).toNat := by unfold rgD; rw [List.length_map, List.length_range]
theorem rgV_len (a b : Int) : (rgV a b).length = (b - a).toNat := by unfold rgV; rw [List.length_map, List.length_range]
end My

set_option maxRecDepth 100000
set_option maxHeartbeats 400000
namespace D3
open PySem PySem.Spec PyProof.Rows L2 GxR Gd TL My
/-! ### several tables -/
def Tabs (T : List Addr) (H : Hp) : Prop := ∀ p ∈ T, TabG H p
/-- H' is H with more, but for the tables -/
structure KM (T : List Addr) (H H' : Hp) : Prop where
  keep : ∀ c o, c ∉ T → H c = some o → H' c = some o
  tab : Tabs T H'
theorem KM.refl {T : List Addr} {H : Hp} (t : Tabs T H) : KM T H H := ⟨fun _ _ _ h => h, t⟩
theorem KM.trans {T : List Addr} {H H1 H2 : Hp} (a : KM T H H1) (b : KM T H1 H2) : KM T H H2 := ⟨fun c o n h => b.keep c o n (a.keep c o n h), b.tab⟩
theorem tabs_same {T : List Addr} {H H' : Hp} (t : Tabs T H) (s : Same H H') : Tabs T H' := fun p hp => by
  obtain ⟨ps, e, q⟩ := t p hp
  exact ⟨ps, s _ _ e, q⟩
theorem KM.same {T : List Addr} {H H' : Hp} (t : Tabs T H) (s : Same H H') : KM T H H' := ⟨fun c o _ h => s c o h, tabs_same t s⟩
theorem KM.kt {T : List Addr} {p : Addr} {H H' : Hp} (t : Tabs T H) (hp : p ∈ T) (k : KT p H H') : KM T H H' := by
  refine ⟨fun c o n h => k.keep c o (fun e => n (e ▸ hp)) h, fun q hq => ?_⟩
  by_cases e : q = p
  · rw [e]; exact k.tab
  · obtain ⟨ps, e1, r⟩ := t q hq
    exact ⟨ps, k.keep _ _ e e1, r⟩
theorem KM.tabbed {T : List Addr} {p : Addr} {H H' : Hp} (t : Tabs T H) (hp : p ∈ T) (k : Tabbed p H H') : KM T H H' := KM.kt t hp (KT.of k)
theorem tabs_ne {T : List Addr} {H : Hp} {c : Addr} {o : HO} (t : Tabs T H) (h : H c = some o) (n : ∀ ps, o ≠ .tbl ps) : c ∉ T := fun hm => by
  obtain ⟨ps, e, _⟩ := t c hm
  rw [h] at e
  exact n ps (Option.some.inj e)
theorem KM.nt {T : List Addr} {H H' : Hp} (t : Tabs T H) (k : KM T H H') : Nt H H' := fun c o n h => k.keep c o (tabs_ne t h n) h
theorem KM.alloc {T : List Addr} {H : Hp} {a : Addr} {o : HO} (t : Tabs T H) (h : H a = none) : KM T H (upd H a o) := KM.same t (same_alloc h)
theorem KM.put {T : List Addr} {L : Addr} {H H' : Hp} {o : HO} (t : Tabs T H) (k : KM T H H') (n : H L = none) : KM T H (upd H' L o) := by
  have nL : L ∉ T := fun hm => by
    obtain ⟨ps, e, _⟩ := t L hm
    rw [n] at e; cases e
  refine ⟨fun c u q h => ?_, fun p hp => ?_⟩
  · rw [upd_ne (fun e => by rw [e, n] at h; cases h)]
    exact k.keep c u q h
  · obtain ⟨ps, e, r⟩ := k.tab p hp
    exact ⟨ps, by rw [upd_ne (fun z : p = L => nL (by rw [← z]; exact hp))]; exact e, r⟩
theorem KM.none {T : List Addr} {H H' : Hp} {c : Addr} (k : KM T H H') (hc : c ∉ T) (h : H' c = none) : H c = none := by
  cases e : H c with
  | none => rfl
  | some o => rw [k.keep c o hc e] at h; cases h
theorem KM.lst {T : List Addr} {H H' : Hp} {c : Addr} {xs : List V} (t : Tabs T H) (k : KM T H H') (h : H c = some (.lst xs)) : H' c = some (.lst xs) := KM.nt t k _ _ (by simp) h
/-! ### the parts of a deed -/
inductive Pa
  | s (z : Str) | n (i : Int)
def Pa.v : Pa → V
  | .s z => .str z
  | .n i => .int i
def Pa.t : Pa → Str
  | .s z => z
  | .n i => Str.ofString (toString i)
def Pa.d : Pa → PyData
  | .s z => .str z
  | .n i => .int i
def things : List Str := [Str.ofString "staff", Str.ofString "ticket", Str.ofString "pilot", Str.ofString "long"]
def kinds : List Str := [Str.ofString "through", Str.ofString "lock", Str.ofString "open"]
inductive So
  | name | number | thing | kind
def So.w : So → Str
  | .name => Str.ofString "NAME"
  | .number => Str.ofString "NUMBER"
  | .thing => Str.ofString "THING"
  | .kind => Str.ofString "KIND"
def So.ok : So → Pa → Prop
  | .name, .s z => NameOk z
  | .number, .n i => 0 ≤ i ∧ i ≤ 999999
  | .thing, .s z => z ∈ things
  | .kind, .s z => z ∈ kinds
  | _, _ => False
/-- a form: its words, literal or of a sort -/
inductive Fw
  | lit (z : Str) | so (x : So)
def Fw.w : Fw → Str
  | .lit z => z
  | .so x => x.w
inductive Fit : List Fw → List Pa → Prop
  | nil : Fit [] []
  | lit {z : Str} {f : List Fw} {ps : List Pa} : Fit f ps → Fit (.lit z :: f) ps
  | so {x : So} {f : List Fw} {p : Pa} {ps : List Pa} : x.ok p → Fit f ps → Fit (.so x :: f) (p :: ps)
/-- the words of a row -/
def row : List Fw → List Pa → List Str
  | [], _ => []
  | .lit z :: f, ps => z :: row f ps
  | .so _ :: f, p :: ps => p.t :: row f ps
  | .so _ :: _, [] => []
def sorts : List Fw → List So
  | [] => []
  | .lit _ :: f => sorts f
  | .so x :: f => x :: sorts f
theorem fit_len {f : List Fw} {ps : List Pa} (h : Fit f ps) : (sorts f).length = ps.length := by
  induction h with
  | nil => rfl
  | lit _ ih => exact ih
  | so _ _ ih => show (_ :: _).length = (_ :: _).length; rw [List.length_cons, List.length_cons, ih]
theorem fit_at {f : List Fw} {ps : List Pa} (h : Fit f ps) : ∀ {i : Nat} {x : So}, (sorts f)[i]? = some x → ∃ p, ps[i]? = some p ∧ x.ok p := by
  induction h with
  | nil => intro i x e; simp [sorts] at e
  | lit _ ih => intro i x e; exact ih e
  | @so x f p ps hx _ ih =>
    intro i y e
    cases i with
    | zero =>
      have e : x = y := by simpa [sorts] using e
      exact ⟨p, rfl, e ▸ hx⟩
    | succ i =>
      obtain ⟨q, h1, h2⟩ := ih (i := i) (x := y) (by simpa [sorts] using e)
      exact (⟨q, by simpa using h1, h2⟩)
theorem row_len {f : List Fw} {ps : List Pa} (h : Fit f ps) : (row f ps).length = f.length := by
  induction h with
  | nil => rfl
  | lit _ ih => show (_ :: _).length = _; rw [List.length_cons, ih]; rfl
  | so _ _ ih => show (_ :: _).length = _; rw [List.length_cons, ih]; rfl
/-- the forms -/
def L (z : String) : Fw := .lit (Str.ofString z)
def forms : List (String × String × List Fw) :=
  [("leave", "leave NAME to NAME by THING", [L "leave", .so .name, L "to", .so .name, L "by", .so .thing]), ("come", "come NAME", [L "come", .so .name]), ("lock", "lock NAME NUMBER for NAME", [L "lock", .so .name, .so .number, L "for", .so .name]),
   ("pilot", "pilot NAME NUMBER", [L "pilot", .so .name, .so .number]), ("unlock", "unlock NAME NUMBER", [L "unlock", .so .name, .so .number]), ("give", "give NAME NUMBER", [L "give", .so .name, .so .number]), ("take", "take NAME NUMBER", [L "take", .so .name, .so .number]),
   ("box", "box NAME NUMBER", [L "box", .so .name, .so .number]), ("walk", "walk NAME to NAME", [L "walk", .so .name, L "to", .so .name]), ("help", "help NAME NAME", [L "help", .so .name, .so .name]), ("bring", "bring NAME to NAME", [L "bring", .so .name, L "to", .so .name]),
   ("again", "again NAME KIND NUMBER", [L "again", .so .name, .so .kind, .so .number]), ("get", "get NUMBER", [L "get", .so .number]), ("lose", "lose NUMBER", [L "lose", .so .number])]
/-- the literal words of the forms -/
def lits : List Str := ["leave", "to", "by", "come", "lock", "for", "pilot", "unlock", "give", "take", "box", "walk", "help", "bring", "again", "get", "lose"].map Str.ofString
theorem form_split : ∀ f ∈ forms, PySem.Txt.split (Str.ofString f.2.1) (Str.ofString " ") = f.2.2.map Fw.w := by decide +kernel
end D3

set_option maxRecDepth 100000
set_option maxHeartbeats 400000
namespace D3
open PySem PySem.Spec PyProof.Rows L2 GxR Gd TL My
/-- a global tuple of texts -/
def Cst (K : PySem.W.Frag) (a : Addr) (zs : List Str) : Prop := (∀ H : Hp, SqT K H a (zs.map V.str)) ∧ ∃ o, K.lookup a = some o ∧ o.cls = .type "tuple" ∧ o.dict = none
/-- a call of a local name that holds one of several defs -/
def tCallJ {J : Type} (i : Nat) (f : J → Addr) (sp : J → Sp) (t : TA) : TE := fun σ H Q => ∃ j, σ[i]? = some (some (.ref (f j))) ∧ t σ H fun vs H1 => sp j vs H1 Q (fun _ _ _ => False)
theorem pe_callJ {J : Type} {X : Cx} {k i : Nat} {x : Str} {p pos : Pos} {e : Expr} {es : List Expr} {t : TA} {f : J → Addr} {sp : J → Sp} (A : ∀ j, Held X.prog X.w X.K X.mg X.base k (f j) (sp j)) (hr : Room k X.A) (hN : X.N[i]? = some x) (hv : Vis X.env.scope x) (ha : PA X (e :: es) t)
    (hdb : (x == ("__debug__" : Str)) = false := by decide) (hcd : (x == ("__classdict__" : Str)) = false := by decide)
    (he : starEach (e :: es) X.env = (false, eval e X.env) :: starEach es X.env := by rfl) (hpl : (backTo pos (starEach es X.env)).any (·.1) = false := by rfl) : PE X (.Call (.Name x p) (e :: es) [] pos) (tCallJ i f sp t) := by
  refine ⟨fun pins s σ H Q I h => ?_⟩
  obtain ⟨j, hs, ht⟩ := h
  refine (pe_callA (S := fun g => if g = f j then some (sp j) else none) (fun g sp' h => ?_) hr hN hv ha hdb hcd he hpl).run pins s σ H Q I ⟨f j, sp j, hs, if_pos rfl, ht⟩
  by_cases e : g = f j
  · subst e
    rw [if_pos rfl] at h
    obtain rfl := Option.some.inj h
    exact A j
  · rw [if_neg e] at h
    cases h
theorem pa_th {H : Hp} {x : So} {p : Pa} (h : x.ok p) : Th H p.v := by
  cases x <;> cases p <;> try exact False.elim h
  · rename_i z
    have h : NameOk z := h
    exact .str z (by have := h.2.1; omega) h.good
  · exact .int _
  · rename_i z
    have h : z ∈ things := h
    simp only [things, List.mem_cons, List.not_mem_nil, or_false] at h
    rcases h with rfl | rfl | rfl | rfl <;> exact .str _ (by decide) (good_of _)
  · rename_i z
    have h : z ∈ kinds := h
    simp only [kinds, List.mem_cons, List.not_mem_nil, or_false] at h
    rcases h with rfl | rfl | rfl <;> exact .str _ (by decide) (good_of _)
section
variable {P : Program} {w : World} {K : PySem.W.Frag} {mg : Str → Option Value} {base : Heap} {P1 P2 P3 aSORTS aTHINGS aKINDS aFORMS : Addr} {tM : Tok}
abbrev s_is_name : Stmt := top 12
theorem sc_is_name : FnScope ["thing"] ["thing"] (defScope s_is_name) := ⟨rfl, rfl, rfl, by decide +kernel, rfl, by decide +kernel, by decide +kernel⟩
abbrev s_is_number : Stmt := top 13
theorem sc_is_number : FnScope ["thing"] ["thing"] (defScope s_is_number) := ⟨rfl, rfl, rfl, by decide +kernel, rfl, by decide +kernel, by decide +kernel⟩
abbrev s_is_thing : Stmt := top 15
theorem sc_is_thing : FnScope ["thing"] ["thing"] (defScope s_is_thing) := ⟨rfl, rfl, rfl, by decide +kernel, rfl, by decide +kernel, by decide +kernel⟩
abbrev s_is_kind : Stmt := top 16
theorem sc_is_kind : FnScope ["thing"] ["thing"] (defScope s_is_kind) := ⟨rfl, rfl, rfl, by decide +kernel, rfl, by decide +kernel, by decide +kernel⟩
abbrev s_is_of : Stmt := top 19
theorem sc_is_of : FnScope ["sort", "part", "check"] ["sort", "part"] (defScope s_is_of) := ⟨rfl, rfl, rfl, by decide +kernel, rfl, by decide +kernel, by decide +kernel⟩
def spChk (T : List Addr) (x : So) : Sp := fun vs H Q _ => ∃ (p : Pa), vs = [p.v] ∧ x.ok p ∧ Tabs T H ∧ ∀ H', KM T H H' → Q (.bl true) H'
theorem ok_chk_name {T : List Addr} {f f1 : Addr} {fd fd1 : FuncData} (hp : P1 ∈ T) (F : Fun K "_is_name" "_is_name" s_is_name f fd)
    (Nis_name : Fn K mg "is_name" sName ["thing"] f1 fd1) (Gis_name : FnOk P w K mg base CX0 2 f1 fd1 ["thing"] (spName P1)) : FnOk P w K mg base CX0 3 f fd ["thing"] (spChk T .name) := by
  refine F.ok sc_is_name (fun vs H Q E h => ?_) (fun cdv A outer s H vs Q E hr h => ?_)
  · obtain ⟨p, rfl, _⟩ := h
    rfl
  · obtain ⟨p, rfl, hx, tb, k⟩ := h
    refine ⟨_, pss_one (ps_ret (pe_call Gis_name (hr.mono (by decide)) (by rfl) Nis_name.g Nis_name.kp Nis_name.b .nil pass0 (pa_cons (pv 0) pa_nil))), ?_⟩
    refine ⟨_, rfl, p.v, rfl, pa_th hx, tb P1 hp, fun H' kt => ?_⟩
    have e : nm p.v = true := by
      cases p with
      | s z => exact NameOk.nm hx
      | n i => exact False.elim hx
    rw [e]
    exact k H' (KM.kt tb hp kt)
theorem ok_chk_number {T : List Addr} {f f1 : Addr} {fd fd1 : FuncData} (F : Fun K "_is_number" "_is_number" s_is_number f fd) (gMOST : mg "MOST_NUMBER" = some (.int 999999 tM))
    (Nis_whole : Fn K mg "is_whole" sWhole ["thing", "low", "high"] f1 fd1) (Gis_whole : FnOk P w K mg base CX0 1 f1 fd1 ["thing", "low", "high"] spWhole) : FnOk P w K mg base CX0 3 f fd ["thing"] (spChk T .number) := by
  refine F.ok sc_is_number (fun vs H Q E h => ?_) (fun cdv A outer s H vs Q E hr h => ?_)
  · obtain ⟨p, rfl, _⟩ := h
    rfl
  · obtain ⟨p, rfl, hx, tb, k⟩ := h
    refine ⟨_, pss_one (ps_ret (pe_call Gis_whole (hr.mono (by decide)) (by rfl) Nis_whole.g Nis_whole.kp Nis_whole.b .nil pass0 (pa_cons (pv 0) (pa_cons pe_int (pa_cons (pe_glob (v := .int 999999) (by rfl) gMOST ⟨_, rfl⟩) pa_nil))))), ?_⟩
    refine ⟨_, rfl, p.v, 0, 999999, rfl, pa_th hx, ?_⟩
    have e : wh 0 999999 p.v = true := by
      cases p with
      | s z => exact False.elim hx
      | n i =>
        have hx : 0 ≤ i ∧ i ≤ 999999 := hx
        show wh 0 999999 (.int i) = true
        simp [wh, hx.1, hx.2]
    rw [e]
    exact k H (KM.refl tb)
theorem ok_chk_thing {T : List Addr} {f : Addr} {fd : FuncData} (F : Fun K "_is_thing" "_is_thing" s_is_thing f fd) (gTHINGS : mg "THINGS" = some (.ref aTHINGS)) (cTHINGS : Cst K aTHINGS things) : FnOk P w K mg base CX0 3 f fd ["thing"] (spChk T .thing) := by
  refine F.ok sc_is_thing (fun vs H Q E h => ?_) (fun cdv A outer s H vs Q E hr h => ?_)
  · obtain ⟨p, rfl, _⟩ := h
    rfl
  · obtain ⟨p, rfl, hx, tb, k⟩ := h
    refine ⟨_, pss_one (ps_ret (pe_cmpR op_in_seq (pv 0) (pe_glob (v := .ref aTHINGS) (by rfl) gTHINGS rfl) rfl)), ?_⟩
    cases p with
    | n i => exact False.elim hx
    | s z =>
      refine ⟨_, rfl, aTHINGS, _, rfl, .inr (cTHINGS.1 H), rfl, strs_flat _, ?_⟩
      rw [if_neg Bool.false_ne_true]
      show Q (.bl (inV (.str z) (things.map V.str))) H
      rw [in_strs, decide_eq_true (show z ∈ things from hx)]
      exact k H (KM.refl tb)
theorem ok_chk_kind {T : List Addr} {f : Addr} {fd : FuncData} (F : Fun K "_is_kind" "_is_kind" s_is_kind f fd) (gKINDS : mg "KINDS" = some (.ref aKINDS)) (cKINDS : Cst K aKINDS kinds) : FnOk P w K mg base CX0 3 f fd ["thing"] (spChk T .kind) := by
  refine F.ok sc_is_kind (fun vs H Q E h => ?_) (fun cdv A outer s H vs Q E hr h => ?_)
  · obtain ⟨p, rfl, _⟩ := h
    rfl
  · obtain ⟨p, rfl, hx, tb, k⟩ := h
    refine ⟨_, pss_one (ps_ret (pe_cmpR op_in_seq (pv 0) (pe_glob (v := .ref aKINDS) (by rfl) gKINDS rfl) rfl)), ?_⟩
    cases p with
    | n i => exact False.elim hx
    | s z =>
      refine ⟨_, rfl, aKINDS, _, rfl, .inr (cKINDS.1 H), rfl, strs_flat _, ?_⟩
      rw [if_neg Bool.false_ne_true]
      show Q (.bl (inV (.str z) (kinds.map V.str))) H
      rw [in_strs, decide_eq_true (show z ∈ kinds from hx)]
      exact k H (KM.refl tb)
/-- _is_of(sort, part) -/
def spOf (T : List Addr) : Sp := fun vs H Q _ => ∃ (x : So) (p : Pa), vs = [.str x.w, p.v] ∧ x.ok p ∧ Tabs T H ∧ ∀ H', KM T H H' → Q (.bl true) H'
theorem ok_is_of {T : List Addr} {f : Addr} {fd : FuncData} {fs : So → Addr} (F : Fun K "_is_of" "_is_of" s_is_of f fd) (gSORTS : mg "SORTS" = some (.ref aSORTS)) (cSORTS : ∀ x : So, KDct K w aSORTS x.w (.ref (fs x)))
    (HA : ∀ x, Held P w K mg base 3 (fs x) (spChk T x)) : FnOk P w K mg base CX0 4 f fd ["sort", "part"] (spOf T) := by
  refine F.ok sc_is_of (fun vs H Q E h => ?_) (fun cdv A outer s H vs Q E hr h => ?_)
  · obtain ⟨x, p, rfl, _⟩ := h
    rfl
  · obtain ⟨x, p, rfl, hx, tb, k⟩ := h
    refine ⟨_, pss_cons (ps_set (i := 2) sc_is_of.nd rfl (Or.inl rfl) (pe_ix ix_kdict (pe_glob (v := .ref aSORTS) (by rfl) gSORTS rfl) (pv 0) (fun _ _ => rfl)))
      (pss_one (ps_ret (pe_callJ HA (hr.mono (by decide)) (i := 2) rfl (.inl rfl) (pa_cons (pv 1) pa_nil)))), ?_⟩
    refine ⟨_, rfl, aSORTS, x.w, _, rfl, rfl, cSORTS x, ?_⟩
    exact ⟨x, rfl, _, rfl, p, rfl, hx, tb, k⟩
end
end D3

set_option maxRecDepth 100000
set_option maxHeartbeats 400000
/-! GxW: all(..) over what is walked in a told number of turns. -/
namespace My
open PySem PySem.Spec PyProof.Rows L2
theorem gx_it {J : It} {n : Nat} {G : Hp → Prop} {Y : Nat → Hp → V → Hp → Prop} (w : Walk J n G Y) {g : TG} {te : TE} {vs : List Nat} {σ : L2.St} {QF : Bool → Hp → Prop} {H : Hp} (Pv : Nat → Hp → Prop) (h0 : Pv 0 H) (hG : ∀ i H, i ≤ n → Pv i H → G H)
    (hs : ∀ i x H H', i < n → Pv i H → Y i H x H' → g x σ H' fun σ2 H2 => wipe σ2 vs = σ ∧ te σ2 H2 fun y H3 => ∃ b : Bool, y = .bl b ∧ (b = true → Pv (i + 1) H3) ∧ (b = false → QF false H3)) (hd : ∀ H, Pv n H → QF true H) :
    ∃ W : Nat → Nat → Hp → Prop, (∃ m, W 0 m H) ∧ GxT J g te vs σ QF W := by
  refine (⟨fun i m H => m = n - i ∧ i ≤ n ∧ Pv i H, ⟨n, by simp, Nat.zero_le _, h0⟩, ?_⟩)
  rintro i m H ⟨rfl, hi, p⟩
  have q := hG i H hi p
  by_cases hlt : i < n
  · exact .inr ⟨w.goes i H hlt q, Pv (i + 1), fun H' p' => ⟨n - (i + 1), by omega, rfl, hlt, p'⟩, fun x H' y => hs i x H H' hlt p (w.yields i H x H' hlt q y)⟩
  · obtain rfl : i = n := by omega
    exact (.inl ⟨w.stops H q, hd H p⟩)
theorem walk_zipM {K : PySem.W.Frag} {a b : Addr} {xs ys : List V} (hn : xs.length = ys.length) : Walk (ItzM K a b) xs.length (fun H => SqL K H a xs ∧ SqT K H b ys) (YPair (fun i => xs[i]?) (fun i => ys[i]?)) := by
  refine ⟨fun i H hi q => ?_, fun H q => ⟨xs, ys, q.1, q.2, rfl, hn.symm⟩, fun i H v H' _ q y => ?_⟩
  · exact ⟨xs, ys, xs[i], ys[i]'(hn ▸ hi), q.1, q.2, by simp [hi], List.getElem?_eq_getElem _⟩
  · obtain ⟨T, x, z, h1, h2, h3, h4, h5⟩ := (y)
    exact (⟨T, x, z, h1, h2, h3, h4 xs q.1, h5 ys q.2⟩)
end My

set_option maxRecDepth 100000
set_option maxHeartbeats 800000
namespace D3
open PySem PySem.Spec PyProof.Rows L2 GxR Gd TL My
theorem ixL {X : Cx} {K : PySem.W.Frag} (h : X.K = K) : IxR X (rIxL K) := h ▸ ix_list
theorem inKD {X : Cx} {K : PySem.W.Frag} {w : World} {d : Addr} {es : Array DictEntry} {n : Nat} (hK : X.K = K) (hw : X.w = w) (D : KDict K w d es n) :
    OpR X (compareOp .In) (fun x y H Q => ∃ (z : Str) (r : Option Value), x = .str z ∧ y = .ref d ∧ PySem.W.nsIn K d z = some r ∧ Q (.bl r.isSome) H) := by
  subst hK hw
  exact op_in_kd D
theorem notInKD {X : Cx} {K : PySem.W.Frag} {w : World} {d : Addr} {es : Array DictEntry} {n : Nat} (hK : X.K = K) (hw : X.w = w) (D : KDict K w d es n) :
    OpR X (compareOp .NotIn) (fun x y H Q => ∃ (z : Str) (r : Option Value), x = .str z ∧ y = .ref d ∧ PySem.W.nsIn K d z = some r ∧ Q (.bl (!r.isSome)) H) := by
  subst hK hw
  exact op_notIn_kd D
/-- the sorts' dict -/
structure SoD (K : PySem.W.Frag) (w : World) (a : Addr) (fs : So → Addr) (es : Array DictEntry) (n : Nat) : Prop where
  d : KDict K w a es n
  no : ∀ z ∈ lits, PySem.W.nsIn K a z = some none
  yes : ∀ x : So, PySem.W.nsIn K a x.w = some (some (.ref (fs x)))
theorem SoD.item {K : PySem.W.Frag} {w : World} {a : Addr} {fs : So → Addr} {es : Array DictEntry} {n : Nat} (S : SoD K w a fs es n) (x : So) : KDct K w a x.w (.ref (fs x)) := ⟨es, n, _, S.d.at_, S.d.lit, S.yes x, rfl⟩
/-- a word of a form -/
def InF (f : Fw) : Prop := match f with
  | .lit z => z ∈ lits
  | .so _ => True
theorem forms_in : ∀ f ∈ forms, ∀ x ∈ f.2.2, InF x := by
  have key : ∀ f ∈ forms, ∀ x ∈ f.2.2, (match x with | Fw.lit z => decide (z ∈ lits) | .so _ => true) = true := by decide +kernel
  intro f hf x hx
  have := key f hf x hx
  cases x with
  | lit z =>
    show z ∈ lits
    exact of_decide_eq_true this
  | so y => trivial
/-- where a word of a form stands in the dict -/
theorem SoD.at {K : PySem.W.Frag} {w : World} {a : Addr} {fs : So → Addr} {es : Array DictEntry} {n : Nat} (S : SoD K w a fs es n) {x : Fw} (h : InF x) : ∃ r, PySem.W.nsIn K a x.w = some r ∧ r.isSome = (match x with | .so _ => true | .lit _ => false) := by
  cases x with
  | lit z => exact ⟨_, S.no z h, rfl⟩
  | so y => exact ⟨_, S.yes y, rfl⟩
theorem same_nt {H H' : Hp} (s : Same H H') : Nt H H' := fun c o _ h => s c o h
theorem sorts_snoc : ∀ (f : List Fw) (x : Fw), sorts (f ++ [x]) = sorts f ++ (match x with | .so y => [y] | .lit _ => [])
  | [], .lit _ => rfl
  | [], .so _ => rfl
  | .lit _ :: f, x => sorts_snoc f x
  | .so y :: f, x => by
    show y :: sorts (f ++ [x]) = y :: (sorts f ++ _)
    rw [sorts_snoc f x]
theorem sorts_le : ∀ f : List Fw, (sorts f).length ≤ f.length
  | [] => Nat.le_refl 0
  | .lit _ :: f => Nat.le_succ_of_le (sorts_le f)
  | .so _ :: f => Nat.succ_le_succ (sorts_le f)
theorem forms_len : ∀ f ∈ forms, f.2.2.length ≤ 6 := by decide +kernel
theorem forms_short : ∀ f ∈ forms, (Str.ofString f.2.1).length ≤ 40 := by decide +kernel
section
variable {P : Program} {w : World} {K : PySem.W.Frag} {mg : Str → Option Value} {base : Heap} {P1 P2 P3 aSORTS aFORMS : Addr} {fs : So → Addr} {es : Array DictEntry} {nS : Nat}
abbrev s_fits : Stmt := top 18
theorem sc_fits : FnScope ["form", "parts", "sorts", "word", "sort", "part"] ["form", "parts"] (defScope s_fits) := ⟨rfl, rfl, rfl, by decide +kernel, rfl, by decide +kernel, by decide +kernel⟩
def spFits (K : PySem.W.Frag) (T : List Addr) : Sp := fun vs H Q _ => ∃ (fm : String × String × List Fw) (b : Addr) (ps : List Pa), vs = [.str (Str.ofString fm.2.1), .ref b] ∧ fm ∈ forms ∧ Fit fm.2.2 ps ∧ (SqT K H b (ps.map Pa.v) ∨ SqL K H b (ps.map Pa.v)) ∧ Tabs T H ∧ ∀ H', KM T H H' → Q (.bl true) H'
theorem ok_fits {T0 : List Addr} {f f1 c : Addr} {fd1 : FuncData} {oc kV doc pm ct : Value} {od an : Option Addr} {osl : Array (Option Value)} (hp : P3 ∈ T0)
    (lk : K.lookup f = some ⟨oc, od, .func (PySem.W.fnOf "fits" "fits" (defArgs s_fits) (defBody s_fits) (defScope s_fits) .none kV doc pm an (.ref c) ct), osl⟩) (hcd : PySem.W.codeIn K (.ref c) "fits" = true)
    (T : Txt mg) (TB : TabB base mg c P3) (gSORTS : mg "SORTS" = some (.ref aSORTS)) (SD : SoD K w aSORTS fs es nS)
    (Nis_of : Fn K mg "_is_of" s_is_of ["sort", "part"] f1 fd1) (Gis_of : FnOk P w K mg base CX0 4 f1 fd1 ["sort", "part"] (spOf T0)) :
    FnOk P w K mg base CX0 6 f (PySem.W.fnOf "fits" "fits" (defArgs s_fits) (defBody s_fits) (defScope s_fits) .none kV doc pm an (.ref c) ct) ["form", "parts"] (spFits K T0) := by
  refine fn_of lk hcd sc_fits (fun vs H Q E h => ?_) (fun A outer s H vs Q E hr h => ?_)
  · obtain ⟨fm, b, ps, rfl, _⟩ := h
    rfl
  · obtain ⟨fm, b, ps, rfl, hfm, fit, hb, tb, k⟩ := h
    refine ⟨_, pss_cons (ps_setLc (i := 2) (own := [("word", 3)]) (g := gName 3) rfl sc_fits.nd rfl rfl (sw_true rfl rfl rfl (by decide +kernel)) (pi_list (pe_split (pv 0) pe_str)) (blkOk_by (own := [("word", 3)]) (N := ["form", "parts", "sorts", "word", "sort", "part"]) (sc := defScope s_fits) (by decide +kernel)) (fun _ _ _ _ _ => (pg_name (i := 3) sc_fits.nd rfl (Or.inl rfl))) (fun _ _ _ _ _ => pts_one (pt_cmpR (inKD rfl rfl SD.d) (pv 3) (pe_glob (v := .ref aSORTS) (by rfl) gSORTS rfl) rfl)) (fun _ _ _ _ _ => (pv 3)))
      (pss_one (ps_ret (pe_and (pe_cmpR op_eq (pe_callB call_len_seq (by rfl) T.len_ PySem.boot_len (pa_cons (pv 2) pa_nil)) (pe_callB call_len_seq (by rfl) T.len_ PySem.boot_len (pa_cons (pv 1) pa_nil)) (nomark _)) (pe_one (pe_allX (k := 4) (g := gTup K 2 (gCons (gName 4) (gCons (gName 5) gNil))) hr rfl sc_fits.nd (by rfl) T.all_ (by decide +kernel) TB rfl ⟨rfl, by decide +kernel, by decide +kernel⟩ (blkOk_by (own := [("sort", 4), ("part", 5)]) (N := ["form", "parts", "sorts", "word", "sort", "part"]) (sc := defScope s_fits) (by decide +kernel)) (pi_zipM (by rfl) T.zip_ (pa_cons (pv 2) (pa_cons (pv 1) pa_nil))) (fun _ _ _ _ _ _ _ _ => (pg_tup (by rfl) (pgs_cons (pg_name (i := 4) sc_fits.nd rfl (Or.inl rfl)) (pgs_cons (pg_name (i := 5) sc_fits.nd rfl (Or.inl rfl)) pgs_nil)))) (fun _ _ _ _ _ _ _ hB => (pe_call Gis_of hB (by rfl) Nis_of.g Nis_of.kp Nis_of.b .nil pass0 (pa_cons (pv 4) (pa_cons (pv 5) pa_nil)))) (fun _ => rfl)))))), ?_⟩
    have nD0 : ∀ {D : Addr}, H D = none → D ∉ T0 := fun {D} hD hm => by
      obtain ⟨ps', e, _⟩ := tb D hm
      rw [hD] at e; cases e
    have l6 := forms_len fm hfm
    refine ⟨_, rfl, ⟨_, rfl⟩, _, _, rfl, rfl, rfl, Nat.le_trans (Nat.add_le_add_right (forms_short fm hfm) 2) (by decide), fun p hp0 => ?_⟩
    rw [form_split fm hfm]
    have tb1 : Tabs T0 (upd H p (.lst ((fm.2.2.map Fw.w).map V.str))) := tabs_same tb (same_alloc hp0)
    have hb1 : SqT K (upd H p (.lst ((fm.2.2.map Fw.w).map V.str))) b (ps.map Pa.v) ∨ SqL K (upd H p (.lst ((fm.2.2.map Fw.w).map V.str))) b (ps.map Pa.v) := hb.imp (KM.nt tb (KM.alloc tb hp0)).seqT (KM.nt tb (KM.alloc tb hp0)).seq
    have k1 : ∀ H', KM T0 (upd H p (.lst ((fm.2.2.map Fw.w).map V.str))) H' → Q (.bl true) H' := fun H' km => k H' ((KM.alloc tb hp0).trans km)
    have hl : SqL K (upd H p (.lst ((fm.2.2.map Fw.w).map V.str))) p ((fm.2.2.map Fw.w).map V.str) := SqL.of upd_same
    generalize upd H p (.lst ((fm.2.2.map Fw.w).map V.str)) = H1 at tb1 hb1 k1 hl ⊢
    refine ⟨p, rfl, ⟨_, hl⟩, fun D hD => lc_it (walk_list (K := K) (xs := (fm.2.2.map Fw.w).map V.str)) (fun i H' => KB D H1 H' ∧ H' D = some (.lst ((sorts (fm.2.2.take i)).map fun x => V.str x.w))) ⟨KB.alloc hD, upd_same⟩ (fun i H' _ h => (same_nt (KB.same hD h.1)).seq hl) ?_ ?_⟩
    · rintro i v H' H'' hi ⟨kb, e⟩ ⟨rfl, hv⟩
      obtain ⟨x, hx⟩ : ∃ x, fm.2.2[i]? = some x := ⟨_, List.getElem?_eq_getElem (by simpa using hi)⟩
      have ev : v = .str x.w := by
        rw [List.getElem?_map, List.getElem?_map, hx] at hv
        exact (Option.some.inj hv).symm
      subst ev
      obtain ⟨r, er, hr2⟩ := SD.at (forms_in fm hfm x (List.mem_of_getElem? hx))
      have es := sorts_snoc (fm.2.2.take i) x
      rw [← take_at hx] at es
      refine ⟨rfl, _, rfl, _, r, rfl, rfl, er, _, rfl, ?_⟩
      cases x with
      | lit z =>
        rw [hr2]
        refine ⟨kb, ?_⟩
        rw [es, List.append_nil]
        exact e
      | so y =>
        rw [hr2]
        refine ⟨_, rfl, _, e, ?_, fun c o n h => by rw [upd_ne n]; exact kb c o n h, ?_⟩
        · rw [List.length_map]
          exact Nat.lt_of_le_of_lt (Nat.le_trans (sorts_le _) (Nat.le_trans (by rw [List.length_take]; omega) l6)) (by decide)
        · rw [upd_same, es, List.map_append]
          rfl
    · rintro H' ⟨kb, e⟩
      rw [List.length_map, List.length_map, List.take_of_length_le (Nat.le_refl _)] at e
      have sm := KB.same hD kb
      have tb2 := tabs_same tb1 sm
      have k2 : ∀ H2, KM T0 H' H2 → Q (.bl true) H2 := fun H2 km => k1 H2 ((KM.same tb1 sm).trans km)
      have hb2 : SqT K H' b (ps.map Pa.v) ∨ SqL K H' b (ps.map Pa.v) := hb1.imp (same_nt sm).seqT (same_nt sm).seq
      have nl : (sorts fm.2.2).length = ps.length := fit_len fit
      clear hb1 k1 kb tb1 sm hl
      refine ⟨_, rfl, D, _, rfl, .inl (SqL.of e), _, rfl, b, _, rfl, hb2.symm, ?_⟩
      have ln : ((sorts fm.2.2).map fun x => V.str x.w).length = (ps.map Pa.v).length := by rw [List.length_map, List.length_map, nl]
      refine ⟨rfl, _, rfl, ?_⟩
      rw [decide_eq_true (show V.int ↑((sorts fm.2.2).map fun x => V.str x.w).length = V.int ↑(ps.map Pa.v).length by rw [ln]), if_pos rfl]
      refine ⟨_, rfl, _, rfl, D, b, _, ps.map Pa.v, rfl, SqL.of e, ?_⟩
      rcases hb2 with hq | hq
      · refine .inl ⟨hq, tb2 P3 hp, fun H2 ht => gx_it (walk_zipM (K := K) ln) (fun i H3 => KM T0 H' H3) (KM.tabbed tb2 hp ht) (fun i H3 _ km => ⟨(KM.nt tb2 km).seq (SqL.of e), (KM.nt tb2 km).seqT hq⟩) ?_ (fun H3 km => k2 H3 km)⟩
        rintro i x H3 H4 hi km ⟨t, u, v, rfl, ht, rfl, h1, h2⟩
        obtain ⟨y, hy, rfl⟩ : ∃ y, (sorts fm.2.2)[i]? = some y ∧ u = .str y.w := by
          have h1 : ((sorts fm.2.2).map fun x => V.str x.w)[i]? = some u := h1
          rw [List.getElem?_map] at h1
          cases e9 : (sorts fm.2.2)[i]? with
          | none => rw [e9] at h1; cases h1
          | some y => rw [e9] at h1; exact ⟨y, rfl, (Option.some.inj h1).symm⟩
        obtain ⟨q, hq9, ok9⟩ := fit_at fit hy
        obtain rfl : v = q.v := by
          have h2 : (ps.map Pa.v)[i]? = some v := h2
          rw [List.getElem?_map, hq9] at h2
          exact (Option.some.inj h2).symm
        have tb4 : Tabs T0 (upd H3 t (.tup [.str y.w, q.v])) := tabs_same km.tab (same_alloc ht)
        have km4 : KM T0 H' (upd H3 t (.tup [.str y.w, q.v])) := km.trans (KM.alloc km.tab ht)
        refine ⟨t, [.str y.w, q.v], rfl, SqT.of upd_same, rfl, ?_⟩
        refine ⟨_, _, rfl, _, _, rfl, rfl, rfl, _, rfl, _, rfl, y, q, rfl, ok9, tb4, fun H5 km5 => ⟨true, rfl, fun _ => km4.trans km5, fun z => Bool.noConfusion z⟩⟩
      · refine .inr ⟨hq, tb2 P3 hp, fun H2 ht => gx_it (walk_zip (K := K) (n := ((sorts fm.2.2).map fun x => V.str x.w).length) (by rw [ln, Nat.min_self])) (fun i H3 => KM T0 H' H3) (KM.tabbed tb2 hp ht) (fun i H3 _ km => ⟨(KM.nt tb2 km).seq (SqL.of e), (KM.nt tb2 km).seq hq⟩) ?_ (fun H3 km => k2 H3 km)⟩
        rintro i x H3 H4 hi km ⟨t, u, v, rfl, ht, rfl, h1, h2⟩
        obtain ⟨y, hy, rfl⟩ : ∃ y, (sorts fm.2.2)[i]? = some y ∧ u = .str y.w := by
          have h1 : ((sorts fm.2.2).map fun x => V.str x.w)[i]? = some u := h1
          rw [List.getElem?_map] at h1
          cases e9 : (sorts fm.2.2)[i]? with
          | none => rw [e9] at h1; cases h1
          | some y => rw [e9] at h1; exact ⟨y, rfl, (Option.some.inj h1).symm⟩
        obtain ⟨q, hq9, ok9⟩ := fit_at fit hy
        obtain rfl : v = q.v := by
          have h2 : (ps.map Pa.v)[i]? = some v := h2
          rw [List.getElem?_map, hq9] at h2
          exact (Option.some.inj h2).symm
        have tb4 : Tabs T0 (upd H3 t (.tup [.str y.w, q.v])) := tabs_same km.tab (same_alloc ht)
        have km4 : KM T0 H' (upd H3 t (.tup [.str y.w, q.v])) := km.trans (KM.alloc km.tab ht)
        refine ⟨t, [.str y.w, q.v], rfl, SqT.of upd_same, rfl, ?_⟩
        refine ⟨_, _, rfl, _, _, rfl, rfl, rfl, _, rfl, _, rfl, y, q, rfl, ok9, tb4, fun H5 km5 => ⟨true, rfl, fun _ => km4.trans km5, fun z => Bool.noConfusion z⟩⟩
end
end D3

set_option maxRecDepth 100000
set_option maxHeartbeats 800000
namespace D3
open PySem PySem.Spec PyProof.Rows L2 GxR Gd TL My
/-! ### the words of a row -/
def Wok (z : Str) : Prop := 1 ≤ z.length ∧ z.length ≤ 7 ∧ (32 : Nat) ∉ tl z
theorem lits_wok : ∀ z ∈ lits, Wok z := by
  have key : ∀ z ∈ lits, (decide (1 ≤ z.length) && decide (z.length ≤ 7) && !(tl z).contains 32) = true := by decide +kernel
  intro z hz
  have k := key z hz
  simp only [Bool.and_eq_true, decide_eq_true_eq, Bool.not_eq_true', List.contains_eq_mem, decide_eq_false_iff_not] at k
  exact ⟨k.1.1, k.1.2, k.2⟩
theorem things_wok : ∀ z ∈ things, Wok z := by
  have key : ∀ z ∈ things, (decide (1 ≤ z.length) && decide (z.length ≤ 7) && !(tl z).contains 32) = true := by decide +kernel
  intro z hz
  have k := key z hz
  simp only [Bool.and_eq_true, decide_eq_true_eq, Bool.not_eq_true', List.contains_eq_mem, decide_eq_false_iff_not] at k
  exact ⟨k.1.1, k.1.2, k.2⟩
theorem kinds_wok : ∀ z ∈ kinds, Wok z := by
  have key : ∀ z ∈ kinds, (decide (1 ≤ z.length) && decide (z.length ≤ 7) && !(tl z).contains 32) = true := by decide +kernel
  intro z hz
  have k := key z hz
  simp only [Bool.and_eq_true, decide_eq_true_eq, Bool.not_eq_true', List.contains_eq_mem, decide_eq_false_iff_not] at k
  exact ⟨k.1.1, k.1.2, k.2⟩
theorem name_wok {z : Str} (h : NameOk z) : Wok z := ⟨h.1, by have := h.2.1; omega, fun hm => by
  have := List.all_eq_true.mp h.2.2 32 hm
  exact absurd this (by decide)⟩
theorem num_wok {i : Int} (h0 : 0 ≤ i) (h1 : i ≤ 999999) : Wok (Str.ofString (toString i)) ∧ (Str.ofString (toString i)).length ≤ 6 := by
  obtain ⟨n, rfl⟩ := Int.eq_ofNat_of_zero_le h0
  have l6 := numL_len (n := n) (k := 6) (by decide) (by omega)
  have e : (Str.ofString (toString ((n : Nat) : Int))).length = (numL n).length := by rw [len_tl, tl_num]
  refine ⟨⟨?_, by omega, by rw [tl_num]; exact numL_free (.inl (by decide))⟩, by omega⟩
  rw [e]
  exact List.length_pos_iff.mpr (numL_ne n)
theorem pa_wok {x : So} {p : Pa} (h : x.ok p) : Wok p.t := by
  cases x <;> cases p <;> try exact False.elim h
  · exact name_wok h
  · exact (num_wok h.1 h.2).1
  · exact things_wok _ h
  · exact kinds_wok _ h
theorem pa_log {x : So} {p : Pa} (h : x.ok p) : ∀ i, p = .n i → i.natAbs.log2 < 1920 := by
  rintro i rfl
  cases x <;> try exact False.elim h
  have h : 0 ≤ i ∧ i ≤ 999999 := h
  have : i.natAbs < 2 ^ 20 := by omega
  by_cases e : i.natAbs = 0
  · rw [e]; decide
  · have := (Nat.log2_lt e).mpr this
    omega
theorem row_wok {f : List Fw} {ps : List Pa} (h : Fit f ps) (hl : ∀ x ∈ f, InF x) : ∀ z ∈ row f ps, Wok z := by
  induction h with
  | nil => intro z hz; cases hz
  | @lit z f ps _ ih =>
    intro y hy
    rcases List.mem_cons.mp hy with rfl | hy
    · exact lits_wok _ (hl _ (List.mem_cons_self ..))
    · exact ih (fun x hx => hl x (List.mem_cons_of_mem _ hx)) y hy
  | so hx _ ih =>
    intro y hy
    rcases List.mem_cons.mp hy with rfl | hy
    · exact pa_wok hx
    · exact ih (fun x hx => hl x (List.mem_cons_of_mem _ hx)) y hy
theorem sum_wok : ∀ {l : List Str}, (∀ z ∈ l, Wok z) → (l.map (·.length)).sum ≤ 7 * l.length
  | [], _ => Nat.le_refl _
  | z :: l, h => by
    have a := (h z (List.mem_cons_self ..)).2.1
    have b := sum_wok (l := l) fun y hy => h y (List.mem_cons_of_mem _ hy)
    show z.length + (l.map (·.length)).sum ≤ 7 * (l.length + 1)
    omega
theorem row_split {l : List Str} (hn : l ≠ []) (h : ∀ z ∈ l, Wok z) : Txt.split (Txt.join (Str.ofString " ") l) (Str.ofString " ") = l :=
  split_join (s := 32) (S := []) (by decide +kernel) (by decide +kernel) hn fun p hp => (h p hp).2.2
section
variable {P : Program} {w : World} {K : PySem.W.Frag} {mg : Str → Option Value} {base : Heap} {P1 P2 P3 aSORTS aFORMS : Addr} {fs : So → Addr} {es : Array DictEntry} {nS : Nat} {tM : Tok}
theorem call_str_is {X : Cx} : CallR X (.type "str") (fun xs H Q => ∃ p : Pa, xs = [p.v] ∧ (∀ i, p = .n i → i.natAbs.log2 < 1920) ∧ Q (.str p.t) H) := by
  intro pins s σ H xs us Q I rs h
  obtain ⟨p, rfl, hi, h⟩ := h
  cases p with
  | s z => exact SkE.call_str_str pins s σ H _ us Q I rs ⟨z, rfl, h⟩
  | n i => exact call_str_int pins s σ H _ us Q I rs ⟨i, rfl, hi i rfl, h⟩
abbrev s_write_row : Stmt := top 20
theorem sc_write_row : FnScope ["form", "parts", "left", "words", "word"] ["form", "parts"] (defScope s_write_row) := ⟨rfl, rfl, rfl, by decide +kernel, rfl, by decide +kernel, by decide +kernel⟩
def spWrite (K : PySem.W.Frag) : Sp := fun vs H Q _ => ∃ (fm : String × String × List Fw) (b : Addr) (ps : List Pa), vs = [.str (Str.ofString fm.2.1), .ref b] ∧ fm ∈ forms ∧ Fit fm.2.2 ps ∧ SqT K H b (ps.map Pa.v) ∧ ∀ H', Same H H' → Q (.str (PySem.Txt.join (Str.ofString " ") (row fm.2.2 ps))) H'
theorem ok_write_row {f : Addr} {fd : FuncData} (F : Fun K "write_row" "write_row" s_write_row f fd) (T : Txt mg) (gSORTS : mg "SORTS" = some (.ref aSORTS)) (SD : SoD K w aSORTS fs es nS) : FnOk P w K mg base CX0 1 f fd ["form", "parts"] (spWrite K) := by
  refine F.ok sc_write_row (fun vs H Q E h => ?_) (fun cdv A outer s H vs Q E hr h => ?_)
  · obtain ⟨fm, b, ps, rfl, _⟩ := h
    rfl
  · obtain ⟨fm, b, ps, rfl, hfm, fit, hb, k⟩ := h
    refine ⟨_, pss_cons (ps_set (i := 2) sc_write_row.nd rfl (Or.inl rfl) (pe_callTy call_list_of (by rfl) T.list_ (by decide +kernel) (pa_cons (pv 1) pa_nil)))
      (pss_cons (ps_set (i := 3) sc_write_row.nd rfl (Or.inl rfl) (pe_lst pa_nil))
      (pss_cons (ps_for PassesOwn.never rfl (pi_list (pe_split (pv 0) pe_str)) (pg_name (i := 4) sc_write_row.nd rfl (Or.inl rfl)) (pss_one (ps_expr (pe_bm PySem.F.plainAttrs_list PySem.F.slot_list_append PySem.F.type_list_append mt_append (pv 3) (pa_cons (pe_ifExp (pt_cmpR (inKD rfl rfl SD.d) (pv 4) (pe_glob (v := .ref aSORTS) (by rfl) gSORTS rfl) rfl) (pe_callTy call_str_is (by rfl) T.str_ (by decide +kernel) (pa_cons (pe_bm PySem.F.plainAttrs_list PySem.F.slot_list_pop PySem.F.type_list_pop mt_popAt (pv 2) (pa_cons pe_int pa_nil)) pa_nil)) (pv 4)) pa_nil)))))
      (pss_one (ps_ret (pe_join pe_str (pv 3)))))), ?_⟩
    have l6 := forms_len fm hfm
    refine ⟨_, rfl, b, _, rfl, .inr hb, fun l hl => ?_⟩
    refine ⟨Nat.zero_le _, fun m hm => ?_⟩
    have nml : m ≠ l := fun z => by rw [z, upd_same] at hm; cases hm
    have hmH : H m = none := by rw [upd_ne nml] at hm; exact hm
    refine ⟨_, rfl, ⟨_, rfl⟩, _, _, rfl, rfl, rfl, Nat.le_trans (Nat.add_le_add_right (forms_short fm hfm) 2) (by decide), fun p hp0 => ?_⟩
    rw [form_split fm hfm]
    have npm : p ≠ m := fun z => by rw [z, upd_same] at hp0; cases hp0
    have npl : p ≠ l := fun z => by rw [z, upd_ne nml.symm, upd_same] at hp0; cases hp0
    have hw : upd (upd (upd H l (.lst (ps.map Pa.v))) m (.lst [])) p (.lst ((fm.2.2.map Fw.w).map V.str)) p = some (.lst ((fm.2.2.map Fw.w).map V.str)) := upd_same
    have el : upd (upd (upd H l (.lst (ps.map Pa.v))) m (.lst [])) p (.lst ((fm.2.2.map Fw.w).map V.str)) l = some (.lst (ps.map Pa.v)) := by rw [upd_ne npl.symm, upd_ne nml.symm, upd_same]
    have em : upd (upd (upd H l (.lst (ps.map Pa.v))) m (.lst [])) p (.lst ((fm.2.2.map Fw.w).map V.str)) m = some (.lst []) := by rw [upd_ne npm.symm, upd_same]
    have kH : Same H (upd (upd (upd H l (.lst (ps.map Pa.v))) m (.lst [])) p (.lst ((fm.2.2.map Fw.w).map V.str))) := fun c o h => by
      rw [same_alloc hp0 c o (same_alloc hm c o (same_alloc hl c o h))]
    have hpH : H p = none := by rw [upd_ne npm, upd_ne npl] at hp0; exact hp0
    generalize upd (upd (upd H l (.lst (ps.map Pa.v))) m (.lst [])) p (.lst ((fm.2.2.map Fw.w).map V.str)) = H1 at hw el em kH ⊢
    refine ⟨p, rfl, ⟨_, SqL.of hw⟩, for_it (D := ⟨_, _, fun _ _ => False, fun _ _ => False⟩) (walk_list (K := K) (xs := (fm.2.2.map Fw.w).map V.str))
      (fun i σ H' => ∃ (x : Option V) (rest : List Pa) (done : List Str), σ = [some (.str (Str.ofString fm.2.1)), some (.ref b), some (.ref l), some (.ref m), x] ∧ H' l = some (.lst (rest.map Pa.v)) ∧ H' m = some (.lst (done.map V.str)) ∧ H' p = some (.lst ((fm.2.2.map Fw.w).map V.str)) ∧ Fit (fm.2.2.drop i) rest ∧ done ++ row (fm.2.2.drop i) rest = row fm.2.2 ps ∧ done.length = i ∧ Same H H')
      ⟨_, ps, [], rfl, el, em, hw, fit, rfl, rfl, kH⟩ (fun i σ H' _ h => by obtain ⟨_, _, _, _, _, _, h, _⟩ := h; exact SqL.of h) ?_ ?_⟩
    · rintro i v σ H' H'' hi ⟨x, rest, done, rfl, h1, h2, h3, h4, h5, h6, h7⟩ ⟨rfl, hv⟩
      obtain ⟨fw, hx⟩ : ∃ fw, fm.2.2[i]? = some fw := ⟨_, List.getElem?_eq_getElem (by simpa using hi)⟩
      have ev : v = .str fw.w := by
        rw [List.getElem?_map, List.getElem?_map, hx] at hv
        exact (Option.some.inj hv).symm
      subst ev
      have i6 : i < 6 := by
        have : i < fm.2.2.length := by simpa using hi
        omega
      obtain ⟨r, er, hr2⟩ := SD.at (forms_in fm hfm fw (List.mem_of_getElem? hx))
      have ed := drop_atG hx
      rw [ed] at h4 h5
      refine ⟨_, rfl, .inl ⟨rfl, _, SqL.of h2⟩, _, rfl, _, r, rfl, rfl, er, _, rfl, ?_⟩
      rw [hr2]

      have put : ∀ (H2 : Hp) (z : Str) (rest' : List Pa), Same H H2 → H2 l = some (.lst (rest'.map Pa.v)) → H2 m = some (.lst (done.map V.str)) → H2 p = some (.lst ((fm.2.2.map Fw.w).map V.str)) → Fit (fm.2.2.drop (i + 1)) rest' → done ++ z :: row (fm.2.2.drop (i + 1)) rest' = row fm.2.2 ps →
          rAppend (.ref m) [.str z] H2 fun _ H' => ∃ (x : Option V) (rest : List Pa) (done : List Str), [some (V.str (Str.ofString fm.2.1)), some (.ref b), some (.ref l), some (.ref m), some (.str fw.w)] = [some (.str (Str.ofString fm.2.1)), some (.ref b), some (.ref l), some (.ref m), x] ∧ H' l = some (.lst (rest.map Pa.v)) ∧ H' m = some (.lst (done.map V.str)) ∧ H' p = some (.lst ((fm.2.2.map Fw.w).map V.str)) ∧ Fit (fm.2.2.drop (i + 1)) rest ∧ done ++ row (fm.2.2.drop (i + 1)) rest = row fm.2.2 ps ∧ done.length = i + 1 ∧ Same H H' := by
        intro H2 z rest' s2 a1 a2 a3 a4 a5
        refine ⟨m, _, _, rfl, rfl, a2, ?_, _, rest', done ++ [z], rfl, by rw [upd_ne nml.symm]; exact a1, ?_, by rw [upd_ne npm]; exact a3, a4, ?_, ?_, fun c o h => by rw [upd_ne (ne_of_none h hmH)]; exact s2 c o h⟩
        · rw [List.length_map, h6]; exact Nat.lt_trans i6 (by decide)
        · rw [upd_same, List.map_append]; rfl
        · rw [List.append_assoc]; exact a5
        · rw [List.length_append, h6]; rfl
      cases fw with
      | lit z =>
        cases h4 with
        | lit h4 => exact ⟨_, rfl, put _ z rest h7 h1 h2 h3 h4 h5⟩
      | so y =>
        cases h4 with
        | @so _ _ q rest' ok4 h4 =>
          refine ⟨_, rfl, .inl ⟨rfl, _, SqL.of h1⟩, l, _, 0, 0, q.v, rfl, rfl, h1, by decide, by decide, by simp [seqIndex?], rfl, q, rfl, pa_log ok4, ?_⟩
          refine put _ q.t rest' (fun c o h => by rw [upd_ne (ne_of_none h hl)]; exact h7 c o h) ?_ (by rw [upd_ne nml]; exact h2) (by rw [upd_ne npl]; exact h3) h4 h5
          rw [upd_same]
          rfl
    · rintro σ H' ⟨x, rest, done, rfl, h1, h2, h3, h4, h5, h6, h7⟩
      rw [List.length_map, List.length_map] at h5 h4 h6
      have e0 : fm.2.2.drop fm.2.2.length = [] := List.drop_length
      rw [e0] at h5
      have e1 : row [] rest = [] := by cases rest <;> rfl
      rw [e1, List.append_nil] at h5
      subst h5
      have wk := row_wok fit (forms_in fm hfm)
      have s7 := sum_wok wk
      have rl := row_len fit
      refine ⟨⟨_, rfl⟩, _, rfl, _, m, _, rfl, rfl, .inl (SqL.of h2), ?_, k _ h7⟩
      rw [show (Str.ofString " ").length = 1 by decide +kernel, rl] at *
      omega
end
end D3

set_option maxRecDepth 100000
set_option maxHeartbeats 800000
namespace D3
open PySem PySem.Spec PyProof.Rows L2 GxR Gd TL My
def dg (c : Nat) : Bool := decide (48 ≤ c) && decide (c ≤ 57)
theorem dg_eq (c : Nat) : (!decide ([c] < [48]) && !decide ([57] < [c])) = dg c := by
  unfold dg
  rw [Bool.eq_iff_iff]
  simp only [Bool.and_eq_true, Bool.not_eq_true', decide_eq_false_iff_not, decide_eq_true_eq, one_lt]
  omega
theorem dg_fun : (fun c : Nat => !decide ([c] < (Str.ofString "0").cps.toList) && !decide ((Str.ofString "9").cps.toList < [c])) = dg := by
  funext c
  rw [show (Str.ofString "0").cps.toList = [48] by decide +kernel, show (Str.ofString "9").cps.toList = [57] by decide +kernel]
  exact dg_eq c
theorem text_no {x : So} {z : Str} (h : x.ok (.s z)) : z.cps.toList.all dg = false := by
  cases x with
  | name =>
    obtain ⟨h1, h2, h3⟩ := h
    cases e : z.cps.toList with
    | nil =>
      rw [len_tl] at h1
      have : tl z = [] := e
      rw [this] at h1
      exact absurd h1 (by decide)
    | cons c r =>
      rw [e] at h3
      have h3 := (Bool.and_eq_true_iff.mp h3).1
      unfold lc at h3
      simp at h3
      rw [List.all_cons]
      have : dg c = false := by
        unfold dg
        simp
        omega
      rw [this]
      rfl
  | number => exact False.elim h
  | thing =>
    have key : ∀ z ∈ things, z.cps.toList.all dg = false := by decide +kernel
    exact key z h
  | kind =>
    have key : ∀ z ∈ kinds, z.cps.toList.all dg = false := by decide +kernel
    exact key z h
theorem num_yes (n : Nat) : (Str.ofString (toString ((n : Nat) : Int))).cps.toList.all dg = true := by
  rw [show (Str.ofString (toString ((n : Nat) : Int))).cps.toList = numL n from tl_num n]
  refine List.all_eq_true.mpr fun c hc => ?_
  have := numL_digits n c hc
  unfold dg
  simp
  omega
section
variable {P : Program} {w : World} {K : PySem.W.Frag} {mg : Str → Option Value} {base : Heap} {P1 P2 P3 aSORTS aFORMS : Addr} {fs : So → Addr} {es : Array DictEntry} {nS : Nat} {tM : Tok}
abbrev s_part_of : Stmt := top 22
theorem sc_part_of : FnScope ["word", "number", "sign"] ["word"] (defScope s_part_of) := ⟨rfl, rfl, rfl, by decide +kernel, rfl, by decide +kernel, by decide +kernel⟩
abbrev s_read_row : Stmt := top 21
theorem sc_read_row : FnScope ["form", "row", "asked", "words", "parts", "sort", "word"] ["form", "row"] (defScope s_read_row) := ⟨rfl, rfl, rfl, by decide +kernel, rfl, by decide +kernel, by decide +kernel⟩
def spPart (T : List Addr) : Sp := fun vs H Q _ => ∃ (x : So) (p : Pa), vs = [.str p.t] ∧ x.ok p ∧ Tabs T H ∧ ∀ H', KM T H H' → Q p.v H'
theorem ok_part_of {T0 : List Addr} {f c : Addr} {oc kV doc pm ct : Value} {od an : Option Addr} {osl : Array (Option Value)}
    (lk : K.lookup f = some ⟨oc, od, .func (PySem.W.fnOf "_part_of" "_part_of" (defArgs s_part_of) (defBody s_part_of) (defScope s_part_of) .none kV doc pm an (.ref c) ct), osl⟩) (hcd : PySem.W.codeIn K (.ref c) "_part_of" = true)
    (hp : P2 ∈ T0) (T : Txt mg) (TB : TabB base mg c P2) (gMOST : mg "MOST_NUMBER" = some (.int 999999 tM)) : FnOk P w K mg base CX0 1 f (PySem.W.fnOf "_part_of" "_part_of" (defArgs s_part_of) (defBody s_part_of) (defScope s_part_of) .none kV doc pm an (.ref c) ct) ["word"] (spPart T0) := by
  refine fn_of lk hcd sc_part_of (fun vs H Q E h => ?_) (fun A outer s H vs Q E hr h => ?_)
  · obtain ⟨x, p, rfl, _⟩ := h
    rfl
  · obtain ⟨x, p, rfl, hx, tb, k⟩ := h
    refine ⟨_, pss_cons (ps_if (PW.pt (pw_or (pt_not (pt_chain op_le op_le pe_int (pe_callB call_len_str (by rfl) T.len_ PySem.boot_len (pa_cons (pv 0) pa_nil)) (pe_callB call_len_str (by rfl) T.len_ PySem.boot_len (pa_cons (pe_callTy call_str_int (by rfl) T.str_ (by decide +kernel) (pa_cons (pe_glob (v := .int 999999) (by rfl) gMOST ⟨_, rfl⟩) pa_nil)) pa_nil)))) (pw_or1 (pt_not (pt_val (pe_allS hr (by rfl) T.all_ (by decide +kernel) TB rfl ⟨rfl, rfl, by decide +kernel, by decide +kernel, by decide +kernel, fun y hy e => absurd e (no_free y hy)⟩ (pv 0) (elt_between (by rfl) (by decide +kernel)) (fun _ => rfl))))))) (pss_one (ps_ret (pv 0))) pss_nil)
      (pss_cons (ps_set (i := 1) sc_part_of.nd rfl (Or.inl rfl) (pe_callTy call_int_str (by rfl) T.int_ (by decide +kernel) (pa_cons (pv 0) pa_nil)))
      (pss_one (ps_ret (pe_ifExp (pt_cmpR op_eq (pe_callTy call_str_int (by rfl) T.str_ (by decide +kernel) (pa_cons (pv 1) pa_nil)) (pv 0) (nomark _)) (pv 1) (pv 0))))), ?_⟩
    have wk := pa_wok hx
    have sz : p.t.length ≤ sizeLine := small_line (by have := wk.2.1; omega)
    have L6 : (Str.ofString (toString (999999 : Int))).length = 6 := by decide +kernel
    rw [dg_fun]
    refine ⟨_, rfl, p.t, rfl, sz, _, _, rfl, rfl, _, rfl, ?_⟩
    rw [decide_eq_true (show (1 : Int) ≤ (p.t.length : Int) by have := wk.1; omega)]
    refine ⟨_, rfl, by decide +kernel, _, rfl, by rw [L6]; decide, ?_⟩
    rw [L6]
    refine ⟨_, _, rfl, rfl, _, rfl, ite2 (fun c1 => ?_) (fun c1 => ?_)⟩
    · refine iteT ⟨_, rfl, ?_⟩
      cases p with
      | s z => exact k H (KM.refl tb)
      | n i =>
        have hi : 0 ≤ i ∧ i ≤ 999999 := by cases x <;> first | exact False.elim hx | exact hx
        have l6 : (Pa.n i).t.length ≤ 6 := (num_wok hi.1 hi.2).2
        have : ¬ ((Pa.n i).t.length : Int) ≤ 6 := by simpa using c1
        omega
    · refine ⟨_, rfl, p.t, rfl, tb P2 hp, fun H2 ht => ⟨_, rfl, ?_⟩⟩
      have km := KM.tabbed tb hp ht
      cases p with
      | s z =>
        rw [show (Pa.s z).t = z from rfl, text_no hx]
        refine iteT ⟨_, rfl, k H2 km⟩
      | n i =>
        have hi : 0 ≤ i ∧ i ≤ 999999 := by cases x <;> first | exact False.elim hx | exact hx
        obtain ⟨n, rfl⟩ := Int.eq_ofNat_of_zero_le hi.1
        have lg := pa_log hx _ rfl
        rw [show (Pa.n ((n : Nat) : Int)).t = Str.ofString (toString ((n : Nat) : Int)) from rfl, num_yes n]
        have wl : (Str.ofString (toString ((n : Nat) : Int))).length ≤ 7 := wk.2.1
        refine iteF ⟨_, rfl, _, _, rfl, int_num (n := n) (by rw [← tl_num, ← len_tl]; omega), by omega, ?_⟩
        refine ⟨_, rfl, _, rfl, lg, _, rfl, rfl, _, rfl, ?_⟩
        rw [decide_eq_true rfl]
        exact ⟨_, rfl, k H2 km⟩
end
end D3

set_option maxRecDepth 100000
set_option maxHeartbeats 800000
namespace D3
open PySem PySem.Spec PyProof.Rows L2 GxR Gd TL My
theorem drop_cons {α : Type} {l r : List α} {i : Nat} {y : α} (h : l.drop i = y :: r) : l[i]? = some y ∧ l.drop (i + 1) = r := by
  refine ⟨?_, ?_⟩
  · have := congrArg (fun z => z[0]?) h
    simpa [List.getElem?_drop] using this
  · have := congrArg (fun z => z.drop 1) h
    simpa [List.drop_drop] using this
theorem forms_pos : ∀ f ∈ forms, 0 < f.2.2.length := by decide +kernel
theorem row_ne {fm : String × String × List Fw} {ps : List Pa} (hfm : fm ∈ forms) (fit : Fit fm.2.2 ps) : row fm.2.2 ps ≠ [] := fun z => by
  have h := forms_pos fm hfm
  have l := row_len fit
  rw [z] at l
  have l : 0 = fm.2.2.length := l
  omega
def rowT (fm : String × String × List Fw) (ps : List Pa) : Str := Txt.join (Str.ofString " ") (row fm.2.2 ps)
theorem rowT_len {fm : String × String × List Fw} {ps : List Pa} (hfm : fm ∈ forms) (fit : Fit fm.2.2 ps) : (rowT fm ps).length ≤ 48 := by
  have h := forms_len fm hfm
  have s7 := sum_wok (row_wok fit (forms_in fm hfm))
  have l := row_len fit
  have j := My.join_len (Str.ofString " ") (row fm.2.2 ps)
  rw [show (Str.ofString " ").length = 1 by decide +kernel] at j
  unfold rowT
  omega
theorem rowT_split {fm : String × String × List Fw} {ps : List Pa} (hfm : fm ∈ forms) (fit : Fit fm.2.2 ps) : Txt.split (rowT fm ps) (Str.ofString " ") = row fm.2.2 ps := row_split (row_ne hfm fit) (row_wok fit (forms_in fm hfm))
section
variable {P : Program} {w : World} {K : PySem.W.Frag} {mg : Str → Option Value} {base : Heap} {P1 P2 P3 aSORTS aFORMS : Addr} {fs : So → Addr} {es : Array DictEntry} {nS : Nat} {tM : Tok}
def spRead (T : List Addr) : Sp := fun vs H Q _ => ∃ (fm : String × String × List Fw) (ps : List Pa), vs = [.str (Str.ofString fm.2.1), .str (rowT fm ps)] ∧ fm ∈ forms ∧ Fit fm.2.2 ps ∧ Tabs T H ∧ ∀ t H', H t = none → KM T H H' → H' t = some (.tup (ps.map Pa.v)) → Q (.ref t) H'
theorem ok_read_row {T0 : List Addr} {f f1 f2 : Addr} {fd fd1 fd2 : FuncData} (F : Fun K "read_row" "read_row" s_read_row f fd) (T : Txt mg) (gSORTS : mg "SORTS" = some (.ref aSORTS)) (SD : SoD K w aSORTS fs es nS)
    (Nfits : Fn K mg "fits" s_fits ["form", "parts"] f1 fd1) (Gfits : FnOk P w K mg base CX0 6 f1 fd1 ["form", "parts"] (spFits K T0))
    (Npart_of : Fn K mg "_part_of" s_part_of ["word"] f2 fd2) (Gpart_of : FnOk P w K mg base CX0 1 f2 fd2 ["word"] (spPart T0)) : FnOk P w K mg base CX0 7 f fd ["form", "row"] (spRead T0) := by
  refine F.ok sc_read_row (fun vs H Q E h => ?_) (fun cdv A outer s H vs Q E hr h => ?_)
  · obtain ⟨fm, ps, rfl, _⟩ := h
    rfl
  · obtain ⟨fm, ps, rfl, hfm, fit, tb, k⟩ := h
    refine ⟨_, pss_cons (ps_par (i := 2) (j := 3) rfl sc_read_row.nd rfl rfl (by decide) rfl rfl (pa_cons (pe_split (pv 0) pe_str) (pa_cons (pe_split (pv 1) pe_str) pa_nil)) (by rfl))
      (pss_cons (ps_if (pt_cmpR op_ne (pe_callB call_len_seq (by rfl) T.len_ PySem.boot_len (pa_cons (pv 2) pa_nil)) (pe_callB call_len_seq (by rfl) T.len_ PySem.boot_len (pa_cons (pv 3) pa_nil)) (nomark _)) (pss_one (ps_ret pe_non)) pss_nil)
      (pss_cons (ps_set (i := 4) sc_read_row.nd rfl (Or.inl rfl) (pe_lst pa_nil))
      (pss_cons (ps_for PassesOwn.never rfl (pi_zip (by rfl) T.zip_ (pa_cons (pv 2) (pa_cons (pv 3) pa_nil))) (pg_tup (by rfl) (pgs_cons (pg_name (i := 5) sc_read_row.nd rfl (Or.inl rfl)) (pgs_cons (pg_name (i := 6) sc_read_row.nd rfl (Or.inl rfl)) pgs_nil))) (pss_one (ps_if (pt_cmpR (inKD rfl rfl SD.d) (pv 5) (pe_glob (v := .ref aSORTS) (by rfl) gSORTS rfl) rfl) (pss_one (ps_expr (pe_bm PySem.F.plainAttrs_list PySem.F.slot_list_append PySem.F.type_list_append mt_append (pv 4) (pa_cons (pe_call Gpart_of (hr.mono (by decide)) (by rfl) Npart_of.g Npart_of.kp Npart_of.b .nil pass0 (pa_cons (pv 6) pa_nil)) pa_nil)))) (pss_one (ps_if (pt_cmpR op_ne (pv 5) (pv 6) (nomark _)) (pss_one (ps_ret pe_non)) pss_nil)))))
      (pss_one (ps_ret (pe_ifExp (pt_val (pe_call Gfits (hr.mono (by decide)) (by rfl) Nfits.g Nfits.kp Nfits.b .nil pass0 (pa_cons (pv 0) (pa_cons (pv 4) pa_nil)))) (pe_callTy call_tuple_of (by rfl) T.tuple_ (by decide +kernel) (pa_cons (pv 4) pa_nil)) pe_non)))))), ?_⟩
    have l6 := forms_len fm hfm
    have rl := row_len fit
    refine ⟨_, rfl, ⟨_, rfl⟩, _, _, rfl, rfl, rfl, Nat.le_trans (Nat.add_le_add_right (forms_short fm hfm) 2) (by decide), fun a ha => ?_⟩
    rw [form_split fm hfm]
    refine ⟨_, rfl, ⟨_, rfl⟩, _, _, rfl, rfl, rfl, Nat.le_trans (Nat.add_le_add_right (rowT_len hfm fit) 2) (by decide), fun b hb => ?_⟩
    rw [rowT_split hfm fit]
    have km0 : KM T0 H (upd (upd H a (.lst ((fm.2.2.map Fw.w).map V.str))) b (.lst ((row fm.2.2 ps).map V.str))) := (KM.alloc tb ha).trans (KM.alloc (KM.alloc tb ha).tab hb)
    have nba : b ≠ a := fun z => by rw [z, upd_same] at hb; cases hb
    have ea : upd (upd H a (.lst ((fm.2.2.map Fw.w).map V.str))) b (.lst ((row fm.2.2 ps).map V.str)) a = some (.lst ((fm.2.2.map Fw.w).map V.str)) := by rw [upd_ne nba.symm, upd_same]
    have eb : upd (upd H a (.lst ((fm.2.2.map Fw.w).map V.str))) b (.lst ((row fm.2.2 ps).map V.str)) b = some (.lst ((row fm.2.2 ps).map V.str)) := upd_same
    generalize upd (upd H a (.lst ((fm.2.2.map Fw.w).map V.str))) b (.lst ((row fm.2.2 ps).map V.str)) = H0 at km0 ea eb ⊢
    have ln : ((fm.2.2.map Fw.w).map V.str).length = ((row fm.2.2 ps).map V.str).length := by rw [List.length_map, List.length_map, List.length_map, rl]
    refine ⟨_, _, rfl, _, rfl, a, _, rfl, .inl (SqL.of ea), _, rfl, b, _, rfl, .inl (SqL.of eb), rfl, _, rfl, ?_⟩
    rw [decide_eq_true (show V.int ↑((fm.2.2.map Fw.w).map V.str).length = V.int ↑((row fm.2.2 ps).map V.str).length by rw [ln])]
    refine iteF ⟨Nat.zero_le _, fun D hD => ?_⟩
    have nDa : D ≠ a := fun z => by rw [z, ea] at hD; cases hD
    have nDb : D ≠ b := fun z => by rw [z, eb] at hD; cases hD
    have nt0 : ∀ {H1 : Hp} {c : Addr} {xs : List V}, KM T0 H0 H1 → H0 c = some (.lst xs) → H1 c = some (.lst xs) := fun km e => KM.lst km0.tab km e
    refine ⟨_, rfl, _, rfl, a, b, _, _, rfl, SqL.of (by rw [upd_ne nDa.symm]; exact ea), SqL.of (by rw [upd_ne nDb.symm]; exact eb), for_it (D := ⟨_, _, fun _ _ => False, fun _ _ => False⟩) (walk_zip (K := K) (xs := (fm.2.2.map Fw.w).map V.str) (ys := (row fm.2.2 ps).map V.str) (n := ((fm.2.2.map Fw.w).map V.str).length) (by rw [← ln, Nat.min_self]))
      (fun i σ H' => ∃ (u5 u6 : Option V) (done rest : List Pa), σ = [some (.str (Str.ofString fm.2.1)), some (.str (rowT fm ps)), some (.ref a), some (.ref b), some (.ref D), u5, u6] ∧ KM T0 H0 H' ∧ H' D = some (.lst (done.map Pa.v)) ∧ done ++ rest = ps ∧ done.length ≤ i ∧ Fit (fm.2.2.drop i) rest ∧ (row fm.2.2 ps).drop i = row (fm.2.2.drop i) rest)
      ⟨_, _, [], ps, rfl, KM.put km0.tab (KM.refl km0.tab) hD, upd_same, rfl, Nat.le_refl _, fit, rfl⟩ (fun i σ H' _ h => by obtain ⟨_, _, _, _, _, km, _⟩ := h; exact ⟨SqL.of (nt0 km ea), SqL.of (nt0 km eb)⟩) ?_ ?_⟩
    · rintro i v σ H' H'' hi ⟨u5, u6, done, rest, rfl, km, eD, h1, h2, h3, h4⟩ ⟨t, u, v, rfl, ht, rfl, h5, h6⟩
      obtain ⟨fw, hx⟩ : ∃ fw, fm.2.2[i]? = some fw := ⟨_, List.getElem?_eq_getElem (by simpa using hi)⟩
      have h5 : ((fm.2.2.map Fw.w).map V.str)[i]? = some u := h5
      have h6 : ((row fm.2.2 ps).map V.str)[i]? = some v := h6
      obtain rfl : u = .str fw.w := by
        rw [List.getElem?_map, List.getElem?_map, hx] at h5
        exact (Option.some.inj h5).symm
      have i6 : i < 6 := by
        have : i < fm.2.2.length := by simpa using hi
        omega
      obtain ⟨r, er, hr2⟩ := SD.at (forms_in fm hfm fw (List.mem_of_getElem? hx))
      have ed := drop_atG hx
      rw [ed] at h3 h4
      have kmt : KM T0 H0 (upd H' t (.tup [.str fw.w, v])) := km.trans (KM.alloc km.tab ht)
      have eDt : upd H' t (.tup [.str fw.w, v]) D = some (.lst (done.map Pa.v)) := by rw [upd_ne (fun z => by rw [← z, eD] at ht; cases ht)]; exact eD
      have te : SqT K (upd H' t (.tup [.str fw.w, v])) t [.str fw.w, v] := SqT.of upd_same
      generalize upd H' t (.tup [.str fw.w, v]) = H3 at kmt eDt te ⊢
      refine ⟨t, _, rfl, te, rfl, _, _, rfl, _, _, rfl, rfl, _, rfl, _, r, rfl, rfl, er, _, rfl, ?_⟩
      rw [hr2]
      cases fw with
      | lit z =>
        cases h3 with
        | lit h3 =>
          have h4 : (row fm.2.2 ps).drop i = z :: row (fm.2.2.drop (i + 1)) rest := h4
          obtain ⟨g1, g2⟩ := drop_cons h4
          rw [List.getElem?_map, g1] at h6
          obtain rfl := Option.some.inj h6
          refine ⟨_, rfl, _, rfl, rfl, _, rfl, ?_⟩
          rw [show (Fw.lit z).w = z from rfl, decide_eq_true rfl]
          exact ⟨_, _, done, rest, rfl, kmt, eDt, h1, by omega, h3, g2⟩
      | so y =>
        cases h3 with
        | @so _ _ q rest' ok3 h3 =>
          have h4 : (row fm.2.2 ps).drop i = q.t :: row (fm.2.2.drop (i + 1)) rest' := h4
          obtain ⟨g1, g2⟩ := drop_cons h4
          rw [List.getElem?_map, g1] at h6
          obtain rfl := Option.some.inj h6
          refine ⟨_, rfl, .inl ⟨rfl, _, SqL.of eDt⟩, _, rfl, y, q, rfl, ok3, kmt.tab, fun H4 km4 => ?_⟩
          refine ⟨D, _, _, rfl, rfl, KM.lst kmt.tab km4 eDt, ?_, _, _, done ++ [q], rest', rfl, KM.put km0.tab (kmt.trans km4) hD, ?_, ?_, ?_, h3, g2⟩
          · rw [List.length_map]
            exact Nat.lt_of_le_of_lt h2 (Nat.lt_trans i6 (by decide))
          · rw [upd_same, List.map_append]; rfl
          · rw [List.append_assoc]; exact h1
          · rw [List.length_append]; exact Nat.succ_le_succ h2
    · rintro σ H' ⟨u5, u6, done, rest, rfl, km, eD, h1, h2, h3, h4⟩
      have e0 : fm.2.2.drop ((fm.2.2.map Fw.w).map V.str).length = [] := by rw [List.length_map, List.length_map, List.drop_length]
      rw [e0] at h3
      cases h3
      rw [List.append_nil] at h1
      subst h1
      refine ⟨_, rfl, _, rfl, fm, D, done, rfl, hfm, fit, .inr (SqL.of eD), km.tab, fun H4 km4 => ⟨_, rfl, iteT ?_⟩⟩
      refine ⟨_, rfl, D, _, rfl, .inl ⟨SqL.of (KM.lst km.tab km4 eD), fun l hl => ?_⟩⟩
      have kk := km0.trans (km.trans km4)
      exact k l _ (kk.none (fun hm => by obtain ⟨ps', e, _⟩ := kk.tab l hm; rw [hl] at e; cases e) hl) (kk.trans (KM.alloc kk.tab hl)) upd_same
end
end D3

set_option maxRecDepth 100000
set_option maxHeartbeats 800000
namespace D3
open PySem PySem.Spec PyProof.Rows L2 GxR Gd TL My
/-- the forms' dict -/
structure FoD (K : PySem.W.Frag) (w : World) (a : Addr) (es : Array DictEntry) (n : Nat) : Prop where
  d : KDict K w a es n
  yes : ∀ f ∈ forms, ∃ t, PySem.W.nsIn K a (Str.ofString f.1) = some (some (.str (Str.ofString f.2.1) t))
theorem FoD.item {K : PySem.W.Frag} {w : World} {a : Addr} {es : Array DictEntry} {n : Nat} (S : FoD K w a es n) {f : String × String × List Fw} (h : f ∈ forms) : KDct K w a (Str.ofString f.1) (.str (Str.ofString f.2.1)) := by
  obtain ⟨t, e⟩ := S.yes f h
  exact ⟨es, n, _, S.d.at_, S.d.lit, e, t, rfl⟩
section
variable {P : Program} {w : World} {K : PySem.W.Frag} {mg : Str → Option Value} {base : Heap} {P1 P2 P3 aSORTS aFORMS : Addr} {fs : So → Addr} {es ef : Array DictEntry} {nS nF : Nat} {tM : Tok}
abbrev s_is_deed : Stmt := top 26
theorem sc_is_deed : FnScope ["thing"] ["thing"] (defScope s_is_deed) := ⟨rfl, rfl, rfl, by decide +kernel, rfl, by decide +kernel, by decide +kernel⟩
abbrev s_deed_text : Stmt := top 25
theorem sc_deed_text : FnScope ["deed"] ["deed"] (defScope s_deed_text) := ⟨rfl, rfl, rfl, by decide +kernel, rfl, by decide +kernel, by decide +kernel⟩
abbrev s_deed_in : Stmt := top 27
theorem sc_deed_in : FnScope ["text", "deed"] ["text"] (defScope s_deed_in) := ⟨rfl, rfl, rfl, by decide +kernel, rfl, by decide +kernel, by decide +kernel⟩
abbrev s_deed_of_row : Stmt := top 28
theorem sc_deed_of_row : FnScope ["row", "word", "parts"] ["row"] (defScope s_deed_of_row) := ⟨rfl, rfl, rfl, by decide +kernel, rfl, by decide +kernel, by decide +kernel⟩
theorem cut1 (x : V) (xs : List V) : cutV (x :: xs) (some 1) none = xs := by
  unfold cutV
  rw [HT.sIx_none, show (1 : Int) = ((1 : Nat) : Int) from rfl, HT.sIx_nat]
  simp
theorem cut1_ok (x : V) (xs : List V) : ¬ (HT.sIx (x :: xs).length 0 (some 1) = 0 ∧ HT.sIx (x :: xs).length (x :: xs).length none = (x :: xs).length) := by
  rintro ⟨h, _⟩
  rw [show (1 : Int) = ((1 : Nat) : Int) from rfl, HT.sIx_nat, List.length_cons] at h
  omega
/-- a deed, as a tuple -/
def dv (fm : String × String × List Fw) (ps : List Pa) : List V := .str (Str.ofString fm.1) :: ps.map Pa.v
theorem dv0 (fm : String × String × List Fw) (ps : List Pa) : atI (dv fm ps) 0 = some (.str (Str.ofString fm.1)) := atI_nat (j := 0) rfl
def spIsDeed (K : PySem.W.Frag) (T : List Addr) : Sp := fun vs H Q _ => ∃ (fm : String × String × List Fw) (ps : List Pa) (d : Addr), vs = [.ref d] ∧ fm ∈ forms ∧ Fit fm.2.2 ps ∧ H d = some (.tup (dv fm ps)) ∧ Tabs T H ∧ ∀ H', KM T H H' → Q (.bl true) H'
theorem ok_is_deed {T0 : List Addr} {f f1 : Addr} {fd fd1 : FuncData} (F : Fun K "_is_deed" "_is_deed" s_is_deed f fd) (T : Txt mg) (gFORMS : mg "FORMS" = some (.ref aFORMS)) (FD : FoD K w aFORMS ef nF)
    (Nfits : Fn K mg "fits" s_fits ["form", "parts"] f1 fd1) (Gfits : FnOk P w K mg base CX0 6 f1 fd1 ["form", "parts"] (spFits K T0)) : FnOk P w K mg base CX0 7 f fd ["thing"] (spIsDeed K T0) := by
  refine F.ok sc_is_deed (fun vs H Q E h => ?_) (fun cdv A outer s H vs Q E hr h => ?_)
  · obtain ⟨fm, ps, d, rfl, _⟩ := h
    rfl
  · obtain ⟨fm, ps, d, rfl, hfm, fit, hd, tb, k⟩ := h
    refine ⟨_, pss_cons (ps_if (PW.pt (pw_or (pt_not (pt_val (pe_callB call_isi (by rfl) T.isinstance_ (by decide +kernel) (pa_cons (pv 0) (pa_cons (pe_bltn (v := .ty "tuple") (by rfl) T.tuple_ (by decide +kernel) rfl) pa_nil))))) (pw_or (pt_not (pt_truth (pv 0) (fun _ => rfl))) (pw_or1 (pt_not (pt_val (pe_callB call_isi (by rfl) T.isinstance_ (by decide +kernel) (pa_cons (pe_ix ix_tup (pv 0) pe_int (fun _ _ => rfl)) (pa_cons (pe_bltn (v := .ty "str") (by rfl) T.str_ (by decide +kernel) rfl) pa_nil))))))))) (pss_one (ps_ret pe_bl)) pss_nil)
      (pss_one (ps_ret (pe_and (pe_cmpR (inKD rfl rfl FD.d) (pe_ix ix_tup (pv 0) pe_int (fun _ _ => rfl)) (pe_glob (v := .ref aFORMS) (by rfl) gFORMS rfl) rfl) (pe_one (pe_call Gfits (hr.mono (by decide)) (by rfl) Nfits.g Nfits.kp Nfits.b .nil pass0 (pa_cons (pe_ix ix_kdict (pe_glob (v := .ref aFORMS) (by rfl) gFORMS rfl) (pe_ix ix_tup (pv 0) pe_int (fun _ _ => rfl)) (fun _ _ => rfl)) (pa_cons (pe_slice sl_tup (pv 0) (po_some pe_int) po_none) pa_nil))))))), ?_⟩
    refine ⟨_, rfl, _, _, _, _, true, rfl, .ty "tuple", .base (.tup hd), (by rfl), _, rfl, iteF ?_⟩
    refine ⟨_, rfl, _, .inr (.inl ⟨_, SqT.of hd, rfl⟩), iteF ?_⟩
    refine ⟨_, rfl, d, _, 0, _, rfl, rfl, SqT.of hd, dv0 fm ps, _, _, _, _, true, rfl, .ty "str", .base (.str _), (by rfl), _, rfl, iteF ?_⟩
    obtain ⟨t0, e0⟩ := FD.yes fm hfm
    refine ⟨_, rfl, d, _, 0, _, rfl, rfl, SqT.of hd, dv0 fm ps, _, _, rfl, rfl, e0, _, rfl, iteT ?_⟩
    refine ⟨_, rfl, d, _, 0, _, rfl, rfl, SqT.of hd, dv0 fm ps, aFORMS, _, _, rfl, rfl, FD.item hfm, ?_⟩
    refine ⟨_, rfl, _, rfl, d, _, rfl, SqT.of hd, cut1_ok _ _, fun b hb => ?_⟩
    rw [show cutV (dv fm ps) (some 1) none = ps.map Pa.v from cut1 _ _]
    have tb2 : Tabs T0 (upd H b (.tup (ps.map Pa.v))) := tabs_same tb (same_alloc hb)
    exact ⟨fm, b, ps, rfl, hfm, fit, .inl (SqT.of upd_same), tb2, fun H' km => k H' ((KM.alloc tb hb).trans km)⟩
end
end D3

set_option maxRecDepth 100000
set_option maxHeartbeats 800000
namespace D3
open PySem PySem.Spec PyProof.Rows L2 GxR Gd TL My
theorem forms_head : ∀ f ∈ forms, ∃ r, f.2.2 = .lit (Str.ofString f.1) :: r := by
  have key : ∀ f ∈ forms, (match f.2.2 with | Fw.lit z :: _ => z == Str.ofString f.1 | _ => false) = true := by decide +kernel
  intro f hf
  have h := key f hf
  cases e : f.2.2 with
  | nil => rw [e] at h; cases h
  | cons x r =>
    rw [e] at h
    cases x with
    | so y => cases h
    | lit z =>
      have h : (z == Str.ofString f.1) = true := h
      rw [eq_of_beq h]
      exact ⟨r, rfl⟩
theorem row_head {f : String × String × List Fw} (hf : f ∈ forms) (ps : List Pa) : ∃ r, row f.2.2 ps = Str.ofString f.1 :: r := by
  obtain ⟨r, e⟩ := forms_head f hf
  rw [e]
  exact ⟨_, rfl⟩
section
variable {P : Program} {w : World} {K : PySem.W.Frag} {mg : Str → Option Value} {base : Heap} {P1 P2 P3 aSORTS aFORMS : Addr} {fs : So → Addr} {es ef : Array DictEntry} {nS nF : Nat} {tM : Tok}
def spDeedText (T : List Addr) : Sp := fun vs H Q _ => ∃ (fm : String × String × List Fw) (ps : List Pa) (d : Addr), vs = [.ref d] ∧ fm ∈ forms ∧ Fit fm.2.2 ps ∧ H d = some (.tup (dv fm ps)) ∧ Tabs T H ∧ ∀ H', KM T H H' → Q (.str (rowT fm ps)) H'
theorem ok_deed_text {T0 : List Addr} {f f1 f2 : Addr} {fd fd1 fd2 : FuncData} (F : Fun K "deed_text" "deed_text" s_deed_text f fd) (T : Txt mg) (gFORMS : mg "FORMS" = some (.ref aFORMS)) (FD : FoD K w aFORMS ef nF)
    (Nis_deed : Fn K mg "_is_deed" s_is_deed ["thing"] f1 fd1) (Gis_deed : FnOk P w K mg base CX0 7 f1 fd1 ["thing"] (spIsDeed K T0))
    (Nwrite_row : Fn K mg "write_row" s_write_row ["form", "parts"] f2 fd2) (Gwrite_row : FnOk P w K mg base CX0 1 f2 fd2 ["form", "parts"] (spWrite K)) : FnOk P w K mg base CX0 8 f fd ["deed"] (spDeedText T0) := by
  refine F.ok sc_deed_text (fun vs H Q E h => ?_) (fun cdv A outer s H vs Q E hr h => ?_)
  · obtain ⟨fm, ps, d, rfl, _⟩ := h
    rfl
  · obtain ⟨fm, ps, d, rfl, hfm, fit, hd, tb, k⟩ := h
    refine ⟨_, pss_cons (ps_if (pt_not (pt_val (pe_call Gis_deed (hr.mono (by decide)) (by rfl) Nis_deed.g Nis_deed.kp Nis_deed.b .nil pass0 (pa_cons (pv 0) pa_nil)))) (pss_one ps_never) pss_nil)
      (pss_one (ps_ret (pe_call Gwrite_row (hr.mono (by decide)) (by rfl) Nwrite_row.g Nwrite_row.kp Nwrite_row.b .nil pass0 (pa_cons (pe_ix ix_kdict (pe_glob (v := .ref aFORMS) (by rfl) gFORMS rfl) (pe_ix ix_tup (pv 0) pe_int (fun _ _ => rfl)) (fun _ _ => rfl)) (pa_cons (pe_slice sl_tup (pv 0) (po_some pe_int) po_none) pa_nil))))), ?_⟩
    refine ⟨_, rfl, fm, ps, d, rfl, hfm, fit, hd, tb, fun H1 km => ⟨_, rfl, iteF ?_⟩⟩
    have hd1 : H1 d = some (.tup (dv fm ps)) := KM.nt tb km _ _ (by simp) hd
    refine ⟨_, rfl, d, _, 0, _, rfl, rfl, SqT.of hd1, dv0 fm ps, aFORMS, _, _, rfl, rfl, FD.item hfm, ?_⟩
    refine ⟨_, rfl, _, rfl, d, _, rfl, SqT.of hd1, cut1_ok _ _, fun b hb => ?_⟩
    rw [show cutV (dv fm ps) (some 1) none = ps.map Pa.v from cut1 _ _]
    exact ⟨fm, b, ps, rfl, hfm, fit, SqT.of upd_same, fun H' sm => k H' ((km.trans (KM.alloc km.tab hb)).trans (KM.same (KM.alloc km.tab hb).tab sm))⟩
def spDeedRow (T : List Addr) : Sp := fun vs H Q _ => ∃ (fm : String × String × List Fw) (ps : List Pa), vs = [.str (rowT fm ps)] ∧ fm ∈ forms ∧ Fit fm.2.2 ps ∧ Tabs T H ∧ ∀ t H', H t = none → KM T H H' → H' t = some (.tup (dv fm ps)) → Q (.ref t) H'
theorem ok_deed_of_row {T0 : List Addr} {f f1 : Addr} {fd fd1 : FuncData} (F : Fun K "deed_of_row" "deed_of_row" s_deed_of_row f fd) (T : Txt mg) (gFORMS : mg "FORMS" = some (.ref aFORMS)) (FD : FoD K w aFORMS ef nF)
    (Nread_row : Fn K mg "read_row" s_read_row ["form", "row"] f1 fd1) (Gread_row : FnOk P w K mg base CX0 7 f1 fd1 ["form", "row"] (spRead T0)) : FnOk P w K mg base CX0 8 f fd ["row"] (spDeedRow T0) := by
  refine F.ok sc_deed_of_row (fun vs H Q E h => ?_) (fun cdv A outer s H vs Q E hr h => ?_)
  · obtain ⟨fm, ps, rfl, _⟩ := h
    rfl
  · obtain ⟨fm, ps, rfl, hfm, fit, tb, k⟩ := h
    refine ⟨_, pss_cons (ps_set (i := 1) sc_deed_of_row.nd rfl (Or.inl rfl) (pe_ix ix_list (pe_split (pv 0) pe_str) pe_int (fun _ _ => rfl)))
      (pss_cons (ps_if (pt_cmpR (notInKD rfl rfl FD.d) (pv 1) (pe_glob (v := .ref aFORMS) (by rfl) gFORMS rfl) rfl) (pss_one (ps_ret pe_non)) pss_nil)
      (pss_cons (ps_set (i := 2) sc_deed_of_row.nd rfl (Or.inl rfl) (pe_call Gread_row (hr.mono (by decide)) (by rfl) Nread_row.g Nread_row.kp Nread_row.b .nil pass0 (pa_cons (pe_ix ix_kdict (pe_glob (v := .ref aFORMS) (by rfl) gFORMS rfl) (pv 1) (fun _ _ => rfl)) (pa_cons (pv 0) pa_nil))))
      (pss_one (ps_ret (pe_ifExp (pt_cmpR op_isN (pv 2) pe_non (nomark _)) pe_non (pe_op op_catA (pe_tup (pa_cons (pv 1) pa_nil)) (pv 2))))))), ?_⟩
    obtain ⟨r0, er0⟩ := row_head hfm ps
    obtain ⟨t0, e0⟩ := FD.yes fm hfm
    refine ⟨_, rfl, ⟨_, rfl⟩, _, _, rfl, rfl, rfl, Nat.le_trans (Nat.add_le_add_right (rowT_len hfm fit) 2) (by decide), fun p hp => ?_⟩
    rw [rowT_split hfm fit]
    have km1 : KM T0 H (upd H p (.lst ((row fm.2.2 ps).map V.str))) := KM.alloc tb hp
    refine ⟨p, _, 0, .str (Str.ofString fm.1), rfl, rfl, SqL.of upd_same, by rw [er0]; exact atI_nat (j := 0) rfl, ?_⟩
    refine ⟨_, rfl, _, _, rfl, rfl, e0, _, rfl, iteF ?_⟩
    refine ⟨_, rfl, aFORMS, _, _, rfl, rfl, FD.item hfm, _, rfl, fm, ps, rfl, hfm, fit, km1.tab, fun q H2 hq km2 eq2 => ?_⟩
    refine ⟨_, rfl, rfl, _, rfl, iteF ?_⟩
    refine ⟨_, rfl, by show 1 ≤ sizeLine; decide, fun u hu => ?_⟩
    have nuq : u ≠ q := fun z => by rw [z, eq2] at hu; cases hu
    have km3 := (km1.trans km2).trans (KM.alloc (o := .tup [.str (Str.ofString fm.1)]) km2.tab hu)
    refine ⟨_, rfl, u, q, [.str (Str.ofString fm.1)], ps.map Pa.v, rfl, rfl, SqT.of upd_same, SqT.of (by rw [upd_ne nuq.symm]; exact eq2), ?_, fun z => absurd z (by simp), fun _ z => ?_, fun _ _ t ht => ?_⟩
    · have l6 := forms_len fm hfm
      have := fit_len fit
      have := sorts_le fm.2.2
      rw [List.length_map]
      show 1 + ps.length ≤ sizeLine
      exact small_line (by omega)
    · have ez : dv fm ps = [.str (Str.ofString fm.1)] := by rw [dv, z]
      refine k u _ (KM.none (km1.trans km2) (fun hm => ?_) hu) km3 (by rw [upd_same, ez])
      obtain ⟨ps', e, _⟩ := (km1.trans km2).tab u hm
      rw [hu] at e; cases e
    · refine k t _ (km3.none (fun hm => ?_) ht) (km3.trans (KM.alloc km3.tab ht)) upd_same
      obtain ⟨ps', e, _⟩ := km3.tab t hm
      rw [ht] at e; cases e
theorem ok_deed_in {T0 : List Addr} {f f1 : Addr} {fd fd1 : FuncData} (F : Fun K "deed_in" "deed_in" s_deed_in f fd) (T : Txt mg)
    (Ndeed_of_row : Fn K mg "deed_of_row" s_deed_of_row ["row"] f1 fd1) (Gdeed_of_row : FnOk P w K mg base CX0 8 f1 fd1 ["row"] (spDeedRow T0)) : FnOk P w K mg base CX0 9 f fd ["text"] (spDeedRow T0) := by
  refine F.ok sc_deed_in (fun vs H Q E h => ?_) (fun cdv A outer s H vs Q E hr h => ?_)
  · obtain ⟨fm, ps, rfl, _⟩ := h
    rfl
  · obtain ⟨fm, ps, rfl, hfm, fit, tb, k⟩ := h
    refine ⟨_, pss_cons (ps_set (i := 1) sc_deed_in.nd rfl (Or.inl rfl) (pe_ifExp (pt_val (pe_callB call_isi (by rfl) T.isinstance_ (by decide +kernel) (pa_cons (pv 0) (pa_cons (pe_bltn (v := .ty "str") (by rfl) T.str_ (by decide +kernel) rfl) pa_nil)))) (pe_call Gdeed_of_row (hr.mono (by decide)) (by rfl) Ndeed_of_row.g Ndeed_of_row.kp Ndeed_of_row.b .nil pass0 (pa_cons (pv 0) pa_nil)) pe_non))
      (pss_cons (ps_if (pt_cmpR op_isN (pv 1) pe_non (nomark _)) (pss_one ps_never) pss_nil)
      (pss_one (ps_ret (pv 1)))), ?_⟩
    refine ⟨_, rfl, _, _, _, _, true, rfl, .ty "str", .base (.str _), (by rfl), _, rfl, iteT ?_⟩
    refine ⟨_, rfl, fm, ps, rfl, hfm, fit, tb, fun t H' ht km et => ?_⟩
    exact ⟨_, rfl, rfl, _, rfl, iteF ⟨_, rfl, k t H' ht km et⟩⟩
end
end D3

set_option maxRecDepth 100000
set_option maxHeartbeats 800000
namespace D3
open PySem PySem.Spec PyProof.Rows L2 GxR Gd TL My
section
variable {P : Program} {w : World} {K : PySem.W.Frag} {mg : Str → Option Value} {base : Heap} {P1 P2 P3 aSORTS aFORMS : Addr} {fs : So → Addr} {es ef : Array DictEntry} {nS nF : Nat} {tM : Tok}
abbrev s_law_name : Stmt := top 33
theorem sc_law_name : FnScope ["_law_box_here", "_law_words", "_law_k"] ["_law_box_here"] (defScope s_law_name) := ⟨rfl, rfl, rfl, by decide +kernel, rfl, by decide +kernel, by decide +kernel⟩
abbrev s_law_number : Stmt := top 34
theorem sc_law_number : FnScope ["_law_box_here", "_law_way"] ["_law_box_here"] (defScope s_law_number) := ⟨rfl, rfl, rfl, by decide +kernel, rfl, by decide +kernel, by decide +kernel⟩
abbrev s_law_forms : Stmt := top 35
theorem sc_law_forms : FnScope ["_law_some"] [] (defScope s_law_forms) := ⟨rfl, rfl, rfl, by decide +kernel, rfl, by decide +kernel, by decide +kernel⟩
abbrev s_law_part : Stmt := top 36
theorem sc_law_part : FnScope ["_law_box_here", "_law_sign"] ["_law_box_here", "_law_sign"] (defScope s_law_part) := ⟨rfl, rfl, rfl, by decide +kernel, rfl, by decide +kernel, by decide +kernel⟩
/-- a part of a sort, drawn with at most m takes -/
def spDraw (x : So) (m : Int) : Sp := fun vs H Q _ => ∃ (b : Addr) (n : Int), vs = [.ref b] ∧ Bx b n H ∧ 0 ≤ n ∧ n ≤ 1000 ∧ ∀ p H', x.ok p → KB b H H' → Bx b (n + m) H' → Q p.v H'
def nameWords : List Str := ["to", "by", "at", "for", "staff", "ticket", "lock", "open", "leave", "come", "a", "end"].map Str.ofString
theorem nameWords_ok : ∀ z ∈ nameWords, NameOk z := by
  have key : ∀ z ∈ nameWords, (decide (1 ≤ z.length) && decide (z.length ≤ 6) && z.cps.toList.all lc) = true := by decide +kernel
  intro z hz
  have k := key z hz
  simp only [Bool.and_eq_true, decide_eq_true_eq] at k
  exact ⟨k.1.1, k.1.2, k.2⟩
theorem joinL_nil : ∀ ps : List (List Nat), joinL [] ps = ps.flatten
  | [] => rfl
  | [p] => by simp [joinL]
  | p :: q :: r => by
    have e : joinL [] (p :: q :: r) = p ++ ([] ++ joinL [] (q :: r)) := rfl
    rw [e, joinL_nil (q :: r)]
    simp
theorem join_signs (cs : List Nat) : tl (Txt.join (Str.ofString "") (cs.map fun c => (⟨#[c]⟩ : Str))) = cs := by
  rw [join_eq, tl_join, show tl (Str.ofString "") = [] by decide +kernel, joinL_nil, List.map_map]
  induction cs with
  | nil => rfl
  | cons c r ih =>
    rw [List.map_cons, List.flatten_cons, ih]
    rfl
theorem signs_name {cs : List Nat} (h1 : 1 ≤ cs.length) (h6 : cs.length ≤ 6) (h : ∀ c ∈ cs, lc c = true) : NameOk (Txt.join (Str.ofString "") (cs.map fun c => (⟨#[c]⟩ : Str))) := by
  have e := join_signs cs
  refine ⟨by rw [len_tl, e]; exact h1, by rw [len_tl, e]; exact h6, ?_⟩
  show (tl _).all lc = true
  rw [e]
  exact List.all_eq_true.mpr h
theorem ok_law_name {f fT : Addr} {fd fdT : FuncData} (F : Fun K "_law_name" "_law_name" s_law_name f fd) (T : Txt mg)
    (Nlaw_take : Fn K mg "_law_take" sTake ["_law_box_here", "_law_many"] fT fdT) (Glaw_take : FnOk P w K mg base CX0 1 fT fdT ["_law_box_here", "_law_many"] spTake) :
    FnOk P w K mg base CX0 2 f fd ["_law_box_here"] (spDraw .name 8) := by
  refine F.ok sc_law_name (fun vs H Q E h => ?_) (fun cdv A outer s H vs Q E hr h => ?_)
  · obtain ⟨b, n, rfl, _⟩ := h
    rfl
  · obtain ⟨b, n, rfl, hB, n0, n1, k⟩ := h
    refine ⟨_, pss_cons (ps_set (i := 1) sc_law_name.nd rfl (Or.inl rfl) (pe_lst (pa_cons pe_str (pa_cons pe_str (pa_cons pe_str (pa_cons pe_str (pa_cons pe_str (pa_cons pe_str (pa_cons pe_str (pa_cons pe_str (pa_cons pe_str (pa_cons pe_str (pa_cons pe_str (pa_cons pe_str pa_nil))))))))))))))
      (pss_cons (ps_if (pt_cmpR op_eq (pe_call Glaw_take (hr.mono (by decide)) (by rfl) Nlaw_take.g Nlaw_take.kp Nlaw_take.b .nil pass0 (pa_cons (pv 0) (pa_cons pe_int pa_nil))) pe_int (nomark _)) (pss_one (ps_ret (pe_ix ix_list (pv 1) (pe_call Glaw_take (hr.mono (by decide)) (by rfl) Nlaw_take.g Nlaw_take.kp Nlaw_take.b .nil pass0 (pa_cons (pv 0) (pa_cons pe_int pa_nil))) (fun _ _ => rfl)))) pss_nil)
      (pss_one (ps_ret (pe_join pe_str (pe_lc (own := [("_law_k", 2)]) (g := gName 2) (tt := tYes) rfl sc_law_name.nd (pi_range1 (by rfl) T.range_ (pa_cons (pe_op op_add pe_int (pe_call Glaw_take (hr.mono (by decide)) (by rfl) Nlaw_take.g Nlaw_take.kp Nlaw_take.b .nil pass0 (pa_cons (pv 0) (pa_cons pe_int pa_nil)))) pa_nil)) (blkOk_by (own := [("_law_k", 2)]) (N := ["_law_box_here", "_law_words", "_law_k"]) (sc := defScope s_law_name) (by decide +kernel)) (fun _ _ _ _ _ => (pg_name (i := 2) sc_law_name.nd rfl (Or.inl rfl))) (fun _ _ _ _ _ => pts_nil) (fun _ _ _ _ _ => (pe_ix ix_str pe_str (pe_call Glaw_take (hr.mono (by decide)) (by rfl) Nlaw_take.g Nlaw_take.kp Nlaw_take.b .nil pass0 (pa_cons (pv 0) (pa_cons pe_int pa_nil))) (fun _ _ => rfl)))))))), ?_⟩
    refine ⟨by show 12 ≤ sizeLine; decide, fun L hL => ?_⟩
    have k0 : KB b H (upd H L (.lst (nameWords.map V.str))) := KB.alloc hL
    have B0 : Bx b n (upd H L (.lst (nameWords.map V.str))) := hB.alloc hL
    have nLb : L ≠ b := hB.fresh hL
    have hW : (upd H L (.lst (nameWords.map V.str))) L = some (.lst (nameWords.map V.str)) := upd_same
    have e12 : nameWords.map V.str = [.str "to", .str "by", .str "at", .str "for", .str "staff", .str "ticket", .str "lock", .str "open", .str "leave", .str "come", .str "a", .str "end"] := rfl
    rw [← e12]
    generalize upd H L (.lst (nameWords.map V.str)) = H0 at k0 B0 hW ⊢
    refine ⟨_, rfl, b, 4, n, rfl, B0, by omega, by decide, by decide, fun way H1 w0 w1 off1 B1 => ?_⟩
    have k1 : KB b H H1 := k0.trans (KB.off off1)
    have hW1 : H1 L = some (.lst (nameWords.map V.str)) := by rw [off1 L nLb]; exact hW
    refine ⟨rfl, _, rfl, ite2 (fun c => ?_) (fun c => ?_)⟩
    · refine ⟨_, rfl, _, rfl, b, 12, n + 1, rfl, B1, by omega, by decide, by decide, fun j H2 j0 j1 off2 B2 => ?_⟩
      obtain ⟨v, hv, ev⟩ := atI_ex (xs := nameWords.map V.str) j0 (by rw [show (nameWords.map V.str).length = 12 from rfl]; exact j1)
      obtain ⟨z, hz, rfl⟩ := List.mem_map.mp hv
      refine ⟨L, _, j, _, rfl, rfl, SqL.of (by rw [off2 L nLb]; exact hW1), ev, k (.s z) H2 (nameWords_ok z hz) (k1.trans (KB.off off2)) (B2.mono (by omega))⟩
    · refine ⟨⟨_, rfl⟩, _, rfl, b, 6, n + 1, rfl, B1, by omega, by decide, by decide, fun d H2 d0 d1 off2 B2 => ?_⟩
      obtain ⟨e, rfl⟩ := Int.eq_ofNat_of_zero_le d0
      have k2 : KB b H H2 := k1.trans (KB.off off2)
      refine ⟨_, _, rfl, rfl, 1 + (e : Int), rfl, by omega, by omega, fun D hD => ?_⟩
      have nDb : D ≠ b := B2.fresh hD
      refine lc_it (walk_range (lo := 0) (n := (1 + (e : Int)).toNat)) (fun i H' => ∃ cs : List Nat, cs.length = i ∧ (∀ c ∈ cs, lc c = true) ∧ H' D = some (.lst (cs.map fun c => V.str ⟨#[c]⟩)) ∧ KB b H2 H' ∧ Bx b (n + 1 + 1 + i) H')
        ⟨[], rfl, fun c hc => (nomatch hc), upd_same, KB.alloc hD, (B2.alloc hD).mono (by omega)⟩ (fun _ _ _ _ => trivial) ?_ ?_
      · rintro i v H3 H4 hi ⟨cs, h1, h2, h3, h4, h5⟩ ⟨rfl, rfl⟩
        refine ⟨rfl, lcY ?_⟩
        have hi7 : i < 7 := by omega
        refine ⟨_, rfl, b, 26, n + 1 + 1 + i, rfl, h5, by omega, by decide, by decide, fun j H5 j0 j1 off5 B5 => ?_⟩
        obtain ⟨c, hc, ec⟩ := atI_ex (xs := (Str.ofString "abcdefghijklmnopqrstuvwxyz").cps.toList) j0 (by rw [show (Str.ofString "abcdefghijklmnopqrstuvwxyz").cps.toList.length = 26 by decide +kernel]; exact j1)
        have hlc : lc c = true := by rw [← letters_mem]; exact decide_eq_true hc
        refine ⟨_, j, c, rfl, rfl, by decide +kernel, ec, _, by rw [off5 D nDb]; exact h3, ?_, cs ++ [c], ?_, ?_, ?_, ?_, ?_⟩
        · rw [List.length_map, h1]; exact Nat.lt_trans hi7 (by decide)
        · rw [List.length_append, h1]; rfl
        · intro x hx
          rcases List.mem_append.mp hx with hx | hx
          · exact h2 x hx
          · rw [List.mem_singleton.mp hx]; exact hlc
        · rw [upd_same, List.map_append]; rfl
        · intro x o nx e
          rw [upd_ne (ne_of_none e hD)]
          exact (off5 x nx).trans (h4 x o nx e)
        · exact ((B5.put nDb).mono (by omega))
      · rintro H3 ⟨cs, h1, h2, h3, h4, h5⟩
        have h17 : 1 ≤ cs.length ∧ cs.length ≤ 6 := by omega
        refine ⟨_, D, cs.map fun c => (⟨#[c]⟩ : Str), rfl, rfl, .inl (SqL.of ?_), ?_, ?_⟩
        · rw [h3, List.map_map]; rfl
        · have s1 := sum_ones (cs.map fun c => (⟨#[c]⟩ : Str)) (fun z hz => by obtain ⟨c, _, rfl⟩ := List.mem_map.mp hz; exact Nat.le_refl 1)
          rw [show (Str.ofString "").length = 0 by decide +kernel, List.length_map]
          rw [List.length_map] at s1
          omega
        · exact k (.s _) H3 (signs_name h17.1 h17.2 h2) (k2.trans h4) (h5.mono (by omega))
theorem int_at {xs : List V} {d : Int} (hx : ∀ v ∈ xs, ∃ i : Int, v = .int i ∧ 0 ≤ i ∧ i ≤ 999999) (h0 : 0 ≤ d) (h1 : d < xs.length) : ∃ i : Int, 0 ≤ i ∧ i ≤ 999999 ∧ atI xs d = some (.int i) := by
  obtain ⟨v, hv, ev⟩ := atI_ex h0 h1
  obtain ⟨i, rfl, a, b⟩ := hx v hv
  exact ⟨i, a, b, ev⟩
theorem ok_law_number {f fT : Addr} {fd fdT : FuncData} (F : Fun K "_law_number" "_law_number" s_law_number f fd) (T : Txt mg)
    (Nlaw_take : Fn K mg "_law_take" sTake ["_law_box_here", "_law_many"] fT fdT) (Glaw_take : FnOk P w K mg base CX0 1 fT fdT ["_law_box_here", "_law_many"] spTake) :
    FnOk P w K mg base CX0 2 f fd ["_law_box_here"] (spDraw .number 8) := by
  refine F.ok sc_law_number (fun vs H Q E h => ?_) (fun cdv A outer s H vs Q E hr h => ?_)
  · obtain ⟨b, n, rfl, _⟩ := h
    rfl
  · obtain ⟨b, n, rfl, hB, n0, n1, k⟩ := h
    refine ⟨_, pss_cons (ps_set (i := 1) sc_law_number.nd rfl (Or.inl rfl) (pe_call Glaw_take (hr.mono (by decide)) (by rfl) Nlaw_take.g Nlaw_take.kp Nlaw_take.b .nil pass0 (pa_cons (pv 0) (pa_cons pe_int pa_nil))))
      (pss_cons (ps_if (pt_cmpR op_lt (pv 1) pe_int (nomark _)) (pss_one (ps_ret (pe_ix ix_list (pe_lst (pa_cons pe_int (pa_cons pe_int pa_nil))) (pv 1) (fun _ _ => rfl)))) pss_nil)
      (pss_cons (ps_if (pt_cmpR op_eq (pv 1) pe_int (nomark _)) (pss_one (ps_ret (pe_ix ix_list (pe_lst (pa_cons pe_int (pa_cons pe_int (pa_cons pe_int (pa_cons pe_int (pa_cons (pe_op op_pow pe_int pe_int) (pa_cons (pe_op op_pow pe_int pe_int) pa_nil))))))) (pe_call Glaw_take (hr.mono (by decide)) (by rfl) Nlaw_take.g Nlaw_take.kp Nlaw_take.b .nil pass0 (pa_cons (pv 0) (pa_cons pe_int pa_nil))) (fun _ _ => rfl)))) pss_nil)
      (pss_one (ps_ret (pe_call Glaw_take (hr.mono (by decide)) (by rfl) Nlaw_take.g Nlaw_take.kp Nlaw_take.b .nil pass0 (pa_cons (pv 0) (pa_cons (pe_ix ix_list (pe_lst (pa_cons pe_int (pa_cons pe_int pa_nil))) (pe_op op_sub (pv 1) pe_int) (fun _ _ => rfl)) pa_nil))))))), ?_⟩
    refine ⟨_, rfl, b, 5, n, rfl, hB, by omega, by decide, by decide, fun way H1 w0 w1 off1 B1 => ?_⟩
    have k1 : KB b H H1 := KB.off off1
    refine ⟨_, rfl, _, _, rfl, rfl, _, rfl, ite2 (fun c1 => ?_) (fun c1 => ?_)⟩
    · have c1 : way < 2 := of_decide_eq_true c1
      refine ⟨by show 2 ≤ sizeLine; decide, fun L hL => ?_⟩
      obtain ⟨i, i0, i1, ei⟩ := int_at (xs := [V.int 0, .int 999999]) (d := way) (by intro v hv; simp only [List.mem_cons, List.not_mem_nil, or_false] at hv; rcases hv with rfl | rfl <;> exact ⟨_, rfl, by decide, by decide⟩) w0 (by show way < 2; omega)
      exact ⟨_, rfl, L, _, way, _, rfl, rfl, SqL.of upd_same, ei, k (.n i) _ ⟨i0, i1⟩ (k1.trans (KB.alloc hL)) ((B1.alloc hL).mono (by omega))⟩
    · have c1 : ¬ way < 2 := by simpa using c1
      refine ⟨_, rfl, rfl, _, rfl, ite2 (fun c2 => ?_) (fun c2 => ?_)⟩
      · refine ⟨_, _, rfl, rfl, ⟨by decide, by decide, by decide⟩, _, _, rfl, rfl, ⟨by decide, by decide, by decide⟩, by show 6 ≤ sizeLine; decide, fun L hL => ?_⟩
        have nLb : L ≠ b := B1.fresh hL
        refine ⟨_, rfl, b, 6, n + 1, rfl, B1.alloc hL, by omega, by decide, by decide, fun j H2 j0 j1 off2 B2 => ?_⟩
        obtain ⟨i, i0, i1, ei⟩ := int_at (xs := [V.int 1, .int 10, .int 100, .int 1000, .int (10 ^ (4 : Int).toNat), .int (10 ^ (5 : Int).toNat)]) (d := j) (by intro v hv; simp only [List.mem_cons, List.not_mem_nil, or_false] at hv; rcases hv with rfl | rfl | rfl | rfl | rfl | rfl <;> exact ⟨_, rfl, by decide, by decide⟩) j0 j1
        exact ⟨L, _, j, _, rfl, rfl, SqL.of (by rw [off2 L nLb, upd_same]), ei, k (.n i) _ ⟨i0, i1⟩ ((k1.trans (KB.alloc hL)).trans (KB.off off2)) (B2.mono (by omega))⟩
      · have c2 : way ≠ 2 := by
          intro e
          subst e
          exact absurd c2 (by decide)
        refine ⟨_, rfl, by show 2 ≤ sizeLine; decide, fun L hL => ?_⟩
        have nLb : L ≠ b := B1.fresh hL
        obtain ⟨i, i0, i1, ei⟩ : ∃ i : Int, (0 < i ∧ i ≤ 999999) ∧ i.natAbs.log2 < 9000 ∧ atI [V.int 10, .int 999999] (way - 3) = some (.int i) := by
          have : way = 3 ∨ way = 4 := by omega
          rcases this with rfl | rfl
          · exact ⟨10, by decide, by decide +kernel, rfl⟩
          · exact ⟨999999, by decide, by decide +kernel, rfl⟩
        refine ⟨_, rfl, _, _, rfl, rfl, L, _, way - 3, _, rfl, rfl, SqL.of upd_same, ei, b, i, n + 1, rfl, B1.alloc hL, by omega, i0.1, i1, fun j H2 j0 j1 off2 B2 => ?_⟩
        exact k (.n j) _ ⟨j0, by omega⟩ ((k1.trans (KB.alloc hL)).trans (KB.off off2)) (B2.mono (by omega))
/-- the forms, as the law lays them -/
def formTexts : List Str := ["leave N to N by H", "come N", "lock N K for N", "pilot N K", "unlock N K", "give N K", "take N K", "box N K", "walk N to N", "help N N", "bring N to N", "again N D K", "get K", "lose K"].map Str.ofString
def spForms : Sp := fun vs H Q _ => vs = [] ∧ ∀ l H', H l = none → Same H H' → H' l = some (.lst (formTexts.map V.str)) → Q (.ref l) H'
theorem ok_law_forms {f : Addr} {fd : FuncData} (F : Fun K "_law_forms" "_law_forms" s_law_forms f fd) :
    FnOk P w K mg base CX0 1 f fd [] spForms := by
  refine F.ok sc_law_forms (fun vs H Q E h => ?_) (fun cdv A outer s H vs Q E hr h => ?_)
  · obtain ⟨rfl, _⟩ := h
    rfl
  · obtain ⟨rfl, k⟩ := h
    refine ⟨_, pss_cons (ps_set (i := 0) sc_law_forms.nd rfl (Or.inl rfl) (pe_lst (pa_cons pe_str (pa_cons pe_str (pa_cons pe_str (pa_cons pe_str (pa_cons pe_str (pa_cons pe_str (pa_cons pe_str pa_nil)))))))))
      (pss_one (ps_ret (pe_op op_cat (pv 0) (pe_lst (pa_cons pe_str (pa_cons pe_str (pa_cons pe_str (pa_cons pe_str (pa_cons pe_str (pa_cons pe_str (pa_cons pe_str pa_nil))))))))))), ?_⟩
    refine ⟨by show 7 ≤ sizeLine; decide, fun a ha => ?_⟩
    refine ⟨_, rfl, by show 7 ≤ sizeLine; decide, fun b hb => ?_⟩
    have nab : b ≠ a := fun z => by rw [z, upd_same] at hb; cases hb
    refine ⟨a, b, _, _, rfl, rfl, by rw [upd_ne nab.symm, upd_same], upd_same, by show 14 ≤ sizeLine; decide, fun l hl => ?_⟩
    exact k l _ (by
      cases e : H l with
      | none => rfl
      | some o => rw [same_alloc hb l o (same_alloc ha l o e)] at hl; cases hl) (fun c o h => same_alloc hl c o (same_alloc hb c o (same_alloc ha c o h))) upd_same
def So.sign : So → Str
  | .name => Str.ofString "N"
  | .number => Str.ofString "K"
  | .thing => Str.ofString "H"
  | .kind => Str.ofString "D"
def spDrawOf (m : Int) : Sp := fun vs H Q _ => ∃ (b : Addr) (n : Int) (x : So), vs = [.ref b, .str x.sign] ∧ Bx b n H ∧ 0 ≤ n ∧ n ≤ 1000 ∧ ∀ p H', x.ok p → KB b H H' → Bx b (n + m) H' → Q p.v H'
theorem ok_law_part {f f1 f2 fT : Addr} {fd fd1 fd2 fdT : FuncData} (F : Fun K "_law_part" "_law_part" s_law_part f fd) (T : Txt mg)
    (Nlaw_take : Fn K mg "_law_take" sTake ["_law_box_here", "_law_many"] fT fdT) (Glaw_take : FnOk P w K mg base CX0 1 fT fdT ["_law_box_here", "_law_many"] spTake) 
    (Nlaw_name : Fn K mg "_law_name" s_law_name ["_law_box_here"] f1 fd1) (Glaw_name : FnOk P w K mg base CX0 2 f1 fd1 ["_law_box_here"] (spDraw .name 8)) 
    (Nlaw_number : Fn K mg "_law_number" s_law_number ["_law_box_here"] f2 fd2) (Glaw_number : FnOk P w K mg base CX0 2 f2 fd2 ["_law_box_here"] (spDraw .number 8)) :
    FnOk P w K mg base CX0 3 f fd ["_law_box_here", "_law_sign"] (spDrawOf 8) := by
  refine F.ok sc_law_part (fun vs H Q E h => ?_) (fun cdv A outer s H vs Q E hr h => ?_)
  · obtain ⟨b, n, x, rfl, _⟩ := h
    rfl
  · obtain ⟨b, n, x, rfl, hB, n0, n1, k⟩ := h
    refine ⟨_, pss_cons (ps_if (pt_cmpR op_eq (pv 1) pe_str (nomark _)) (pss_one (ps_ret (pe_call Glaw_name (hr.mono (by decide)) (by rfl) Nlaw_name.g Nlaw_name.kp Nlaw_name.b .nil pass0 (pa_cons (pv 0) pa_nil)))) pss_nil)
      (pss_cons (ps_if (pt_cmpR op_eq (pv 1) pe_str (nomark _)) (pss_one (ps_ret (pe_call Glaw_number (hr.mono (by decide)) (by rfl) Nlaw_number.g Nlaw_number.kp Nlaw_number.b .nil pass0 (pa_cons (pv 0) pa_nil)))) pss_nil)
      (pss_cons (ps_if (pt_cmpR op_eq (pv 1) pe_str (nomark _)) (pss_one (ps_ret (pe_ix ix_list (pe_lst (pa_cons pe_str (pa_cons pe_str (pa_cons pe_str (pa_cons pe_str pa_nil))))) (pe_call Glaw_take (hr.mono (by decide)) (by rfl) Nlaw_take.g Nlaw_take.kp Nlaw_take.b .nil pass0 (pa_cons (pv 0) (pa_cons pe_int pa_nil))) (fun _ _ => rfl)))) pss_nil)
      (pss_one (ps_ret (pe_ix ix_list (pe_lst (pa_cons pe_str (pa_cons pe_str (pa_cons pe_str pa_nil)))) (pe_call Glaw_take (hr.mono (by decide)) (by rfl) Nlaw_take.g Nlaw_take.kp Nlaw_take.b .nil pass0 (pa_cons (pv 0) (pa_cons pe_int pa_nil))) (fun _ _ => rfl)))))), ?_⟩
    have d1 : ∀ y : So, decide (V.str y.sign = V.str (Str.ofString "N")) = (match y with | .name => true | _ => false) := by intro y; cases y <;> decide +kernel
    have d2 : ∀ y : So, decide (V.str y.sign = V.str (Str.ofString "K")) = (match y with | .number => true | _ => false) := by intro y; cases y <;> decide +kernel
    have d3 : ∀ y : So, decide (V.str y.sign = V.str (Str.ofString "H")) = (match y with | .thing => true | _ => false) := by intro y; cases y <;> decide +kernel
    refine ⟨_, rfl, rfl, _, rfl, ?_⟩
    rw [d1]
    cases x with
    | name => exact ⟨_, rfl, b, n, rfl, hB, n0, n1, k⟩
    | number =>
      refine iteF ⟨_, rfl, rfl, _, rfl, ?_⟩
      rw [d2]
      exact ⟨_, rfl, b, n, rfl, hB, n0, n1, k⟩
    | thing =>
      refine iteF ⟨_, rfl, rfl, _, rfl, ?_⟩
      rw [d2]
      refine iteF ⟨_, rfl, rfl, _, rfl, ?_⟩
      rw [d3]
      refine ⟨by show 4 ≤ sizeLine; decide, fun L hL => ?_⟩
      have nLb : L ≠ b := hB.fresh hL
      refine ⟨_, rfl, b, 4, n, rfl, hB.alloc hL, by omega, by decide, by decide, fun j H2 j0 j1 off2 B2 => ?_⟩
      obtain ⟨v, hv, ev⟩ := atI_ex (xs := things.map V.str) j0 (by rw [show (things.map V.str).length = 4 from rfl]; exact j1)
      obtain ⟨z, hz, rfl⟩ := List.mem_map.mp hv
      exact ⟨L, _, j, _, rfl, rfl, SqL.of (by rw [off2 L nLb, upd_same]; rfl), ev, k (.s z) H2 hz ((KB.alloc hL).trans (KB.off off2)) (B2.mono (by omega))⟩
    | kind =>
      refine iteF ⟨_, rfl, rfl, _, rfl, ?_⟩
      rw [d2]
      refine iteF ⟨_, rfl, rfl, _, rfl, ?_⟩
      rw [d3]
      refine iteF ⟨by show 3 ≤ sizeLine; decide, fun L hL => ?_⟩
      have nLb : L ≠ b := hB.fresh hL
      refine ⟨_, rfl, b, 3, n, rfl, hB.alloc hL, by omega, by decide, by decide, fun j H2 j0 j1 off2 B2 => ?_⟩
      obtain ⟨v, hv, ev⟩ := atI_ex (xs := kinds.map V.str) j0 (by rw [show (kinds.map V.str).length = 3 from rfl]; exact j1)
      obtain ⟨z, hz, rfl⟩ := List.mem_map.mp hv
      exact ⟨L, _, j, _, rfl, rfl, SqL.of (by rw [off2 L nLb, upd_same]; rfl), ev, k (.s z) H2 hz ((KB.alloc hL).trans (KB.off off2)) (B2.mono (by omega))⟩
end
end D3

set_option maxRecDepth 100000
set_option maxHeartbeats 800000
namespace D3
open PySem PySem.Spec PyProof.Rows L2 GxR Gd TL My
/-! ### a row, word by word -/
def Fw.sg : Fw → Str
  | .lit z => z
  | .so x => x.sign
theorem forms_sg : ∀ j : Nat, j < 14 → ∃ fm, fm ∈ forms ∧ ∃ z, (formTexts.map V.str)[j]? = some (.str z) ∧ z.length ≤ 40 ∧ Txt.split z (Str.ofString " ") = fm.2.2.map Fw.sg := by
  have key : ∀ j : Nat, j < 14 → ((forms[j]?.bind fun fm => formTexts[j]?.map fun z => decide (z.length ≤ 40) && decide (Txt.split z (Str.ofString " ") = fm.2.2.map Fw.sg)) = some true) := by decide +kernel
  intro j hj
  have h := key j hj
  cases e : forms[j]? with
  | none => rw [e] at h; cases h
  | some fm =>
    cases e2 : formTexts[j]? with
    | none => rw [e, e2] at h; cases h
    | some z =>
      rw [e, e2] at h
      have h : (decide (z.length ≤ 40) && decide (Txt.split z (Str.ofString " ") = fm.2.2.map Fw.sg)) = true := Option.some.inj h
      rw [Bool.and_eq_true, decide_eq_true_eq, decide_eq_true_eq] at h
      exact ⟨fm, List.mem_of_getElem? e, z, by rw [List.getElem?_map, e2]; rfl, h.1, h.2⟩
theorem joinL_snoc {S : List Nat} : ∀ {ps : List (List Nat)} {p : List Nat}, ps ≠ [] → joinL S (ps ++ [p]) = joinL S ps ++ (S ++ p)
  | [], _, h => absurd rfl h
  | [q], p, _ => rfl
  | q :: r :: t, p, _ => by
    show q ++ (S ++ joinL S ((r :: t) ++ [p])) = q ++ (S ++ joinL S (r :: t)) ++ (S ++ p)
    rw [joinL_snoc (by simp)]
    simp
theorem join_snoc {y z : Str} {l : List Str} (h : l ≠ []) : Txt.join y (l ++ [z]) = Txt.join y l ++ y ++ z := by
  have e : tl (Txt.join y (l ++ [z])) = tl (Txt.join y l ++ y ++ z) := by
    rw [join_eq, join_eq, tl_join, tl_append, tl_append, tl_join, List.map_append, List.map_cons, List.map_nil, joinL_snoc (by simpa using h), List.append_assoc]
  rw [← mk_tl (Txt.join y (l ++ [z])), e, mk_tl]
theorem fit_lit {f : List Fw} {ps : List Pa} (h : Fit f ps) (z : Str) : Fit (f ++ [.lit z]) ps ∧ row (f ++ [.lit z]) ps = row f ps ++ [z] := by
  induction h with
  | nil => exact ⟨.lit .nil, rfl⟩
  | lit _ ih => exact ⟨.lit ih.1, congrArg (List.cons _) ih.2⟩
  | so hx _ ih => exact ⟨.so hx ih.1, congrArg (List.cons _) ih.2⟩
theorem fit_so {f : List Fw} {ps : List Pa} (h : Fit f ps) {x : So} {p : Pa} (hp : x.ok p) : Fit (f ++ [.so x]) (ps ++ [p]) ∧ row (f ++ [.so x]) (ps ++ [p]) = row f ps ++ [p.t] := by
  induction h with
  | nil => exact ⟨.so hp .nil, rfl⟩
  | lit _ ih => exact ⟨.lit ih.1, congrArg (List.cons _) ih.2⟩
  | so hx _ ih => exact ⟨.so hx ih.1, congrArg (List.cons _) ih.2⟩
/-- no literal is a sign of a sort -/
theorem sg_in : ∀ f ∈ forms, ∀ x ∈ f.2.2, inV (.str x.sg) ([Str.ofString "N", Str.ofString "K", Str.ofString "H", Str.ofString "D"].map V.str) = (match x with | .so _ => true | .lit _ => false) := by
  have key : ∀ f ∈ forms, ∀ x ∈ f.2.2, (decide (x.sg ∈ [Str.ofString "N", Str.ofString "K", Str.ofString "H", Str.ofString "D"])) = (match x with | .so _ => true | .lit _ => false) := by decide +kernel
  intro f hf x hx
  rw [in_strs]
  exact key f hf x hx
section
variable {P : Program} {w : World} {K : PySem.W.Frag} {mg : Str → Option Value} {base : Heap} {P1 P2 P3 aSORTS aFORMS : Addr} {fs : So → Addr} {es ef : Array DictEntry} {nS nF : Nat} {tM : Tok}
abbrev s_law_deed : Stmt := top 37
theorem sc_law_deed : FnScope ["_law_box_here", "_law_words", "_law_deed_here", "_law_row", "_law_word"] ["_law_box_here"] (defScope s_law_deed) := ⟨rfl, rfl, rfl, by decide +kernel, rfl, by decide +kernel, by decide +kernel⟩
abbrev s_law_right : Stmt := top 38
theorem sc_law_right : FnScope ["_law_deed_here", "_law_row", "_law_first", "_law_found"] ["_law_deed_here", "_law_row", "_law_first"] (defScope s_law_right) := ⟨rfl, rfl, rfl, by decide +kernel, rfl, by decide +kernel, by decide +kernel⟩
def spLawDeed : Sp := fun vs H Q _ => ∃ (b : Addr) (n : Int), vs = [.ref b] ∧ Bx b n H ∧ 0 ≤ n ∧ n ≤ 100 ∧ ∀ (fm : String × String × List Fw) (ps : List Pa) (r d : Addr) (H' : Hp), fm ∈ forms → Fit fm.2.2 ps → KB b H H' → Bx b 200 H' → H r = none → H' r = some (.lst [.ref d, .str (rowT fm ps)]) → H' d = some (.tup (dv fm ps)) → Q (.ref r) H'
theorem ok_law_deed {f f1 f2 fT : Addr} {fd fd1 fd2 fdT : FuncData} (F : Fun K "_law_deed" "_law_deed" s_law_deed f fd) (T : Txt mg)
    (Nlaw_take : Fn K mg "_law_take" sTake ["_law_box_here", "_law_many"] fT fdT) (Glaw_take : FnOk P w K mg base CX0 1 fT fdT ["_law_box_here", "_law_many"] spTake)
    (Nlaw_forms : Fn K mg "_law_forms" s_law_forms [] f1 fd1) (Glaw_forms : FnOk P w K mg base CX0 1 f1 fd1 [] spForms)
    (Nlaw_part : Fn K mg "_law_part" s_law_part ["_law_box_here", "_law_sign"] f2 fd2) (Glaw_part : FnOk P w K mg base CX0 3 f2 fd2 ["_law_box_here", "_law_sign"] (spDrawOf 8)) :
    FnOk P w K mg base CX0 4 f fd ["_law_box_here"] spLawDeed := by
  refine F.ok sc_law_deed (fun vs H Q E h => ?_) (fun cdv A outer s H vs Q E hr h => ?_)
  · obtain ⟨b, n, rfl, _⟩ := h
    rfl
  · obtain ⟨b, n, rfl, hB, n0, n1, k⟩ := h
    refine ⟨_, pss_cons (ps_set (i := 1) sc_law_deed.nd rfl (Or.inl rfl) (pe_split (pe_ix ix_list (pe_call0 Glaw_forms (hr.mono (by decide)) (by rfl) Nlaw_forms.g Nlaw_forms.kp Nlaw_forms.b .nil pass0) (pe_call Glaw_take (hr.mono (by decide)) (by rfl) Nlaw_take.g Nlaw_take.kp Nlaw_take.b .nil pass0 (pa_cons (pv 0) (pa_cons pe_int pa_nil))) (fun _ _ => rfl)) pe_str))
      (pss_cons (ps_set (i := 2) sc_law_deed.nd rfl (Or.inl rfl) (pe_tup (pa_cons (pe_ix ix_list (pv 1) pe_int (fun _ _ => rfl)) pa_nil)))
      (pss_cons (ps_set (i := 3) sc_law_deed.nd rfl (Or.inl rfl) (pe_ix ix_list (pv 1) pe_int (fun _ _ => rfl)))
      (pss_cons (ps_for PassesOwn.never rfl (pi_list (pe_slice sl_list (pv 1) (po_some pe_int) po_none)) (pg_name (i := 4) sc_law_deed.nd rfl (Or.inl rfl)) (pss_one (ps_if (pt_cmpR op_in_seq (pv 4) (pe_tup (pa_cons pe_str (pa_cons pe_str (pa_cons pe_str (pa_cons pe_str pa_nil))))) rfl) (pss_cons (ps_set (i := 2) sc_law_deed.nd rfl (Or.inl rfl) (pe_op op_catA (pv 2) (pe_tup (pa_cons (pe_call Glaw_part (hr.mono (by decide)) (by rfl) Nlaw_part.g Nlaw_part.kp Nlaw_part.b .nil pass0 (pa_cons (pv 0) (pa_cons (pv 4) pa_nil))) pa_nil))))
              (pss_one (ps_set (i := 3) sc_law_deed.nd rfl (Or.inl rfl) (pe_op op_add_str (pe_op op_add_str (pv 3) pe_str) (pe_callTy call_str_is (by rfl) T.str_ (by decide +kernel) (pa_cons (pe_ix ix_tup (pv 2) (pe_un un_neg pe_int) (fun _ _ => rfl)) pa_nil)))))) (pss_one (ps_set (i := 3) sc_law_deed.nd rfl (Or.inl rfl) (pe_op op_add_str (pe_op op_add_str (pv 3) pe_str) (pv 4)))))))
      (pss_one (ps_ret (pe_lst (pa_cons (pv 2) (pa_cons (pv 3) pa_nil)))))))), ?_⟩
    refine ⟨rfl, fun L1 H1 hL1 s1 e1 => ?_⟩
    have nL1b : L1 ≠ b := hB.fresh hL1
    have B1 : Bx b n H1 := hB.same (by obtain ⟨x, y, z, h1, _⟩ := hB; rw [h1]; exact s1 _ _ h1)
    refine ⟨_, rfl, b, 14, n, rfl, B1, by omega, by decide, by decide, fun j H2 j0 j1 off2 B2 => ?_⟩
    obtain ⟨j, rfl⟩ := Int.eq_ofNat_of_zero_le j0
    obtain ⟨fm, hfm, z, ez, lz, sz⟩ := forms_sg j (by omega)
    refine ⟨L1, _, j, _, rfl, rfl, SqL.of (by rw [off2 L1 nL1b]; exact e1), atI_nat ez, ⟨_, rfl⟩, _, _, rfl, rfl, rfl, Nat.le_trans (Nat.add_le_add_right lz 2) (by decide), fun W hW => ?_⟩
    rw [sz]
    have k2 : KB b H H2 := fun c o nc e => (off2 c nc).trans (s1 c o e)
    obtain ⟨fr, efr⟩ := forms_head fm hfm
    have l6 := forms_len fm hfm
    have fin := forms_in fm hfm
    have hsg := sg_in
    have nWb : W ≠ b := B2.fresh hW
    have kW : KB b H2 (upd H2 W (.lst ((fm.2.2.map Fw.sg).map V.str))) := KB.alloc hW
    have BW : Bx b (n + 1) (upd H2 W (.lst ((fm.2.2.map Fw.sg).map V.str))) := B2.alloc hW
    have eW : upd H2 W (.lst ((fm.2.2.map Fw.sg).map V.str)) W = some (.lst ((fm.2.2.map Fw.sg).map V.str)) := upd_same
    generalize upd H2 W (.lst ((fm.2.2.map Fw.sg).map V.str)) = H3 at kW BW eW ⊢
    have k3 : KB b H H3 := k2.trans kW
    have a0 : atI ((fm.2.2.map Fw.sg).map V.str) 0 = some (.str (Str.ofString fm.1)) := by rw [efr]; exact atI_nat (j := 0) rfl
    refine ⟨_, rfl, W, _, 0, _, rfl, rfl, SqL.of eW, a0, by show 1 ≤ sizeLine; decide, fun d hd => ?_⟩
    have ndW : d ≠ W := fun z => by rw [z, eW] at hd; cases hd
    refine ⟨_, rfl, W, _, 0, _, rfl, rfl, SqL.of (by rw [upd_ne ndW.symm]; exact eW), a0, ?_⟩
    refine ⟨_, rfl, _, rfl, W, _, rfl, SqL.of (by rw [upd_ne ndW.symm]; exact eW), fun M hM => ?_⟩
    have nMd : M ≠ d := fun z => by rw [z, upd_same] at hM; cases hM
    have nMb : M ≠ b := (BW.alloc hd).fresh hM
    have ndb : d ≠ b := BW.fresh hd
    have ecut : cutV ((fm.2.2.map Fw.sg).map V.str) (some 1) none = (fr.map Fw.sg).map V.str := by rw [efr]; exact cut1 _ _
    rw [ecut]
    have k4 : KB b H3 (upd (upd H3 d (.tup [.str (Str.ofString fm.1)])) M (.lst ((fr.map Fw.sg).map V.str))) := (KB.alloc hd).trans (KB.alloc hM)
    have B4 : Bx b (n + 1) (upd (upd H3 d (.tup [.str (Str.ofString fm.1)])) M (.lst ((fr.map Fw.sg).map V.str))) := (BW.alloc hd).alloc hM
    have eM : upd (upd H3 d (.tup [.str (Str.ofString fm.1)])) M (.lst ((fr.map Fw.sg).map V.str)) M = some (.lst ((fr.map Fw.sg).map V.str)) := upd_same
    have ed : upd (upd H3 d (.tup [.str (Str.ofString fm.1)])) M (.lst ((fr.map Fw.sg).map V.str)) d = some (.tup [.str (Str.ofString fm.1)]) := by rw [upd_ne nMd.symm, upd_same]
    generalize upd (upd H3 d (.tup [.str (Str.ofString fm.1)])) M (.lst ((fr.map Fw.sg).map V.str)) = H4 at k4 B4 eM ed ⊢
    have lfr : fr.length ≤ 5 := by rw [efr] at l6; exact Nat.le_of_succ_le_succ l6
    refine ⟨M, rfl, ⟨_, SqL.of eM⟩, for_it (D := ⟨_, _, fun _ _ => False, fun _ _ => False⟩) (walk_list (K := K) (xs := (fr.map Fw.sg).map V.str))
      (fun i σ H' => ∃ (x : Option V) (d' : Addr) (done : List Pa), σ = [some (.ref b), some (.ref W), some (.ref d'), some (.str (Txt.join (Str.ofString " ") (Str.ofString fm.1 :: row (fr.take i) done))), x] ∧ Fit (fr.take i) done ∧ H' d' = some (.tup (dv fm done)) ∧ H' M = some (.lst ((fr.map Fw.sg).map V.str)) ∧ KB b H3 H' ∧ Bx b (n + 1 + 8 * i) H')
      ⟨_, d, [], rfl, .nil, ed, eM, k4, B4.mono (by omega)⟩ (fun i σ H' _ h => by obtain ⟨_, _, _, _, _, _, h, _⟩ := h; exact SqL.of h) ?_ ?_⟩
    · rintro i v σ H5 H5' hi ⟨x, d', done, rfl, h1, h2, h3, h4, h5⟩ ⟨rfl, hv⟩
      obtain ⟨fw, hx⟩ : ∃ fw, fr[i]? = some fw := ⟨_, List.getElem?_eq_getElem (by simpa using hi)⟩
      obtain rfl : v = .str fw.sg := by
        rw [List.getElem?_map, List.getElem?_map, hx] at hv
        exact (Option.some.inj hv).symm
      have i5 : i < 5 := by
        have : i < fr.length := by simpa using hi
        omega
      have hfw : fw ∈ fm.2.2 := by rw [efr]; exact List.mem_cons_of_mem _ (List.mem_of_getElem? hx)
      have et := take_at hx
      have wk : ∀ z ∈ Str.ofString fm.1 :: row (fr.take i) done, Wok z := row_wok (f := .lit (Str.ofString fm.1) :: fr.take i) (.lit h1) (fun y hy => fin y (by rw [efr]; rcases List.mem_cons.mp hy with rfl | hy; exact List.mem_cons_self ..; exact List.mem_cons_of_mem _ (List.mem_of_mem_take hy)))
      have jl := My.join_len (Str.ofString " ") (Str.ofString fm.1 :: row (fr.take i) done)
      have s7 := sum_wok wk
      have rl := row_len h1
      rw [List.length_take] at rl
      rw [show (Str.ofString " ").length = 1 by decide +kernel, List.length_cons] at jl
      rw [List.length_cons] at s7
      have l60 : (Txt.join (Str.ofString " ") (Str.ofString fm.1 :: row (fr.take i) done)).length ≤ 60 := by omega
      refine ⟨_, rfl, by show 4 ≤ sizeLine; decide, fun q hq => ?_⟩
      have hin := hsg fm hfm fw hfw
      refine ⟨q, [Str.ofString "N", Str.ofString "K", Str.ofString "H", Str.ofString "D"].map V.str, rfl, .inr (SqT.of upd_same), rfl, strs_flat _, _, rfl, ?_⟩
      rw [if_neg Bool.false_ne_true, hin]
      have nqb : q ≠ b := h5.fresh hq
      have nqd : d' ≠ q := ne_of_none h2 hq
      have g2 : upd H5' q (.tup [.str (Str.ofString "N"), .str (Str.ofString "K"), .str (Str.ofString "H"), .str (Str.ofString "D")]) d' = some (.tup (dv fm done)) := by rw [upd_ne nqd]; exact h2
      have g3 : upd H5' q (.tup [.str (Str.ofString "N"), .str (Str.ofString "K"), .str (Str.ofString "H"), .str (Str.ofString "D")]) M = some (.lst ((fr.map Fw.sg).map V.str)) := by rw [upd_ne (ne_of_none h3 hq)]; exact h3
      have g4 : KB b H3 (upd H5' q (.tup [.str (Str.ofString "N"), .str (Str.ofString "K"), .str (Str.ofString "H"), .str (Str.ofString "D")])) := h4.trans (KB.alloc hq)
      have g5 : Bx b (n + 1 + 8 * i) (upd H5' q (.tup [.str (Str.ofString "N"), .str (Str.ofString "K"), .str (Str.ofString "H"), .str (Str.ofString "D")])) := h5.alloc hq
      generalize upd H5' q (.tup [.str (Str.ofString "N"), .str (Str.ofString "K"), .str (Str.ofString "H"), .str (Str.ofString "D")]) = H6 at g2 g3 g4 g5 ⊢
      clear h2 h3 h4 h5 hq
      have lb : (Txt.join (Str.ofString " ") (Str.ofString fm.1 :: row (fr.take i) done)).length + (Str.ofString " ").length ≤ 61 := by rw [show (Str.ofString " ").length = 1 by decide +kernel]; omega
      have lc2 : (Txt.join (Str.ofString " ") (Str.ofString fm.1 :: row (fr.take i) done) ++ Str.ofString " ").length ≤ 61 := by
        rw [len_tl, tl_append, List.length_append, ← len_tl, ← len_tl]; exact lb
      cases fw with
      | lit z =>
        have wz : Wok z := lits_wok z (fin _ hfw)
        refine ⟨_, rfl, _, _, rfl, rfl, small_line (by omega), _, rfl, _, _, rfl, rfl, small_line (by have := wz.2.1; show _ + z.length ≤ _; omega), ?_⟩
        refine ⟨_, d', done, by rw [et, (fit_lit h1 z).2, ← List.cons_append, join_snoc (by simp)]; rfl, by rw [et]; exact (fit_lit h1 z).1, g2, g3, g4, g5.mono (by omega)⟩
      | so y =>
        refine ⟨_, rfl, _, rfl, _, rfl, b, n + 1 + 8 * i, y, rfl, g5, by omega, by omega, fun p H7 okp k7 B7 => ?_⟩
        refine ⟨by show 1 ≤ sizeLine; decide, fun u hu => ?_⟩
        have f2 : H7 d' = some (.tup (dv fm done)) := k7 _ _ (fun z => by subst z; obtain ⟨_, _, _, e, _⟩ := g5; rw [e] at g2; cases g2) g2
        have f3 : H7 M = some (.lst ((fr.map Fw.sg).map V.str)) := k7 _ _ nMb g3
        have ld : done.length ≤ 5 := by
          have := fit_len h1
          have := sorts_le (fr.take i)
          rw [List.length_take] at this
          omega
        refine ⟨d', u, dv fm done, [p.v], rfl, rfl, SqT.of (by rw [upd_ne (ne_of_none f2 hu)]; exact f2), SqT.of upd_same, ?_, fun z => absurd z (by simp [dv]), fun _ z => absurd z (by simp), fun _ _ t ht => ?_⟩
        · show (done.map Pa.v).length + 1 + 1 ≤ sizeLine
          rw [List.length_map]
          exact small_line (by omega)
        · have edv : dv fm done ++ [p.v] = dv fm (done ++ [p]) := by
            show V.str _ :: (done.map Pa.v ++ [p.v]) = V.str _ :: (done ++ [p]).map Pa.v
            rw [List.map_append]; rfl
          have elast : atI (dv fm done ++ [p.v]) (-1) = some p.v := atI_last _ _
          have wp := pa_wok okp
          refine ⟨_, rfl, _, _, rfl, rfl, small_line (by omega), _, rfl, _, rfl, t, _, -1, p.v, rfl, rfl, SqT.of upd_same, elast, p, rfl, pa_log okp, _, _, rfl, rfl, small_line (by have := wp.2.1; omega), ?_⟩
          refine ⟨_, t, done ++ [p], by rw [et, (fit_so h1 okp).2, ← List.cons_append, join_snoc (by simp)]; rfl, by rw [et]; exact (fit_so h1 okp).1, by rw [upd_same, edv], ?_, ?_, ?_⟩
          · have nu : M ≠ u := ne_of_none f3 hu
            have nt : M ≠ t := fun z => by rw [← z, upd_ne nu, f3] at ht; cases ht
            rw [upd_ne nt, upd_ne nu]; exact f3
          · exact ((g4.trans k7).trans (KB.alloc hu)).trans (KB.alloc ht)
          · exact ((B7.alloc hu).alloc ht).mono (by omega)
    · rintro σ H5 ⟨x, d', done, rfl, h1, h2, h3, h4, h5⟩
      have e0 : fr.take ((fr.map Fw.sg).map V.str).length = fr := by rw [List.length_map, List.length_map, List.take_length]
      rw [e0] at h1 ⊢
      have ff : Fit fm.2.2 done := by rw [efr]; exact .lit h1
      have er : rowT fm done = Txt.join (Str.ofString " ") (Str.ofString fm.1 :: row fr done) := by unfold rowT; rw [efr]; rfl
      rw [← er]
      refine ⟨_, rfl, _, rfl, by show 2 ≤ sizeLine; decide, fun r hr5 => ?_⟩
      have nrb : r ≠ b := h5.fresh hr5
      have k5 := k3.trans h4
      refine k fm done r d' _ hfm ff (k5.trans (KB.alloc hr5)) ((h5.alloc hr5).mono ?_) ?_ upd_same ?_
      · have : ((fr.map Fw.sg).map V.str).length ≤ 5 := by rw [List.length_map, List.length_map]; exact lfr
        omega
      · cases e : H r with
        | none => rfl
        | some o => rw [k5 r o nrb e] at hr5; cases hr5
      · rw [upd_ne (ne_of_none h2 hr5)]; exact h2
end
end D3

set_option maxRecDepth 100000
set_option maxHeartbeats 400000
/-! data with longer texts and numbers: what repr asks of them -/
namespace My
open PySem PySem.Spec PyProof.Rows L2 GxR Gd TL
structure Sb (d : PyData) (k m : Nat) : Prop where
  lv : d.leavesShort 40 = true
  dep : d.depth ≤ k
  wt : d.weight ≤ m
  sh : d.showable = true
theorem Sb.rep {d : PyData} {k m : Nat} (h : Sb d k m) (hk : k ≤ 100) (hm : m ≤ 390000) : d.showable = true ∧ d.depth ≤ 100 ∧ d.shown.length ≤ sizeLine := by
  refine ⟨h.sh, Nat.le_trans h.dep hk, ?_⟩
  have h1 := PyData.shown_le 40 (by decide) d h.lv
  have h2 := h.wt
  refine Nat.le_trans h1 (Nat.le_trans (m := 42 * 390000 + 40) (by omega) (by rw [sizeLine_eq]; decide))
theorem Sb.mono {d : PyData} {k m k' m' : Nat} (h : Sb d k m) (hk : k ≤ k') (hm : m ≤ m') : Sb d k' m' := ⟨h.lv, Nat.le_trans h.dep hk, Nat.le_trans h.wt hm, h.sh⟩
theorem sb_none : Sb .none 0 0 := ⟨rfl, Nat.le_refl 0, Nat.le_refl 0, rfl⟩
theorem sb_bool (b : Bool) : Sb (.bool b) 0 0 := ⟨rfl, Nat.le_refl 0, Nat.le_refl 0, rfl⟩
theorem text_int {i : Int} (h : i.natAbs < 10 ^ 31) : (Str.ofString (toString i)).length ≤ 32 := by
  have e := int_text_length_le10 (k := 31) (by decide) h
  rw [PySem.ofString_length]
  exact e
theorem sb_int {i : Int} (h : i.natAbs < 10 ^ 31) : Sb (.int i) 0 110 := by
  have hl : i.natAbs.log2 ≤ 109 := by
    by_cases z : i.natAbs = 0
    · rw [z]; decide
    · have : i.natAbs.log2 < 110 := (Nat.log2_lt z).mpr (Nat.lt_of_lt_of_le h (by decide))
      omega
  refine ⟨?_, Nat.le_refl 0, ?_, ?_⟩
  · unfold PyData.leavesShort
    rw [decide_eq_true_eq]
    exact Nat.le_trans (text_int h) (by decide)
  · unfold PyData.weight
    split <;> omega
  · unfold PyData.showable
    rw [decide_eq_true_eq]
    omega
theorem sb_str {z : Str} {m : Nat} (g : Good z) (h : z.length ≤ m) : Sb (.str z) 0 m := by
  refine ⟨?_, Nat.le_refl 0, h, rfl⟩
  unfold PyData.leavesShort
  rw [List.all_eq_true]
  intro c hc
  have := g c hc
  rw [decide_eq_true_eq]
  exact Nat.lt_trans this (by decide)
theorem sb_all {k m : Nat} : ∀ {ds : List PyData}, (∀ d ∈ ds, Sb d k m) → PyData.leavesShortAll 40 ds = true ∧ PyData.depthAll ds ≤ k ∧ PyData.weightAll ds ≤ ds.length * (m + 1) ∧ PyData.showableAll ds = true
  | [], _ => ⟨rfl, Nat.zero_le _, Nat.zero_le _, rfl⟩
  | d :: r, h => by
    obtain ⟨a1, a2, a3, a4⟩ := sb_all (ds := r) fun x hx => h x (List.mem_cons_of_mem _ hx)
    have b := h d List.mem_cons_self
    refine ⟨?_, ?_, ?_, ?_⟩
    · unfold PyData.leavesShortAll; rw [b.lv, a1]; rfl
    · unfold PyData.depthAll; exact Nat.max_le.mpr ⟨b.dep, a2⟩
    · unfold PyData.weightAll
      have := b.wt
      rw [List.length_cons, Nat.succ_mul]
      omega
    · unfold PyData.showableAll; rw [b.sh, a4]; rfl
theorem sb_list {k m : Nat} {ds : List PyData} (h : ∀ d ∈ ds, Sb d k m) : Sb (.list ds) (k + 1) (ds.length * (m + 1)) := by
  obtain ⟨a1, a2, a3, a4⟩ := sb_all h
  exact ⟨by unfold PyData.leavesShort; exact a1, by unfold PyData.depth; omega, by unfold PyData.weight; exact a3, by unfold PyData.showable; exact a4⟩
theorem sb_tuple {k m : Nat} {ds : List PyData} (h : ∀ d ∈ ds, Sb d k m) : Sb (.tuple ds) (k + 1) (ds.length * (m + 1)) := by
  obtain ⟨a1, a2, a3, a4⟩ := sb_all h
  exact ⟨by unfold PyData.leavesShort; exact a1, by unfold PyData.depth; omega, by unfold PyData.weight; exact a3, by unfold PyData.showable; exact a4⟩
theorem good_int (i : Int) : Good (Str.ofString (toString i)) := good_of _
end My

set_option maxRecDepth 100000
set_option maxHeartbeats 400000
/-! Shw: what data shows is short. -/
namespace My
open PySem PySem.Spec PyProof.Rows L2 GxR Gd TL
structure Shw (d : PyData) (k m : Nat) : Prop where
  sh : d.showable = true
  dep : d.depth ≤ k
  len : d.shown.length ≤ m
theorem Shw.mono {d : PyData} {k m k' m' : Nat} (h : Shw d k m) (hk : k ≤ k') (hm : m ≤ m') : Shw d k' m' := ⟨h.sh, Nat.le_trans h.dep hk, Nat.le_trans h.len hm⟩
theorem shw_str {z : Str} {n : Nat} (g : Good z) (h : z.length ≤ n) : Shw (.str z) 0 (10 * n + 2) := by
  refine ⟨rfl, Nat.le_refl 0, ?_⟩
  have e := StrLaws.reprText_len z fun c hc => Nat.lt_trans (g c hc) (by decide)
  show (reprText z).length ≤ _
  omega
theorem shw_int {i : Int} {k : Nat} (hk : 0 < k) (h9 : k ≤ 30) (h : i.natAbs < 10 ^ k) : Shw (.int i) 0 (k + 1) := by
  have h31 : i.natAbs < 10 ^ 31 := Nat.lt_of_lt_of_le h (Nat.pow_le_pow_right (by decide) (by omega))
  refine ⟨(sb_int h31).sh, Nat.le_refl 0, ?_⟩
  show (Str.ofString (toString i)).length ≤ _
  rw [PySem.ofString_length]
  exact int_text_length_le10 hk h
theorem shw_all {k m : Nat} : ∀ {ds : List PyData}, (∀ d ∈ ds, Shw d k m) → PyData.showableAll ds = true ∧ PyData.depthAll ds ≤ k ∧ ((PyData.shownAll ds).map (·.length)).sum ≤ ds.length * m ∧ (PyData.shownAll ds).length = ds.length
  | [], _ => ⟨rfl, Nat.zero_le _, Nat.zero_le _, rfl⟩
  | d :: r, h => by
    obtain ⟨a1, a2, a3, a4⟩ := shw_all (ds := r) fun x hx => h x (List.mem_cons_of_mem _ hx)
    have b := h d List.mem_cons_self
    refine ⟨?_, ?_, ?_, ?_⟩
    · unfold PyData.showableAll; rw [b.sh, a1]; rfl
    · unfold PyData.depthAll; exact Nat.max_le.mpr ⟨b.dep, a2⟩
    · unfold PyData.shownAll
      have := b.len
      rw [List.length_cons, Nat.succ_mul, List.map_cons, List.sum_cons]
      omega
    · unfold PyData.shownAll
      rw [List.length_cons, List.length_cons, a4]
theorem shw_list {k m : Nat} {ds : List PyData} (h : ∀ d ∈ ds, Shw d k m) : Shw (.list ds) (k + 1) (ds.length * (m + 2) + 3) := by
  obtain ⟨a1, a2, a3, a4⟩ := shw_all h
  refine ⟨by unfold PyData.showable; exact a1, by unfold PyData.depth; omega, ?_⟩
  have e := listText_len_le (PyData.shownAll ds)
  show (listText (PyData.shownAll ds)).length ≤ _
  rw [a4] at e
  rw [Nat.mul_add]
  omega
theorem shw_tuple {k m : Nat} {ds : List PyData} (h : ∀ d ∈ ds, Shw d k m) : Shw (.tuple ds) (k + 1) (ds.length * (m + 2) + 3) := by
  obtain ⟨a1, a2, a3, a4⟩ := shw_all h
  refine ⟨by unfold PyData.showable; exact a1, by unfold PyData.depth; omega, ?_⟩
  have e := tupleText_len_le (PyData.shownAll ds)
  show (tupleText (PyData.shownAll ds)).length ≤ _
  rw [a4] at e
  rw [Nat.mul_add]
  omega
/-- a pair of unlike things -/
theorem shw_pair {k m n : Nat} {a b : PyData} (ha : Shw a k m) (hb : Shw b k n) : Shw (.tuple [a, b]) (k + 1) (m + n + 7) := by
  refine ⟨?_, ?_, ?_⟩
  · unfold PyData.showable PyData.showableAll PyData.showableAll PyData.showableAll; rw [ha.sh, hb.sh]; rfl
  · unfold PyData.depth PyData.depthAll PyData.depthAll PyData.depthAll
    have := ha.dep
    have := hb.dep
    omega
  · have e := tupleText_len_le (PyData.shownAll [a, b])
    show (tupleText (PyData.shownAll [a, b])).length ≤ _
    have e1 : PyData.shownAll [a, b] = [a.shown, b.shown] := by unfold PyData.shownAll PyData.shownAll PyData.shownAll; rfl
    rw [e1] at e ⊢
    simp only [List.map_cons, List.map_nil, List.sum_cons, List.sum_nil, List.length_cons, List.length_nil] at e
    have := ha.len
    have := hb.len
    omega

end My

set_option maxRecDepth 100000
set_option maxHeartbeats 800000
namespace D3
open PySem PySem.Spec PyProof.Rows L2 GxR Gd TL My
/-- a deed's data -/
def dd (fm : String × String × List Fw) (ps : List Pa) : PyData := .tuple (.str (Str.ofString fm.1) :: ps.map Pa.d)
theorem pas_dp {K : PySem.W.Frag} {H : Hp} : ∀ ps : List Pa, DpAll K H (ps.map Pa.v) (ps.map Pa.d)
  | [] => .nil
  | .s z :: r => .cons (.str z) (pas_dp r)
  | .n i :: r => .cons (.int i) (pas_dp r)
theorem dd_dp {K : PySem.W.Frag} {H : Hp} {d : Addr} {fm : String × String × List Fw} {ps : List Pa} (h : H d = some (.tup (dv fm ps))) : Dp K H (.ref d) (dd fm ps) := .tup (SqT.of h) (.cons (.str _) (pas_dp ps))
theorem good_tl {z : Str} (h : ∀ c ∈ z.cps.toList, c < 128) : Good z := fun c hc => Nat.lt_trans (h c hc) (by decide)
theorem pa_shw {x : So} {p : Pa} (h : x.ok p) : Shw p.d 0 72 := by
  have w := pa_wok h
  cases p with
  | n i =>
    have hi : 0 ≤ i ∧ i ≤ 999999 := by cases x <;> first | exact False.elim h | exact h
    exact (shw_int (k := 6) (by decide) (by decide) (by omega)).mono (Nat.le_refl 0) (by decide)
  | s z =>
    have g : Good z := by
      have t := pa_th (H := fun _ => none) h
      cases t with
      | str _ _ g => exact g
    exact shw_str g w.2.1
theorem fit_ok {f : List Fw} {ps : List Pa} (h : Fit f ps) : ∀ p ∈ ps, ∃ x : So, x.ok p := by
  induction h with
  | nil => intro p hp; cases hp
  | lit _ ih => exact ih
  | so hx _ ih =>
    intro p hp
    rcases List.mem_cons.mp hp with rfl | hp
    · exact ⟨_, hx⟩
    · exact ih p hp
theorem forms_word : ∀ f ∈ forms, (Str.ofString f.1).length ≤ 7 := by decide +kernel
theorem dd_sh {fm : String × String × List Fw} {ps : List Pa} (hfm : fm ∈ forms) (fit : Fit fm.2.2 ps) : (dd fm ps).showable = true ∧ (dd fm ps).depth ≤ 100 ∧ (dd fm ps).shown.length ≤ sizeLine := by
  have l6 := forms_len fm hfm
  have e1 := fit_len fit
  have e2 := sorts_le fm.2.2
  have s := shw_tuple (k := 0) (m := 72) (ds := .str (Str.ofString fm.1) :: ps.map Pa.d) (fun d hd => by
    rcases List.mem_cons.mp hd with rfl | hd
    · exact shw_str (good_of _) (forms_word fm hfm)
    · obtain ⟨p, hp, rfl⟩ := List.mem_map.mp hd
      obtain ⟨x, hx⟩ := fit_ok fit p hp
      exact pa_shw hx)
  refine ⟨s.sh, Nat.le_trans s.dep (by decide), Nat.le_trans s.len ?_⟩
  rw [List.length_cons, List.length_map]
  exact small_line (by omega)
section
variable {P : Program} {w : World} {K : PySem.W.Frag} {mg : Str → Option Value} {base : Heap} {P1 P2 P3 aSORTS aFORMS : Addr} {fs : So → Addr} {es ef : Array DictEntry} {nS nF : Nat} {tM : Tok}
abbrev s_law : Stmt := top 39
theorem sc_law : FnScope ["_law_script", "_law_kept", "_law_k", "_law_box_here", "_law_first", "_law_deed_here", "_law_row", "_law_one", "_law_other"] ["_law_script"] (defScope s_law) := ⟨rfl, rfl, rfl, by decide +kernel, rfl, by decide +kernel, by decide +kernel⟩
def spRight (T : List Addr) : Sp := fun vs H Q _ => ∃ (fm : String × String × List Fw) (ps : List Pa) (d : Addr) (k : Bool), vs = [.ref d, .str (rowT fm ps), .bl k] ∧ fm ∈ forms ∧ Fit fm.2.2 ps ∧ H d = some (.tup (dv fm ps)) ∧ Tabs T H ∧ ∀ H', KM T H H' → Q (.bl true) H'
theorem ok_law_right {T0 : List Addr} {f f1 f2 : Addr} {fd fd1 fd2 : FuncData} (F : Fun K "_law_right" "_law_right" s_law_right f fd) (T : Txt mg)
    (Ndeed_in : Fn K mg "deed_in" s_deed_in ["text"] f1 fd1) (Gdeed_in : FnOk P w K mg base CX0 9 f1 fd1 ["text"] (spDeedRow T0))
    (Ndeed_text : Fn K mg "deed_text" s_deed_text ["deed"] f2 fd2) (Gdeed_text : FnOk P w K mg base CX0 8 f2 fd2 ["deed"] (spDeedText T0)) :
    GOk P w K mg base CX0 10 f fd ["_law_deed_here", "_law_row", "_law_first"] (spRight T0) := by
  refine gok F sc_law_right (fun vs H Q E h => ?_) (fun cdv A outer s H vs Q E gd hr h => ?_)
  · obtain ⟨fm, ps, d, k, rfl, _⟩ := h
    rfl
  · obtain ⟨fm, ps, d, k, rfl, hfm, fit, hd, tb, q⟩ := h
    refine ⟨_, pss_cons (ps_if (PW.pt (pw_and (pt_val (pv 2)) (pw_and1 (pt_cmpR op_ne (pe_callB (call_repr gd hr) (by rfl) T.repr_ (by decide +kernel) (pa_cons (pe_call Gdeed_in (hr.mono (by decide)) (by rfl) Ndeed_in.g Ndeed_in.kp Ndeed_in.b .nil pass0 (pa_cons (pv 1) pa_nil)) pa_nil)) (pe_callB (call_repr gd hr) (by rfl) T.repr_ (by decide +kernel) (pa_cons (pv 0) pa_nil)) (nomark _))))) (pss_one (ps_ret pe_bl)) pss_nil)
      (pss_cons (ps_set (i := 3) sc_law_right.nd rfl (Or.inl rfl) (pe_call Gdeed_text (hr.mono (by decide)) (by rfl) Ndeed_text.g Ndeed_text.kp Ndeed_text.b .nil pass0 (pa_cons (pv 0) pa_nil)))
      (pss_one (ps_ret (pe_and (pe_callB call_isi (by rfl) T.isinstance_ (by decide +kernel) (pa_cons (pv 3) (pa_cons (pe_bltn (v := .ty "str") (by rfl) T.str_ (by decide +kernel) rfl) pa_nil))) (pe_and (pe_cmpR op_eq (pv 3) (pv 1) (nomark _)) (pe_one (pe_cmpR op_eq (pe_callB (call_repr gd hr) (by rfl) T.repr_ (by decide +kernel) (pa_cons (pe_call Gdeed_in (hr.mono (by decide)) (by rfl) Ndeed_in.g Ndeed_in.kp Ndeed_in.b .nil pass0 (pa_cons (pv 1) pa_nil)) pa_nil)) (pe_callB (call_repr gd hr) (by rfl) T.repr_ (by decide +kernel) (pa_cons (pv 0) pa_nil)) (nomark _)))))))), ?_⟩
    obtain ⟨s1, s2, s3⟩ := dd_sh hfm fit
    cases k with
    | false =>
      refine ⟨_, rfl, false, rfl, iteF ?_⟩
      refine ⟨_, rfl, fm, ps, d, rfl, hfm, fit, hd, tb, fun X1 x1 => ?_⟩
      have dX1 : X1 d = some (.tup (dv fm ps)) := KM.nt tb x1 _ _ (by simp) hd
      refine ⟨_, rfl, _, _, _, _, true, rfl, .ty "str", .base (.str _), (by rfl), true, rfl, iteT ?_⟩
      refine ⟨_, rfl, _, rfl, rfl, true, congrArg V.bl (decide_eq_true rfl), iteT ?_⟩
      refine ⟨_, rfl, fm, ps, rfl, hfm, fit, x1.tab, fun t X2 nt x2 et => ⟨.ref t, _, rfl, dd_dp et, s1, s2, s3, ?_⟩⟩
      have dX2 : X2 d = some (.tup (dv fm ps)) := KM.nt x1.tab x2 _ _ (by simp) dX1
      refine ⟨_, rfl, .ref d, _, rfl, dd_dp dX2, s1, s2, s3, rfl, ?_⟩
      rw [decide_eq_true rfl]
      exact q _ ((KM.refl tb).trans (x1.trans x2))
    | true =>
      refine ⟨_, rfl, true, rfl, iteT ?_⟩
      refine ⟨_, rfl, fm, ps, rfl, hfm, fit, tb, fun t0 Y1 _ y1 et0 => ⟨.ref t0, _, rfl, dd_dp et0, s1, s2, s3, ?_⟩⟩
      have dY1 : Y1 d = some (.tup (dv fm ps)) := KM.nt tb y1 _ _ (by simp) hd
      refine ⟨_, rfl, .ref d, _, rfl, dd_dp dY1, s1, s2, s3, rfl, false, congrArg V.bl (by simp), iteF ?_⟩
      refine ⟨_, rfl, fm, ps, d, rfl, hfm, fit, dY1, y1.tab, fun X1 x1 => ?_⟩
      have dX1 : X1 d = some (.tup (dv fm ps)) := KM.nt y1.tab x1 _ _ (by simp) dY1
      refine ⟨_, rfl, _, _, _, _, true, rfl, .ty "str", .base (.str _), (by rfl), true, rfl, iteT ?_⟩
      refine ⟨_, rfl, _, rfl, rfl, true, congrArg V.bl (decide_eq_true rfl), iteT ?_⟩
      refine ⟨_, rfl, fm, ps, rfl, hfm, fit, x1.tab, fun t X2 nt x2 et => ⟨.ref t, _, rfl, dd_dp et, s1, s2, s3, ?_⟩⟩
      have dX2 : X2 d = some (.tup (dv fm ps)) := KM.nt x1.tab x2 _ _ (by simp) dX1
      refine ⟨_, rfl, .ref d, _, rfl, dd_dp dX2, s1, s2, s3, rfl, ?_⟩
      rw [decide_eq_true rfl]
      exact q _ ((y1).trans (x1.trans x2))
end
end D3

set_option maxRecDepth 100000
set_option maxHeartbeats 800000
namespace D3
open PySem PySem.Spec PyProof.Rows L2 GxR Gd TL My
/-- tuples stay -/
def TupK (H H' : Hp) : Prop := ∀ c xs, H c = some (.tup xs) → H' c = some (.tup xs)
/-- a deed that was kept, and its row -/
def Kept (H : Hp) (v : V) : Prop := ∃ (t d : Addr) (fm : String × String × List Fw) (ps : List Pa), v = .ref t ∧ H t = some (.tup [.ref d, .str (rowT fm ps)]) ∧ H d = some (.tup (dv fm ps)) ∧ fm ∈ forms ∧ Fit fm.2.2 ps
theorem Kept.up {H H' : Hp} {v : V} (k : Kept H v) (u : TupK H H') : Kept H' v := by
  obtain ⟨t, d, fm, ps, rfl, h1, h2, h3, h4⟩ := k
  exact ⟨t, d, fm, ps, rfl, u _ _ h1, u _ _ h2, h3, h4⟩
theorem TupK.nt {H H' : Hp} (n : Nt H H') : TupK H H' := fun c xs e => n c _ (by simp) e
theorem TupK.trans {H H1 H2 : Hp} (a : TupK H H1) (b : TupK H1 H2) : TupK H H2 := fun c xs e => b c xs (a c xs e)
theorem TupK.put {H : Hp} {L : Addr} {l : List V} {o : HO} (e : H L = some (.lst l)) : TupK H (upd H L o) := fun c xs h => by
  rw [upd_ne (fun z => by rw [z, e] at h; cases h)]
  exact h
theorem cut_mem {xs : List V} {lo hi : Option Int} {v : V} (h : v ∈ cutV xs lo hi) : v ∈ xs := List.mem_of_mem_drop (List.mem_of_mem_take h)
section
variable {P : Program} {w : World} {K : PySem.W.Frag} {mg : Str → Option Value} {base : Heap}
def spLaw (K : PySem.W.Frag) (T : List Addr) : Sp := fun vs H Q _ => ∃ (a : Addr) (ns : List Int), vs = [.ref a] ∧ SqL K H a (ns.map V.int) ∧ ns.length ≤ 63 ∧ Tabs T H ∧ ∀ H', Q (.bl true) H'
theorem ok_law {T0 : List Addr} {f fC fB fT fD fR : Addr} {fd fdC fdB fdT fdD fdR : FuncData} (F : Fun K "law" "law" s_law f fd) (T : Txt mg)
    (Nlaw_cell : Fn K mg "_law_cell" sCell ["_law_script", "_law_k"] fC fdC) (Glaw_cell : FnOk P w K mg base CX0 1 fC fdC ["_law_script", "_law_k"] (spCell K))
    (Nlaw_box : Fn K mg "_law_box" sBox ["_law_cell_here"] fB fdB) (Glaw_box : FnOk P w K mg base CX0 1 fB fdB ["_law_cell_here"] spBox)
    (Nlaw_take : Fn K mg "_law_take" sTake ["_law_box_here", "_law_many"] fT fdT) (Glaw_take : FnOk P w K mg base CX0 1 fT fdT ["_law_box_here", "_law_many"] spTake)
    (Nlaw_deed : Fn K mg "_law_deed" s_law_deed ["_law_box_here"] fD fdD) (Glaw_deed : FnOk P w K mg base CX0 4 fD fdD ["_law_box_here"] spLawDeed)
    (Nlaw_right : Fn K mg "_law_right" s_law_right ["_law_deed_here", "_law_row", "_law_first"] fR fdR) (Glaw_right : GOk P w K mg base CX0 10 fR fdR ["_law_deed_here", "_law_row", "_law_first"] (spRight T0)) :
    GOk P w K mg base CX0 11 f fd ["_law_script"] (spLaw K T0) := by
  refine gok F sc_law (fun vs H Q E h => ?_) (fun cdv A outer s H vs Q E gd hr h => ?_)
  · obtain ⟨a, ns, rfl, _⟩ := h
    rfl
  · obtain ⟨a, ns, rfl, hS, hlen, hT, k⟩ := h
    refine ⟨_, pss_cons (ps_set (i := 1) sc_law.nd rfl (Or.inl rfl) (pe_lst pa_nil))
      (pss_cons (ps_for PassesOwn.never rfl (pi_range1 (by rfl) T.range_ (pa_cons (pe_callB (call_max2 rfl) (by rfl) T.max_ (by decide +kernel) (pa_cons pe_int (pa_cons (pe_callB (call_min2 rfl) (by rfl) T.min_ (by decide +kernel) (pa_cons pe_int (pa_cons (pe_callB call_len_seq (by rfl) T.len_ PySem.boot_len (pa_cons (pv 0) pa_nil)) pa_nil))) pa_nil))) pa_nil)) (pg_name (i := 2) sc_law.nd rfl (Or.inl rfl)) (pss_cons (ps_set (i := 3) sc_law.nd rfl (Or.inl rfl) (pe_call Glaw_box (hr.mono (by decide)) (by rfl) Nlaw_box.g Nlaw_box.kp Nlaw_box.b .nil pass0 (pa_cons (pe_call Glaw_cell (hr.mono (by decide)) (by rfl) Nlaw_cell.g Nlaw_cell.kp Nlaw_cell.b .nil pass0 (pa_cons (pv 0) (pa_cons (pv 2) pa_nil))) pa_nil)))
          (pss_cons (ps_set (i := 4) sc_law.nd rfl (Or.inl rfl) (pe_cmpR op_eq (pe_call Glaw_take (hr.mono (by decide)) (by rfl) Nlaw_take.g Nlaw_take.kp Nlaw_take.b .nil pass0 (pa_cons (pv 3) (pa_cons pe_int pa_nil))) pe_int (nomark _)))
          (pss_cons (ps_asg (pe_call Glaw_deed (hr.mono (by decide)) (by rfl) Nlaw_deed.g Nlaw_deed.kp Nlaw_deed.b .nil pass0 (pa_cons (pv 3) pa_nil)) (pg_unl (by rfl) (pgs_cons (pg_name (i := 5) sc_law.nd rfl (Or.inl rfl)) (pgs_cons (pg_name (i := 6) sc_law.nd rfl (Or.inl rfl)) pgs_nil))))
          (pss_cons (ps_expr (pe_bm PySem.F.plainAttrs_list PySem.F.slot_list_append PySem.F.type_list_append mt_append (pv 1) (pa_cons (pe_tup (pa_cons (pv 5) (pa_cons (pv 6) pa_nil))) pa_nil)))
          (pss_one (ps_for PassesOwn.never rfl (pi_list (pe_slice sl_list (pv 1) (po_some (pe_un un_neg pe_int)) po_none)) (pg_tup (by rfl) (pgs_cons (pg_name (i := 7) sc_law.nd rfl (Or.inl rfl)) (pgs_cons (pg_name (i := 8) sc_law.nd rfl (Or.inl rfl)) pgs_nil))) (pss_one (ps_if (pt_not (pt_val (pe_gcall gd Glaw_right (hr.mono (by decide)) (by rfl) Nlaw_right.g Nlaw_right.kp Nlaw_right.b .nil pass0 (pa_cons (pv 7) (pa_cons (pv 8) (pa_cons (pv 4) pa_nil)))))) (pss_one (ps_ret pe_bl)) pss_nil)))))))))
      (pss_one (ps_ret pe_bl))), ?_⟩
    generalize hσ : L2.start _ _ = σ0
    obtain rfl : σ0 = [some (.ref a), none, none, none, none, none, none, none, none] := hσ.symm.trans rfl
    refine ⟨Nat.zero_le _, fun L hL => ?_⟩
    have hS0 : SqL K (upd H L (.lst [])) a (ns.map V.int) := (Nt.alloc hL).seq hS
    simp only [List.set_cons_succ, List.set_cons_zero]
    refine ⟨_, rfl, a, _, rfl, .inl hS0, _, _, rfl, _, _, rfl, ?_⟩
    obtain ⟨N, hN, N2, N30⟩ : ∃ N : Nat, (if (if (((ns.map V.int).length : Nat) : Int) < 30 then (((ns.map V.int).length : Nat) : Int) else 30) > 2 then (if (((ns.map V.int).length : Nat) : Int) < 30 then (((ns.map V.int).length : Nat) : Int) else 30) else 2) = (N : Int) ∧ 2 ≤ N ∧ N ≤ 30 := by
      rw [List.length_map]
      refine ⟨max 2 (min 30 ns.length), ?_, by omega, by omega⟩
      split <;> split <;> omega
    rw [hN]
    refine ⟨_, rfl, by omega, by omega, ?_⟩
    rw [Int.toNat_natCast]
    refine for_range (lo := 0) (n := N) (fun i σ H' => ∃ (v2 v3 v4 v5 v6 v7 v8 : Option V) (vs : List V), σ = [some (.ref a), some (.ref L), v2, v3, v4, v5, v6, v7, v8] ∧ KM T0 H H' ∧ H' L = some (.lst vs) ∧ vs.length ≤ i ∧ ∀ v ∈ vs, Kept H' v) ⟨_, _, _, _, _, _, _, [], rfl, KM.put hT (KM.refl hT) hL, upd_same, Nat.le_refl _, fun v hv => (nomatch hv)⟩ ?_ ?_
    · rintro i σ H1 hi ⟨v2, v3, v4, v5, v6, v7, v8, vs, rfl, k1, eL1, l1, kp1⟩
      have hS1 := (KM.nt hT k1).seq hS
      simp only [List.set_cons_succ, List.set_cons_zero]
      refine ⟨_, rfl, _, rfl, a, ns, i, ?_, hS1, fun c => ?_⟩
      · show [V.ref a, V.int (0 + (i : Int))] = [V.ref a, V.int i]
        rw [Int.zero_add]
      refine ⟨c, rfl, fun b H2 fb off2 B2 => ?_⟩
      simp only [List.set_cons_succ, List.set_cons_zero]
      refine ⟨_, rfl, b, 2, 0, rfl, B2, by decide, by decide, by decide, fun w0 H3 d0 d1 off3 B3 => ⟨rfl, ?_⟩⟩
      simp only [List.set_cons_succ, List.set_cons_zero]
      refine ⟨_, rfl, b, 0 + 1, rfl, B3, by decide, by decide, fun fm ps r d H4 hfm fit kb4 _ _ er ed => ?_⟩
      have s4 : Same H1 H4 := fun c o e => kb4 c o (ne_of_none e fb) ((off3 c (ne_of_none e fb)).trans ((off2 c (ne_of_none e fb)).trans e))
      have k4 := k1.trans (KM.same k1.tab s4)
      have kp4 : ∀ v ∈ vs, Kept H4 v := fun v hv => (kp1 v hv).up fun c xs e => s4 _ _ e
      have eL4 := s4 _ _ eL1
      refine ⟨r, _, rfl, SqL.of er, rfl, _, _, rfl, _, _, rfl, rfl, ?_⟩
      clear er kb4 B3 off3 off2 B2 s4 kp1 eL1 k1 hS1
      simp only [List.set_cons_succ, List.set_cons_zero]
      refine ⟨_, rfl, .inl ⟨rfl, _, SqL.of eL4⟩, _, rfl, _, rfl, by show 2 ≤ sizeLine; decide, fun t ht => ?_⟩
      have ntL : L ≠ t := ne_of_none eL4 ht
      refine ⟨L, vs, _, rfl, rfl, by rw [upd_ne ntL]; exact eL4, lt_line _ (by omega), ?_⟩
      have k5 : KM T0 H (upd (upd H4 t (.tup [.ref d, .str (rowT fm ps)])) L (.lst (vs ++ [.ref t]))) := KM.put hT (k4.trans (KM.alloc k4.tab ht)) hL
      have up5 : TupK H4 (upd (upd H4 t (.tup [.ref d, .str (rowT fm ps)])) L (.lst (vs ++ [.ref t]))) := TupK.trans (TupK.nt (Nt.alloc ht)) (TupK.put (by rw [upd_ne ntL]; exact eL4))
      have et5 : upd (upd H4 t (.tup [.ref d, .str (rowT fm ps)])) L (.lst (vs ++ [.ref t])) t = some (.tup [.ref d, .str (rowT fm ps)]) := by rw [upd_ne ntL.symm, upd_same]
      have kp5 : ∀ v ∈ vs ++ [.ref t], Kept (upd (upd H4 t (.tup [.ref d, .str (rowT fm ps)])) L (.lst (vs ++ [.ref t]))) v := fun v hv => by
        rcases List.mem_append.mp hv with hv | hv
        · exact (kp4 v hv).up up5
        · rw [List.mem_singleton.mp hv]
          exact ⟨t, d, fm, ps, rfl, et5, up5 _ _ ed, hfm, fit⟩
      have eL5 : upd (upd H4 t (.tup [.ref d, .str (rowT fm ps)])) L (.lst (vs ++ [.ref t])) L = some (.lst (vs ++ [.ref t])) := upd_same
      have l5 : (vs ++ [V.ref t]).length ≤ i + 1 := by rw [List.length_append]; exact Nat.succ_le_succ l1
      generalize upd (upd H4 t (.tup [.ref d, .str (rowT fm ps)])) L (.lst (vs ++ [.ref t])) = H5 at k5 kp5 eL5 ⊢
      generalize vs ++ [V.ref t] = vs5 at kp5 eL5 l5 ⊢
      clear k4 kp4 eL4 ht ed et5 up5
      refine ⟨_, rfl, _, rfl, _, rfl, L, vs5, rfl, SqL.of eL5, fun S hSn => ?_⟩
      have eS : upd H5 S (.lst (cutV vs5 (some (-2)) none)) S = some (.lst (cutV vs5 (some (-2)) none)) := upd_same
      have k6 : KM T0 H (upd H5 S (.lst (cutV vs5 (some (-2)) none))) := k5.trans (KM.alloc k5.tab hSn)
      have kp6 : ∀ v ∈ vs5, Kept (upd H5 S (.lst (cutV vs5 (some (-2)) none))) v := fun v hv => (kp5 v hv).up (TupK.nt (Nt.alloc hSn))
      have eL6 : upd H5 S (.lst (cutV vs5 (some (-2)) none)) L = some (.lst vs5) := by rw [upd_ne (ne_of_none eL5 hSn)]; exact eL5
      have cm : ∀ v ∈ cutV vs5 (some (-2)) none, v ∈ vs5 := fun v hv => cut_mem hv
      generalize upd H5 S (.lst (cutV vs5 (some (-2)) none)) = H6 at eS k6 kp6 eL6 ⊢
      generalize cutV vs5 (some (-2)) none = cs at eS cm ⊢
      clear kp5 k5 eL5 hSn
      generalize decide (V.int w0 = V.int 0) = fst
      refine ⟨S, rfl, ⟨_, SqL.of eS⟩, for_it (D := ⟨_, _, _, _⟩) (walk_list (K := K) (xs := cs)) (fun j σ H' => ∃ v7 v8 : Option V, σ = [some (.ref a), some (.ref L), some (V.int (0 + (i : Int))), some (.ref b), some (.bl fst), some (.ref d), some (.str (rowT fm ps)), v7, v8] ∧ KM T0 H6 H') ⟨_, _, rfl, KM.refl k6.tab⟩ (fun j σ H' _ h => by obtain ⟨_, _, _, km⟩ := h; exact (KM.nt k6.tab km).seq (SqL.of eS)) ?_ ?_⟩
      · rintro j v σ H7 H7' hj ⟨w7, w8, rfl, km⟩ ⟨rfl, hv⟩
        obtain ⟨t, d2, fm2, ps2, rfl, g1, g2, g3, g4⟩ := (kp6 v (cm v (List.mem_of_getElem? hv))).up (TupK.nt (KM.nt k6.tab km))
        refine ⟨t, _, rfl, SqT.of g1, rfl, _, _, rfl, _, _, rfl, rfl, ?_⟩
        refine ⟨_, rfl, _, rfl, _, rfl, fm2, ps2, d2, fst, rfl, g3, g4, g2, km.tab, fun H8 km8 => ⟨_, rfl, iteF ?_⟩⟩
        exact ⟨_, _, rfl, km.trans km8⟩
      · rintro σ H7 ⟨w7, w8, rfl, km⟩
        have up := TupK.nt (KM.nt k6.tab km)
        exact ⟨_, _, _, _, _, _, _, vs5, rfl, k6.trans km, KM.lst k6.tab km eL6, l5, fun v hv => (kp6 v hv).up up⟩
    · rintro σ H1 ⟨v2, v3, v4, v5, v6, v7, v8, vs, rfl, _⟩
      exact k H1
end
end D3

set_option maxRecDepth 100000
set_option maxHeartbeats 800000
namespace D3
open PySem PySem.Spec L2 My
theorem cst3 {K : PySem.W.Frag} {a : Addr} {o : Obj} {z0 z1 z2 : Str} {t0 t1 t2 : Tok} {n : Nat} {zs : List Str} (l : K.lookup a = some o) (c : o.cls = .type "tuple") (d : o.dict = none) (e : o.data = .seq #[.str z0 t0, .str z1 t1, .str z2 t2] n) (h : [z0, z1, z2] = zs) : Cst K a zs := by
  subst h
  exact ⟨fun H => .inr ⟨o, _, n, l, c, e, fit (by simp), .cons ⟨_, rfl⟩ (.cons ⟨_, rfl⟩ (.cons ⟨_, rfl⟩ .nil))⟩, o, l, c, d⟩
theorem cst4 {K : PySem.W.Frag} {a : Addr} {o : Obj} {z0 z1 z2 z3 : Str} {t0 t1 t2 t3 : Tok} {n : Nat} {zs : List Str} (l : K.lookup a = some o) (c : o.cls = .type "tuple") (d : o.dict = none) (e : o.data = .seq #[.str z0 t0, .str z1 t1, .str z2 t2, .str z3 t3] n) (h : [z0, z1, z2, z3] = zs) : Cst K a zs := by
  subst h
  exact ⟨fun H => .inr ⟨o, _, n, l, c, e, fit (by simp), .cons ⟨_, rfl⟩ (.cons ⟨_, rfl⟩ (.cons ⟨_, rfl⟩ (.cons ⟨_, rfl⟩ .nil)))⟩, o, l, c, d⟩
def fsOf (a b c d : Addr) : So → Addr
  | .name => a
  | .number => b
  | .thing => c
  | .kind => d
theorem sod_mk {K : PySem.W.Frag} {w : World} {A a b c d : Addr} {es : Array DictEntry} {n : Nat} (D : KDict K w A es n)
    (n0 : PySem.W.nsIn K A "leave" = some none) (n1 : PySem.W.nsIn K A "to" = some none) (n2 : PySem.W.nsIn K A "by" = some none) (n3 : PySem.W.nsIn K A "come" = some none) (n4 : PySem.W.nsIn K A "lock" = some none) (n5 : PySem.W.nsIn K A "for" = some none) (n6 : PySem.W.nsIn K A "pilot" = some none) (n7 : PySem.W.nsIn K A "unlock" = some none) (n8 : PySem.W.nsIn K A "give" = some none) (n9 : PySem.W.nsIn K A "take" = some none) (n10 : PySem.W.nsIn K A "box" = some none) (n11 : PySem.W.nsIn K A "walk" = some none) (n12 : PySem.W.nsIn K A "help" = some none) (n13 : PySem.W.nsIn K A "bring" = some none) (n14 : PySem.W.nsIn K A "again" = some none) (n15 : PySem.W.nsIn K A "get" = some none) (n16 : PySem.W.nsIn K A "lose" = some none)
    (y0 : PySem.W.nsIn K A "NAME" = some (some (.ref a))) (y1 : PySem.W.nsIn K A "NUMBER" = some (some (.ref b))) (y2 : PySem.W.nsIn K A "THING" = some (some (.ref c))) (y3 : PySem.W.nsIn K A "KIND" = some (some (.ref d))) : SoD K w A (fsOf a b c d) es n := by
  refine ⟨D, fun z hz => ?_, fun x => ?_⟩
  · simp only [lits, List.map_cons, List.map_nil, List.mem_cons, List.not_mem_nil, or_false] at hz
    rcases hz with rfl | rfl | rfl | rfl | rfl | rfl | rfl | rfl | rfl | rfl | rfl | rfl | rfl | rfl | rfl | rfl | rfl
    · exact n0
    · exact n1
    · exact n2
    · exact n3
    · exact n4
    · exact n5
    · exact n6
    · exact n7
    · exact n8
    · exact n9
    · exact n10
    · exact n11
    · exact n12
    · exact n13
    · exact n14
    · exact n15
    · exact n16
  · cases x
    · exact y0
    · exact y1
    · exact y2
    · exact y3
theorem fod_mk {K : PySem.W.Frag} {w : World} {A : Addr} {es : Array DictEntry} {n : Nat} (D : KDict K w A es n) {z0 z1 z2 z3 z4 z5 z6 z7 z8 z9 z10 z11 z12 z13 : Str} {t0 t1 t2 t3 t4 t5 t6 t7 t8 t9 t10 t11 t12 t13 : Tok}
    (h0 : PySem.W.nsIn K A "leave" = some (some (.str z0 t0))) (h1 : PySem.W.nsIn K A "come" = some (some (.str z1 t1))) (h2 : PySem.W.nsIn K A "lock" = some (some (.str z2 t2))) (h3 : PySem.W.nsIn K A "pilot" = some (some (.str z3 t3))) (h4 : PySem.W.nsIn K A "unlock" = some (some (.str z4 t4))) (h5 : PySem.W.nsIn K A "give" = some (some (.str z5 t5))) (h6 : PySem.W.nsIn K A "take" = some (some (.str z6 t6))) (h7 : PySem.W.nsIn K A "box" = some (some (.str z7 t7))) (h8 : PySem.W.nsIn K A "walk" = some (some (.str z8 t8))) (h9 : PySem.W.nsIn K A "help" = some (some (.str z9 t9))) (h10 : PySem.W.nsIn K A "bring" = some (some (.str z10 t10))) (h11 : PySem.W.nsIn K A "again" = some (some (.str z11 t11))) (h12 : PySem.W.nsIn K A "get" = some (some (.str z12 t12))) (h13 : PySem.W.nsIn K A "lose" = some (some (.str z13 t13)))
    (e0 : z0 = Str.ofString "leave NAME to NAME by THING") (e1 : z1 = Str.ofString "come NAME") (e2 : z2 = Str.ofString "lock NAME NUMBER for NAME") (e3 : z3 = Str.ofString "pilot NAME NUMBER") (e4 : z4 = Str.ofString "unlock NAME NUMBER") (e5 : z5 = Str.ofString "give NAME NUMBER") (e6 : z6 = Str.ofString "take NAME NUMBER") (e7 : z7 = Str.ofString "box NAME NUMBER") (e8 : z8 = Str.ofString "walk NAME to NAME") (e9 : z9 = Str.ofString "help NAME NAME") (e10 : z10 = Str.ofString "bring NAME to NAME") (e11 : z11 = Str.ofString "again NAME KIND NUMBER") (e12 : z12 = Str.ofString "get NUMBER") (e13 : z13 = Str.ofString "lose NUMBER") : FoD K w A es n := by
  subst e0 e1 e2 e3 e4 e5 e6 e7 e8 e9 e10 e11 e12 e13
  refine ⟨D, fun f hf => ?_⟩
  simp only [forms, List.mem_cons, List.not_mem_nil, or_false] at hf
  rcases hf with rfl | rfl | rfl | rfl | rfl | rfl | rfl | rfl | rfl | rfl | rfl | rfl | rfl | rfl
  · exact ⟨_, h0⟩
  · exact ⟨_, h1⟩
  · exact ⟨_, h2⟩
  · exact ⟨_, h3⟩
  · exact ⟨_, h4⟩
  · exact ⟨_, h5⟩
  · exact ⟨_, h6⟩
  · exact ⟨_, h7⟩
  · exact ⟨_, h8⟩
  · exact ⟨_, h9⟩
  · exact ⟨_, h10⟩
  · exact ⟨_, h11⟩
  · exact ⟨_, h12⟩
  · exact ⟨_, h13⟩
end D3

set_option maxRecDepth 100000
set_option maxHeartbeats 4000000
namespace D3
open PySem PySem.Spec PyProof.Rows L2 GxR Gd TL My
theorem all_mk {l : PySem.W.OpenLaw} {q : Program} {w : World} {K : PySem.W.Frag} {h : Heap} {mg : Str → Option Value} {fa aSO aFO aTH aKI f1 f2 f3 f4 f5 f6 f7 f8 f9 f10 f11 f12 f13 f14 f15 f16 f17 f18 f19 f20 f21 f22 f23 f24 f25 co0 tb0 co1 tb1 co2 tb2 : Addr} {eo0 : Value} {eoD0 : Option Addr} {us0 : Array Value} {usl0 : Array (Option Value)} {eo1 : Value} {eoD1 : Option Addr} {us1 : Array Value} {usl1 : Array (Option Value)} {eo2 : Value} {eoD2 : Option Addr} {us2 : Array Value} {usl2 : Array (Option Value)}
    (X : K.In h) (G : h.Ns mainGlobals mg) (hfa : mg "law" = some (.ref fa)) (em : Empt q K h)
     {oTH oKI : Obj} {zt0 zt1 zt2 zt3 zk0 zk1 zk2 : Str} {kt0 kt1 kt2 kt3 kk0 kk1 kk2 tM : Tok} {nTH nKI nSO nFO : Nat} {esO efO : Array DictEntry} {zf0 zf1 zf2 zf3 zf4 zf5 zf6 zf7 zf8 zf9 zf10 zf11 zf12 zf13 : Str} {kf0 kf1 kf2 kf3 kf4 kf5 kf6 kf7 kf8 kf9 kf10 kf11 kf12 kf13 : Tok} {od1 an1 : Option Addr} {sl1 : Array (Option Value)} {oc1 kV1 dc1 pm1 cd1 ct1 : Value} {od2 an2 : Option Addr} {sl2 : Array (Option Value)} {oc2 kV2 dc2 pm2 ct2 : Value} {od3 an3 : Option Addr} {sl3 : Array (Option Value)} {oc3 kV3 dc3 pm3 cd3 ct3 : Value} {od4 an4 : Option Addr} {sl4 : Array (Option Value)} {oc4 kV4 dc4 pm4 cd4 ct4 : Value} {od5 an5 : Option Addr} {sl5 : Array (Option Value)} {oc5 kV5 dc5 pm5 cd5 ct5 : Value} {od6 an6 : Option Addr} {sl6 : Array (Option Value)} {oc6 kV6 dc6 pm6 cd6 ct6 : Value} {od7 an7 : Option Addr} {sl7 : Array (Option Value)} {oc7 kV7 dc7 pm7 cd7 ct7 : Value} {od8 an8 : Option Addr} {sl8 : Array (Option Value)} {oc8 kV8 dc8 pm8 ct8 : Value} {od9 an9 : Option Addr} {sl9 : Array (Option Value)} {oc9 kV9 dc9 pm9 cd9 ct9 : Value} {od10 an10 : Option Addr} {sl10 : Array (Option Value)} {oc10 kV10 dc10 pm10 ct10 : Value} {od11 an11 : Option Addr} {sl11 : Array (Option Value)} {oc11 kV11 dc11 pm11 cd11 ct11 : Value} {od12 an12 : Option Addr} {sl12 : Array (Option Value)} {oc12 kV12 dc12 pm12 cd12 ct12 : Value} {od13 an13 : Option Addr} {sl13 : Array (Option Value)} {oc13 kV13 dc13 pm13 cd13 ct13 : Value} {od14 an14 : Option Addr} {sl14 : Array (Option Value)} {oc14 kV14 dc14 pm14 cd14 ct14 : Value} {od15 an15 : Option Addr} {sl15 : Array (Option Value)} {oc15 kV15 dc15 pm15 cd15 ct15 : Value} {od16 an16 : Option Addr} {sl16 : Array (Option Value)} {oc16 kV16 dc16 pm16 cd16 ct16 : Value} {od17 an17 : Option Addr} {sl17 : Array (Option Value)} {oc17 kV17 dc17 pm17 cd17 ct17 : Value} {od18 an18 : Option Addr} {sl18 : Array (Option Value)} {oc18 kV18 dc18 pm18 cd18 ct18 : Value} {od19 an19 : Option Addr} {sl19 : Array (Option Value)} {oc19 kV19 dc19 pm19 cd19 ct19 : Value} {od20 an20 : Option Addr} {sl20 : Array (Option Value)} {oc20 kV20 dc20 pm20 cd20 ct20 : Value} {od21 an21 : Option Addr} {sl21 : Array (Option Value)} {oc21 kV21 dc21 pm21 cd21 ct21 : Value} {od22 an22 : Option Addr} {sl22 : Array (Option Value)} {oc22 kV22 dc22 pm22 cd22 ct22 : Value} {od23 an23 : Option Addr} {sl23 : Array (Option Value)} {oc23 kV23 dc23 pm23 cd23 ct23 : Value} {od24 an24 : Option Addr} {sl24 : Array (Option Value)} {oc24 kV24 dc24 pm24 cd24 ct24 : Value} {od25 an25 : Option Addr} {sl25 : Array (Option Value)} {oc25 kV25 dc25 pm25 cd25 ct25 : Value}
    (a1 : PySem.W.nsIn K mainGlobals "is_whole" = some (some (.ref f1))) (l1 : K.lookup f1 = some ⟨oc1, od1, .func (PySem.W.fnOf "is_whole" "is_whole" (defArgs sWhole) (defBody sWhole) (defScope sWhole) .none kV1 dc1 pm1 an1 cd1 ct1), sl1⟩) (c1 : PySem.W.codeIn K cd1 "is_whole" = true) (k1 : PySem.W.keepIn K (.ref f1) = true) (a2 : PySem.W.nsIn K mainGlobals "is_name" = some (some (.ref f2))) (l2 : K.lookup f2 = some ⟨oc2, od2, .func (PySem.W.fnOf "is_name" "is_name" (defArgs sName) (defBody sName) (defScope sName) .none kV2 dc2 pm2 an2 (.ref co0) ct2), sl2⟩) (c2 : PySem.W.codeIn K (.ref co0) "is_name" = true) (k2 : PySem.W.keepIn K (.ref f2) = true) (a3 : PySem.W.nsIn K mainGlobals "_is_name" = some (some (.ref f3))) (l3 : K.lookup f3 = some ⟨oc3, od3, .func (PySem.W.fnOf "_is_name" "_is_name" (defArgs s_is_name) (defBody s_is_name) (defScope s_is_name) .none kV3 dc3 pm3 an3 cd3 ct3), sl3⟩) (c3 : PySem.W.codeIn K cd3 "_is_name" = true) (k3 : PySem.W.keepIn K (.ref f3) = true) (a4 : PySem.W.nsIn K mainGlobals "_is_number" = some (some (.ref f4))) (l4 : K.lookup f4 = some ⟨oc4, od4, .func (PySem.W.fnOf "_is_number" "_is_number" (defArgs s_is_number) (defBody s_is_number) (defScope s_is_number) .none kV4 dc4 pm4 an4 cd4 ct4), sl4⟩) (c4 : PySem.W.codeIn K cd4 "_is_number" = true) (k4 : PySem.W.keepIn K (.ref f4) = true) (a5 : PySem.W.nsIn K mainGlobals "_is_thing" = some (some (.ref f5))) (l5 : K.lookup f5 = some ⟨oc5, od5, .func (PySem.W.fnOf "_is_thing" "_is_thing" (defArgs s_is_thing) (defBody s_is_thing) (defScope s_is_thing) .none kV5 dc5 pm5 an5 cd5 ct5), sl5⟩) (c5 : PySem.W.codeIn K cd5 "_is_thing" = true) (k5 : PySem.W.keepIn K (.ref f5) = true) (a6 : PySem.W.nsIn K mainGlobals "_is_kind" = some (some (.ref f6))) (l6 : K.lookup f6 = some ⟨oc6, od6, .func (PySem.W.fnOf "_is_kind" "_is_kind" (defArgs s_is_kind) (defBody s_is_kind) (defScope s_is_kind) .none kV6 dc6 pm6 an6 cd6 ct6), sl6⟩) (c6 : PySem.W.codeIn K cd6 "_is_kind" = true) (k6 : PySem.W.keepIn K (.ref f6) = true) (a7 : PySem.W.nsIn K mainGlobals "_is_of" = some (some (.ref f7))) (l7 : K.lookup f7 = some ⟨oc7, od7, .func (PySem.W.fnOf "_is_of" "_is_of" (defArgs s_is_of) (defBody s_is_of) (defScope s_is_of) .none kV7 dc7 pm7 an7 cd7 ct7), sl7⟩) (c7 : PySem.W.codeIn K cd7 "_is_of" = true) (k7 : PySem.W.keepIn K (.ref f7) = true) (a8 : PySem.W.nsIn K mainGlobals "fits" = some (some (.ref f8))) (l8 : K.lookup f8 = some ⟨oc8, od8, .func (PySem.W.fnOf "fits" "fits" (defArgs s_fits) (defBody s_fits) (defScope s_fits) .none kV8 dc8 pm8 an8 (.ref co2) ct8), sl8⟩) (c8 : PySem.W.codeIn K (.ref co2) "fits" = true) (k8 : PySem.W.keepIn K (.ref f8) = true) (a9 : PySem.W.nsIn K mainGlobals "write_row" = some (some (.ref f9))) (l9 : K.lookup f9 = some ⟨oc9, od9, .func (PySem.W.fnOf "write_row" "write_row" (defArgs s_write_row) (defBody s_write_row) (defScope s_write_row) .none kV9 dc9 pm9 an9 cd9 ct9), sl9⟩) (c9 : PySem.W.codeIn K cd9 "write_row" = true) (k9 : PySem.W.keepIn K (.ref f9) = true) (a10 : PySem.W.nsIn K mainGlobals "_part_of" = some (some (.ref f10))) (l10 : K.lookup f10 = some ⟨oc10, od10, .func (PySem.W.fnOf "_part_of" "_part_of" (defArgs s_part_of) (defBody s_part_of) (defScope s_part_of) .none kV10 dc10 pm10 an10 (.ref co1) ct10), sl10⟩) (c10 : PySem.W.codeIn K (.ref co1) "_part_of" = true) (k10 : PySem.W.keepIn K (.ref f10) = true) (a11 : PySem.W.nsIn K mainGlobals "read_row" = some (some (.ref f11))) (l11 : K.lookup f11 = some ⟨oc11, od11, .func (PySem.W.fnOf "read_row" "read_row" (defArgs s_read_row) (defBody s_read_row) (defScope s_read_row) .none kV11 dc11 pm11 an11 cd11 ct11), sl11⟩) (c11 : PySem.W.codeIn K cd11 "read_row" = true) (k11 : PySem.W.keepIn K (.ref f11) = true) (a12 : PySem.W.nsIn K mainGlobals "_is_deed" = some (some (.ref f12))) (l12 : K.lookup f12 = some ⟨oc12, od12, .func (PySem.W.fnOf "_is_deed" "_is_deed" (defArgs s_is_deed) (defBody s_is_deed) (defScope s_is_deed) .none kV12 dc12 pm12 an12 cd12 ct12), sl12⟩) (c12 : PySem.W.codeIn K cd12 "_is_deed" = true) (k12 : PySem.W.keepIn K (.ref f12) = true) (a13 : PySem.W.nsIn K mainGlobals "deed_text" = some (some (.ref f13))) (l13 : K.lookup f13 = some ⟨oc13, od13, .func (PySem.W.fnOf "deed_text" "deed_text" (defArgs s_deed_text) (defBody s_deed_text) (defScope s_deed_text) .none kV13 dc13 pm13 an13 cd13 ct13), sl13⟩) (c13 : PySem.W.codeIn K cd13 "deed_text" = true) (k13 : PySem.W.keepIn K (.ref f13) = true) (a14 : PySem.W.nsIn K mainGlobals "deed_of_row" = some (some (.ref f14))) (l14 : K.lookup f14 = some ⟨oc14, od14, .func (PySem.W.fnOf "deed_of_row" "deed_of_row" (defArgs s_deed_of_row) (defBody s_deed_of_row) (defScope s_deed_of_row) .none kV14 dc14 pm14 an14 cd14 ct14), sl14⟩) (c14 : PySem.W.codeIn K cd14 "deed_of_row" = true) (k14 : PySem.W.keepIn K (.ref f14) = true) (a15 : PySem.W.nsIn K mainGlobals "deed_in" = some (some (.ref f15))) (l15 : K.lookup f15 = some ⟨oc15, od15, .func (PySem.W.fnOf "deed_in" "deed_in" (defArgs s_deed_in) (defBody s_deed_in) (defScope s_deed_in) .none kV15 dc15 pm15 an15 cd15 ct15), sl15⟩) (c15 : PySem.W.codeIn K cd15 "deed_in" = true) (k15 : PySem.W.keepIn K (.ref f15) = true) (a16 : PySem.W.nsIn K mainGlobals "_law_cell" = some (some (.ref f16))) (l16 : K.lookup f16 = some ⟨oc16, od16, .func (PySem.W.fnOf "_law_cell" "_law_cell" (defArgs sCell) (defBody sCell) (defScope sCell) .none kV16 dc16 pm16 an16 cd16 ct16), sl16⟩) (c16 : PySem.W.codeIn K cd16 "_law_cell" = true) (k16 : PySem.W.keepIn K (.ref f16) = true) (a17 : PySem.W.nsIn K mainGlobals "_law_box" = some (some (.ref f17))) (l17 : K.lookup f17 = some ⟨oc17, od17, .func (PySem.W.fnOf "_law_box" "_law_box" (defArgs sBox) (defBody sBox) (defScope sBox) .none kV17 dc17 pm17 an17 cd17 ct17), sl17⟩) (c17 : PySem.W.codeIn K cd17 "_law_box" = true) (k17 : PySem.W.keepIn K (.ref f17) = true) (a18 : PySem.W.nsIn K mainGlobals "_law_take" = some (some (.ref f18))) (l18 : K.lookup f18 = some ⟨oc18, od18, .func (PySem.W.fnOf "_law_take" "_law_take" (defArgs sTake) (defBody sTake) (defScope sTake) .none kV18 dc18 pm18 an18 cd18 ct18), sl18⟩) (c18 : PySem.W.codeIn K cd18 "_law_take" = true) (k18 : PySem.W.keepIn K (.ref f18) = true) (a19 : PySem.W.nsIn K mainGlobals "_law_name" = some (some (.ref f19))) (l19 : K.lookup f19 = some ⟨oc19, od19, .func (PySem.W.fnOf "_law_name" "_law_name" (defArgs s_law_name) (defBody s_law_name) (defScope s_law_name) .none kV19 dc19 pm19 an19 cd19 ct19), sl19⟩) (c19 : PySem.W.codeIn K cd19 "_law_name" = true) (k19 : PySem.W.keepIn K (.ref f19) = true) (a20 : PySem.W.nsIn K mainGlobals "_law_number" = some (some (.ref f20))) (l20 : K.lookup f20 = some ⟨oc20, od20, .func (PySem.W.fnOf "_law_number" "_law_number" (defArgs s_law_number) (defBody s_law_number) (defScope s_law_number) .none kV20 dc20 pm20 an20 cd20 ct20), sl20⟩) (c20 : PySem.W.codeIn K cd20 "_law_number" = true) (k20 : PySem.W.keepIn K (.ref f20) = true) (a21 : PySem.W.nsIn K mainGlobals "_law_forms" = some (some (.ref f21))) (l21 : K.lookup f21 = some ⟨oc21, od21, .func (PySem.W.fnOf "_law_forms" "_law_forms" (defArgs s_law_forms) (defBody s_law_forms) (defScope s_law_forms) .none kV21 dc21 pm21 an21 cd21 ct21), sl21⟩) (c21 : PySem.W.codeIn K cd21 "_law_forms" = true) (k21 : PySem.W.keepIn K (.ref f21) = true) (a22 : PySem.W.nsIn K mainGlobals "_law_part" = some (some (.ref f22))) (l22 : K.lookup f22 = some ⟨oc22, od22, .func (PySem.W.fnOf "_law_part" "_law_part" (defArgs s_law_part) (defBody s_law_part) (defScope s_law_part) .none kV22 dc22 pm22 an22 cd22 ct22), sl22⟩) (c22 : PySem.W.codeIn K cd22 "_law_part" = true) (k22 : PySem.W.keepIn K (.ref f22) = true) (a23 : PySem.W.nsIn K mainGlobals "_law_deed" = some (some (.ref f23))) (l23 : K.lookup f23 = some ⟨oc23, od23, .func (PySem.W.fnOf "_law_deed" "_law_deed" (defArgs s_law_deed) (defBody s_law_deed) (defScope s_law_deed) .none kV23 dc23 pm23 an23 cd23 ct23), sl23⟩) (c23 : PySem.W.codeIn K cd23 "_law_deed" = true) (k23 : PySem.W.keepIn K (.ref f23) = true) (a24 : PySem.W.nsIn K mainGlobals "_law_right" = some (some (.ref f24))) (l24 : K.lookup f24 = some ⟨oc24, od24, .func (PySem.W.fnOf "_law_right" "_law_right" (defArgs s_law_right) (defBody s_law_right) (defScope s_law_right) .none kV24 dc24 pm24 an24 cd24 ct24), sl24⟩) (c24 : PySem.W.codeIn K cd24 "_law_right" = true) (k24 : PySem.W.keepIn K (.ref f24) = true) (a25 : PySem.W.nsIn K mainGlobals "law" = some (some (.ref f25))) (l25 : K.lookup f25 = some ⟨oc25, od25, .func (PySem.W.fnOf "law" "law" (defArgs s_law) (defBody s_law) (defScope s_law) .none kV25 dc25 pm25 an25 cd25 ct25), sl25⟩) (c25 : PySem.W.codeIn K cd25 "law" = true) (k25 : PySem.W.keepIn K (.ref f25) = true) (lco0 : K.lookup co0 = some ⟨eo0, eoD0, .fields us0, usl0⟩) (uel0 : us0[11]? = some (.ref tb0)) (ntb0 : K.lookup tb0 = none) (hrec0 : ((PyProof.Rows.recsOf q).any fun r => r.name == "is_name") = true) (lco1 : K.lookup co1 = some ⟨eo1, eoD1, .fields us1, usl1⟩) (uel1 : us1[11]? = some (.ref tb1)) (ntb1 : K.lookup tb1 = none) (hrec1 : ((PyProof.Rows.recsOf q).any fun r => r.name == "_part_of") = true) (lco2 : K.lookup co2 = some ⟨eo2, eoD2, .fields us2, usl2⟩) (uel2 : us2[11]? = some (.ref tb2)) (ntb2 : K.lookup tb2 = none) (hrec2 : ((PyProof.Rows.recsOf q).any fun r => r.name == "fits") = true) (z0 : PySem.W.nsIn K mainGlobals "isinstance" = some none) (z1 : PySem.W.nsIn K mainGlobals "int" = some none) (z2 : PySem.W.nsIn K mainGlobals "bool" = some none) (z3 : PySem.W.nsIn K mainGlobals "str" = some none) (z4 : PySem.W.nsIn K mainGlobals "len" = some none) (z5 : PySem.W.nsIn K mainGlobals "all" = some none) (z6 : PySem.W.nsIn K mainGlobals "max" = some none) (z7 : PySem.W.nsIn K mainGlobals "min" = some none) (z8 : PySem.W.nsIn K mainGlobals "range" = some none) (z9 : PySem.W.nsIn K mainGlobals "repr" = some none) (z10 : PySem.W.nsIn K mainGlobals "list" = some none) (z11 : PySem.W.nsIn K mainGlobals "tuple" = some none) (z12 : PySem.W.nsIn K mainGlobals "enumerate" = some none) (z13 : PySem.W.nsIn K mainGlobals "sorted" = some none) (z14 : PySem.W.nsIn K mainGlobals "zip" = some none) (gTH : PySem.W.nsIn K mainGlobals "THINGS" = some (some (.ref aTH))) (lTH : K.lookup aTH = some oTH) (cTH : oTH.cls = .type "tuple") (hTH : oTH.dict = none) (dTH : oTH.data = .seq #[.str zt0 kt0, .str zt1 kt1, .str zt2 kt2, .str zt3 kt3] nTH) (zTH : [zt0, zt1, zt2, zt3] = D3.things) (gKI : PySem.W.nsIn K mainGlobals "KINDS" = some (some (.ref aKI))) (lKI : K.lookup aKI = some oKI) (cKI : oKI.cls = .type "tuple") (hKI : oKI.dict = none) (dKI : oKI.data = .seq #[.str zk0 kk0, .str zk1 kk1, .str zk2 kk2] nKI) (zKI : [zk0, zk1, zk2] = D3.kinds) (gMO : PySem.W.nsIn K mainGlobals "MOST_NUMBER" = some (some (.int 999999 tM))) (gSO : PySem.W.nsIn K mainGlobals "SORTS" = some (some (.ref aSO))) (lSO : K.lookup aSO = some ⟨.type "dict", none, .dict esO nSO, #[]⟩) (tSO : PySem.W.KeysLit w.params esO.toList) (wSO : (aSO == sysModules) = false) (gFO : PySem.W.nsIn K mainGlobals "FORMS" = some (some (.ref aFO))) (lFO : K.lookup aFO = some ⟨.type "dict", none, .dict efO nFO, #[]⟩) (tFO : PySem.W.KeysLit w.params efO.toList) (wFO : (aFO == sysModules) = false) (no0 : PySem.W.nsIn K aSO "leave" = some none) (no1 : PySem.W.nsIn K aSO "to" = some none) (no2 : PySem.W.nsIn K aSO "by" = some none) (no3 : PySem.W.nsIn K aSO "come" = some none) (no4 : PySem.W.nsIn K aSO "lock" = some none) (no5 : PySem.W.nsIn K aSO "for" = some none) (no6 : PySem.W.nsIn K aSO "pilot" = some none) (no7 : PySem.W.nsIn K aSO "unlock" = some none) (no8 : PySem.W.nsIn K aSO "give" = some none) (no9 : PySem.W.nsIn K aSO "take" = some none) (no10 : PySem.W.nsIn K aSO "box" = some none) (no11 : PySem.W.nsIn K aSO "walk" = some none) (no12 : PySem.W.nsIn K aSO "help" = some none) (no13 : PySem.W.nsIn K aSO "bring" = some none) (no14 : PySem.W.nsIn K aSO "again" = some none) (no15 : PySem.W.nsIn K aSO "get" = some none) (no16 : PySem.W.nsIn K aSO "lose" = some none) (ys0 : PySem.W.nsIn K aSO "NAME" = some (some (.ref f3))) (ys1 : PySem.W.nsIn K aSO "NUMBER" = some (some (.ref f4))) (ys2 : PySem.W.nsIn K aSO "THING" = some (some (.ref f5))) (ys3 : PySem.W.nsIn K aSO "KIND" = some (some (.ref f6))) (fo0 : PySem.W.nsIn K aFO "leave" = some (some (.str zf0 kf0))) (fo1 : PySem.W.nsIn K aFO "come" = some (some (.str zf1 kf1))) (fo2 : PySem.W.nsIn K aFO "lock" = some (some (.str zf2 kf2))) (fo3 : PySem.W.nsIn K aFO "pilot" = some (some (.str zf3 kf3))) (fo4 : PySem.W.nsIn K aFO "unlock" = some (some (.str zf4 kf4))) (fo5 : PySem.W.nsIn K aFO "give" = some (some (.str zf5 kf5))) (fo6 : PySem.W.nsIn K aFO "take" = some (some (.str zf6 kf6))) (fo7 : PySem.W.nsIn K aFO "box" = some (some (.str zf7 kf7))) (fo8 : PySem.W.nsIn K aFO "walk" = some (some (.str zf8 kf8))) (fo9 : PySem.W.nsIn K aFO "help" = some (some (.str zf9 kf9))) (fo10 : PySem.W.nsIn K aFO "bring" = some (some (.str zf10 kf10))) (fo11 : PySem.W.nsIn K aFO "again" = some (some (.str zf11 kf11))) (fo12 : PySem.W.nsIn K aFO "get" = some (some (.str zf12 kf12))) (fo13 : PySem.W.nsIn K aFO "lose" = some (some (.str zf13 kf13))) (fe0 : zf0 = Str.ofString "leave NAME to NAME by THING") (fe1 : zf1 = Str.ofString "come NAME") (fe2 : zf2 = Str.ofString "lock NAME NUMBER for NAME") (fe3 : zf3 = Str.ofString "pilot NAME NUMBER") (fe4 : zf4 = Str.ofString "unlock NAME NUMBER") (fe5 : zf5 = Str.ofString "give NAME NUMBER") (fe6 : zf6 = Str.ofString "take NAME NUMBER") (fe7 : zf7 = Str.ofString "box NAME NUMBER") (fe8 : zf8 = Str.ofString "walk NAME to NAME") (fe9 : zf9 = Str.ofString "help NAME NAME") (fe10 : zf10 = Str.ofString "bring NAME to NAME") (fe11 : zf11 = Str.ofString "again NAME KIND NUMBER") (fe12 : zf12 = Str.ofString "get NUMBER") (fe13 : zf13 = Str.ofString "lose NUMBER") :
    GLaw l w K CX0 11 63 "_law_script" mg fa h := by
  have e := hfa.symm.trans (PySem.W.mg_of X G a25)
  cases e
  have T : Txt mg := ⟨PySem.W.mg_none_of X G z0, PySem.W.mg_none_of X G z1, PySem.W.mg_none_of X G z2, PySem.W.mg_none_of X G z3, PySem.W.mg_none_of X G z4, PySem.W.mg_none_of X G z5, PySem.W.mg_none_of X G z6, PySem.W.mg_none_of X G z7, PySem.W.mg_none_of X G z8, PySem.W.mg_none_of X G z9, PySem.W.mg_none_of X G z10, PySem.W.mg_none_of X G z11, PySem.W.mg_none_of X G z12, PySem.W.mg_none_of X G z13, PySem.W.mg_none_of X G z14⟩
  have F1 := fun_mk (st := sWhole) l1 c1 k1
  have b1 := F1.binds (ps := ["thing", "low", "high"]) fun _ _ _ _ _ _ us hl => match us, hl with | [_, _, _], _ => rfl
  have F2 := fun_mk (st := sName) l2 c2 k2
  have b2 := F2.binds (ps := ["thing"]) fun _ _ _ _ _ _ us hl => match us, hl with | [_], _ => rfl
  have F3 := fun_mk (st := s_is_name) l3 c3 k3
  have b3 := F3.binds (ps := ["thing"]) fun _ _ _ _ _ _ us hl => match us, hl with | [_], _ => rfl
  have F4 := fun_mk (st := s_is_number) l4 c4 k4
  have b4 := F4.binds (ps := ["thing"]) fun _ _ _ _ _ _ us hl => match us, hl with | [_], _ => rfl
  have F5 := fun_mk (st := s_is_thing) l5 c5 k5
  have b5 := F5.binds (ps := ["thing"]) fun _ _ _ _ _ _ us hl => match us, hl with | [_], _ => rfl
  have F6 := fun_mk (st := s_is_kind) l6 c6 k6
  have b6 := F6.binds (ps := ["thing"]) fun _ _ _ _ _ _ us hl => match us, hl with | [_], _ => rfl
  have F7 := fun_mk (st := s_is_of) l7 c7 k7
  have b7 := F7.binds (ps := ["sort", "part"]) fun _ _ _ _ _ _ us hl => match us, hl with | [_, _], _ => rfl
  have F8 := fun_mk (st := s_fits) l8 c8 k8
  have b8 := F8.binds (ps := ["form", "parts"]) fun _ _ _ _ _ _ us hl => match us, hl with | [_, _], _ => rfl
  have F9 := fun_mk (st := s_write_row) l9 c9 k9
  have b9 := F9.binds (ps := ["form", "parts"]) fun _ _ _ _ _ _ us hl => match us, hl with | [_, _], _ => rfl
  have F10 := fun_mk (st := s_part_of) l10 c10 k10
  have b10 := F10.binds (ps := ["word"]) fun _ _ _ _ _ _ us hl => match us, hl with | [_], _ => rfl
  have F11 := fun_mk (st := s_read_row) l11 c11 k11
  have b11 := F11.binds (ps := ["form", "row"]) fun _ _ _ _ _ _ us hl => match us, hl with | [_, _], _ => rfl
  have F12 := fun_mk (st := s_is_deed) l12 c12 k12
  have b12 := F12.binds (ps := ["thing"]) fun _ _ _ _ _ _ us hl => match us, hl with | [_], _ => rfl
  have F13 := fun_mk (st := s_deed_text) l13 c13 k13
  have b13 := F13.binds (ps := ["deed"]) fun _ _ _ _ _ _ us hl => match us, hl with | [_], _ => rfl
  have F14 := fun_mk (st := s_deed_of_row) l14 c14 k14
  have b14 := F14.binds (ps := ["row"]) fun _ _ _ _ _ _ us hl => match us, hl with | [_], _ => rfl
  have F15 := fun_mk (st := s_deed_in) l15 c15 k15
  have b15 := F15.binds (ps := ["text"]) fun _ _ _ _ _ _ us hl => match us, hl with | [_], _ => rfl
  have F16 := fun_mk (st := sCell) l16 c16 k16
  have b16 := F16.binds (ps := ["_law_script", "_law_k"]) fun _ _ _ _ _ _ us hl => match us, hl with | [_, _], _ => rfl
  have F17 := fun_mk (st := sBox) l17 c17 k17
  have b17 := F17.binds (ps := ["_law_cell_here"]) fun _ _ _ _ _ _ us hl => match us, hl with | [_], _ => rfl
  have F18 := fun_mk (st := sTake) l18 c18 k18
  have b18 := F18.binds (ps := ["_law_box_here", "_law_many"]) fun _ _ _ _ _ _ us hl => match us, hl with | [_, _], _ => rfl
  have F19 := fun_mk (st := s_law_name) l19 c19 k19
  have b19 := F19.binds (ps := ["_law_box_here"]) fun _ _ _ _ _ _ us hl => match us, hl with | [_], _ => rfl
  have F20 := fun_mk (st := s_law_number) l20 c20 k20
  have b20 := F20.binds (ps := ["_law_box_here"]) fun _ _ _ _ _ _ us hl => match us, hl with | [_], _ => rfl
  have F21 := fun_mk (st := s_law_forms) l21 c21 k21
  have b21 := F21.binds (ps := []) fun _ _ _ _ _ _ us hl => match us, hl with | [], _ => rfl
  have F22 := fun_mk (st := s_law_part) l22 c22 k22
  have b22 := F22.binds (ps := ["_law_box_here", "_law_sign"]) fun _ _ _ _ _ _ us hl => match us, hl with | [_, _], _ => rfl
  have F23 := fun_mk (st := s_law_deed) l23 c23 k23
  have b23 := F23.binds (ps := ["_law_box_here"]) fun _ _ _ _ _ _ us hl => match us, hl with | [_], _ => rfl
  have F24 := fun_mk (st := s_law_right) l24 c24 k24
  have b24 := F24.binds (ps := ["_law_deed_here", "_law_row", "_law_first"]) fun _ _ _ _ _ _ us hl => match us, hl with | [_, _, _], _ => rfl
  have F25 := fun_mk (st := s_law) l25 c25 k25
  have CTH : Cst K aTH things := cst4 lTH cTH hTH dTH zTH
  have CKI : Cst K aKI kinds := cst3 lKI cKI hKI dKI zKI
  have DSO : KDict K w aSO esO nSO := ⟨lSO, tSO, wSO⟩
  have DFO : KDict K w aFO efO nFO := ⟨lFO, tFO, wFO⟩
  have SD : SoD K w aSO (fsOf f3 f4 f5 f6) esO nSO := sod_mk DSO no0 no1 no2 no3 no4 no5 no6 no7 no8 no9 no10 no11 no12 no13 no14 no15 no16 ys0 ys1 ys2 ys3
  have FD : FoD K w aFO efO nFO := fod_mk DFO fo0 fo1 fo2 fo3 fo4 fo5 fo6 fo7 fo8 fo9 fo10 fo11 fo12 fo13 fe0 fe1 fe2 fe3 fe4 fe5 fe6 fe7 fe8 fe9 fe10 fe11 fe12 fe13
  obtain ⟨ch0, tabh0⟩ := em "is_name" f2 co0 tb0 _ _ eo0 eoD0 us0 usl0 hrec0 a2 l2 rfl rfl lco0 uel0
  obtain ⟨ch1, tabh1⟩ := em "_part_of" f10 co1 tb1 _ _ eo1 eoD1 us1 usl1 hrec1 a10 l10 rfl rfl lco1 uel1
  obtain ⟨ch2, tabh2⟩ := em "fits" f8 co2 tb2 _ _ eo2 eoD2 us2 usl2 hrec2 a8 l8 rfl rfl lco2 uel2
  refine ⟨PySem.W.fnOf "law" "law" (defArgs s_law) (defBody s_law) (defScope s_law) .none kV25 dc25 pm25 an25 cd25 ct25, [(co0, tb0), (co1, tb1), (co2, tb2)], spLaw K [tb0, tb1, tb2], ?_, ?_, ?_, fun s v => .of_eq rfl, ?_, ?_⟩
  · intro p hp
    rcases List.mem_cons.mp hp with e0 | hp
    · rw [e0]; exact tabh0
    rcases List.mem_cons.mp hp with e0 | hp
    · rw [e0]; exact tabh1
    rcases List.mem_cons.mp hp with e0 | hp
    · rw [e0]; exact tabh2
    cases hp
  · intro p hp
    rcases List.mem_cons.mp hp with e0 | hp
    · rw [e0]; exact ntb0
    rcases List.mem_cons.mp hp with e0 | hp
    · rw [e0]; exact ntb1
    rcases List.mem_cons.mp hp with e0 | hp
    · rw [e0]; exact ntb2
    cases hp
  · intro p hp
    rcases List.mem_cons.mp hp with e0 | hp
    · rw [e0]; exact ch0
    rcases List.mem_cons.mp hp with e0 | hp
    · rw [e0]; exact ch1
    rcases List.mem_cons.mp hp with e0 | hp
    · rw [e0]; exact ch2
    cases hp
  · intro H a ns hn _ hT hS
    refine ⟨a, ns, rfl, hS, hn, ?_, fun _ => rfl⟩
    intro p hp
    rcases List.mem_cons.mp hp with e0 | hp
    · rw [e0]; exact ⟨#[], hT (co0, tb0) (List.mem_cons_self ..), trivial⟩
    rcases List.mem_cons.mp hp with e0 | hp
    · rw [e0]; exact ⟨#[], hT (co1, tb1) (List.mem_cons_of_mem _ (List.mem_cons_self ..)), trivial⟩
    rcases List.mem_cons.mp hp with e0 | hp
    · rw [e0]; exact ⟨#[], hT (co2, tb2) (List.mem_cons_of_mem _ (List.mem_cons_of_mem _ (List.mem_cons_self ..))), trivial⟩
    cases hp
  · intro base kb nb TB
    have gis_whole : FnOk l.prog w K mg base CX0 _ f1 _ _ _ := ok_whole F1 T
    have gis_name := ok_name (P := l.prog) (w := w) l2 c2 T (TB (co0, tb0) (List.mem_cons_self ..))
    have gchk_name : FnOk l.prog w K mg base CX0 _ f3 _ _ _ := ok_chk_name (List.mem_cons_self ..) (T := [tb0, tb1, tb2]) F3 ⟨F2, PySem.W.mg_of X G a2, b2⟩ gis_name
    have gchk_number : FnOk l.prog w K mg base CX0 _ f4 _ _ _ := ok_chk_number (T := [tb0, tb1, tb2]) F4 (PySem.W.mg_of X G gMO) ⟨F1, PySem.W.mg_of X G a1, b1⟩ gis_whole
    have gchk_thing : FnOk l.prog w K mg base CX0 _ f5 _ _ _ := ok_chk_thing (T := [tb0, tb1, tb2]) F5 (PySem.W.mg_of X G gTH) CTH
    have gchk_kind : FnOk l.prog w K mg base CX0 _ f6 _ _ _ := ok_chk_kind (T := [tb0, tb1, tb2]) F6 (PySem.W.mg_of X G gKI) CKI
    have HA : ∀ x, Held l.prog w K mg base 3 (fsOf f3 f4 f5 f6 x) (spChk [tb0, tb1, tb2] x) := fun x => match x with
      | .name => ⟨⟨_, _, gchk_name, k3, b3⟩⟩
      | .number => ⟨⟨_, _, gchk_number, k4, b4⟩⟩
      | .thing => ⟨⟨_, _, gchk_thing, k5, b5⟩⟩
      | .kind => ⟨⟨_, _, gchk_kind, k6, b6⟩⟩
    have gis_of : FnOk l.prog w K mg base CX0 _ f7 _ _ _ := ok_is_of F7 (PySem.W.mg_of X G gSO) (fun x => SD.item x) HA
    have gfits := ok_fits (P := l.prog) (w := w) (show tb2 ∈ [tb0, tb1, tb2] from (List.mem_cons_of_mem _ (List.mem_cons_of_mem _ (List.mem_cons_self ..)))) l8 c8 T (TB (co2, tb2) (List.mem_cons_of_mem _ (List.mem_cons_of_mem _ (List.mem_cons_self ..)))) (PySem.W.mg_of X G gSO) SD ⟨F7, PySem.W.mg_of X G a7, b7⟩ gis_of
    have gwrite_row : FnOk l.prog w K mg base CX0 _ f9 _ _ _ := ok_write_row F9 T (PySem.W.mg_of X G gSO) SD
    have gpart_of := ok_part_of (P := l.prog) (w := w) l10 c10 (show tb1 ∈ [tb0, tb1, tb2] from (List.mem_cons_of_mem _ (List.mem_cons_self ..))) T (TB (co1, tb1) (List.mem_cons_of_mem _ (List.mem_cons_self ..))) (PySem.W.mg_of X G gMO)
    have gread_row : FnOk l.prog w K mg base CX0 _ f11 _ _ _ := ok_read_row F11 T (PySem.W.mg_of X G gSO) SD ⟨F8, PySem.W.mg_of X G a8, b8⟩ gfits ⟨F10, PySem.W.mg_of X G a10, b10⟩ gpart_of
    have gis_deed : FnOk l.prog w K mg base CX0 _ f12 _ _ _ := ok_is_deed F12 T (PySem.W.mg_of X G gFO) FD ⟨F8, PySem.W.mg_of X G a8, b8⟩ gfits
    have gdeed_text : FnOk l.prog w K mg base CX0 _ f13 _ _ _ := ok_deed_text F13 T (PySem.W.mg_of X G gFO) FD ⟨F12, PySem.W.mg_of X G a12, b12⟩ gis_deed ⟨F9, PySem.W.mg_of X G a9, b9⟩ gwrite_row
    have gdeed_of_row : FnOk l.prog w K mg base CX0 _ f14 _ _ _ := ok_deed_of_row F14 T (PySem.W.mg_of X G gFO) FD ⟨F11, PySem.W.mg_of X G a11, b11⟩ gread_row
    have gdeed_in : FnOk l.prog w K mg base CX0 _ f15 _ _ _ := ok_deed_in F15 T ⟨F14, PySem.W.mg_of X G a14, b14⟩ gdeed_of_row
    have glaw_cell : FnOk l.prog w K mg base CX0 _ f16 _ _ _ := ok_cell F16 T
    have glaw_box : FnOk l.prog w K mg base CX0 _ f17 _ _ _ := ok_box F17 T
    have glaw_take : FnOk l.prog w K mg base CX0 _ f18 _ _ _ := ok_take F18
    have glaw_name : FnOk l.prog w K mg base CX0 _ f19 _ _ _ := ok_law_name F19 T ⟨F18, PySem.W.mg_of X G a18, b18⟩ glaw_take
    have glaw_number : FnOk l.prog w K mg base CX0 _ f20 _ _ _ := ok_law_number F20 T ⟨F18, PySem.W.mg_of X G a18, b18⟩ glaw_take
    have glaw_forms : FnOk l.prog w K mg base CX0 _ f21 _ _ _ := ok_law_forms F21
    have glaw_part : FnOk l.prog w K mg base CX0 _ f22 _ _ _ := ok_law_part F22 T ⟨F18, PySem.W.mg_of X G a18, b18⟩ glaw_take ⟨F19, PySem.W.mg_of X G a19, b19⟩ glaw_name ⟨F20, PySem.W.mg_of X G a20, b20⟩ glaw_number
    have glaw_deed : FnOk l.prog w K mg base CX0 _ f23 _ _ _ := ok_law_deed F23 T ⟨F18, PySem.W.mg_of X G a18, b18⟩ glaw_take ⟨F21, PySem.W.mg_of X G a21, b21⟩ glaw_forms ⟨F22, PySem.W.mg_of X G a22, b22⟩ glaw_part
    have glaw_right : GOk l.prog w K mg base CX0 _ f24 _ _ _ := ok_law_right F24 T ⟨F15, PySem.W.mg_of X G a15, b15⟩ gdeed_in ⟨F13, PySem.W.mg_of X G a13, b13⟩ gdeed_text
    exact (ok_law F25 T ⟨F16, PySem.W.mg_of X G a16, b16⟩ glaw_cell ⟨F17, PySem.W.mg_of X G a17, b17⟩ glaw_box ⟨F18, PySem.W.mg_of X G a18, b18⟩ glaw_take ⟨F23, PySem.W.mg_of X G a23, b23⟩ glaw_deed ⟨F24, PySem.W.mg_of X G a24, b24⟩ glaw_right)
end D3

open PySem PySem.W PyProof.Rows in
set_option maxRecDepth 100000 in
set_option maxHeartbeats 0 in
theorem PySem.Challenge.cw_onestaff_k73_deeds_written_and_read_holds : PySem.Challenge.rw_onestaff_k73_deeds_written_and_read.Holds := by
  w_on; o_law; k_head; (case hw => w_witness2)
  k_fill
  refine Gd.walk_g (l := PySem.Challenge.rw_onestaff_k73_deeds_written_and_read) (n := 63) (k := 11) (x := "_law_script") (CX := fun _ => L2.CX0) rfl (by decide) rfl ⟨rfl, by decide, by decide⟩ (fun w h Y => PySem.W.kIn_of Y) ?F (fun _ _ _ _ _ z => z)
  case F =>
    intro w mg fa h Y KX G hmg em
    refine' D3.all_mk KX G hmg em ?Qa1 ?Ql1 ?Qc1 ?Qk1 ?Qa2 ?Ql2 ?Qc2 ?Qk2 ?Qa3 ?Ql3 ?Qc3 ?Qk3 ?Qa4 ?Ql4 ?Qc4 ?Qk4 ?Qa5 ?Ql5 ?Qc5 ?Qk5 ?Qa6 ?Ql6 ?Qc6 ?Qk6 ?Qa7 ?Ql7 ?Qc7 ?Qk7 ?Qa8 ?Ql8 ?Qc8 ?Qk8 ?Qa9 ?Ql9 ?Qc9 ?Qk9 ?Qa10 ?Ql10 ?Qc10 ?Qk10 ?Qa11 ?Ql11 ?Qc11 ?Qk11 ?Qa12 ?Ql12 ?Qc12 ?Qk12 ?Qa13 ?Ql13 ?Qc13 ?Qk13 ?Qa14 ?Ql14 ?Qc14 ?Qk14 ?Qa15 ?Ql15 ?Qc15 ?Qk15 ?Qa16 ?Ql16 ?Qc16 ?Qk16 ?Qa17 ?Ql17 ?Qc17 ?Qk17 ?Qa18 ?Ql18 ?Qc18 ?Qk18 ?Qa19 ?Ql19 ?Qc19 ?Qk19 ?Qa20 ?Ql20 ?Qc20 ?Qk20 ?Qa21 ?Ql21 ?Qc21 ?Qk21 ?Qa22 ?Ql22 ?Qc22 ?Qk22 ?Qa23 ?Ql23 ?Qc23 ?Qk23 ?Qa24 ?Ql24 ?Qc24 ?Qk24 ?Qa25 ?Ql25 ?Qc25 ?Qk25 ?Qlco0 ?Quel0 ?Qntb0 ?Qhrec0 ?Qlco1 ?Quel1 ?Qntb1 ?Qhrec1 ?Qlco2 ?Quel2 ?Qntb2 ?Qhrec2 ?Qz0 ?Qz1 ?Qz2 ?Qz3 ?Qz4 ?Qz5 ?Qz6 ?Qz7 ?Qz8 ?Qz9 ?Qz10 ?Qz11 ?Qz12 ?Qz13 ?Qz14 ?QgTH ?QlTH ?QcTH ?QhTH ?QdTH ?QzTH ?QgKI ?QlKI ?QcKI ?QhKI ?QdKI ?QzKI ?QgMO ?QgSO ?QlSO ?QtSO ?QwSO ?QgFO ?QlFO ?QtFO ?QwFO ?Qno0 ?Qno1 ?Qno2 ?Qno3 ?Qno4 ?Qno5 ?Qno6 ?Qno7 ?Qno8 ?Qno9 ?Qno10 ?Qno11 ?Qno12 ?Qno13 ?Qno14 ?Qno15 ?Qno16 ?Qys0 ?Qys1 ?Qys2 ?Qys3 ?Qfo0 ?Qfo1 ?Qfo2 ?Qfo3 ?Qfo4 ?Qfo5 ?Qfo6 ?Qfo7 ?Qfo8 ?Qfo9 ?Qfo10 ?Qfo11 ?Qfo12 ?Qfo13 ?Qfe0 ?Qfe1 ?Qfe2 ?Qfe3 ?Qfe4 ?Qfe5 ?Qfe6 ?Qfe7 ?Qfe8 ?Qfe9 ?Qfe10 ?Qfe11 ?Qfe12 ?Qfe13
    (case Qa1 => k_is)
    (case Ql1 => k_is)
    (case Qc1 => k_is)
    (case Qk1 => k_is)
    (case Qa2 => k_is)
    (case Ql2 => k_is)
    (case Qc2 => k_is)
    (case Qk2 => k_is)
    (case Qa3 => k_is)
    (case Ql3 => k_is)
    (case Qc3 => k_is)
    (case Qk3 => k_is)
    (case Qa4 => k_is)
    (case Ql4 => k_is)
    (case Qc4 => k_is)
    (case Qk4 => k_is)
    (case Qa5 => k_is)
    (case Ql5 => k_is)
    (case Qc5 => k_is)
    (case Qk5 => k_is)
    (case Qa6 => k_is)
    (case Ql6 => k_is)
    (case Qc6 => k_is)
    (case Qk6 => k_is)
    (case Qa7 => k_is)
    (case Ql7 => k_is)
    (case Qc7 => k_is)
    (case Qk7 => k_is)
    (case Qa8 => k_is)
    (case Ql8 => k_is)
    (case Qc8 => k_is)
    (case Qk8 => k_is)
    (case Qa9 => k_is)
    (case Ql9 => k_is)
    (case Qc9 => k_is)
    (case Qk9 => k_is)
    (case Qa10 => k_is)
    (case Ql10 => k_is)
    (case Qc10 => k_is)
    (case Qk10 => k_is)
    (case Qa11 => k_is)
    (case Ql11 => k_is)
    (case Qc11 => k_is)
    (case Qk11 => k_is)
    (case Qa12 => k_is)
    (case Ql12 => k_is)
    (case Qc12 => k_is)
    (case Qk12 => k_is)
    (case Qa13 => k_is)
    (case Ql13 => k_is)
    (case Qc13 => k_is)
    (case Qk13 => k_is)
    (case Qa14 => k_is)
    (case Ql14 => k_is)
    (case Qc14 => k_is)
    (case Qk14 => k_is)
    (case Qa15 => k_is)
    (case Ql15 => k_is)
    (case Qc15 => k_is)
    (case Qk15 => k_is)
    (case Qa16 => k_is)
    (case Ql16 => k_is)
    (case Qc16 => k_is)
    (case Qk16 => k_is)
    (case Qa17 => k_is)
    (case Ql17 => k_is)
    (case Qc17 => k_is)
    (case Qk17 => k_is)
    (case Qa18 => k_is)
    (case Ql18 => k_is)
    (case Qc18 => k_is)
    (case Qk18 => k_is)
    (case Qa19 => k_is)
    (case Ql19 => k_is)
    (case Qc19 => k_is)
    (case Qk19 => k_is)
    (case Qa20 => k_is)
    (case Ql20 => k_is)
    (case Qc20 => k_is)
    (case Qk20 => k_is)
    (case Qa21 => k_is)
    (case Ql21 => k_is)
    (case Qc21 => k_is)
    (case Qk21 => k_is)
    (case Qa22 => k_is)
    (case Ql22 => k_is)
    (case Qc22 => k_is)
    (case Qk22 => k_is)
    (case Qa23 => k_is)
    (case Ql23 => k_is)
    (case Qc23 => k_is)
    (case Qk23 => k_is)
    (case Qa24 => k_is)
    (case Ql24 => k_is)
    (case Qc24 => k_is)
    (case Qk24 => k_is)
    (case Qa25 => k_is)
    (case Ql25 => k_is)
    (case Qc25 => k_is)
    (case Qk25 => k_is)
    (case Qlco0 => k_is)
    (case Quel0 => rfl)
    (case Qntb0 => rfl)
    (case Qhrec0 => decide +kernel)
    (case Qlco1 => k_is)
    (case Quel1 => rfl)
    (case Qntb1 => rfl)
    (case Qhrec1 => decide +kernel)
    (case Qlco2 => k_is)
    (case Quel2 => rfl)
    (case Qntb2 => rfl)
    (case Qhrec2 => decide +kernel)
    (case Qz0 => k_is)
    (case Qz1 => k_is)
    (case Qz2 => k_is)
    (case Qz3 => k_is)
    (case Qz4 => k_is)
    (case Qz5 => k_is)
    (case Qz6 => k_is)
    (case Qz7 => k_is)
    (case Qz8 => k_is)
    (case Qz9 => k_is)
    (case Qz10 => k_is)
    (case Qz11 => k_is)
    (case Qz12 => k_is)
    (case Qz13 => k_is)
    (case Qz14 => k_is)
    (case QgTH => k_is)
    (case QlTH => k_is)
    (case QcTH => rfl)
    (case QhTH => rfl)
    (case QdTH => rfl)
    (case QzTH => first | rfl | kernel_rfl)
    (case QgKI => k_is)
    (case QlKI => k_is)
    (case QcKI => rfl)
    (case QhKI => rfl)
    (case QdKI => rfl)
    (case QzKI => first | rfl | kernel_rfl)
    (case QgMO => k_is)
    (case QgSO => k_is)
    (case QlSO => k_is)
    (case QtSO => exact ⟨⟨_, _, rfl, rfl⟩, ⟨_, _, rfl, rfl⟩, ⟨_, _, rfl, rfl⟩, ⟨_, _, rfl, rfl⟩, ⟨_, _, rfl, rfl⟩, trivial⟩)
    (case QwSO => first | rfl | decide | kernel_rfl)
    (case QgFO => k_is)
    (case QlFO => k_is)
    (case QtFO => exact ⟨⟨_, _, rfl, rfl⟩, ⟨_, _, rfl, rfl⟩, ⟨_, _, rfl, rfl⟩, ⟨_, _, rfl, rfl⟩, ⟨_, _, rfl, rfl⟩, ⟨_, _, rfl, rfl⟩, ⟨_, _, rfl, rfl⟩, ⟨_, _, rfl, rfl⟩, ⟨_, _, rfl, rfl⟩, ⟨_, _, rfl, rfl⟩, ⟨_, _, rfl, rfl⟩, ⟨_, _, rfl, rfl⟩, ⟨_, _, rfl, rfl⟩, ⟨_, _, rfl, rfl⟩, trivial⟩)
    (case QwFO => first | rfl | decide | kernel_rfl)
    (case Qno0 => k_is)
    (case Qno1 => k_is)
    (case Qno2 => k_is)
    (case Qno3 => k_is)
    (case Qno4 => k_is)
    (case Qno5 => k_is)
    (case Qno6 => k_is)
    (case Qno7 => k_is)
    (case Qno8 => k_is)
    (case Qno9 => k_is)
    (case Qno10 => k_is)
    (case Qno11 => k_is)
    (case Qno12 => k_is)
    (case Qno13 => k_is)
    (case Qno14 => k_is)
    (case Qno15 => k_is)
    (case Qno16 => k_is)
    (case Qys0 => k_is)
    (case Qys1 => k_is)
    (case Qys2 => k_is)
    (case Qys3 => k_is)
    (case Qfo0 => k_is)
    (case Qfo1 => k_is)
    (case Qfo2 => k_is)
    (case Qfo3 => k_is)
    (case Qfo4 => k_is)
    (case Qfo5 => k_is)
    (case Qfo6 => k_is)
    (case Qfo7 => k_is)
    (case Qfo8 => k_is)
    (case Qfo9 => k_is)
    (case Qfo10 => k_is)
    (case Qfo11 => k_is)
    (case Qfo12 => k_is)
    (case Qfo13 => k_is)
    (case Qfe0 => first | rfl | kernel_rfl)
    (case Qfe1 => first | rfl | kernel_rfl)
    (case Qfe2 => first | rfl | kernel_rfl)
    (case Qfe3 => first | rfl | kernel_rfl)
    (case Qfe4 => first | rfl | kernel_rfl)
    (case Qfe5 => first | rfl | kernel_rfl)
    (case Qfe6 => first | rfl | kernel_rfl)
    (case Qfe7 => first | rfl | kernel_rfl)
    (case Qfe8 => first | rfl | kernel_rfl)
    (case Qfe9 => first | rfl | kernel_rfl)
    (case Qfe10 => first | rfl | kernel_rfl)
    (case Qfe11 => first | rfl | kernel_rfl)
    (case Qfe12 => first | rfl | kernel_rfl)
    (case Qfe13 => first | rfl | kernel_rfl)

