import PyProof.Rows.All
import Wide.All
import OpenK.AllK
import Wide.FinOn
import PyProof.EqAt
import PyProof.EqKinds
import PyProof.TupleCall
import HandS.Base
import HandS.Call
import HandS.List
import HandS.Comp
import HandS.Ends
import HandS.Text
import HandS.Exc
import HandS.Words
import HandS.WordsList
import HandS.Iter
import HandS.Dict
import HandS.Wide
import HandS.IsInst
import HandS.AnyAll
import HandS.EndBits
import HandS.EndTab
import PyProof.Rows.RegFStrParts
import PyProof.Rows.ReprShort
import HandS.More
import HandS.SortInts
import HandS.ListItems
import HandS.Walk
import PySem.Challenge.RW_onestaff_k11_words_under_way
set_option Elab.async false
set_option linter.all false
set_option maxRecDepth 100000
set_option maxHeartbeats 4000000
/-! Defs that show lists and tuples: they run where no display is under way. -/
namespace Gd
open PySem PySem.Spec PyProof.Rows L2

/-- a def's promise, kept wherever no display is under way -/
structure GOk (P : Program) (w : World) (K : PySem.W.Frag) (mg : Str → Option Value) (base : Heap) (CX : CXT) (k : Nat) (f : Addr) (fd : FuncData) (ps : List Str) (sp : Sp) : Prop where
  size : ∀ vs H Q E, sp vs H Q E → vs.length = ps.length
  go : ∀ (A : Around) (out : List Env) (s : Shared) (H : Hp) (ar : Args) (us : List Value) (vs : List V) (Q : VK) (E : XK), A.guards = some [] →
    Room k A → Env0 P w K mg base A out s H → BindsTo s fd ar (ps.zip us) → Vals vs us → sp vs H Q E →
    codeAny (model P w) A (.call (.ref f) ar) (CR CX out P w H s Q E) s

section
variable {P : Program} {w : World} {K : PySem.W.Frag} {mg : Str → Option Value} {base : Heap}

/-- by its body -/
theorem gok_body {CX : CXT} {k : Nat} {x qual : Str} {st : Stmt} {f : Addr} {fd : FuncData} {N ps : List Str} {sp : Sp} (F : Fun K x qual st f fd) (S : FnScope N ps (defScope st))
    (size : ∀ vs H Q E, sp vs H Q E → vs.length = ps.length)
    (body : ∀ (cd : Value) (A : Around) (out : List Env) (s : Shared) (H : Hp) (vs : List V) (Q : VK) (E : XK), A.guards = some [] →
      Room k (A.deeper (envOfC qual (defScope st) s.heap.objs.size f cd)) → sp vs H Q E →
      ∃ t, PSs (cxOf CX P w K mg base N qual (defScope st) f cd A out s H E) (defBody st) t ∧ t { nx := fun _ H' => Q .non H', rt := Q } (start N vs) H) :
    GOk P w K mg base CX (k + 1) f fd ps sp := by
  obtain ⟨oc, od, kV, doc, pm, an, cd, ct, osl, rfl, lk, hcd⟩ := F.ex
  refine ⟨size, fun A out s H ar us vs Q E gd hr e0 hb r hsp => ?_⟩
  have hl := size _ _ _ _ hsp
  have KX : K.In s.heap := e0.mod.kin.keeps fun b o z => (e0.bs b o z).1
  have kinds : ∀ y ∈ ps.zip us, (defScope st).names.lookup y.1 = some .local ∨
      ((defScope st).names.lookup y.1 = some .cell ∧ ((cellsFrom (s.heap.objs.size + 1) (defScope st).names []).lookup y.1).isSome = true) := by
    rintro ⟨n, v⟩ hy
    have hm := (List.of_mem_zip hy).1
    cases S.par n hm with
    | inl q => exact .inl q
    | inr q => exact .inr ⟨q, PySem.W.cellsFrom_some _ _ _ (.inl q)⟩
  have Z := PySem.W.codeRec_of KX hcd
  refine codeAny_call_function hr.depth (KX _ _ lk) rfl S.co S.gen rfl Z (hb _ _ _ _ ?_)
  refine wpAny_newFunctionEnv_cells S.kind kinds fun env he s1 ic => ?_
  subst he
  have lim : s.heap.NoLimit := e0.mod.nolimit.keeps fun b o z => (e0.bs b o z).1
  refine ⟨lim.keeps ic.toInCall.keep, codeAny_func ?_⟩
  obtain ⟨t, ht, hq⟩ := body cd A out s H vs Q E gd (hr.deeper _) hsp
  have I := inv_start (CX := CX) (E := E) S hr.hd e0 hl r ic
  refine wpAny_mono (ht.run [] s1 (start N vs) H _ I hq) ?_ (fun _ _ z => z)
  intro fl s' hs
  cases fl with
  | brk => obtain ⟨_, _, _, q⟩ := hs; exact q.elim
  | cont => obtain ⟨_, _, _, q⟩ := hs; exact q.elim
  | next =>
    obtain ⟨σ', H', J, q⟩ := hs
    exact ⟨V.non, H', J.os, J.bare, J.base, J.hok, rfl, q⟩
  | ret u =>
    obtain ⟨v, σ', H', J, rv, q⟩ := hs
    exact ⟨v, H', J.os, J.bare, J.base, J.hok, rv, q⟩
/-- the same where nothing is raised -/
theorem gok {k : Nat} {x qual : Str} {st : Stmt} {f : Addr} {fd : FuncData} {N ps : List Str} {sp : Sp} (F : Fun K x qual st f fd) (S : FnScope N ps (defScope st))
    (size : ∀ vs H Q E, sp vs H Q E → vs.length = ps.length)
    (body : ∀ (cd : Value) (A : Around) (out : List Env) (s : Shared) (H : Hp) (vs : List V) (Q : VK) (E : XK), A.guards = some [] →
      Room k (A.deeper (envOfC qual (defScope st) s.heap.objs.size f cd)) → sp vs H Q E →
      ∃ t, PSs (cxOf CX0 P w K mg base N qual (defScope st) f cd A out s H E).nox (defBody st) t ∧ t { nx := fun _ H' => Q .non H', rt := Q } (start N vs) H) :
    GOk P w K mg base CX0 (k + 1) f fd ps sp := by
  refine gok_body F S size fun cd A out s H vs Q E gd hr q => ?_
  obtain ⟨t, h, z⟩ := body cd A out s H vs Q E gd hr q
  exact ⟨t, h.nox, z⟩
theorem GOk.mono {CX : CXT} {j k : Nat} {f : Addr} {fd : FuncData} {ps : List Str} {sp : Sp} (F : GOk P w K mg base CX j f fd ps sp) (h : j ≤ k) : GOk P w K mg base CX k f fd ps sp :=
  ⟨F.size, fun A out s H ar us vs Q E gd hr => F.go A out s H ar us vs Q E gd (hr.mono h)⟩
theorem gok_of {CX : CXT} {k : Nat} {f : Addr} {fd : FuncData} {ps : List Str} {sp : Sp} (F : FnOk P w K mg base CX k f fd ps sp) : GOk P w K mg base CX k f fd ps sp :=
  ⟨F.len, fun A out s H ar us vs Q E _ hr => F.run A out s H ar us vs Q E hr⟩
end

section
variable {X : Cx} {CX : CXT} {k : Nat} {f : Addr} {fd : FuncData} {ps : List Str} {sp : Sp} {dvs : List V} {ds : List Value} {E : XK} {x : Str} {p pos : Pos} {e : Expr} {es : List Expr} {t : TA}
/-- f(e, ..), f such a def, from a body of such a def -/
theorem pe_gcall (gd : X.A.guards = some []) (F : GOk X.prog X.w X.K X.mg X.base CX k f fd ps sp) (hr : Room k X.A) (hg : Gl X x) (hm : X.mg x = some (.ref f)) (hk : PySem.W.keepIn X.K (.ref f) = true)
    (hb : Binds X.K fd ps ds) (hd : Vals dvs ds) (hx : Passes CX X E) (ha : PA X (e :: es) t) (hdb : (x == ("__debug__" : Str)) = false := by decide)
    (he : starEach (e :: es) X.env = (false, eval e X.env) :: starEach es X.env := by rfl) (hpl : (backTo pos (starEach es X.env)).any (·.1) = false := by rfl) :
    PE X (.Call (.Name x p) (e :: es) [] pos) (tCall sp dvs E t) := by
  refine ⟨fun pins s σ H Q I h => wpAny_Call_Name_kw (ld_glob I hg hm ?_ hdb)⟩
  have A1 := ha.run pos pins s σ H _ I h
  refine PySem.W.callWith_K (h₀ := X.base) I.ok.mod.kin hk (thn A1 ?_) he hpl
  rintro us s1 ⟨vs, H1, I1, r, q⟩
  refine ⟨I1.kIn, ?_⟩
  have both := r.append hd
  have hl : (us ++ ds).length = ps.length := (both.length).symm.trans (F.size _ _ _ _ q)
  have run1 := F.go X.A X.stack s1 H1 ⟨us, []⟩ (us ++ ds) (vs ++ dvs) Q E gd hr I1.env0 (hb s1 us I1.kIn hl) both q
  refine wpAny_call (codeAny_mono run1 ?_)
  intro res s' hq
  match res, hq with
  | .error e, hq => exact hx pins σ H1 s1 e s' I1 hq
  | .ok (.ret u), hq => exact I1.after hq
  | .ok .next, hq => exact hq.elim
  | .ok .brk, hq => exact hq.elim
  | .ok .cont, hq => exact hq.elim

/-! ### repr of data -/
mutual
theorem dp_noDict {K : PySem.W.Frag} {H : Hp} : ∀ {v : V} {d : PyData}, Dp K H v d → d.hasDict = false
  | _, _, .non => by simp only [PyData.hasDict]
  | _, _, .bl _ => by simp only [PyData.hasDict]
  | _, _, .int _ => by simp only [PyData.hasDict]
  | _, _, .str _ => by simp only [PyData.hasDict]
  | _, _, .lst _ h => by simp only [PyData.hasDict]; exact dpAll_noDict h
  | _, _, .tup _ h => by simp only [PyData.hasDict]; exact dpAll_noDict h
theorem dpAll_noDict {K : PySem.W.Frag} {H : Hp} : ∀ {vs : List V} {ds : List PyData}, DpAll K H vs ds → PyData.hasDictAll ds = false
  | _, _, .nil => by simp only [PyData.hasDictAll]
  | _, _, .cons h t => by simp only [PyData.hasDictAll, dp_noDict h, dpAll_noDict t, Bool.or_self]
end
/-- repr(v), v some data d -/
def rRepr (K : PySem.W.Frag) : List V → Hp → VK → Prop := fun xs H Q => ∃ v d, xs = [v] ∧ Dp K H v d ∧ d.showable = true ∧ d.depth ≤ 100 ∧ d.shown.length ≤ sizeLine ∧ Q (.str d.shown) H
theorem call_repr (gd : X.A.guards = some []) (hr : Room k X.A) : CallR X (.builtin "repr") (rRepr X.K) := by
  intro pins s σ H xs us Q I r h
  obtain ⟨v, d, rfl, dp, hs, hdep, hsz, q⟩ := h
  cases r with
  | cons rv rn =>
    cases rn
    have hun := hr.un
    cases dp with
    | non =>
      cases rv
      refine PySem.P.repr_of_none ⟨.str _, H, I.tok _, ⟨_, rfl⟩, ?_⟩
      simpa only [PyData.shown] using q
    | bl b =>
      cases rv
      refine PySem.P.repr_of_bool ⟨.str _, H, I.tok _, ⟨_, rfl⟩, ?_⟩
      simpa only [PyData.shown] using q
    | int i =>
      obtain ⟨t, rfl⟩ := rv
      refine PySem.P.repr_of_int (by simpa [PyData.showable] using hs) ⟨.str _, H, I.tok _, ⟨_, rfl⟩, ?_⟩
      simpa only [PyData.shown] using q
    | str z =>
      obtain ⟨t, rfl⟩ := rv
      refine PySem.P.repr_of_str ⟨.str _, H, I.tok _, ⟨_, rfl⟩, ?_⟩ (by simpa only [PyData.shown] using hsz)
      simpa only [PyData.shown] using q
    | lst hl ha =>
      cases rv
      obtain ⟨as, rd⟩ := Dp.reads I _ _ _ (.lst hl ha) rfl
      refine repr_of_reads' rd hs (PyData.noDict_hsm (dp_noDict (.lst hl ha))) gd (by omega) (fun _ _ z => z) (fun h' u tk hk => ?_) hsz
      exact ⟨.str _, H, I.kept hk, ⟨_, rfl⟩, q⟩
    | tup hl ha =>
      cases rv
      obtain ⟨as, rd⟩ := Dp.reads I _ _ _ (.tup hl ha) rfl
      refine repr_of_reads' rd hs (PyData.noDict_hsm (dp_noDict (.tup hl ha))) gd (by omega) (fun _ _ z => z) (fun h' u tk hk => ?_) hsz
      exact ⟨.str _, H, I.kept hk, ⟨_, rfl⟩, q⟩
end
end Gd

set_option maxRecDepth 100000
set_option maxHeartbeats 4000000
/-! The end of a law whose own def shows data: no display is under way at its call. -/
namespace Gd
open PySem PySem.Spec PyProof.Rows L2 GxR

/-- the script's own object -/
def scriptO (vs : List Value) : Obj := { cls := .type "list", data := .seq vs.toArray }
def tabO : Obj := { cls := .none, data := .fields #[] }
open Classical in
/-- what is tracked at the law's call: the script (where the written part hasn't it), the tables -/
noncomputable def h0 (K : PySem.W.Frag) (a : Addr) (vs : List Value) (ns : List Int) (T : List Addr) : Hp := fun b =>
  if b = a ∧ K.lookup a = none then some (.frz (scriptO vs) (.lst (ns.map V.int))) else if b ∈ T then some (.tbl #[]) else none

theorem h0_inv {K : PySem.W.Frag} {a b : Addr} {vs : List Value} {ns : List Int} {T : List Addr} {u : HO} (h : h0 K a vs ns T b = some u) :
    (b = a ∧ K.lookup a = none ∧ u = .frz (scriptO vs) (.lst (ns.map V.int))) ∨ (b ∈ T ∧ u = .tbl #[]) := by
  unfold h0 at h
  by_cases c1 : b = a ∧ K.lookup a = none
  · rw [if_pos c1] at h
    exact .inl ⟨c1.1, c1.2, (Option.some.inj h).symm⟩
  · rw [if_neg c1] at h
    by_cases c2 : b ∈ T
    · rw [if_pos c2] at h
      exact .inr ⟨c2, (Option.some.inj h).symm⟩
    · rw [if_neg c2] at h
      cases h

section
variable {P : Program} {w : World} {K : PySem.W.Frag} {mg mb : Str → Option Value} {CX : CXT} {k : Nat} {fa a : Addr} {cs : List (Addr × Addr)} {fd : FuncData} {x : Str} {sp : Sp} {s1 : Shared} {vs : List Value} {ns : List Int}
theorem law_gcall (KX : K.In s1.heap) (nsG : s1.heap.Ns mainGlobals mg) (nsB : s1.heap.Ns builtinsNs mb) (isB : ∀ x : Str, x ≠ "__name__" → mb x = bootBuiltins x) (lim : s1.heap.NoLimit) (gens : s1.gens = #[])
    (tabs : ∀ p ∈ cs, s1.heap.get? p.2 = some tabO) (tabK : ∀ p ∈ cs, K.lookup p.2 = none) (codes : ∀ p ∈ cs, PySem.W.CodeHd s1.heap p.1 p.2)
    (bmain : ∃ (bm : Addr) (ob : Obj), mg "__builtins__" = some (.ref bm) ∧ bm ≠ builtinsNs ∧ s1.heap.get? bm = some ob ∧ ob.cls = .type "module" ∧ ob.dict = some builtinsNs ∧ ob.data = .plain)
    (ha : s1.heap.get? a = some (scriptO vs)) (hi : IntsAre vs ns) (hl : ns.length ≤ sizeLine) (hr : Room k callerA)
    (F : ∀ base : Heap, K.In base → base.Ns mainGlobals mg → (∀ p ∈ cs, TabB base mg p.1 p.2) → GOk P w K mg base CX k fa fd [x] sp)
    (hbind : ∀ (s : Shared) (u : Value), BindsTo s fd ⟨[u], []⟩ [(x, u)])
    (hsp : ∀ H : Hp, (∀ p ∈ cs, H p.2 = some (.tbl #[])) → SqL K H a (ns.map V.int) → sp [.ref a] H (fun v _ => v = .bl true) fun _ _ _ => False)
    (hCX : ∀ H e s', CX [] H s1 (fun _ _ _ => False) e s' → False) :
    codeAny (model P w) callerA (.call (.ref fa) ⟨[.ref a], []⟩) (fun r s' => r = .ok (.ret (.bool true)) ∧ OldK s1.heap s'.heap ∧ s'.os = s1.os ∧ AllBare s'.gens) s1 := by
  have rv := vals_ints hi
  have hlen := hi.length
  let T := cs.map Prod.snd
  have inT : ∀ p ∈ cs, p.2 ∈ T := fun p hp => List.mem_map.mpr ⟨p, hp, rfl⟩
  have ofT : ∀ b ∈ T, s1.heap.get? b = some tabO ∧ K.lookup b = none := by
    intro b hb
    obtain ⟨p, hp, rfl⟩ := List.mem_map.mp hb
    exact ⟨tabs p hp, tabK p hp⟩
  have neT : a ∉ T := fun z => by
    have q := (ofT a z).1
    rw [ha] at q
    cases q
  let H := h0 K a vs ns T
  -- a tracked object is the script or a table
  have seen : ∀ {b : Addr} {o : Obj}, s1.heap.get? b = some o → (∀ us n, o.data ≠ .seq us n) → o.data ≠ .fields #[] → H b = none := by
    intro b o e n1 n2
    cases q : H b with
    | none => rfl
    | some u =>
      exfalso
      rcases h0_inv q with ⟨rfl, _, _⟩ | ⟨hb, _⟩
      · rw [ha] at e
        cases e
        exact n1 _ _ rfl
      · rw [(ofT b hb).1] at e
        cases e
        exact n2 rfl
  have keepHid : ∀ {b : Addr} {o : Obj}, s1.heap.get? b = some o → H b = none → (hidT s1.heap H).get? b = some o := fun e n => hidT_get e n
  have dictHid : ∀ {b : Addr} {o : Obj} {es : Array DictEntry} {ep : Nat}, s1.heap.get? b = some o → o.data = .dict es ep → (hidT s1.heap H).get? b = some o := by
    intro b o es ep e d
    refine keepHid e (seen e (fun us n z => ?_) fun z => ?_) <;> (rw [d] at z; cases z)
  have nsHid : ∀ {b : Addr} {m : Str → Option Value}, s1.heap.Ns b m → (hidT s1.heap H).Ns b m := by
    rintro b m ⟨o, es, ep, e, d, rest⟩
    exact ⟨o, es, ep, dictHid e d, d, rest⟩
  have KH : K.In (hidT s1.heap H) := by
    intro b o e
    refine keepHid (KX b o e) ?_
    cases q : H b with
    | none => rfl
    | some u =>
      exfalso
      rcases h0_inv q with ⟨rfl, z, _⟩ | ⟨hb, _⟩
      · rw [z] at e
        cases e
      · rw [(ofT b hb).2] at e
        cases e
  have limH : (hidT s1.heap H).NoLimit := by
    obtain ⟨mc, h1, h2⟩ := lim
    exact ⟨mc, nsHid h1, h2⟩
  have M : L2.Mod K mg (hidT s1.heap H) := ⟨KH, nsHid nsG, ⟨mb, nsHid nsB, isB⟩, limH⟩
  have TB : ∀ p ∈ cs, TabB (hidT s1.heap H) mg p.1 p.2 := by
    intro p hp
    have tp := tabs p hp
    refine ⟨?_, ?_, ?_⟩
    · obtain ⟨o, us, file, tf, flags, tg, inF, text, tt, e1, r1, r2, r3, rest⟩ := codes p hp
      refine ⟨o, us, file, tf, flags, tg, inF, text, tt, keepHid e1 (seen e1 (fun vs n z => ?_) fun z => ?_), r1, r2, r3, rest⟩
      · rw [r2] at z
        cases z
      · rw [r2] at z
        cases z
        simp at r3
    · obtain ⟨bm, ob, b1, b2, b3, b4, b5, b6⟩ := bmain
      have g1 : bm ≠ mainGlobals := by
        rintro rfl
        obtain ⟨o, es, ep, e, d, _⟩ := nsG
        rw [b3] at e
        cases e
        rw [b6] at d
        cases d
      have g2 : bm ≠ p.2 := by
        rintro rfl
        rw [tp] at b3
        cases b3
        cases b6
      refine ⟨bm, ob, b1, b2, g1, g2, keepHid b3 (seen b3 (fun vs n z => ?_) fun z => ?_), b4, b5, b6⟩ <;> (rw [b6] at z; cases z)
    · intro z
      obtain ⟨o, es, ep, e, d, _⟩ := nsG
      rw [z, tp] at e
      cases e
      cases d
  have hH : ∀ p ∈ cs, H p.2 = some (.tbl #[]) := by
    intro p hp
    have n1 : ¬ (p.2 = a ∧ K.lookup a = none) := fun z => neT (z.1 ▸ inT p hp)
    exact (if_neg n1).trans (if_pos (inT p hp))
  have hS : SqL K H a (ns.map V.int) := by
    cases q : K.lookup a with
    | none => exact .inl (.inr ⟨scriptO vs, if_pos ⟨rfl, q⟩⟩)
    | some o =>
      have e := KX a o q
      rw [ha] at e
      cases e
      exact .inr ⟨_, vs.toArray, _, q, rfl, rfl, rfl, by rw [List.size_toArray, hlen]; exact hl, by simpa using rv⟩
  have hok : HOk P w H s1.heap := by
    intro b u q
    rcases h0_inv q with ⟨rfl, _, rfl⟩ | ⟨hb, rfl⟩
    · exact ⟨ha, by rw [List.length_map]; exact hl, vs, _, rv, ha⟩
    · exact (ofT b hb).1
  have e0 : Env0 P w K mg (hidT s1.heap H) callerA [] s1 H :=
    ⟨rfl, M, fun b o e => of_hidT e, Nat.le_of_eq (hidT_size _ _), trivial, (fun b hb => by cases (show b ∈ ([] : List Addr) from hb)), hok, .of_eq gens⟩
  have run := (F _ KH (nsHid nsG) TB).go callerA [] s1 H ⟨[.ref a], []⟩ [.ref a] [.ref a] (fun v _ => v = .bl true) (fun _ _ _ => False) rfl hr e0 (hbind s1 (.ref a)) (.cons rfl .nil) (hsp H hH hS)
  refine codeAny_mono run ?_
  intro r s' h
  match r, h with
  | .error e, h => exact (hCX H e s' h).elim
  | .ok .next, h => exact h.elim
  | .ok .brk, h => exact h.elim
  | .ok .cont, h => exact h.elim
  | .ok (.ret u), h =>
    obtain ⟨v, H', os, bare, un, hok', r', q⟩ := h
    obtain rfl : v = .bl true := q
    obtain rfl : u = Value.bool true := r'
    have plain : ∀ b o, b ∉ T → s1.heap.get? b = some o → s'.heap.get? b = some o := by
      intro b o nb e
      cases q : H b with
      | none => exact un.keep b o e q (fun z => by cases (show b ∈ ([] : List Addr) from z)) (by simp)
      | some y =>
        rcases h0_inv q with ⟨rfl, _, rfl⟩ | ⟨hb, _⟩
        · obtain ⟨e2, _⟩ := hok' b _ (un.frzs b _ _ q)
          rw [ha] at e
          cases e
          exact e2
        · exact absurd hb nb
    have grown : ∀ p ∈ cs, ∃ more : Array Value, s'.heap.get? p.2 = some { cls := .none, data := .fields more } := by
      intro p hp
      obtain ⟨more, z⟩ := un.tbls p.2 #[] (hH p hp)
      exact ⟨_, hok' p.2 _ z⟩
    refine ⟨rfl, ⟨fun b o e => ?_, fun b o e => ?_⟩, os, bare⟩ <;> by_cases hb : b ∈ T
    · obtain ⟨p, hp, rfl⟩ := List.mem_map.mp hb
      obtain ⟨more, hm⟩ := grown p hp
      rw [tabs p hp] at e
      cases e
      exact .inr (.inl ⟨((codes p hp).tab (tabs p hp)).isCodeTable, rfl, #[], more, rfl, by rw [Array.empty_append]; exact hm⟩)
    · exact .inl (plain b o hb e)
    · obtain ⟨p, hp, rfl⟩ := List.mem_map.mp hb
      obtain ⟨more, hm⟩ := grown p hp
      exact ⟨_, hm⟩
    · exact ⟨o, plain b o hb e⟩
end

/-- the tables of the text's own defs are empty behind the top -/
def Empt (q : Program) (K : PySem.W.Frag) (h : Heap) : Prop := ∀ (x : Str) (f c t : Addr) (o : Obj) (fd : FuncData) (e : Value) (dd : Option Addr) (us : Array Value) (sl : Array (Option Value)),
  ((PyProof.Rows.recsOf q).any fun r => r.name == x) = true → PySem.W.nsIn K mainGlobals x = some (some (.ref f)) → K.lookup f = some o → o.data = .func fd → fd.code = .ref c →
  K.lookup c = some ⟨e, dd, .fields us, sl⟩ → us[11]? = some (.ref t) → PySem.W.CodeHd h c t ∧ h.get? t = some tabO
/-- what is to be known of the law at the head's heap -/
def GLaw (l : PySem.W.OpenLaw) (w : World) (K : PySem.W.Frag) (CX : CXT) (k n : Nat) (x : Str) (mg : Str → Option Value) (fa : Addr) (h : Heap) : Prop :=
  ∃ (fd : FuncData) (cs : List (Addr × Addr)) (sp : Sp), (∀ p ∈ cs, h.get? p.2 = some tabO) ∧ (∀ p ∈ cs, K.lookup p.2 = none) ∧ (∀ p ∈ cs, PySem.W.CodeHd h p.1 p.2) ∧
    (∀ (s : Shared) (u : Value), BindsTo s fd ⟨[u], []⟩ [(x, u)]) ∧
    (∀ (H : Hp) (a : Addr) (ns : List Int), ns.length ≤ n → (∀ z ∈ ns, Builtin.Int.intBits z ≤ 1048576) → (∀ p ∈ cs, H p.2 = some (.tbl #[])) → SqL K H a (ns.map V.int) →
      sp [.ref a] H (fun v _ => v = .bl true) fun _ _ _ => False) ∧
    ∀ base : Heap, K.In base → base.Ns mainGlobals mg → (∀ p ∈ cs, TabB base mg p.1 p.2) → GOk l.prog w K mg base CX k fa fd [x] sp
theorem walk_g {l : PySem.W.OpenLaw} {n k : Nat} {q : Program} {loose : List Str} {XP : (Str → Option Value) → Heap → Prop} {YP : World → Heap → Prop} {d : DefRec} {K : Params → PySem.W.Frag} {CX : World → CXT} {x : Str}
    (hn : l.most = some n) (small : n ≤ sizeLine) (hdf : d.params.defaults = []) (hr : Room k callerA) (hY : ∀ (w : World) (h : Heap), YP w h → (K w.params).In h)
    (F : ∀ (w : World) (mg : Str → Option Value) (fa : Addr) (h : Heap), YP w h → (K w.params).In h → h.Ns mainGlobals mg → mg d.name = some (.ref fa) → Empt q (K w.params) h → GLaw l w (K w.params) (CX w) k n x mg fa h)
    (hCX : ∀ (w : World) (H : Hp) (s : Shared) (e : Value) (s' : Shared), CX w [] H s (fun _ _ _ => False) e s' → False) :
    PySem.W.WalkO q loose XP YP l.row.toRowW d [] (fun f vs => PySem.call f vs) := by
  refine Att.attach_callB hn hdf ?_
  intro w sA s1 mg mb fa o pm cd doc a vs ns G Y ho hd hcd hmg hobj hints hlen hbits hg
  have KX := hY w _ Y
  have em : Empt q (K w.params) s1.heap := by
    intro x f c t o1 fd1 e dd us sl hx k1 k2 k3 k4 k5 k6
    obtain ⟨r, hr1, hr2⟩ := List.any_eq_true.mp hx
    have hn1 : r.name = x := beq_iff_eq.mp hr2
    obtain ⟨a1, o2, fd2, c2, t2, y1, y2, y3, y4, y5, y6⟩ := G.T.tab r hr1
    have z1 := PySem.W.mg_of KX G.T.g k1
    rw [hn1, z1] at y1
    cases y1
    have z2 := KX _ _ k2
    rw [z2] at y2
    cases y2
    rw [k3] at y3
    cases y3
    rw [k4] at y4
    cases y4
    have y6b := y6
    obtain ⟨⟨oc, vc, e1, e2, e3, e4⟩, hP⟩ := y6b
    have z5 := KX _ _ k5
    rw [z5] at e1
    cases e1
    cases e3
    rw [k6] at e4
    cases e4
    exact ⟨PySem.W.CodeHd.of y5 y6, hP⟩
  obtain ⟨fd, cs, sp, t1, t2, t3, hb, hsp, hF⟩ := F w mg fa _ Y KX G.T.g hmg em
  exact law_gcall KX G.T.g G.T.b G.T.builtins G.T.nolimit hg t1 t2 t3 G.T.bmain hobj hints (Nat.le_trans hlen small) hr hF hb (fun H a1 a2 => hsp H a ns hlen hbits a1 a2) (fun H e s' => hCX w H s1 e s')
end Gd

set_option maxRecDepth 100000
set_option maxHeartbeats 4000000
/-! Things, boxes, texts: what the laws share, over no program. -/
namespace My
open PySem PySem.Spec PyProof.Rows L2 GxR Gd TL
/-! ### things -/
def Good (z : Str) : Prop := ∀ c ∈ z.cps.toList, c < 1114112
inductive Th (H : Hp) : V → Prop
  | non : Th H .non
  | bl (b : Bool) : Th H (.bl b)
  | int (i : Int) : Th H (.int i)
  | str (z : Str) (h : z.length ≤ 1000000) (g : Good z) : Th H (.str z)
  | lst (a : Addr) (xs : List V) (h : H a = some (.lst xs)) : Th H (.ref a)
  | tup (a : Addr) (xs : List V) (h : H a = some (.tup xs)) : Th H (.ref a)
  | dic (a : Addr) {kvs : List (Key × V)} (h : H a = some (.dK kvs)) : Th H (.ref a)
def lc (c : Nat) : Bool := decide (97 ≤ c) && decide (c ≤ 122)
def nm : V → Bool
  | .str z => decide (1 ≤ z.length) && decide (z.length ≤ 6) && z.cps.toList.all lc
  | _ => false
def wh (lo hi : Int) : V → Bool
  | .int i => decide (lo ≤ i) && decide (i ≤ hi)
  | _ => false
/-- its kind -/
theorem Th.ty {K : PySem.W.Frag} {H : Hp} {v : V} (h : Th H v) : ∃ t, TyX K H v (.type t) ∧
    ((∃ i, v = .int i ∧ t = "int") ∨ (∃ b, v = .bl b ∧ t = "bool") ∨ (∃ z, v = .str z ∧ (z.length ≤ 1000000 ∧ Good z) ∧ t = "str") ∨
     ((∀ i, v ≠ .int i) ∧ (∀ b, v ≠ .bl b) ∧ (∀ z, v ≠ .str z) ∧ (t = "NoneType" ∨ t = "list" ∨ t = "tuple" ∨ t = "dict"))) := by
  cases h with
  | non => exact ⟨_, .base .non, .inr (.inr (.inr ⟨by simp, by simp, by simp, .inl rfl⟩))⟩
  | bl b => exact ⟨_, .base (.bl b), .inr (.inl ⟨b, rfl, rfl⟩)⟩
  | int i => exact ⟨_, .base (.int i), .inl ⟨i, rfl, rfl⟩⟩
  | str z h g => exact ⟨_, .base (.str z), .inr (.inr (.inl ⟨z, rfl, ⟨h, g⟩, rfl⟩))⟩
  | lst a xs h => exact ⟨_, .base (.lst h), .inr (.inr (.inr ⟨by simp, by simp, by simp, .inr (.inl rfl)⟩))⟩
  | tup a xs h => exact ⟨_, .base (.tup h), .inr (.inr (.inr ⟨by simp, by simp, by simp, .inr (.inr (.inl rfl))⟩))⟩
  | dic a h => exact ⟨_, .base (.dK h), .inr (.inr (.inr ⟨by simp, by simp, by simp, .inr (.inr (.inr rfl))⟩))⟩
/-- all but the table stays -/
structure KT (P : Addr) (H H' : Hp) : Prop where
  keep : ∀ c o, c ≠ P → H c = some o → H' c = some o
  tab : TabG H' P
theorem TabG.at {H : Hp} {P : Addr} (t : TabG H P) : ∃ ps, H P = some (.tbl ps) := let ⟨ps, h, _⟩ := t; ⟨ps, h⟩
theorem ne_tab {H : Hp} {P a : Addr} {o : HO} (t : TabG H P) (h : H a = some o) (n : ∀ ps, o ≠ .tbl ps) : a ≠ P := by
  rintro rfl
  obtain ⟨ps, e⟩ := TabG.at t
  rw [h] at e
  exact n ps (Option.some.inj e)
theorem KT.refl {P : Addr} {H : Hp} (t : TabG H P) : KT P H H := ⟨fun _ _ _ h => h, t⟩
theorem KT.trans {P : Addr} {H H1 H2 : Hp} (a : KT P H H1) (b : KT P H1 H2) : KT P H H2 := ⟨fun c o n h => b.keep c o n (a.keep c o n h), b.tab⟩
theorem KT.of {P : Addr} {H H' : Hp} (t : Tabbed P H H') : KT P H H' := ⟨fun c o n h => by rw [t.2 c n]; exact h, t.1⟩
theorem KT.alloc {P p : Addr} {H : Hp} {o : HO} (t : TabG H P) (n : H p = none) : KT P H (upd H p o) := by
  obtain ⟨ps, e, ht⟩ := t
  refine ⟨fun c q _ h => by rw [upd_ne (ne_of_none h n)]; exact h, ps, by rw [upd_ne (ne_of_none e n)]; exact e, ht⟩
theorem Th.kt {P : Addr} {H H' : Hp} (t : TabG H P) (k : KT P H H') {v : V} (h : Th H v) : Th H' v := by
  cases h with
  | non => exact .non
  | bl b => exact .bl b
  | int i => exact .int i
  | str z h g => exact .str z h g
  | lst a xs h => exact .lst a xs (k.keep _ _ (ne_tab t h (by simp)) h)
  | tup a xs h => exact .tup a xs (k.keep _ _ (ne_tab t h (by simp)) h)
  | dic a h => exact .dic a (k.keep _ _ (ne_tab t h (by simp)) h)

theorem elt_between {prog : Program} {w : World} {scope : Scope} {x a b : Str} {j1 j2 : Nat} {p1 p2 p3 p4 : Pos} (hk : scope.kind = .function) (hl : scope.names.lookup x = some .local)
    (hd : (x == ("__debug__" : Str)) = false := by decide) :
    EltP prog w scope x (.Compare (.Constant (.str a) j1 p1) [.LtE, .LtE] [.Name x p2, .Constant (.str b) j2 p3] p4) (fun c => !decide ([c] < a.cps.toList) && !decide (b.cps.toList < [c])) := by
  intro cenv A' E' c t s2 m2 hs hn hm
  refine Compare_chain ?_ (by with_unfolding_all rfl)
  refine Calls.Constant_str (chain_link ?_)
  refine wpAny_Name (wpAny_loadName_local (by rw [hs]; exact hk) (show cenv.scope.names.lookup x = some .local by rw [hs]; exact hl) hn hm ?_) hd
  refine PySem.P.le_str ?_
  refine wpAny_truthy_bool ?_
  cases q : decide ([c] < a.cps.toList) with
  | true =>
    refine ite_ff ⟨?_, keeps_tok _ _⟩
    have q' : decide ((⟨#[c]⟩ : Str).cps.toList < a.cps.toList) = true := q
    simp [q']
  | false =>
    refine ite_tt (chain_last ?_)
    refine Calls.Constant_str ?_
    refine PySem.P.le_str ⟨?_, keeps_tok _ _⟩
    have q2 : ¬ [c] < a.cps.toList := of_decide_eq_false q
    simp [List.not_lt.mp q2]
def genSc : Scope := { kind := ScopeKind.function, names := [(Str.ofString ".0", NameKind.local), (Str.ofString "sign", NameKind.local)], isGenerator := true, isCoroutine := false }
theorem no_free : ∀ y ∈ genSc.names, y.2 ≠ NameKind.free := by decide +kernel
theorem one_lt (c d : Nat) : [c] < [d] ↔ c < d := by
  rw [List.cons_lt_cons_iff]
  constructor
  · rintro (h | ⟨_, h⟩)
    · exact h
    · exact absurd h (List.not_lt_nil _)
  · exact .inl
theorem lc_eq (c : Nat) : (!decide ([c] < [97]) && !decide ([122] < [c])) = lc c := by
  unfold lc
  rw [Bool.eq_iff_iff]
  simp only [Bool.and_eq_true, Bool.not_eq_true', decide_eq_false_iff_not, decide_eq_true_eq, one_lt]
  omega
/-! ### the box -/
def Bx (b : Addr) (n : Int) (H : Hp) : Prop := ∃ x y z : Int, H b = some (.lst [.int x, .int y, .int z]) ∧ 0 ≤ x ∧ 0 ≤ y ∧ y < 2147483629 ∧ 0 ≤ z ∧ z ≤ n
theorem Bx.same {b : Addr} {n : Int} {H H' : Hp} (h : Bx b n H) (e : H' b = H b) : Bx b n H' := by
  obtain ⟨x, y, z, h1, r⟩ := h
  exact ⟨x, y, z, e.trans h1, r⟩
theorem Bx.mono {b : Addr} {n m : Int} {H : Hp} (h : Bx b n H) (e : n ≤ m) : Bx b m H := by
  obtain ⟨x, y, z, h1, h2, h3, h4, h5, h6⟩ := h
  exact ⟨x, y, z, h1, h2, h3, h4, h5, by omega⟩
theorem i0 (a b c : V) : atI [a, b, c] 0 = some a := rfl
theorem i1 (a b c : V) : atI [a, b, c] 1 = some b := rfl
theorem i2 (a b c : V) : atI [a, b, c] 2 = some c := rfl
theorem j0 : ixN 3 0 = some 0 := rfl
theorem j2 : ixN 3 2 = some 2 := rfl
/-! ### lists and texts -/
theorem atI_ex {α : Type} {xs : List α} {d : Int} (h0 : 0 ≤ d) (h1 : d < xs.length) : ∃ v, v ∈ xs ∧ atI xs d = some v := by
  obtain ⟨j, rfl⟩ := Int.eq_ofNat_of_zero_le h0
  have hj : j < xs.length := by omega
  exact ⟨xs[j], List.getElem_mem hj, atI_nat (List.getElem?_eq_getElem hj)⟩
theorem joinL_len (S : List Nat) : ∀ ps : List (List Nat), (joinL S ps).length ≤ (ps.map List.length).sum + ps.length * S.length
  | [] => by simp [joinL]
  | [p] => by simp [joinL]
  | p :: q :: r => by
    have ih := joinL_len S (q :: r)
    have e : joinL S (p :: q :: r) = p ++ (S ++ joinL S (q :: r)) := rfl
    rw [e, List.length_append, List.length_append, List.map_cons, List.sum_cons, List.length_cons, Nat.succ_mul]
    omega
theorem tl_len (z : Str) : (tl z).length = z.length := by
  show z.cps.toList.length = z.cps.size
  simp
theorem join_len (y : Str) (ps : List Str) : (Txt.join y ps).length ≤ (ps.map (·.length)).sum + ps.length * y.length := by
  have h := joinL_len (tl y) (ps.map tl)
  rw [← tl_len, join_eq, tl_join]
  have e : (ps.map tl).map List.length = ps.map (·.length) := by
    rw [List.map_map]
    exact List.map_congr_left fun z _ => tl_len z
  rw [e, List.length_map, tl_len] at h
  exact h
theorem sum_ones (ps : List Str) (h : ∀ z ∈ ps, z.length ≤ 1) : (ps.map (·.length)).sum ≤ ps.length := by
  induction ps with
  | nil => simp
  | cons a r ih =>
    have h1 := h a List.mem_cons_self
    have h2 := ih fun z hz => h z (List.mem_cons_of_mem _ hz)
    simp only [List.map_cons, List.sum_cons, List.length_cons]
    omega
theorem lcY {A : TE} {σ : L2.St} {H : Hp} {G : VK} {B : Hp → Prop} (h : A σ H G) : tYes σ H (fun b H3 => if b = true then A σ H3 G else B H3) := by
  show if true = true then A σ H G else B H
  exact iteT h
theorem good_app {a b : Str} (h : Good a) (k : Good b) : Good (a ++ b) := fun c hc => by
  have e : (a ++ b).cps.toList = a.cps.toList ++ b.cps.toList := tl_append a b
  rw [e] at hc
  exact (List.mem_append.mp hc).elim (h c) (k c)
theorem good_cut {a : Str} (h : Good a) (lo hi : Option Int) : Good (cutS a lo hi) := fun c hc => by
  unfold cutS at hc
  exact h c (List.mem_of_mem_drop (List.mem_of_mem_take (by simpa using hc)))
theorem good_joinL {S : List Nat} (hS : ∀ c ∈ S, c < 1114112) : ∀ ps : List (List Nat), (∀ p ∈ ps, ∀ c ∈ p, c < 1114112) → ∀ c ∈ joinL S ps, c < 1114112
  | [], _, c, h => by simp [joinL] at h
  | [p], hp, c, h => hp p List.mem_cons_self c (by simpa [joinL] using h)
  | p :: q :: r, hp, c, h => by
    have e : joinL S (p :: q :: r) = p ++ (S ++ joinL S (q :: r)) := rfl
    rw [e, List.mem_append, List.mem_append] at h
    rcases h with h | h | h
    · exact hp p List.mem_cons_self c h
    · exact hS c h
    · exact good_joinL hS (q :: r) (fun z hz => hp z (List.mem_cons_of_mem _ hz)) c h
theorem good_join {y : Str} {ps : List Str} (hy : Good y) (h : ∀ z ∈ ps, Good z) : Good (Txt.join y ps) := fun c hc => by
  have e : (Txt.join y ps).cps.toList = joinL (tl y) (ps.map tl) := by rw [join_eq]; exact tl_join y ps
  rw [e] at hc
  refine good_joinL hy _ (fun p hp => ?_) c hc
  obtain ⟨z, hz, rfl⟩ := List.mem_map.mp hp
  exact h z hz
theorem good_of (x : String) : Good (Str.ofString x) := fun c hc => by
  have e : (Str.ofString x).cps.toList = x.toList.map Char.toNat := by
    rw [Str.ofString_eq_toList]
  rw [e] at hc
  obtain ⟨d, _, rfl⟩ := List.mem_map.mp hc
  have := d.valid
  unfold UInt32.isValidChar Nat.isValidChar at this
  show d.val.toNat < 1114112
  omega
theorem good_one {z : Str} {c : Nat} (h : Good z) (hc : c ∈ z.cps.toList) : Good ⟨#[c]⟩ := fun d hd => by
  have e : d = c := by simpa using hd
  rw [e]
  exact h c hc
/-- all but the box stays -/
def KB (b : Addr) (H H' : Hp) : Prop := ∀ c o, c ≠ b → H c = some o → H' c = some o
theorem KB.refl (b : Addr) (H : Hp) : KB b H H := fun _ _ _ h => h
theorem KB.trans {b : Addr} {H H1 H2 : Hp} (a : KB b H H1) (c : KB b H1 H2) : KB b H H2 := fun x o n h => c x o n (a x o n h)
theorem KB.off {b : Addr} {H H' : Hp} (h : ∀ a, a ≠ b → H' a = H a) : KB b H H' := fun c o n e => (h c n).trans e
theorem KB.alloc {b p : Addr} {H : Hp} {o : HO} (n : H p = none) : KB b H (upd H p o) := fun c u _ h => by rw [upd_ne (ne_of_none h n)]; exact h
theorem Bx.alloc {b p : Addr} {n : Int} {H : Hp} {o : HO} (h : Bx b n H) (f : H p = none) : Bx b n (upd H p o) := by
  obtain ⟨x, y, z, h1, r⟩ := h
  exact ⟨x, y, z, by rw [upd_ne (ne_of_none h1 f)]; exact h1, r⟩
theorem Bx.put {b p : Addr} {n : Int} {H : Hp} {o : HO} (h : Bx b n H) (f : p ≠ b) : Bx b n (upd H p o) := by
  obtain ⟨x, y, z, h1, r⟩ := h
  exact ⟨x, y, z, by rw [upd_ne f.symm]; exact h1, r⟩
/-- a comprehension over a text's signs -/
theorem lc_text {z : Str} {g : TG} {tt : TT} {te : TE} {vs : List Nat} {σ : L2.St} {H1 : Hp} {D : Addr} {Qd : Hp → Prop} (Pv : Nat → Hp → Prop) (h0 : Pv 0 (upd H1 D (.lst [])))
    (hs : ∀ i c H, z.cps.toList[i]? = some c → Pv i H → g (.str ⟨#[c]⟩) (wipe σ vs) H fun σ2 H2 => wipe σ2 vs = wipe σ vs ∧ tt σ2 H2 fun b H3 =>
      if b = true then te σ2 H3 fun y H4 => ∃ acc, H4 D = some (.lst acc) ∧ acc.length < sizeLine ∧ Pv (i + 1) (upd H4 D (.lst (acc ++ [y]))) else Pv (i + 1) H3) (hd : ∀ H, Pv z.length H → Qd H) :
    ∃ W : Nat → Nat → Hp → Prop, (∃ m, W 0 m (upd H1 D (.lst []))) ∧ ∀ i m H, W i m H →
      ((Its z).stop i H ∧ Qd H) ∨ ((Its z).go i H ∧ ∃ Nx : Hp → Prop, (∀ H', Nx H' → ∃ m', m' < m ∧ W (i + 1) m' H') ∧ ∀ x H', (Its z).yld i H x H' → g x (wipe σ vs) H' fun σ2 H2 => wipe σ2 vs = wipe σ vs ∧ tt σ2 H2 fun b H3 =>
        if b = true then te σ2 H3 fun y H4 => ∃ acc, H4 D = some (.lst acc) ∧ acc.length < sizeLine ∧ Nx (upd H4 D (.lst (acc ++ [y]))) else Nx H3) := by
  refine ⟨fun i m H => i + m = z.cps.size ∧ Pv i H, ⟨z.cps.size, by simp, h0⟩, fun i m H hW => ?_⟩
  obtain ⟨e, p⟩ := hW
  cases m with
  | zero =>
    have ei : i = z.cps.size := e
    subst ei
    exact .inl ⟨Nat.le_refl _, hd H p⟩
  | succ m =>
    refine .inr ⟨show i < z.cps.size by omega, Pv (i + 1), fun H' q => ⟨m, Nat.lt_succ_self m, by omega, q⟩, ?_⟩
    rintro x H' ⟨rfl, c, hc, rfl⟩
    exact hs i c _ (by rw [← hc]; simp) p
def badOf (l : List Nat) : List V := (l.filter fun c => !lc c).map fun c => V.str ⟨#[c]⟩
theorem bad_data {K : PySem.W.Frag} {H : Hp} : ∀ l : List Nat, DpAll K H (l.map fun c => V.str ⟨#[c]⟩) (l.map fun c => PyData.str ⟨#[c]⟩)
  | [] => .nil
  | c :: r => .cons (.str _) (bad_data r)
theorem one_ok {c : Nat} (h : c < 1114112) : PyData.strOk ⟨#[c]⟩ = true := by
  simp [PyData.strOk, h]
theorem bad_shaped : ∀ l : List Nat, (∀ c ∈ l, c < 1114112) → PyData.canLayAll0 (l.map fun c => PyData.str ⟨#[c]⟩) = true
  | [], _ => by simp [PyData.canLayAll0]
  | c :: r, h => by
    simp only [List.map_cons, PyData.canLayAll0, PyData.canLay0, Bool.and_eq_true]
    exact ⟨one_ok (h c List.mem_cons_self), bad_shaped r fun d hd => h d (List.mem_cons_of_mem _ hd)⟩
theorem bad_depth : ∀ l : List Nat, PyData.depthAll (l.map fun c => PyData.str ⟨#[c]⟩) = 0
  | [] => by simp [PyData.depthAll]
  | c :: r => by
    simp only [List.map_cons, PyData.depthAll, PyData.depth, bad_depth r]
    rfl
theorem letters_mem (c : Nat) : decide (c ∈ (Str.ofString "abcdefghijklmnopqrstuvwxyz").cps.toList) = lc c := by
  have e : (Str.ofString "abcdefghijklmnopqrstuvwxyz").cps.toList = (List.range 26).map (· + 97) := by decide +kernel
  rw [e]
  unfold lc
  rw [Bool.eq_iff_iff]
  simp only [decide_eq_true_eq, List.mem_map, List.mem_range, Bool.and_eq_true]
  constructor
  · rintro ⟨a, h, rfl⟩
    omega
  · intro h
    exact ⟨c - 97, by omega, by omega⟩
/-- a fresh place is no box -/
theorem Bx.fresh {b p : Addr} {n : Int} {H : Hp} (h : Bx b n H) (f : H p = none) : p ≠ b := by
  rintro rfl
  obtain ⟨x, y, z, e, _⟩ := h
  rw [f] at e
  cases e
theorem dec9000 {m : Int} (h0 : 0 < m) (h : m ≤ 10 ^ 30) : m.natAbs.log2 < 9000 := by
  have h1 : m.natAbs ≤ 10 ^ 30 := by omega
  have h2 : m.natAbs < 2 ^ 100 := Nat.lt_of_le_of_lt h1 (by decide)
  have h3 := (Nat.log2_lt (by omega)).mpr h2
  omega
theorem log1900 {m : Int} (h : m.natAbs ≤ 10 ^ 31) : m.natAbs.log2 < 1900 := by
  by_cases h0 : m.natAbs = 0
  · rw [h0]
    decide
  · have h2 : m.natAbs < 2 ^ 110 := Nat.lt_of_le_of_lt h (by decide)
    have h3 := (Nat.log2_lt h0).mpr h2
    omega
/-- a place in a list of the script stays -/
theorem seq_kt {K : PySem.W.Frag} {P a : Addr} {H H' : Hp} {xs : List V} (t : TabG H P) (k : KT P H H') (h : SqL K H a xs) : SqL K H' a xs := by
  rcases h with (h | ⟨o, h⟩) | h
  · exact .inl (.inl (k.keep _ _ (ne_tab t h (by simp)) h))
  · exact .inl (.inr ⟨o, k.keep _ _ (ne_tab t h (by simp)) h⟩)
  · exact .inr h
/-- what a row of steps with the box does to all else -/
theorem KT.box {P b : Addr} {H H' H1 : Hp} (t : TabG H P) (f : H b = none) (e : ∀ a, a ≠ b → H1 a = H a) (k : KB b H1 H') : KT P H H' := by
  obtain ⟨ps, ht, tr⟩ := t
  have nb : P ≠ b := ne_of_none ht f
  exact ⟨fun c o _ h => k c o (ne_of_none h f) ((e c (ne_of_none h f)).trans h), ps, k P _ nb ((e P nb).trans ht), tr⟩
theorem two_bools (a b : Bool) : (PyData.list [.bool a, .bool b]).shown.length ≤ sizeLine := by
  cases a <;> cases b <;> decide +kernel
end My

set_option maxRecDepth 100000
set_option maxHeartbeats 4000000
namespace K11
open PySem PySem.Spec PyProof.Rows L2 GxR Gd TL My
/-! ### the text -/
def top (i : Nat) : Stmt := PySem.Challenge.pw_onestaff_k11_words_under_way.main.body.getD i (.Pass ⟨0, 0, 0, 0⟩)
abbrev sWhole : Stmt := top 4
abbrev sCell : Stmt := top 8
abbrev sBox : Stmt := top 9
abbrev sTake : Stmt := top 10
structure Txt (mg : Str → Option Value) : Prop where
  isinstance_ : mg "isinstance" = none
  int_ : mg "int" = none
  bool_ : mg "bool" = none
  str_ : mg "str" = none
  len_ : mg "len" = none
  all_ : mg "all" = none
  max_ : mg "max" = none
  min_ : mg "min" = none
  range_ : mg "range" = none
  repr_ : mg "repr" = none
  list_ : mg "list" = none
  tuple_ : mg "tuple" = none
  enumerate_ : mg "enumerate" = none
  sorted_ : mg "sorted" = none
  dict_ : mg "dict" = none
structure Fn (K : PySem.W.Frag) (mg : Str → Option Value) (x : Str) (st : Stmt) (ps : List Str) (f : Addr) (fd : FuncData) : Prop where
  fn : Fun K x x st f fd
  g : mg x = some (.ref f)
  b : Binds K fd ps []
theorem Fn.kp {K : PySem.W.Frag} {mg : Str → Option Value} {x : Str} {st : Stmt} {ps : List Str} {f : Addr} {fd : FuncData} (h : Fn K mg x st ps f fd) : PySem.W.keepIn K (.ref f) = true := h.fn.kp
section
variable {P : Program} {w : World} {K : PySem.W.Frag} {mg : Str → Option Value} {base : Heap}
def spWhole : Sp := fun vs H Q _ => ∃ (v : V) (lo hi : Int), vs = [v, .int lo, .int hi] ∧ Th H v ∧ Q (.bl (wh lo hi v)) H
theorem scWhole : FnScope ["thing", "low", "high"] ["thing", "low", "high"] (defScope sWhole) := ⟨rfl, rfl, rfl, by decide +kernel, rfl, by decide +kernel, by decide +kernel⟩
theorem ok_whole {f : Addr} {fd : FuncData} (F : Fun K "is_whole" "is_whole" sWhole f fd) (T : Txt mg) : FnOk P w K mg base CX0 1 f fd ["thing", "low", "high"] spWhole := by
  refine F.ok scWhole (fun vs H Q E h => ?_) (fun cdv A outer s H vs Q E hr h => ?_)
  · obtain ⟨v, lo, hi, rfl, _⟩ := h
    rfl
  · obtain ⟨v, lo, hi, rfl, th, k⟩ := h
    obtain ⟨t, ty, cs⟩ := th.ty (K := K)
    refine ⟨_, pss_cons (ps_if (PW.pt (pw_or (pt_not (pt_val (pe_callB call_isi (by rfl) T.isinstance_ (by decide +kernel) (pa_cons (pv 0) (pa_cons (pe_bltn (v := .ty "int") (by rfl) T.int_ (by decide +kernel) rfl) pa_nil)))))
        (pw_or1 (pt_val (pe_callB call_isi (by rfl) T.isinstance_ (by decide +kernel) (pa_cons (pv 0) (pa_cons (pe_bltn (v := .ty "bool") (by rfl) T.bool_ (by decide +kernel) rfl) pa_nil)))))))
        (pss_one (ps_ret pe_bl)) pss_nil)
      (pss_one (ps_ret (pe_chain op_le op_le (pv 1) (pv 0) (pv 2)))), ?_⟩
    rcases cs with ⟨i, rfl, rfl⟩ | ⟨b, rfl, rfl⟩ | ⟨z, rfl, _, rfl⟩ | ⟨n1, n2, n3, ht⟩
    · refine ⟨_, rfl, _, _, _, _, true, rfl, .ty "int", ty, (by rfl), _, rfl, iteF ?_⟩
      refine ⟨_, rfl, _, _, _, _, false, rfl, .ty "bool", ty, (by rfl), _, rfl, iteF ?_⟩
      refine ⟨_, rfl, _, rfl, _, _, rfl, rfl, _, rfl, ?_⟩
      refine ite2 (fun c => ?_) (fun c => ?_)
      · refine ⟨_, rfl, _, _, rfl, rfl, ?_⟩
        have e : (decide (i ≤ hi)) = wh lo hi (.int i) := by simp [wh, of_decide_eq_true c]
        show Q (.bl (decide (i ≤ hi))) H
        rw [e]; exact k
      · have e : false = wh lo hi (.int i) := by simp at c; simp [wh]; omega
        rw [e]; exact k
    · refine ⟨_, rfl, _, _, _, _, true, rfl, .ty "int", ty, (by rfl), _, rfl, iteF ?_⟩
      refine ⟨_, rfl, _, _, _, _, true, rfl, .ty "bool", ty, (by rfl), _, rfl, iteT ?_⟩
      exact k
    · refine ⟨_, rfl, _, _, _, _, false, rfl, .ty "int", ty, (by rfl), _, rfl, iteT (iteT ?_)⟩
      exact k
    · have e : wh lo hi v = false := by
        cases v with
        | int i => exact absurd rfl (n1 i)
        | _ => rfl
      rw [e] at k
      rcases ht with rfl | rfl | rfl | rfl
      · exact ⟨_, rfl, _, _, _, _, false, rfl, .ty "int", ty, (by rfl), _, rfl, iteT (iteT k)⟩
      · exact ⟨_, rfl, _, _, _, _, false, rfl, .ty "int", ty, (by rfl), _, rfl, iteT (iteT k)⟩
      · exact ⟨_, rfl, _, _, _, _, false, rfl, .ty "int", ty, (by rfl), _, rfl, iteT (iteT k)⟩
      · exact ⟨_, rfl, _, _, _, _, false, rfl, .ty "int", ty, (by rfl), _, rfl, iteT (iteT k)⟩

def spCell (K : PySem.W.Frag) : Sp := fun vs H Q _ => ∃ (l : Addr) (ns : List Int) (j : Nat), vs = [.ref l, .int (j : Int)] ∧ SqL K H l (ns.map V.int) ∧ ∀ i : Int, Q (.int i) H
theorem scCell : FnScope ["_law_script", "_law_k"] ["_law_script", "_law_k"] (defScope sCell) := ⟨rfl, rfl, rfl, by decide +kernel, rfl, by decide +kernel, by decide +kernel⟩
theorem ok_cell {f : Addr} {fd : FuncData} (F : Fun K "_law_cell" "_law_cell" sCell f fd) (T : Txt mg) : FnOk P w K mg base CX0 1 f fd ["_law_script", "_law_k"] (spCell K) := by
  refine F.ok scCell (fun vs H Q E h => ?_) (fun cdv A outer s H vs Q E hr h => ?_)
  · obtain ⟨l, ns, j, rfl, _⟩ := h
    rfl
  · obtain ⟨l, ns, j, rfl, hS, k⟩ := h
    refine ⟨_, pss_cons (ps_if (pt_cmpR op_lt (pv 1) (pe_callB call_len_seq (by rfl) T.len_ PySem.boot_len (pa_cons (pv 0) pa_nil)) (nomark _)) (pss_one (ps_ret (pe_ix ix_list (pv 0) (pv 1) (fun _ _ => rfl)))) pss_nil)
      (pss_one (ps_ret (pe_op op_add (pe_op op_mul pe_int (pv 1)) pe_int))), ?_⟩
    refine ⟨_, rfl, _, rfl, l, _, rfl, .inl hS, _, _, rfl, rfl, _, rfl, ite2 (fun c => ?_) (fun c => ?_)⟩
    · have c1 : (j : Int) < ((ns.map V.int).length : Nat) := of_decide_eq_true c
      have c2 : j < ns.length := by rw [List.length_map] at c1; omega
      refine ⟨_, rfl, _, rfl, l, _, _, _, rfl, rfl, hS, atI_nat (v := .int ns[j]) ?_, k _⟩
      rw [List.getElem?_map, List.getElem?_eq_getElem c2]
      rfl
    · exact ⟨_, rfl, _, _, rfl, rfl, .inl ⟨by decide, by decide⟩, _, _, rfl, rfl, k _⟩
def spBox : Sp := fun vs H Q _ => ∃ c : Int, vs = [.int c] ∧ ∀ b H', H b = none → (∀ a, a ≠ b → H' a = H a) → Bx b 0 H' → Q (.ref b) H'
theorem scBox : FnScope ["_law_cell_here"] ["_law_cell_here"] (defScope sBox) := ⟨rfl, rfl, rfl, by decide +kernel, rfl, by decide +kernel, by decide +kernel⟩
theorem ok_box {f : Addr} {fd : FuncData} (F : Fun K "_law_box" "_law_box" sBox f fd) (T : Txt mg) : FnOk P w K mg base CX0 1 f fd ["_law_cell_here"] spBox := by
  refine F.ok scBox (fun vs H Q E h => ?_) (fun cdv A outer s H vs Q E hr h => ?_)
  · obtain ⟨c, rfl, _⟩ := h
    rfl
  · obtain ⟨c, rfl, k⟩ := h
    refine ⟨_, pss_one (ps_ret (pe_lst (pa_cons (pe_callB (call_max2 rfl) (by rfl) T.max_ (by decide +kernel) (pa_cons pe_int (pa_cons (pe_op op_sub (pv 0) (pe_op op_pow pe_int pe_int)) pa_nil))) (pa_cons (pe_op op_mod (pv 0) pe_int) (pa_cons pe_int pa_nil))))), ?_⟩
    refine ⟨_, rfl, _, _, rfl, rfl, ⟨by decide, by decide, by decide⟩, _, _, rfl, rfl, _, _, rfl, ?_⟩
    refine ⟨_, rfl, _, _, rfl, rfl, (by show (0 : Int) < 2147483629; decide), ?_⟩
    refine ⟨(by show 3 ≤ sizeLine; decide), fun b hb => ?_⟩
    refine k b _ hb (fun a na => upd_ne na) ⟨_, _, 0, upd_same, ?_, ?_, ?_, Int.le_refl _, Int.le_refl _⟩
    · split <;> omega
    · exact Int.emod_nonneg _ (by decide)
    · exact Int.emod_lt_of_pos _ (by decide)
def spTake : Sp := fun vs H Q _ => ∃ (b : Addr) (many n : Int), vs = [.ref b, .int many] ∧ Bx b n H ∧ n ≤ 100000 ∧ 0 < many ∧ many.natAbs.log2 < 9000 ∧
  ∀ d H', 0 ≤ d → d < many → (∀ a, a ≠ b → H' a = H a) → Bx b (n + 1) H' → Q (.int d) H'
theorem scTake : FnScope ["_law_box_here", "_law_many", "_law_digit", "_law_number"] ["_law_box_here", "_law_many"] (defScope sTake) := ⟨rfl, rfl, rfl, by decide +kernel, rfl, by decide +kernel, by decide +kernel⟩
theorem ok_take {f : Addr} {fd : FuncData} (F : Fun K "_law_take" "_law_take" sTake f fd) : FnOk P w K mg base CX0 1 f fd ["_law_box_here", "_law_many"] spTake := by
  refine F.ok scTake (fun vs H Q E h => ?_) (fun cdv A outer s H vs Q E hr h => ?_)
  · obtain ⟨b, many, n, rfl, _⟩ := h
    rfl
  · obtain ⟨b, many, n, rfl, ⟨x, y, z, hb, x0, y0, y1, z0, zn⟩, hn, m0, ml, k⟩ := h
    refine ⟨_, pss_cons (ps_if (pt_cmpR op_gt (pe_ix ix_list (pv 0) pe_int (fun _ _ => rfl)) pe_int (nomark _))
        (pss_cons (ps_set (i := 2) scTake.nd rfl (Or.inl rfl) (pe_op op_mod (pe_ix ix_list (pv 0) pe_int (fun _ _ => rfl)) (pv 1)))
        (pss_cons (ps_asg (pe_op op_fdivW (pe_ix ix_list (pv 0) pe_int (fun _ _ => rfl)) (pv 1)) (pg_sub (pv 0) pe_int set_list))
        (pss_one (ps_ret (pv 2))))) pss_nil)
      (pss_cons (ps_asg (pe_op op_add (pe_ix ix_list (pv 0) pe_int (fun _ _ => rfl)) pe_int) (pg_sub (pv 0) pe_int set_list))
      (pss_cons (ps_set (i := 3) scTake.nd rfl (Or.inl rfl) (pe_op op_mod (pe_op op_pow (pe_op op_add (pe_op op_add (pe_ix ix_list (pv 0) pe_int (fun _ _ => rfl)) (pe_op op_mul pe_int (pe_ix ix_list (pv 0) pe_int (fun _ _ => rfl)))) pe_int) pe_int) pe_int))
      (pss_cons (ps_set (i := 3) scTake.nd rfl (Or.inl rfl) (pe_op op_mod (pe_op op_pow (pe_op op_add (pv 3) (pe_op op_mul pe_int (pe_ix ix_list (pv 0) pe_int (fun _ _ => rfl)))) pe_int) pe_int))
      (pss_one (ps_ret (pe_op op_mod (pe_op op_fdiv (pv 3) pe_int) (pv 1))))))), ?_⟩
    have hL : SqL K H b [.int x, .int y, .int z] := SqL.of hb
    refine ⟨_, rfl, b, _, _, _, rfl, rfl, hL, i0 _ _ _, _, _, rfl, rfl, _, rfl, ite2 (fun c => ?_) (fun c => ?_)⟩
    · refine ⟨_, rfl, b, _, _, _, rfl, rfl, hL, i0 _ _ _, _, rfl, _, _, rfl, rfl, m0, ?_⟩
      refine ⟨_, rfl, b, _, _, _, rfl, rfl, hL, i0 _ _ _, _, rfl, _, _, rfl, rfl, ⟨m0, ml⟩, ?_⟩
      refine ⟨_, rfl, b, _, _, _, rfl, rfl, hb, j0, ?_⟩
      refine ⟨_, rfl, ?_⟩
      exact k _ _ (Int.emod_nonneg _ (by omega)) (Int.emod_lt_of_pos _ m0) (fun a na => upd_ne na) ⟨_, _, _, upd_same, Int.ediv_nonneg x0 (by omega), y0, y1, z0, by omega⟩
    · refine ⟨_, rfl, b, _, _, _, rfl, rfl, hL, i2 _ _ _, _, _, rfl, rfl, ?_⟩
      refine ⟨_, rfl, b, _, _, _, rfl, rfl, hb, j2, ?_⟩
      have h1 : upd H b (.lst ([V.int x, .int y, .int z].set 2 (.int (z + 1)))) b = some (.lst [.int x, .int y, .int (z + 1)]) := upd_same
      have hL1 : SqL K (upd H b (.lst ([V.int x, .int y, .int z].set 2 (.int (z + 1))))) b [.int x, .int y, .int (z + 1)] := SqL.of h1
      refine ⟨_, rfl, b, _, _, _, rfl, rfl, hL1, i1 _ _ _, _, rfl, b, _, _, _, rfl, rfl, hL1, i2 _ _ _, _, _, rfl, rfl, .inl ⟨by decide, by decide⟩, _, _, rfl, rfl, _, _, rfl, rfl,
        _, _, rfl, rfl, ⟨by decide, by decide, ?_⟩, _, _, rfl, rfl, (by show (0 : Int) < 2147483647; decide), ?_⟩
      · omega
      refine ⟨_, rfl, _, rfl, b, _, _, _, rfl, rfl, hL1, i2 _ _ _, _, _, rfl, rfl, .inl ⟨by decide, by decide⟩, _, _, rfl, rfl,
        _, _, rfl, rfl, ⟨by decide, by decide, ?_⟩, _, _, rfl, rfl, (by show (0 : Int) < 2147483587; decide), ?_⟩
      · have g0 := Int.emod_nonneg ((y + 7919 * (z + 1) + 43) ^ (5 : Int).toNat) (show (2147483647 : Int) ≠ 0 by decide)
        have g1 := Int.emod_lt_of_pos ((y + 7919 * (z + 1) + 43) ^ (5 : Int).toNat) (show (0 : Int) < 2147483647 by decide)
        generalize (y + 7919 * (z + 1) + 43) ^ (5 : Int).toNat % 2147483647 = q at g0 g1 ⊢
        omega
      refine ⟨_, rfl, _, _, rfl, rfl, ⟨by decide, by decide⟩, _, rfl, _, _, rfl, rfl, m0, ?_⟩
      exact k _ _ (Int.emod_nonneg _ (by omega)) (Int.emod_lt_of_pos _ m0) (fun a na => upd_ne na) ⟨_, _, _, h1, x0, y0, y1, by omega, by omega⟩
end
end K11


set_option maxRecDepth 100000
set_option maxHeartbeats 4000000
/-! Data in the heap, kept by steps that change a box, a table. -/
namespace My
open PySem PySem.Spec PyProof.Rows L2 GxR Gd TL
/-- all but tables stays -/
def Nt (H H' : Hp) : Prop := ∀ c o, (∀ ps, o ≠ .tbl ps) → H c = some o → H' c = some o
theorem Nt.refl (H : Hp) : Nt H H := fun _ _ _ h => h
theorem Nt.trans {H H1 H2 : Hp} (a : Nt H H1) (b : Nt H1 H2) : Nt H H2 := fun c o n h => b c o n (a c o n h)
theorem KT.nt {P : Addr} {H H' : Hp} (t : TabG H P) (k : KT P H H') : Nt H H' := fun c o n h => k.keep c o (ne_tab t h n) h
theorem Nt.alloc {H : Hp} {p : Addr} {o : HO} (n : H p = none) : Nt H (upd H p o) := fun c u _ h => by rw [upd_ne (ne_of_none h n)]; exact h
/-- the heap but the box -/
def hide (b : Addr) (H : Hp) : Hp := fun c => if c = b then none else H c
theorem hide_ne {b c : Addr} {H : Hp} (h : c ≠ b) : hide b H c = H c := if_neg h
theorem hide_some {b c : Addr} {H : Hp} {o : HO} (h : hide b H c = some o) : c ≠ b ∧ H c = some o := by
  unfold hide at h
  by_cases q : c = b
  · rw [if_pos q] at h
    cases h
  · rw [if_neg q] at h
    exact ⟨q, h⟩
theorem KB.nt {b : Addr} {H H' : Hp} (k : KB b H H') : Nt (hide b H) (hide b H') := fun c o _ h => by
  obtain ⟨n, h⟩ := hide_some h
  rw [hide_ne n]
  exact k c o n h
theorem hide_nt (b : Addr) (H : Hp) : Nt (hide b H) H := fun c o _ h => (hide_some h).2
theorem Nt.seq {K : PySem.W.Frag} {H H' : Hp} {a : Addr} {xs : List V} (e : Nt H H') (h : SqL K H a xs) : SqL K H' a xs := by
  rcases h with (h | ⟨o, h⟩) | h
  · exact .inl (.inl (e _ _ (by simp) h))
  · exact .inl (.inr ⟨o, e _ _ (by simp) h⟩)
  · exact .inr h
theorem Nt.seqT {K : PySem.W.Frag} {H H' : Hp} {a : Addr} {xs : List V} (e : Nt H H') (h : SqT K H a xs) : SqT K H' a xs := by
  rcases h with (h | ⟨o, h⟩) | h
  · exact .inl (.inl (e _ _ (by simp) h))
  · exact .inl (.inr ⟨o, e _ _ (by simp) h⟩)
  · exact .inr h
section
variable {K : PySem.W.Frag} {H H' : Hp}
mutual
theorem dp_nt (e : Nt H H') : ∀ {v : V} {d : PyData}, Dp K H v d → Dp K H' v d
  | _, _, .non => .non
  | _, _, .bl b => .bl b
  | _, _, .int i => .int i
  | _, _, .str z => .str z
  | _, _, .lst h a => .lst (e.seq h) (dpAll_nt e a)
  | _, _, .tup h a => .tup (e.seqT h) (dpAll_nt e a)
theorem dpAll_nt (e : Nt H H') : ∀ {vs : List V} {ds : List PyData}, DpAll K H vs ds → DpAll K H' vs ds
  | _, _, .nil => .nil
  | _, _, .cons h t => .cons (dp_nt e h) (dpAll_nt e t)
end
theorem dp_list {v : V} {ds : List PyData} (h : Dp K H v (.list ds)) : ∃ a xs, v = .ref a ∧ SqL K H a xs ∧ DpAll K H xs ds := by
  cases h with
  | lst h a => exact ⟨_, _, rfl, h, a⟩
theorem dp_tuple {v : V} {ds : List PyData} (h : Dp K H v (.tuple ds)) : ∃ a xs, v = .ref a ∧ SqT K H a xs ∧ DpAll K H xs ds := by
  cases h with
  | tup h a => exact ⟨_, _, rfl, h, a⟩
theorem dp_str {v : V} {z : Str} (h : Dp K H v (.str z)) : v = .str z := by
  cases h
  rfl
theorem dp_int {v : V} {i : Int} (h : Dp K H v (.int i)) : v = .int i := by
  cases h
  rfl
theorem dp_none {v : V} (h : Dp K H v .none) : v = .non := by
  cases h
  rfl
theorem dpAll_len : ∀ {xs : List V} {ds : List PyData}, DpAll K H xs ds → xs.length = ds.length
  | _, _, .nil => rfl
  | _, _, .cons _ t => congrArg (· + 1) (dpAll_len t)
theorem dpAll_get : ∀ {xs : List V} {ds : List PyData}, DpAll K H xs ds → ∀ {i : Nat} {x : V}, xs[i]? = some x → ∃ d, ds[i]? = some d ∧ Dp K H x d
  | _, _, .nil, _, _, h => by simp at h
  | _, _, .cons a _, 0, _, h => by simp at h; subst h; exact ⟨_, rfl, a⟩
  | _, _, .cons _ t, i + 1, x, h => by
    obtain ⟨d, h1, h2⟩ := dpAll_get t (i := i) (x := x) (by simpa using h)
    exact ⟨d, by simpa using h1, h2⟩
theorem dpAll_at : ∀ {xs : List V} {ds : List PyData}, DpAll K H xs ds → ∀ {i : Nat} {d : PyData}, ds[i]? = some d → ∃ x, xs[i]? = some x ∧ Dp K H x d
  | _, _, .nil, _, _, h => by simp at h
  | _, _, .cons a _, 0, _, h => by simp at h; subst h; exact ⟨_, rfl, a⟩
  | _, _, .cons _ t, i + 1, d, h => by
    obtain ⟨x, h1, h2⟩ := dpAll_at t (i := i) (d := d) (by simpa using h)
    exact ⟨x, by simpa using h1, h2⟩
theorem dpAll_app : ∀ {xs ys : List V} {ds es : List PyData}, DpAll K H xs ds → DpAll K H ys es → DpAll K H (xs ++ ys) (ds ++ es)
  | _, _, _, _, .nil, h => h
  | _, _, _, _, .cons a t, h => .cons a (dpAll_app t h)
theorem dp_two {v : V} {c d : PyData} (h : Dp K H v (.tuple [c, d])) : ∃ a x y, v = .ref a ∧ SqT K H a [x, y] ∧ Dp K H x c ∧ Dp K H y d := by
  obtain ⟨a, xs, rfl, h1, h2⟩ := dp_tuple h
  cases h2 with
  | cons p t =>
    cases t with
    | cons q t =>
      cases t
      exact ⟨a, _, _, rfl, h1, p, q⟩
theorem dp_three {v : V} {c d e : PyData} (h : Dp K H v (.tuple [c, d, e])) : ∃ a x y z, v = .ref a ∧ SqT K H a [x, y, z] ∧ Dp K H x c ∧ Dp K H y d ∧ Dp K H z e := by
  obtain ⟨a, xs, rfl, h1, h2⟩ := dp_tuple h
  cases h2 with
  | cons p t =>
    cases t with
    | cons q t =>
      cases t with
      | cons r t =>
        cases t
        exact ⟨a, _, _, _, rfl, h1, p, q, r⟩
theorem dp_four {v : V} {c d e f : PyData} (h : Dp K H v (.list [c, d, e, f])) : ∃ a x y z u, v = .ref a ∧ SqL K H a [x, y, z, u] ∧ Dp K H x c ∧ Dp K H y d ∧ Dp K H z e ∧ Dp K H u f := by
  obtain ⟨a, xs, rfl, h1, h2⟩ := dp_list h
  cases h2 with
  | cons p t =>
    cases t with
    | cons q t =>
      cases t with
      | cons r t =>
        cases t with
        | cons s t =>
          cases t
          exact ⟨a, _, _, _, _, rfl, h1, p, q, r, s⟩
end
/-! ### names that are good, worlds of lines -/
def NameOk (z : Str) : Prop := 1 ≤ z.length ∧ z.length ≤ 6 ∧ z.cps.toList.all lc = true
theorem NameOk.good {z : Str} (h : NameOk z) : Good z := fun c hc => by
  have := List.all_eq_true.mp h.2.2 c hc
  unfold lc at this
  simp at this
  omega
theorem NameOk.nm {z : Str} (h : NameOk z) : nm (.str z) = true := by
  obtain ⟨h1, h2, h3⟩ := h
  simp [My.nm, h1, h2, h3]
theorem NameOk.th {z : Str} {H : Hp} (h : NameOk z) : Th H (.str z) := .str z (by have := h.2.1; omega) h.good
structure Wd where
  ps : List (Str × Int)
  st : List (Str × Int)
  lo : List (Int × Int × Int)
  sp : Str
def longsOk (top : Int) : Int → List (Int × Int × Int) → Prop
  | _, [] => True
  | low, (f, l, h) :: r => low ≤ f ∧ f + 2 ≤ l ∧ l ≤ top ∧ 0 ≤ h ∧ h ≤ 1 ∧ longsOk top l r
structure Wd.Ok (w : Wd) : Prop where
  p2 : 2 ≤ w.ps.length
  p6 : w.ps.length ≤ 6
  nm : ∀ p ∈ w.ps, NameOk p.1 ∧ 1 ≤ p.2 ∧ p.2 ≤ 3
  nd : (w.ps.map (·.1)).Nodup
  sl : w.st.length + 1 = w.ps.length
  st : ∀ p ∈ w.st, (p.1 = "staff" ∨ p.1 = "ticket") ∧ 0 ≤ p.2 ∧ p.2 ≤ 1
  ll : w.lo.length ≤ 2
  lo : longsOk (w.ps.length - 1 : Nat) 0 w.lo
  sn : NameOk w.sp
  s0 : w.sp ∉ w.ps.map (·.1)
def dP (p : Str × Int) : PyData := .tuple [.str p.1, .int p.2]
def dL (p : Int × Int × Int) : PyData := .tuple [.int p.1, .int p.2.1, .int p.2.2]
def Wd.data (w : Wd) : PyData := .list [.list (w.ps.map dP), .list (w.st.map dP), .list (w.lo.map dL), .str w.sp]
end My

set_option maxRecDepth 100000
set_option maxHeartbeats 400000
/-! small data: what repr asks of them -/
namespace My
open PySem PySem.Spec PyProof.Rows L2 GxR Gd TL
structure Sm (d : PyData) (k m : Nat) : Prop where
  lay : d.canLay0 = true
  dep : d.depth ≤ k
  wt : d.weight ≤ m
  ish : d.intsShort 13 = true
  sh : d.showable = true
theorem Sm.rep {d : PyData} {k m : Nat} (h : Sm d k m) (hk : k ≤ 64) (hm : m ≤ 2 ^ 20) : d.showable = true ∧ d.depth ≤ 100 ∧ d.shown.length ≤ sizeLine := by
  refine ⟨h.sh, Nat.le_trans h.dep (by omega), Nat.le_trans (shown_le13 ?_ h.ish) (by rw [sizeLine_eq]; decide)⟩
  unfold PyData.layable0
  rw [Bool.and_eq_true, Bool.and_eq_true, decide_eq_true_eq, decide_eq_true_eq]
  exact ⟨⟨h.lay, Nat.le_trans h.dep hk⟩, Nat.le_trans h.wt hm⟩
theorem Sm.mono {d : PyData} {k m k' m' : Nat} (h : Sm d k m) (hk : k ≤ k') (hm : m ≤ m') : Sm d k' m' := ⟨h.lay, Nat.le_trans h.dep hk, Nat.le_trans h.wt hm, h.ish, h.sh⟩
theorem sm_none : Sm .none 0 0 := ⟨rfl, Nat.le_refl 0, Nat.le_refl 0, rfl, rfl⟩
theorem sm_bool (b : Bool) : Sm (.bool b) 0 0 := ⟨rfl, Nat.le_refl 0, Nat.le_refl 0, rfl, rfl⟩
theorem sm_int {i : Int} (h : i.natAbs ≤ 1000) : Sm (.int i) 0 20 := by
  have hl : i.natAbs.log2 ≤ 10 := by
    by_cases z : i.natAbs = 0
    · rw [z]; decide
    · have : i.natAbs.log2 < 11 := (Nat.log2_lt z).mpr (by omega)
      omega
  refine ⟨rfl, Nat.le_refl 0, ?_, ?_, ?_⟩
  · unfold PyData.weight
    split
    · omega
    · omega
  · exact intsShort_of_noneOrIn (lo := -2000) (hi := 2000) (by decide) (by decide) (.int i) (by simp [noneOrIn]; omega)
  · unfold PyData.showable
    rw [decide_eq_true_eq]
    omega
theorem sm_str {z : Str} (g : Good z) (h : z.length ≤ 6) : Sm (.str z) 0 6 := by
  refine ⟨?_, Nat.le_refl 0, h, rfl, rfl⟩
  unfold PyData.canLay0
  unfold PyData.strOk
  rw [Array.all_eq_true_iff_forall_mem]
  intro c hc
  exact decide_eq_true (g c (Array.mem_toList_iff.mpr hc))
theorem sm_all {k m : Nat} : ∀ {ds : List PyData}, (∀ d ∈ ds, Sm d k m) → PyData.canLayAll0 ds = true ∧ PyData.depthAll ds ≤ k ∧ PyData.weightAll ds ≤ ds.length * (m + 1) ∧ PyData.intsShortAll 13 ds = true ∧ PyData.showableAll ds = true
  | [], _ => ⟨rfl, Nat.zero_le _, Nat.zero_le _, rfl, rfl⟩
  | d :: r, h => by
    obtain ⟨a1, a2, a3, a4, a5⟩ := sm_all (ds := r) fun x hx => h x (List.mem_cons_of_mem _ hx)
    have b := h d List.mem_cons_self
    refine ⟨?_, ?_, ?_, ?_, ?_⟩
    · unfold PyData.canLayAll0; rw [b.lay, a1]; rfl
    · unfold PyData.depthAll; exact Nat.max_le.mpr ⟨b.dep, a2⟩
    · unfold PyData.weightAll
      have := b.wt
      rw [List.length_cons, Nat.succ_mul]
      omega
    · unfold PyData.intsShortAll; rw [b.ish, a4]; rfl
    · unfold PyData.showableAll; rw [b.sh, a5]; rfl
theorem sm_list {k m : Nat} {ds : List PyData} (h : ∀ d ∈ ds, Sm d k m) : Sm (.list ds) (k + 1) (ds.length * (m + 1)) := by
  obtain ⟨a1, a2, a3, a4, a5⟩ := sm_all h
  exact ⟨by unfold PyData.canLay0; exact a1, by unfold PyData.depth; omega, by unfold PyData.weight; exact a3, by unfold PyData.intsShort; exact a4, by unfold PyData.showable; exact a5⟩
theorem sm_tuple {k m : Nat} {ds : List PyData} (h : ∀ d ∈ ds, Sm d k m) : Sm (.tuple ds) (k + 1) (ds.length * (m + 1)) := by
  obtain ⟨a1, a2, a3, a4, a5⟩ := sm_all h
  exact ⟨by unfold PyData.canLay0; exact a1, by unfold PyData.depth; omega, by unfold PyData.weight; exact a3, by unfold PyData.intsShort; exact a4, by unfold PyData.showable; exact a5⟩
theorem sm_dP {p : Str × Int} (g : Good p.1) (h : p.1.length ≤ 6) (hr : p.2.natAbs ≤ 1000) : Sm (dP p) 1 42 :=
  sm_tuple (k := 0) (m := 20) (ds := [.str p.1, .int p.2]) fun d hd => by
    simp only [List.mem_cons, List.not_mem_nil, or_false] at hd
    rcases hd with rfl | rfl
    · exact (sm_str g h).mono (Nat.le_refl 0) (by decide)
    · exact sm_int hr
theorem sm_names {a b : Str} (ha : NameOk a) (hb : NameOk b) : Sm (.tuple [.str a, .str b]) 1 14 :=
  sm_tuple (k := 0) (m := 6) (ds := [.str a, .str b]) fun d hd => by
    simp only [List.mem_cons, List.not_mem_nil, or_false] at hd
    rcases hd with rfl | rfl
    · exact sm_str ha.good ha.2.1
    · exact sm_str hb.good hb.2.1
end My

set_option maxRecDepth 100000
set_option maxHeartbeats 400000
/-! data with longer texts and numbers: what repr asks of them -/
namespace My
open PySem PySem.Spec PyProof.Rows L2 GxR Gd TL
structure Sb (d : PyData) (k m : Nat) : Prop where
  lv : d.leavesShort 40 = true
  dep : d.depth ≤ k
  wt : d.weight ≤ m
  sh : d.showable = true
theorem Sb.rep {d : PyData} {k m : Nat} (h : Sb d k m) (hk : k ≤ 100) (hm : m ≤ 390000) : d.showable = true ∧ d.depth ≤ 100 ∧ d.shown.length ≤ sizeLine := by
  refine ⟨h.sh, Nat.le_trans h.dep hk, ?_⟩
  have h1 := PyData.shown_le 40 (by decide) d h.lv
  have h2 := h.wt
  refine Nat.le_trans h1 (Nat.le_trans (m := 42 * 390000 + 40) (by omega) (by rw [sizeLine_eq]; decide))
theorem Sb.mono {d : PyData} {k m k' m' : Nat} (h : Sb d k m) (hk : k ≤ k') (hm : m ≤ m') : Sb d k' m' := ⟨h.lv, Nat.le_trans h.dep hk, Nat.le_trans h.wt hm, h.sh⟩
theorem sb_none : Sb .none 0 0 := ⟨rfl, Nat.le_refl 0, Nat.le_refl 0, rfl⟩
theorem sb_bool (b : Bool) : Sb (.bool b) 0 0 := ⟨rfl, Nat.le_refl 0, Nat.le_refl 0, rfl⟩
theorem text_int {i : Int} (h : i.natAbs < 10 ^ 31) : (Str.ofString (toString i)).length ≤ 32 := by
  have e := int_text_length_le10 (k := 31) (by decide) h
  rw [PySem.ofString_length]
  exact e
theorem sb_int {i : Int} (h : i.natAbs < 10 ^ 31) : Sb (.int i) 0 110 := by
  have hl : i.natAbs.log2 ≤ 109 := by
    by_cases z : i.natAbs = 0
    · rw [z]; decide
    · have : i.natAbs.log2 < 110 := (Nat.log2_lt z).mpr (Nat.lt_of_lt_of_le h (by decide))
      omega
  refine ⟨?_, Nat.le_refl 0, ?_, ?_⟩
  · unfold PyData.leavesShort
    rw [decide_eq_true_eq]
    exact Nat.le_trans (text_int h) (by decide)
  · unfold PyData.weight
    split <;> omega
  · unfold PyData.showable
    rw [decide_eq_true_eq]
    omega
theorem sb_str {z : Str} {m : Nat} (g : Good z) (h : z.length ≤ m) : Sb (.str z) 0 m := by
  refine ⟨?_, Nat.le_refl 0, h, rfl⟩
  unfold PyData.leavesShort
  rw [List.all_eq_true]
  intro c hc
  have := g c hc
  rw [decide_eq_true_eq]
  exact Nat.lt_trans this (by decide)
theorem sb_all {k m : Nat} : ∀ {ds : List PyData}, (∀ d ∈ ds, Sb d k m) → PyData.leavesShortAll 40 ds = true ∧ PyData.depthAll ds ≤ k ∧ PyData.weightAll ds ≤ ds.length * (m + 1) ∧ PyData.showableAll ds = true
  | [], _ => ⟨rfl, Nat.zero_le _, Nat.zero_le _, rfl⟩
  | d :: r, h => by
    obtain ⟨a1, a2, a3, a4⟩ := sb_all (ds := r) fun x hx => h x (List.mem_cons_of_mem _ hx)
    have b := h d List.mem_cons_self
    refine ⟨?_, ?_, ?_, ?_⟩
    · unfold PyData.leavesShortAll; rw [b.lv, a1]; rfl
    · unfold PyData.depthAll; exact Nat.max_le.mpr ⟨b.dep, a2⟩
    · unfold PyData.weightAll
      have := b.wt
      rw [List.length_cons, Nat.succ_mul]
      omega
    · unfold PyData.showableAll; rw [b.sh, a4]; rfl
theorem sb_list {k m : Nat} {ds : List PyData} (h : ∀ d ∈ ds, Sb d k m) : Sb (.list ds) (k + 1) (ds.length * (m + 1)) := by
  obtain ⟨a1, a2, a3, a4⟩ := sb_all h
  exact ⟨by unfold PyData.leavesShort; exact a1, by unfold PyData.depth; omega, by unfold PyData.weight; exact a3, by unfold PyData.showable; exact a4⟩
theorem sb_tuple {k m : Nat} {ds : List PyData} (h : ∀ d ∈ ds, Sb d k m) : Sb (.tuple ds) (k + 1) (ds.length * (m + 1)) := by
  obtain ⟨a1, a2, a3, a4⟩ := sb_all h
  exact ⟨by unfold PyData.leavesShort; exact a1, by unfold PyData.depth; omega, by unfold PyData.weight; exact a3, by unfold PyData.showable; exact a4⟩
theorem good_int (i : Int) : Good (Str.ofString (toString i)) := good_of _
end My

set_option maxRecDepth 100000
set_option maxHeartbeats 1000000
/-! sorted(d) of a dict whose keys are ints, any number of them -/
namespace My
open PySem PySem.Spec PyProof.Rows L2 GxR Gd
theorem call_sortedDA {X : Cx} (hcalm : X.calm = true) : CallR X (.builtin "sorted") (fun xs H Q => ∃ (a : Addr) (kvs : List (Key × V)) (ks : List Int), xs = [.ref a] ∧ Rd H a (.dK kvs) ∧ kvs.map (·.1) = ks.map Sum.inl ∧
    ∀ (ys : List Int) (p : Addr), ys.Perm ks → ys.Pairwise (· ≤ ·) → H p = none → Q (.ref p) (upd H p (.lst (ys.map V.int)))) := by
  intro pins s σ H xs us Q I r fin
  obtain ⟨a, kvs, ks, ex, dRd, keyS, fin⟩ := fin
  subst ex
  obtain ⟨u, eu, rx⟩ := vals1 r
  subst eu
  cases rx
  obtain ⟨big, nsm, prs, rl, dct⟩ := dk_rd I.hok dRd
  obtain ⟨epo, dAt⟩ := dct.dictAt
  have keyE : prs.map (·.1) = ks.map Sum.inl := rl.keys.symm.trans keyS
  have lenE : prs.length = ks.length := by
    have e := congrArg List.length keyE
    rw [List.length_map, List.length_map] at e
    exact e
  have fit : prs.length ≤ sizeLine := by rw [← rl.length]; exact big
  refine Calls.call_function_entry PyProof.Rows.kind_sorted PyProof.Rows.plain_sorted PyProof.Rows.entry_sorted (PyProof.Rows.args_sorted1 _) ?_
  unfold Builtin.«sorted»
  refine wpAny_bind (m := checkCount "sorted" 1 1 _) (wpAny_pure ?_)
  refine wpAny_bind (PySem.W.kdu_collect (A := X.A.in1) (PySem.W.kdl_dict (knd := mixKind X.prog X.w) (kvs := prs) (ep := epo) nsm) (I.ok.hd hcalm) dAt fit fun hp1 tok got old gotE => ?_)
  have gotL : got.toList.length = ks.length := by rw [Array.length_toList, gotE.1, lenE]
  have isI : IntsAre got.toList ks := ints_each gotL fun j v e => by
    obtain ⟨k, x, e1, e2⟩ := gotE.2 j v (by rw [← Array.getElem?_toList]; exact e)
    have pk : (prs.map (·.1))[j]? = some k := by rw [List.getElem?_map, e1]; rfl
    rw [keyE, List.getElem?_map] at pk
    cases pj : ks[j]? with
    | none => rw [pj] at pk; cases pk
    | some y =>
      rw [pj] at pk
      have pe : Sum.inl y = k := Option.some.inj pk
      subst pe
      rcases keyIs_shape (show keyIs (Sum.inl y) v = true from e2) with ⟨i, t, qk, qv⟩ | ⟨big, t, qk, qv⟩
      · cases qk
        exact ⟨y, t, rfl, qv⟩
      · cases qk
  have J : Inv X pins σ H { s with heap := hp1, toks := tok } := I.kept old
  refine wpAny_bind (wpAny_newList ?_ (by rw [gotL, ← lenE]; exact fit))
  have fresh0 : (hp1.push (seqObj "list" got.toList.toArray 0)).get? hp1.objs.size = some (seqObj "list" got.toList.toArray 0) := Heap.get?_push_size _ rfl
  show wpAny _ _ _ _ _ { s with heap := hp1.push (seqObj "list" got.toList.toArray 0), toks := tok }
  refine wpAny_bind (wpAny_holding (wpAny_call_entry PyProof.Rows.slot_list_sort ⟨_, fresh0, rfl⟩ PyProof.Rows.entry_list_sort
    (SrtO.list_sort_ord (s := { s with heap := hp1.push (seqObj "list" got.toList.toArray 0), toks := tok }) SrtO.swo_int fresh0 (by rw [gotL, ← lenE]; exact fit) (fun h2 => SrtO.ints_sortable isI h2) fun res sr sb => ⟨_, rfl, ?_⟩) (PyProof.Rows.args_list_sort _)))
  obtain ⟨r1, r2, r3⟩ := SrtO.ints_out isI sr sb
  obtain ⟨epB, dAt2⟩ := PyProof.Rows.sortedHeap_at (vs := got.toList) (out := res.toArray) fresh0
  have fitB : ((res.map SrtO.iv).map V.int).length ≤ sizeLine := by
    rw [List.length_map, r2.length_eq, ← lenE]
    exact fit
  refine wpAny_pure ⟨_, rfl, .ref hp1.objs.size, upd H hp1.objs.size (.lst ((res.map SrtO.iv).map V.int)), J.laid (t' := tok) (fun b u e => ?_) (Nat.le_refl _)
    (show ObjOk X.prog X.w _ _ _ (.lst ((res.map SrtO.iv).map V.int)) from ⟨fitB, res, epB, vals_of_ints r1, dAt2⟩), rfl, fin _ _ r2 r3 (J.hok.fresh (Nat.le_refl _))⟩
  have low : b < hp1.objs.size := Heap.lt_size e
  rw [PyProof.Rows.sortedHeap_old (Nat.ne_of_lt low) (by rw [size_push']; exact Nat.lt_succ_of_lt low)]
  exact Heap.get?_push_of_some _ e
end My

set_option maxRecDepth 100000
set_option maxHeartbeats 1000000
/-! The end of a law whose own def shows dicts: the module table is tracked, so that no new thing is it. For laws without tables. -/
namespace Gd
open PySem PySem.Spec PyProof.Rows L2 GxR
/-- the module table: it is there -/
def smU : HO := .ext fun h => ∃ o, h.get? sysModules = some o
def SmAt (H : Hp) : Prop := ∃ o, H sysModules = some (.frz o smU)
theorem SmAt.same {H H' : Hp} (h : SmAt H) (s : Same H H') : SmAt H' := let ⟨o, e⟩ := h; ⟨o, s _ _ e⟩
theorem smU_ne {u : HO} (n : ∀ φ, u ≠ .ext φ) : smU ≠ u := fun z => n _ z.symm
open Classical in
noncomputable def hs0 (K : PySem.W.Frag) (a : Addr) (vs : List Value) (ns : List Int) (o1 : Obj) : Hp := fun b =>
  if b = sysModules then some (.frz o1 smU) else if b = a ∧ K.lookup a = none then some (.frz (scriptO vs) (.lst (ns.map V.int))) else none
theorem hs0_inv {K : PySem.W.Frag} {a b : Addr} {vs : List Value} {ns : List Int} {o1 : Obj} {u : HO} (h : hs0 K a vs ns o1 b = some u) :
    (b = sysModules ∧ u = .frz o1 smU) ∨ (b = a ∧ K.lookup a = none ∧ u = .frz (scriptO vs) (.lst (ns.map V.int))) := by
  unfold hs0 at h
  split at h
  · rename_i c
    exact .inl ⟨c, (Option.some.inj h).symm⟩
  · split at h
    · rename_i c
      exact .inr ⟨c.1, c.2, (Option.some.inj h).symm⟩
    · cases h
section
variable {P : Program} {w : World} {K : PySem.W.Frag} {mg mb : Str → Option Value} {CX : CXT} {k : Nat} {fa a : Addr} {fd : FuncData} {x : Str} {sp : Sp} {s1 : Shared} {vs : List Value} {ns : List Int}
theorem law_scall (KX : K.In s1.heap) (nsG : s1.heap.Ns mainGlobals mg) (nsB : s1.heap.Ns builtinsNs mb) (isB : ∀ x : Str, x ≠ "__name__" → mb x = bootBuiltins x) (lim : s1.heap.NoLimit) (gens : s1.gens = #[])
    (hsm : ∃ o, s1.heap.get? sysModules = some o) (k1 : K.lookup sysModules = none) (na : a ≠ sysModules) (ha : s1.heap.get? a = some (scriptO vs)) (hi : IntsAre vs ns) (hl : ns.length ≤ sizeLine) (hr : Room k callerA)
    (F : ∀ base : Heap, K.In base → base.Ns mainGlobals mg → GOk P w K mg base CX k fa fd [x] sp) (hbind : ∀ (s : Shared) (u : Value), BindsTo s fd ⟨[u], []⟩ [(x, u)])
    (hsp : ∀ H : Hp, SmAt H → SqL K H a (ns.map V.int) → sp [.ref a] H (fun v _ => v = .bl true) fun _ _ _ => False) (hCX : ∀ H e s', CX [] H s1 (fun _ _ _ => False) e s' → False) :
    codeAny (model P w) callerA (.call (.ref fa) ⟨[.ref a], []⟩) (fun r s' => r = .ok (.ret (.bool true)) ∧ OldK s1.heap s'.heap ∧ s'.os = s1.os ∧ AllBare s'.gens) s1 := by
  have rv := vals_ints hi
  have hlen := hi.length
  obtain ⟨o1, ho1⟩ := hsm
  let H := hs0 K a vs ns o1
  have off : ∀ {b : Addr}, b ≠ sysModules → b ≠ a → H b = none := fun {b} n1 n2 => by
    cases q : H b with
    | none => rfl
    | some u =>
      rcases hs0_inv q with ⟨e, _⟩ | ⟨e, _⟩
      · exact absurd e n1
      · exact absurd e n2
  have dic : ∀ {b : Addr} {m : Str → Option Value}, b ≠ sysModules → s1.heap.Ns b m → (hidT s1.heap H).Ns b m := by
    rintro b m n1 ⟨o, es, ep, e, d, rest⟩
    refine ⟨o, es, ep, hidT_get e (off n1 ?_), d, rest⟩
    rintro rfl
    rw [ha] at e
    obtain rfl := Option.some.inj e
    cases d
  have KH : K.In (hidT s1.heap H) := by
    intro b o e
    refine hidT_get (KX b o e) ?_
    cases q : H b with
    | none => rfl
    | some u =>
      rcases hs0_inv q with ⟨rfl, _⟩ | ⟨rfl, z, _⟩
      · rw [k1] at e
        cases e
      · rw [z] at e
        cases e
  have limH : (hidT s1.heap H).NoLimit := let ⟨mc, h1, h2⟩ := lim; ⟨mc, dic (by decide) h1, h2⟩
  have M : L2.Mod K mg (hidT s1.heap H) := ⟨KH, dic (by decide) nsG, ⟨mb, dic (by decide) nsB, isB⟩, limH⟩
  have hS : SqL K H a (ns.map V.int) := by
    cases q : K.lookup a with
    | none => exact .inl (.inr ⟨scriptO vs, (if_neg na).trans (if_pos ⟨rfl, q⟩)⟩)
    | some o =>
      have e := KX a o q
      rw [ha] at e
      obtain rfl := Option.some.inj e
      exact .inr ⟨_, vs.toArray, _, q, rfl, rfl, rfl, by rw [List.size_toArray, hlen]; exact hl, by simpa using rv⟩
  have hok : HOk P w H s1.heap := by
    intro b u q
    rcases hs0_inv q with ⟨rfl, rfl⟩ | ⟨rfl, _, rfl⟩
    · exact ⟨ho1, ⟨_, ho1⟩, ⟨_, ho1⟩, fun h1 h2 ⟨o, z⟩ k => ⟨o, k _ z⟩⟩
    · exact ⟨ha, by rw [List.length_map]; exact hl, vs, _, rv, ha⟩
  have e0 : Env0 P w K mg (hidT s1.heap H) callerA [] s1 H :=
    ⟨rfl, M, fun b o e => of_hidT e, Nat.le_of_eq (hidT_size _ _), trivial, (fun b hb => by cases (show b ∈ ([] : List Addr) from hb)), hok, .of_eq gens⟩
  refine codeAny_mono ((F _ KH (dic (by decide) nsG)).go callerA [] s1 H ⟨[.ref a], []⟩ [.ref a] [.ref a] (fun v _ => v = .bl true) (fun _ _ _ => False) rfl hr e0 (hbind s1 (.ref a)) (.cons rfl .nil) (hsp H ⟨o1, if_pos rfl⟩ hS)) ?_
  intro r z h
  match r, h with
  | .ok .next, h => exact h.elim
  | .ok .brk, h => exact h.elim
  | .ok .cont, h => exact h.elim
  | .error e, h => exact (hCX H e z h).elim
  | .ok (.ret u), h =>
    obtain ⟨v, G, os, bare, un, hokG, rv', q⟩ := h
    obtain rfl : v = .bl true := q
    obtain rfl : u = Value.bool true := rv'
    have plain : ∀ b o, s1.heap.get? b = some o → z.heap.get? b = some o := by
      intro b o e
      cases q : H b with
      | none => exact un.keep b o e q (fun y => by cases (show b ∈ ([] : List Addr) from y)) (by simp)
      | some y =>
        rcases hs0_inv q with ⟨rfl, rfl⟩ | ⟨rfl, _, rfl⟩
        · obtain ⟨e2, _⟩ := hokG sysModules _ (un.frzs _ _ _ q)
          rw [ho1] at e
          exact Option.some.inj e ▸ e2
        · obtain ⟨e2, _⟩ := hokG b _ (un.frzs b _ _ q)
          rw [ha] at e
          exact Option.some.inj e ▸ e2
    exact ⟨rfl, ⟨fun b o e => .inl (plain b o e), fun b o e => ⟨o, plain b o e⟩⟩, os, bare⟩
end
/-- what is to be known of such a law -/
def GLawS (l : PySem.W.OpenLaw) (w : World) (K : PySem.W.Frag) (CX : CXT) (k n : Nat) (x : Str) (mg : Str → Option Value) (fa : Addr) : Prop :=
  ∃ (fd : FuncData) (sp : Sp), K.lookup sysModules = none ∧ (∀ (s : Shared) (u : Value), BindsTo s fd ⟨[u], []⟩ [(x, u)]) ∧
    (∀ (H : Hp) (a : Addr) (ns : List Int), ns.length ≤ n → SmAt H → SqL K H a (ns.map V.int) → sp [.ref a] H (fun v _ => v = .bl true) fun _ _ _ => False) ∧
    ∀ base : Heap, K.In base → base.Ns mainGlobals mg → GOk l.prog w K mg base CX k fa fd [x] sp
open PySem.W in
theorem walk_s {l : PySem.W.OpenLaw} {n k : Nat} {q : Program} {loose : List Str} {XP : (Str → Option Value) → Heap → Prop} {YP : World → Heap → Prop} {d : DefRec} {K : Params → PySem.W.Frag} {CX : World → CXT} {x : Str}
    (no : importsNone q = true) (hn : l.most = some n) (small : n ≤ sizeLine) (hdf : d.params.defaults = []) (hr : Room k callerA) (hY : ∀ (w : World) (h : Heap), YP w h → (K w.params).In h)
    (F : ∀ (w : World) (mg : Str → Option Value) (fa : Addr) (h : Heap), YP w h → (K w.params).In h → h.Ns mainGlobals mg → mg d.name = some (.ref fa) → GLawS l w (K w.params) (CX w) k n x mg fa)
    (hCX : ∀ (w : World) (H : Hp) (s : Shared) (e : Value) (s' : Shared), CX w [] H s (fun _ _ _ => False) e s' → False) :
    PySem.W.WalkO q loose XP YP l.row.toRowW d [] (fun f vs => PySem.call f vs) := by
  intro w s0 s1 mg mb G Y fa o pm cd doc dV kV ho hd hcd hD hmg hg args vals as pre lay rd well low
  obtain ⟨a, vs, ns, rfl, rfl, hobj, hints, hlen⟩ := Att.script_of hn pre well
  have na : a ≠ sysModules := by
    cases rd with
    | cons r1 r2 =>
      cases r1 with
      | list _ _ _ _ => exact beq_eq_false_iff_ne.mp (low a (by simp))
  have KX := hY w _ Y
  obtain ⟨fd, sp, k1, hb, hsp, hF⟩ := F w mg fa _ Y KX G.T.g hmg
  have run := law_scall KX G.T.g G.T.b G.T.builtins G.T.nolimit hg (let ⟨_, ⟨o, _, _, e, _⟩, _⟩ := (G.T.seer no).mods; ⟨o, e⟩) k1 na hobj hints (Nat.le_trans hlen small) hr hF hb (fun H a1 a2 => hsp H a ns hlen a1 a2) (fun H e s' => hCX w H s1 e s')
  refine enter_call (codeAny_mono run ?_)
  rintro r z ⟨rfl, old, os, bare⟩
  exact ⟨.inl ⟨.bool true, .bool true, [], rfl, fun _ => rfl, .bool true, Att.post_true l _, fun _ => ⟨List.Pairwise.nil, fun _ m => (nomatch m)⟩⟩, old, os, bare⟩
end Gd

set_option maxRecDepth 100000
set_option maxHeartbeats 1000000
/-! Data with dicts: what repr asks of them. -/
namespace My
open PySem PySem.Spec PyProof.Rows L2 GxR Gd TL
theorem same_new {H : Hp} {p : Addr} {o : HO} (n : H p = none) : Same H (upd H p o) := fun b u e => by rw [upd_ne (ne_of_none e n)]; exact e
theorem sameT {K : PySem.W.Frag} {H H' : Hp} {a : Addr} {xs : List V} (s : Same H H') (h : SqT K H a xs) : SqT K H' a xs := by
  rcases h with (h | ⟨o, h⟩) | h
  · exact .inl (.inl (s _ _ h))
  · exact .inl (.inr ⟨o, s _ _ h⟩)
  · exact .inr h
def keyD : Key → PyData
  | .inl i => .int i
  | .inr x => .str x
mutual
/-- v is the data d, dicts too -/
inductive Dq (K : PySem.W.Frag) (H : Hp) : V → PyData → Prop
  | non : Dq K H .non .none
  | bl (b : Bool) : Dq K H (.bl b) (.bool b)
  | int (i : Int) : Dq K H (.int i) (.int i)
  | str (z : Str) : Dq K H (.str z) (.str z)
  | lst {a : Addr} {xs : List V} {ds : List PyData} (e : SqL K H a xs) (h : DqAll K H xs ds) : Dq K H (.ref a) (.list ds)
  | tup {a : Addr} {xs : List V} {ds : List PyData} (e : SqT K H a xs) (h : DqAll K H xs ds) : Dq K H (.ref a) (.tuple ds)
  | dic {a : Addr} {kvs : List (Key × V)} {ds : List (PyData × PyData)} (e : H a = some (.dK kvs)) (h : DqKv K H kvs ds) : Dq K H (.ref a) (.dict ds)
inductive DqAll (K : PySem.W.Frag) (H : Hp) : List V → List PyData → Prop
  | nil : DqAll K H [] []
  | cons {v : V} {vs : List V} {d : PyData} {ds : List PyData} (h : Dq K H v d) (t : DqAll K H vs ds) : DqAll K H (v :: vs) (d :: ds)
inductive DqKv (K : PySem.W.Frag) (H : Hp) : List (Key × V) → List (PyData × PyData) → Prop
  | nil : DqKv K H [] []
  | cons {k : Key} {v : V} {r : List (Key × V)} {d : PyData} {ds : List (PyData × PyData)} (h : Dq K H v d) (t : DqKv K H r ds) : DqKv K H ((k, v) :: r) ((keyD k, d) :: ds)
end
mutual
theorem Dq.of {K : PySem.W.Frag} {H : Hp} : ∀ {v : V} {d : PyData}, Dp K H v d → Dq K H v d
  | _, _, .non => .non
  | _, _, .bl b => .bl b
  | _, _, .int i => .int i
  | _, _, .str z => .str z
  | _, _, .lst e h => .lst e (DqAll.of h)
  | _, _, .tup e h => .tup e (DqAll.of h)
theorem DqAll.of {K : PySem.W.Frag} {H : Hp} : ∀ {vs : List V} {ds : List PyData}, DpAll K H vs ds → DqAll K H vs ds
  | _, _, .nil => .nil
  | _, _, .cons h t => .cons (Dq.of h) (DqAll.of t)
end
mutual
theorem Dq.same {K : PySem.W.Frag} {H H' : Hp} (s : Same H H') : ∀ {v : V} {d : PyData}, Dq K H v d → Dq K H' v d
  | _, _, .non => .non
  | _, _, .bl b => .bl b
  | _, _, .int i => .int i
  | _, _, .str z => .str z
  | _, _, .lst e h => .lst (s.seq e) (DqAll.same s h)
  | _, _, .tup e h => .tup (sameT s e) (DqAll.same s h)
  | _, _, .dic e h => .dic (s _ _ e) (DqKv.same s h)
theorem DqAll.same {K : PySem.W.Frag} {H H' : Hp} (s : Same H H') : ∀ {vs : List V} {ds : List PyData}, DqAll K H vs ds → DqAll K H' vs ds
  | _, _, .nil => .nil
  | _, _, .cons h t => .cons (Dq.same s h) (DqAll.same s t)
theorem DqKv.same {K : PySem.W.Frag} {H H' : Hp} (s : Same H H') : ∀ {kvs : List (Key × V)} {ds : List (PyData × PyData)}, DqKv K H kvs ds → DqKv K H' kvs ds
  | _, _, .nil => .nil
  | _, _, .cons h t => .cons (Dq.same s h) (DqKv.same s t)
end
theorem keyD_reads {h : Heap} {k : Key} {v : Value} (e : keyIs k v = true) : Reads h v (keyD k) [] := by
  rcases keyIs_shape e with ⟨i, t, rfl, rfl⟩ | ⟨x, t, rfl, rfl⟩
  · exact .int i t
  · exact .str x t
section
variable {X : Cx} {pins : List (Addr × Obj)} {σ : L2.St} {H : Hp} {s : Shared}
theorem ne_sm {K : PySem.W.Frag} {H : Hp} {a : Addr} {xs : List V} (n : K.lookup sysModules = none) (sm : SmAt H) (h : SqL K H a xs) : a ≠ sysModules := by
  rintro rfl
  obtain ⟨o, e⟩ := sm
  rcases h with (h | ⟨u, h⟩) | ⟨u, _, _, h, _⟩
  · rw [e] at h
    cases h
  · rw [e] at h
    cases h
  · rw [n] at h
    cases h
mutual
theorem Dq.reads (n : X.K.lookup sysModules = none) (sm : SmAt H) (I : Inv X pins σ H s) : ∀ (d : PyData) (v : V) (u : Value), Dq X.K H v d → RelV v u → ∃ as, Reads s.heap u d as ∧ sysModules ∉ as
  | .none, _, _, h, r => by
    cases h
    cases r
    exact ⟨_, .none, by simp⟩
  | .bool b, _, _, h, r => by
    cases h
    cases r
    exact ⟨_, .bool b, by simp⟩
  | .int i, _, _, h, r => by
    cases h
    obtain ⟨t, rfl⟩ := r
    exact ⟨_, .int i t, by simp⟩
  | .str z, _, _, h, r => by
    cases h
    obtain ⟨t, rfl⟩ := r
    exact ⟨_, .str z t, by simp⟩
  | .list ds, _, _, h, r => by
    cases h with
    | lst hs ha =>
      cases r
      obtain ⟨its, rv, ⟨o, m, ho, hc, _, hd⟩, _⟩ := I.list hs
      obtain ⟨as, hr, no⟩ := Dq.readsAll n sm I ds _ its ha rv
      exact ⟨_, .list ho hc hd hr, fun m => (List.mem_cons.mp m).elim (ne_sm n sm hs).symm no⟩
  | .tuple ds, _, _, h, r => by
    cases h with
    | tup hs ha =>
      cases r
      obtain ⟨its, rv, ⟨o, ho, hc, m, hd⟩, _⟩ := I.tuple hs
      obtain ⟨as, hr, no⟩ := Dq.readsAll n sm I ds _ its ha rv
      exact ⟨_, .tuple ho hc hd hr, no⟩
  | .dict ds, _, _, h, r => by
    cases h with
    | dic e hk =>
      cases r
      obtain ⟨_, ne, vs, rel, o, es, ep, ho, hx, hd, _, hp, _⟩ := dk_of I.hok e
      obtain ⟨as, bs, h1, h2, n1, n2⟩ := Dq.readsKv n sm I ds _ vs es.toList hk rel hp
      refine ⟨_, .dict ho hx.1 hd h1 h2, fun m => ?_⟩
      rw [List.cons_append] at m
      rcases List.mem_cons.mp m with m | m
      · exact (beq_eq_false_iff_ne.mp ne) m.symm
      · exact (List.mem_append.mp m).elim n1 n2
theorem Dq.readsAll (n : X.K.lookup sysModules = none) (sm : SmAt H) (I : Inv X pins σ H s) : ∀ (ds : List PyData) (vs : List V) (us : List Value), DqAll X.K H vs ds → Vals vs us → ∃ as, ReadsAll s.heap us ds as ∧ sysModules ∉ as
  | [], _, _, h, r => by
    cases h
    cases r
    exact ⟨_, .nil, by simp⟩
  | d :: ds, _, _, h, r => by
    cases h with
    | cons h1 h2 =>
      cases r with
      | cons r1 r2 =>
        obtain ⟨as, q1, n1⟩ := Dq.reads n sm I d _ _ h1 r1
        obtain ⟨bs, q2, n2⟩ := Dq.readsAll n sm I ds _ _ h2 r2
        exact ⟨_, .cons q1 q2, fun m => (List.mem_append.mp m).elim n1 n2⟩
theorem Dq.readsKv (n : X.K.lookup sysModules = none) (sm : SmAt H) (I : Inv X pins σ H s) : ∀ (ds : List (PyData × PyData)) (kvs : List (Key × V)) (vs : List (Key × Value)) (es : List DictEntry), DqKv X.K H kvs ds → KV kvs vs → Pairs (mixKind X.prog X.w) es vs →
    ∃ as bs, ReadsAll s.heap (es.map (·.key)) (ds.map (·.1)) as ∧ ReadsAll s.heap (es.map (·.val)) (ds.map (·.2)) bs ∧ sysModules ∉ as ∧ sysModules ∉ bs
  | [], _, _, _, h, r, p => by
    cases h
    cases r
    cases p
    exact ⟨_, _, .nil, .nil, by simp, by simp⟩
  | (_, d) :: ds, _, _, _, h, r, p => by
    cases h with
    | cons h1 h2 =>
      cases r with
      | cons r1 r2 =>
        cases p with
        | cons p1 p2 p3 =>
          obtain ⟨as, q1, n1⟩ := Dq.reads n sm I d _ _ h1 r1.2
          obtain ⟨bs, cs, q2, q3, n2, n3⟩ := Dq.readsKv n sm I ds _ _ _ h2 r2 p3
          refine ⟨_, _, .cons (keyD_reads ?_) q2, .cons ?_ q3, by simpa using n2, fun m => (List.mem_append.mp m).elim n1 n3⟩
          · have e := r1.1
            dsimp only at e ⊢
            rw [e]
            exact p1
          · dsimp only
            rw [p2]
            exact q1
end
end
/-- repr(v), v data with dicts -/
def rReprQ (K : PySem.W.Frag) : List V → Hp → VK → Prop := fun xs H Q => ∃ v d, xs = [v] ∧ SmAt H ∧ Dq K H v d ∧ d.showable = true ∧ d.depth ≤ 100 ∧ d.shown.length ≤ sizeLine ∧ Q (.str d.shown) H
theorem call_reprQ {X : Cx} {k : Nat} (n : X.K.lookup sysModules = none) (gd : X.A.guards = some []) (hr : Room k X.A) : CallR X (.builtin "repr") (rReprQ X.K) := by
  rintro pins s σ H xs us Q I r ⟨v, d, rfl, sm, dq, hs, hdep, hsz, q⟩
  have whole : ∀ {a : Addr} {as : List Addr}, Reads s.heap (.ref a) d as → sysModules ∉ as → wpAny (model X.prog X.w) X.A (call (.builtin "repr") [.ref a]) (EP X pins σ Q) X.xe s := by
    intro a as rd no
    have hun := hr.un
    exact repr_of_reads' rd hs (fun _ => no) gd (by omega) (fun _ _ z => z) (fun h' u tk hk => ⟨.str _, H, I.kept hk, ⟨_, rfl⟩, q⟩) hsz
  cases dq with
  | non => exact call_repr gd hr pins s σ H _ us Q I r ⟨_, _, rfl, .non, hs, hdep, hsz, q⟩
  | bl b => exact call_repr gd hr pins s σ H _ us Q I r ⟨_, _, rfl, .bl b, hs, hdep, hsz, q⟩
  | int i => exact call_repr gd hr pins s σ H _ us Q I r ⟨_, _, rfl, .int i, hs, hdep, hsz, q⟩
  | str z => exact call_repr gd hr pins s σ H _ us Q I r ⟨_, _, rfl, .str z, hs, hdep, hsz, q⟩
  | lst e h =>
    obtain ⟨as, rd, no⟩ := Dq.reads n sm I _ _ us.head! (.lst e h) (by cases r with | cons a b => cases b; exact a)
    cases r with
    | cons a b => cases b; cases a; exact whole rd no
  | tup e h =>
    obtain ⟨as, rd, no⟩ := Dq.reads n sm I _ _ us.head! (.tup e h) (by cases r with | cons a b => cases b; exact a)
    cases r with
    | cons a b => cases b; cases a; exact whole rd no
  | dic e h =>
    obtain ⟨as, rd, no⟩ := Dq.reads n sm I _ _ us.head! (.dic e h) (by cases r with | cons a b => cases b; exact a)
    cases r with
    | cons a b => cases b; cases a; exact whole rd no
end My

set_option maxRecDepth 100000
set_option maxHeartbeats 400000
namespace K11
open PySem PySem.Spec PyProof.Rows L2 GxR Gd TL My
/-! ### a wire -/
theorem ws_ : ¬ (("_words" : Str) = "_sent") := by decide +kernel
theorem sw_ : ¬ (("_sent" : Str) = "_words") := by decide +kernel
def wf (d : Addr) (s : Int) : List (Str × V) := putF "_sent" (.int s) (putF "_words" (.ref d) [])
theorem wf_eq (d : Addr) (s : Int) : wf d s = ([("_words", V.ref d), ("_sent", V.int s)] : List (Str × V)) := by
  show (if ("_words" : Str) = "_sent" then [(("_words" : Str), V.int s)] else (("_words" : Str), V.ref d) :: putF "_sent" (V.int s) []) = _
  rw [if_neg ws_]
  rfl
theorem wf_words (d : Addr) (s : Int) : (wf d s).lookup ("_words" : Str) = some (.ref d) := by
  unfold wf
  rw [lookup_putF, if_neg ws_, lookup_putF, if_pos rfl]
theorem wf_sent (d : Addr) (s : Int) : (wf d s).lookup ("_sent" : Str) = some (.int s) := by
  unfold wf
  rw [lookup_putF, if_pos rfl]
theorem wf_no (d : Addr) (s : Int) {m : Str} (h1 : ¬ m = "_sent") (h2 : ¬ m = "_words") : (wf d s).lookup m = none := by
  unfold wf
  rw [lookup_putF, if_neg h1, lookup_putF, if_neg h2]
  rfl
theorem wf_put_sent (d : Addr) (s u : Int) : putF "_sent" (.int u) (wf d s) = wf d u := by
  rw [wf_eq, wf_eq]
  show (if ("_words" : Str) = "_sent" then _ else (("_words" : Str), V.ref d) :: (if ("_sent" : Str) = "_sent" then [(("_sent" : Str), V.int u)] else _)) = _
  rw [if_neg ws_, if_pos rfl]
theorem wf_put_words (d e : Addr) (s : Int) : putF "_words" (.ref e) (wf d s) = wf e s := by
  rw [wf_eq, wf_eq]
  show (if ("_words" : Str) = "_words" then (("_words" : Str), V.ref e) :: [(("_sent" : Str), V.int s)] else _) = _
  rw [if_pos rfl]
theorem wf_len (d : Addr) (s : Int) : (wf d s).length < 1000 := by
  rw [wf_eq]
  show 2 < 1000
  decide
structure WirT (K : PySem.W.Frag) (C : Addr) : Prop where
  cl : Cls K C
  nw : NoAttr K C "_words"
  ns : NoAttr K C "_sent"
/-- a method of the class -/
structure Me (K : PySem.W.Frag) (C : Addr) (m qual : Str) (st : Stmt) (ps : List Str) (f : Addr) (fd : FuncData) : Prop where
  fn : Fun K m qual st f fd
  m : Meth K C m f
  b : Binds K fd ps []
section
variable {P : Program} {w : World} {K : PySem.W.Frag} {mg : Str → Option Value} {base : Heap} {C : Addr}
abbrev s_init : Stmt := inClass (top 6) 0
theorem sc_init : FnScope ["self"] ["self"] (defScope s_init) := ⟨rfl, rfl, rfl, by decide +kernel, rfl, by decide +kernel, by decide +kernel⟩
def spInit (C : Addr) : Sp := fun vs H Q _ => ∃ c dx, vs = [.ref c] ∧ H c = some (.ins C dx []) ∧
  ∀ d H', H d = none → (∀ x, x ≠ c → x ≠ d → H' x = H x) → H' c = some (.ins C dx (wf d 0)) → H' d = some (.dK []) → Q .non H'
theorem ok_init {f : Addr} {fd : FuncData} (F : Fun K "__init__" "Wire.__init__" s_init f fd) (TC : WirT K C) : FnOk P w K mg base CX0 1 f fd ["self"] (spInit C) := by
  refine F.ok sc_init (fun vs H Q E h => ?_) (fun cdv A outer s H vs Q E hr h => ?_)
  · obtain ⟨c, dx, rfl, _⟩ := h
    rfl
  · obtain ⟨c, dx, rfl, e, k⟩ := h
    refine ⟨_, pss_cons (ps_fld (pv 0) pe_dnewK rfl)
      (pss_one (ps_fld (pv 0) pe_int rfl)), ?_⟩
    intro d nd
    have ncd : c ≠ d := ne_of_none e nd
    refine ⟨_, rfl, c, C, dx, _, rfl, (by rw [upd_ne ncd]; exact e), TC.cl, TC.nw, (by decide), ?_⟩
    refine ⟨_, rfl, c, C, dx, _, rfl, upd_same, TC.cl, TC.ns, (by show 1 < 1000; decide), ?_⟩
    refine k d _ nd (fun x x1 x2 => ?_) upd_same ?_
    · rw [upd_ne x1, upd_ne x1, upd_ne x2]
    · rw [upd_ne ncd.symm, upd_ne ncd.symm, upd_same]
abbrev s_send : Stmt := inClass (top 6) 1
theorem sc_send : FnScope ["self", "word", "number"] ["self", "word"] (defScope s_send) := ⟨rfl, rfl, rfl, by decide +kernel, rfl, by decide +kernel, by decide +kernel⟩
def spSend (C : Addr) : Sp := fun vs H Q _ => ∃ c dx d s kvs v, vs = [.ref c, v] ∧ H c = some (.ins C dx (wf d s)) ∧ H d = some (.dK kvs) ∧ kvs.length < sizeLine ∧
  Q (.int s) (upd (upd H d (.dK (putK kvs (Sum.inl s) v))) c (.ins C dx (wf d (s + 1))))
theorem ok_send {f : Addr} {fd : FuncData} (F : Fun K "send" "Wire.send" s_send f fd) (TC : WirT K C) : FnOk P w K mg base CX0 1 f fd ["self", "word"] (spSend C) := by
  refine F.ok sc_send (fun vs H Q E h => ?_) (fun cdv A outer s H vs Q E hr h => ?_)
  · obtain ⟨c, dx, d, s, kvs, v, rfl, _⟩ := h
    rfl
  · obtain ⟨c, dx, d, s, kvs, v, rfl, e, ed, hl, k⟩ := h
    refine ⟨_, pss_cons (ps_set (i := 2) sc_send.nd rfl (Or.inl rfl) (pe_fld (pv 0) rfl))
      (pss_cons (ps_dput (hu_of hr) (pe_fld (pv 0) rfl) (pv 2) (pv 1) rfl)
      (pss_cons (ps_fldaug (pv 0) pe_int in_add)
      (pss_one (ps_ret (pv 2))))), ?_⟩
    have ncd : c ≠ d := ne_of e ed (by intro z; cases z)
    refine ⟨_, rfl, c, C, dx, _, _, rfl, e, TC.cl, TC.ns, wf_sent d s, ?_⟩
    refine ⟨_, rfl, _, rfl, c, C, dx, _, _, rfl, e, TC.cl, TC.nw, wf_words d s, _, rfl, d, _, rfl, DPut.k (k := Sum.inl s) ed hl, ?_⟩
    have e2 : upd H d (.dK (putK kvs (Sum.inl s) v)) c = some (.ins C dx (wf d s)) := by rw [upd_ne ncd]; exact e
    refine ⟨_, rfl, c, C, dx, _, _, rfl, e2, TC.cl, TC.ns, wf_sent d s, _, _, rfl, rfl, _, _, e2, wf_len _ _, ?_⟩
    rw [wf_put_sent]
    exact ⟨_, rfl, k⟩
abbrev s_word : Stmt := inClass (top 6) 2
theorem sc_word : FnScope ["self", "number"] ["self", "number"] (defScope s_word) := ⟨rfl, rfl, rfl, by decide +kernel, rfl, by decide +kernel, by decide +kernel⟩
def spWord (C : Addr) : Sp := fun vs H Q _ => ∃ c dx d s kvs n v, vs = [.ref c, .int n] ∧ H c = some (.ins C dx (wf d s)) ∧ H d = some (.dK kvs) ∧ 0 ≤ n ∧ n ≤ s ∧ valV kvs (Sum.inl n) = some v ∧ Q v H
theorem ok_word {f fW : Addr} {fd fdW : FuncData} (F : Fun K "word" "Wire.word" s_word f fd) (TC : WirT K C)
    (Nis_whole : Fn K mg "is_whole" sWhole ["thing", "low", "high"] fW fdW) (Gis_whole : FnOk P w K mg base CX0 1 fW fdW ["thing", "low", "high"] spWhole) : FnOk P w K mg base CX0 2 f fd ["self", "number"] (spWord C) := by
  refine F.ok sc_word (fun vs H Q E h => ?_) (fun cdv A outer s H vs Q E hr h => ?_)
  · obtain ⟨c, dx, d, s, kvs, n, v, rfl, _⟩ := h
    rfl
  · obtain ⟨c, dx, d, s, kvs, n, v, rfl, e, ed, n0, n1, hv, k⟩ := h
    refine ⟨_, pss_cons (ps_if (PW.pt (pw_or (pt_not (pt_val (pe_call Gis_whole (hr.mono (by decide)) (by rfl) Nis_whole.g Nis_whole.kp Nis_whole.b .nil pass0 (pa_cons (pv 1) (pa_cons pe_int (pa_cons (pe_fld (pv 0) rfl) pa_nil)))))) (pw_or1 (pt_cmp (pc_dnotin (hu_of hr) (pv 1) (pe_fld (pv 0) rfl)))))) (pss_one ps_never) pss_nil)
      (pss_one (ps_ret (pe_dget (hu_of hr) (pe_fld (pv 0) rfl) (pv 1) (fun _ _ => rfl)))), ?_⟩
    refine ⟨_, rfl, _, rfl, c, C, dx, _, _, rfl, e, TC.cl, TC.ns, wf_sent d s, .int n, 0, s, rfl, .int n, ?_⟩
    rw [show wh 0 s (.int n) = true by simp [wh, n0, n1]]
    refine ⟨_, rfl, iteF ?_⟩
    refine ⟨_, rfl, _, rfl, c, C, dx, _, _, rfl, e, TC.cl, TC.nw, wf_words d s, d, _, rfl, DGet.k (k := Sum.inl n) ed, _, rfl, ?_⟩
    rw [hv]
    refine iteF ?_
    exact ⟨_, rfl, c, C, dx, _, _, rfl, e, TC.cl, TC.nw, wf_words d s, _, rfl, d, _, rfl, hv ▸ DGet.k (k := Sum.inl n) ed, k⟩
abbrev s_get : Stmt := inClass (top 6) 3
theorem sc_get : FnScope ["self", "number", "word"] ["self", "number"] (defScope s_get) := ⟨rfl, rfl, rfl, by decide +kernel, rfl, by decide +kernel, by decide +kernel⟩
def spGet (C : Addr) : Sp := fun vs H Q _ => ∃ c dx d s kvs n v, vs = [.ref c, .int n] ∧ H c = some (.ins C dx (wf d s)) ∧ H d = some (.dK kvs) ∧ 0 ≤ n ∧ n ≤ s ∧ valV kvs (Sum.inl n) = some v ∧ Q v (upd H d (.dK (dropK kvs (Sum.inl n))))
theorem ok_get {f fW : Addr} {fd fdW : FuncData} (F : Fun K "get" "Wire.get" s_get f fd) (TC : WirT K C)
    (Mword : Me K C "word" "Wire.word" s_word ["self", "number"] fW fdW) (Gword : FnOk P w K mg base CX0 2 fW fdW ["self", "number"] (spWord C)) : FnOk P w K mg base CX0 3 f fd ["self", "number"] (spGet C) := by
  refine F.ok sc_get (fun vs H Q E h => ?_) (fun cdv A outer s H vs Q E hr h => ?_)
  · obtain ⟨c, dx, d, s, kvs, n, v, rfl, _⟩ := h
    rfl
  · obtain ⟨c, dx, d, s, kvs, n, v, rfl, e, ed, n0, n1, hv, k⟩ := h
    refine ⟨_, pss_cons (ps_set (i := 2) sc_get.nd rfl (Or.inl rfl) (pe_meth (pv 0) TC.cl Mword.m Gword (hr.mono (by decide)) Mword.b .nil pass0 (pa_cons (pv 1) pa_nil)))
      (pss_cons (ps_ddel (pe_fld (pv 0) rfl) (pv 1))
      (pss_one (ps_ret (pv 2)))), ?_⟩
    refine ⟨_, rfl, c, dx, _, rfl, e, wf_no _ _ (by decide +kernel) (by decide +kernel), _, rfl, c, dx, d, s, kvs, n, v, rfl, e, ed, n0, n1, hv, ?_⟩
    refine ⟨_, rfl, c, C, dx, _, _, rfl, e, TC.cl, TC.nw, wf_words d s, _, rfl, d, kvs, Sum.inl n, rfl, ed, rfl, (by rw [hv]; rfl), ?_⟩
    exact ⟨_, rfl, k⟩
abbrev s_lose : Stmt := inClass (top 6) 4
theorem sc_lose : FnScope ["self", "number"] ["self", "number"] (defScope s_lose) := ⟨rfl, rfl, rfl, by decide +kernel, rfl, by decide +kernel, by decide +kernel⟩
def spLose (C : Addr) : Sp := fun vs H Q _ => ∃ c dx d s kvs n v, vs = [.ref c, .int n] ∧ H c = some (.ins C dx (wf d s)) ∧ H d = some (.dK kvs) ∧ 0 ≤ n ∧ n ≤ s ∧ valV kvs (Sum.inl n) = some v ∧ Q .non (upd H d (.dK (dropK kvs (Sum.inl n))))
theorem ok_lose {f fG : Addr} {fd fdG : FuncData} (F : Fun K "lose" "Wire.lose" s_lose f fd) (TC : WirT K C)
    (Mget : Me K C "get" "Wire.get" s_get ["self", "number"] fG fdG) (Gget : FnOk P w K mg base CX0 3 fG fdG ["self", "number"] (spGet C)) : FnOk P w K mg base CX0 4 f fd ["self", "number"] (spLose C) := by
  refine F.ok sc_lose (fun vs H Q E h => ?_) (fun cdv A outer s H vs Q E hr h => ?_)
  · obtain ⟨c, dx, d, s, kvs, n, v, rfl, _⟩ := h
    rfl
  · obtain ⟨c, dx, d, s, kvs, n, v, rfl, e, ed, n0, n1, hv, k⟩ := h
    refine ⟨_, pss_one (ps_expr (pe_meth (pv 0) TC.cl Mget.m Gget (hr.mono (by decide)) Mget.b .nil pass0 (pa_cons (pv 1) pa_nil))), ?_⟩
    exact ⟨_, rfl, c, dx, _, rfl, e, wf_no _ _ (by decide +kernel) (by decide +kernel), _, rfl, c, dx, d, s, kvs, n, v, rfl, e, ed, n0, n1, hv, k⟩
abbrev s_under_way : Stmt := inClass (top 6) 5
theorem sc_under_way : FnScope ["self"] ["self"] (defScope s_under_way) := ⟨rfl, rfl, rfl, by decide +kernel, rfl, by decide +kernel, by decide +kernel⟩
def spUnder (C : Addr) : Sp := fun vs H Q _ => ∃ c dx d s kvs, vs = [.ref c] ∧ H c = some (.ins C dx (wf d s)) ∧ H d = some (.dK kvs) ∧
  ∀ (H' : Hp) (p : Addr) (ts : List Addr), Same H H' → H p = none → (∀ t ∈ ts, H t = none) → p ∉ ts → H' p = some (.lst (ts.map V.ref)) → Paired (fun (t : Addr) (q : Key × V) => H' t = some (.tup [kV q.1, q.2])) ts kvs → Q (.ref p) H'
theorem ok_under {f : Addr} {fd : FuncData} (F : Fun K "under_way" "Wire.under_way" s_under_way f fd) (T : Txt mg) (TC : WirT K C) : FnOk P w K mg base CX0 1 f fd ["self"] (spUnder C) := by
  refine F.ok sc_under_way (fun vs H Q E h => ?_) (fun cdv A outer s H vs Q E hr h => ?_)
  · obtain ⟨c, dx, d, s, kvs, rfl, _⟩ := h
    rfl
  · obtain ⟨c, dx, d, s, kvs, rfl, e, ed, k⟩ := h
    refine ⟨_, pss_one (ps_ret (LiI.pe_listItems rfl (pe_fld (pv 0) rfl) (by rfl) T.list_ (by decide +kernel))), ?_⟩
    refine ⟨_, rfl, c, C, dx, _, _, rfl, e, TC.cl, TC.nw, wf_words d s, d, kvs, rfl, ed, ?_⟩
    exact k
abbrev s_sent : Stmt := inClass (top 6) 6
theorem sc_sent : FnScope ["self"] ["self"] (defScope s_sent) := ⟨rfl, rfl, rfl, by decide +kernel, rfl, by decide +kernel, by decide +kernel⟩
def spSent (C : Addr) : Sp := fun vs H Q _ => ∃ c dx d s, vs = [.ref c] ∧ H c = some (.ins C dx (wf d s)) ∧ Q (.int s) H
theorem ok_sent {f : Addr} {fd : FuncData} (F : Fun K "sent" "Wire.sent" s_sent f fd) (TC : WirT K C) : FnOk P w K mg base CX0 1 f fd ["self"] (spSent C) := by
  refine F.ok sc_sent (fun vs H Q E h => ?_) (fun cdv A outer s H vs Q E hr h => ?_)
  · obtain ⟨c, dx, d, s, rfl, _⟩ := h
    rfl
  · obtain ⟨c, dx, d, s, rfl, e, k⟩ := h
    refine ⟨_, pss_one (ps_ret (pe_fld (pv 0) rfl)), ?_⟩
    exact ⟨_, rfl, c, C, dx, _, _, rfl, e, TC.cl, TC.ns, wf_sent d s, k⟩
abbrev s_twin : Stmt := inClass (top 6) 7
theorem sc_twin : FnScope ["self", "other"] ["self"] (defScope s_twin) := ⟨rfl, rfl, rfl, by decide +kernel, rfl, by decide +kernel, by decide +kernel⟩
def spTwin (C : Addr) : Sp := fun vs H Q _ => ∃ c dx d s kvs, vs = [.ref c] ∧ H c = some (.ins C dx (wf d s)) ∧ H d = some (.dK kvs) ∧
  ∀ x dy y H', H x = none → H y = none → Same H H' → H' x = some (.ins C dy (wf y s)) → H' y = some (.dK kvs) → Q (.ref x) H'
theorem ok_twin {f fI : Addr} {fd fdI : FuncData} (F : Fun K "twin" "Wire.twin" s_twin f fd) (T : Txt mg) (TC : WirT K C) (gWire : mg "Wire" = some (.ref C)) (MWire : Mk K C fI)
    (GWire : FnOk P w K mg base CX0 1 fI fdI ["self"] (spInit C)) (bWire : Binds K fdI ["self"] []) : FnOk P w K mg base CX0 3 f fd ["self"] (spTwin C) := by
  refine F.ok sc_twin (fun vs H Q E h => ?_) (fun cdv A outer s H vs Q E hr h => ?_)
  · obtain ⟨c, dx, d, s, kvs, rfl, _⟩ := h
    rfl
  · obtain ⟨c, dx, d, s, kvs, rfl, e, ed, k⟩ := h
    refine ⟨_, pss_cons (ps_set (i := 1) sc_twin.nd rfl (Or.inl rfl) (pe_make0 MWire GWire (hr.mono (by decide)) (by rfl) gWire bWire .nil pass0))
      (pss_cons (ps_fld (pv 1) (pe_callTy call_dictD (by rfl) T.dict_ (by decide +kernel) (pa_cons (pe_fld (pv 0) rfl) pa_nil)) rfl)
      (pss_cons (ps_fld (pv 1) (pe_fld (pv 0) rfl) rfl)
      (pss_one (ps_ret (pv 1))))), ?_⟩
    intro x dy nx ny ne
    refine ⟨x, dy, rfl, upd_same, fun d2 H2 nd2 off2 e2 f2 => ⟨rfl, ?_⟩⟩
    have nd2x : d2 ≠ x := (ne_of_none upd_same nd2).symm
    have nd2' : H d2 = none := by
      rw [upd_ne nd2x] at nd2
      by_cases q : d2 = dy
      · rw [q, upd_same] at nd2
        cases nd2
      · rw [upd_ne q] at nd2
        exact nd2
    have up : Same H H2 := fun z o h => by
      have z1 := ne_of_none h nx
      have z2 := ne_of_none h ny
      rw [off2 z z1 (ne_of_none h nd2'), upd_ne z1, upd_ne z2]
      exact h
    refine ⟨_, rfl, c, C, dx, _, _, rfl, up _ _ e, TC.cl, TC.nw, wf_words d s, d, kvs, rfl, .inl (up _ _ ed), fun y ny2 => ?_⟩
    have nyx : y ≠ x := (ne_of_none e2 ny2).symm
    have e3 : upd H2 y (.dK kvs) x = some (.ins C dy (wf d2 0)) := by rw [upd_ne nyx.symm]; exact e2
    refine ⟨_, rfl, x, C, dy, _, rfl, e3, TC.cl, TC.nw, wf_len _ _, ?_⟩
    rw [wf_put_words]
    have up3 : Same H (upd (upd H2 y (.dK kvs)) x (.ins C dy (wf y 0))) := fun z o h => by
      rw [upd_ne (ne_of_none h nx), upd_ne (ne_of_none (up _ _ h) ny2)]
      exact up _ _ h
    refine ⟨_, rfl, c, C, dx, _, _, rfl, up3 _ _ e, TC.cl, TC.ns, wf_sent d s, _, rfl, x, C, dy, _, rfl, upd_same, TC.cl, TC.ns, wf_len _ _, ?_⟩
    rw [wf_put_sent]
    refine ⟨_, rfl, k x dy y _ nx (up.free ny2) (fun z o h => ?_) upd_same ?_⟩
    · rw [upd_ne (ne_of_none h nx)]
      exact up3 _ _ h
    · rw [upd_ne nyx, upd_ne nyx, upd_same]
end
end K11

set_option maxRecDepth 100000
set_option maxHeartbeats 400000
namespace K11
open PySem PySem.Spec PyProof.Rows L2 GxR Gd TL My
theorem ixL {X : Cx} {K : PySem.W.Frag} (h : X.K = K) : IxR X (rIxL K) := h ▸ ix_list
theorem same_nt {H H' : Hp} (s : Same H H') : Nt H H' := fun c o _ h => s c o h
theorem lt_line (i : Nat) (h : i ≤ 1000) : i < sizeLine := Nat.lt_of_le_of_lt h (by decide)
/-- a part of a word -/
def Part (x : V) : Prop := (∃ i, x = .int i ∧ i.natAbs < 10 ^ 21) ∨ ∃ z, x = .str z ∧ Good z ∧ z.length ≤ 22
def partD : V → PyData
  | .int i => .int i
  | .str z => .str z
  | _ => .none
theorem Part.dp {K : PySem.W.Frag} {H : Hp} {x : V} (h : Part x) : Dp K H x (partD x) := by
  rcases h with ⟨i, rfl, _⟩ | ⟨z, rfl, _⟩
  · exact .int i
  · exact .str z
theorem Part.sb {x : V} (h : Part x) : Sb (partD x) 0 110 := by
  rcases h with ⟨i, rfl, h⟩ | ⟨z, rfl, g, h⟩
  · exact sb_int (Nat.lt_of_lt_of_le h (by decide))
  · exact (sb_str g h).mono (Nat.le_refl _) (by decide)
theorem dp_parts {K : PySem.W.Frag} {H : Hp} : ∀ {xs : List V}, (∀ x ∈ xs, Part x) → DpAll K H xs (xs.map partD)
  | [], _ => .nil
  | x :: r, h => .cons (h x List.mem_cons_self).dp (dp_parts fun y hy => h y (List.mem_cons_of_mem _ hy))
def page : Str := Str.ofString " !\"#$&'()*+,-./0123456789:;<=>?@ABCDEFGHIJKLMNOPQRSTUVWXYZ[\\]^_`abcdefghijklmnopqrstuvwxyz{|}~"
theorem page_len : page.cps.toList.length = 94 := by decide +kernel
theorem page_good : ∀ c ∈ page.cps.toList, c < 1114112 := by decide +kernel
theorem page_at {i : Int} (h0 : 0 ≤ i) (h1 : i < 94) : ∃ c, c < 1114112 ∧ atI page.cps.toList i = some c := by
  obtain ⟨v, hv, e⟩ := atI_ex (xs := page.cps.toList) h0 (by rw [page_len]; exact h1)
  exact ⟨v, page_good v hv, e⟩
section
variable {P : Program} {w : World} {K : PySem.W.Frag} {mg : Str → Option Value} {base : Heap} {C : Addr}
abbrev s_law_part : Stmt := top 11
theorem sc_law_part : FnScope ["_law_box_here", "_law_page", "_law_way", "_law_number", "_law_k"] ["_law_box_here"] (defScope s_law_part) := ⟨rfl, rfl, rfl, by decide +kernel, rfl, by decide +kernel, by decide +kernel⟩
def spPart : Sp := fun vs H Q _ => ∃ (b : Addr) (n : Int), vs = [.ref b] ∧ Bx b n H ∧ n ≤ 90000 ∧ ∀ x H', Part x → KB b H H' → Bx b (n + 12) H' → Q x H'
theorem ok_part {f fT : Addr} {fd fdT : FuncData} (F : Fun K "_law_part" "_law_part" s_law_part f fd) (T : Txt mg)
    (Nlaw_take : Fn K mg "_law_take" sTake ["_law_box_here", "_law_many"] fT fdT) (Glaw_take : FnOk P w K mg base CX0 1 fT fdT ["_law_box_here", "_law_many"] spTake) : FnOk P w K mg base CX0 2 f fd ["_law_box_here"] spPart := by
  refine F.ok sc_law_part (fun vs H Q E h => ?_) (fun cdv A outer s H vs Q E hr h => ?_)
  · obtain ⟨b, n, rfl, _⟩ := h
    rfl
  · obtain ⟨b, n, rfl, hB, hn, k⟩ := h
    refine ⟨_, pss_cons (ps_set (i := 1) sc_law_part.nd rfl (Or.inr rfl) pe_str)
      (pss_cons (ps_set (i := 2) sc_law_part.nd rfl (Or.inr rfl) (pe_call Glaw_take (hr.mono (by decide)) (by rfl) Nlaw_take.g Nlaw_take.kp Nlaw_take.b .nil pass0 (pa_cons (pv 0) (pa_cons pe_int pa_nil))))
      (pss_cons (ps_set (i := 3) sc_law_part.nd rfl (Or.inl rfl) (pe_ix (ixL (K := K) rfl) (pe_lst (pa_cons (pe_call Glaw_take (hr.mono (by decide)) (by rfl) Nlaw_take.g Nlaw_take.kp Nlaw_take.b .nil pass0 (pa_cons (pv 0) (pa_cons pe_int pa_nil))) (pa_cons (pe_op op_sub (pe_call Glaw_take (hr.mono (by decide)) (by rfl) Nlaw_take.g Nlaw_take.kp Nlaw_take.b .nil pass0 (pa_cons (pv 0) (pa_cons (pe_op op_pow pe_int pe_int) pa_nil))) (pe_op op_pow pe_int pe_int)) pa_nil))) (pe_call Glaw_take (hr.mono (by decide)) (by rfl) Nlaw_take.g Nlaw_take.kp Nlaw_take.b .nil pass0 (pa_cons (pv 0) (pa_cons pe_int pa_nil))) (fun _ _ => rfl)))
      (pss_cons (ps_if (pt_cmpR op_gt (pv 2) pe_int (nomark _)) (pss_one (ps_ret (pe_ix (ixL (K := K) rfl) (pe_lst (pa_cons (pv 3) (pa_cons (pe_callTy call_str_int (by rfl) T.str_ (by decide +kernel) (pa_cons (pv 3) pa_nil)) pa_nil))) (pe_op op_sub (pv 2) pe_int) (fun _ _ => rfl)))) pss_nil)
      (pss_one (ps_ret (pe_join pe_str (pe_lc (own := [("_law_k", 4)]) (g := gName 4) (tt := tYes) rfl sc_law_part.nd (pi_range1 (by rfl) T.range_ (pa_cons (pe_call Glaw_take (hr.mono (by decide)) (by rfl) Nlaw_take.g Nlaw_take.kp Nlaw_take.b .nil pass0 (pa_cons (pv 0) (pa_cons pe_int pa_nil))) pa_nil)) (blkOk_by (own := [("_law_k", 4)]) (N := ["_law_box_here", "_law_page", "_law_way", "_law_number", "_law_k"]) (sc := defScope s_law_part) (by decide +kernel)) (fun _ _ _ _ _ => (pg_name (i := 4) sc_law_part.nd rfl (Or.inl rfl))) (fun _ _ _ _ _ => pts_nil) (fun _ _ _ _ _ => (pe_ix ix_str (pv 1) (pe_op op_add (pe_ix (ixL (K := K) rfl) (pe_lst (pa_cons pe_int (pa_cons pe_int pa_nil))) (pv 2) (fun _ _ => rfl)) (pe_call Glaw_take (hr.mono (by decide)) (by rfl) Nlaw_take.g Nlaw_take.kp Nlaw_take.b .nil pass0 (pa_cons (pv 0) (pa_cons (pe_ix (ixL (K := K) rfl) (pe_lst (pa_cons pe_int (pa_cons pe_int pa_nil))) (pv 2) (fun _ _ => rfl)) pa_nil)))) (fun _ _ => rfl)))))))))), ?_⟩
    refine ⟨_, rfl, b, 4, n, rfl, hB, by omega, by decide, by decide, fun way H1 w0 w1 off1 B1 => ?_⟩
    refine ⟨_, rfl, b, 3, n + 1, rfl, B1, by omega, by decide, by decide, fun d2 H2 a0 a1 off2 B2 => ?_⟩
    refine ⟨_, rfl, _, _, rfl, rfl, ⟨by decide, by decide, by decide⟩, b, 10 ^ (20 : Int).toNat, n + 1 + 1, rfl, B2, by omega, by decide, by decide, fun d3 H3 c0 c1 off3 B3 => ?_⟩
    refine ⟨_, _, rfl, rfl, ⟨by decide, by decide, by decide⟩, _, _, rfl, rfl, (by show 2 ≤ sizeLine; decide), fun L hL => ?_⟩
    have kA : KB b H (upd H3 L (.lst [.int d2, .int (d3 - 10 ^ (19 : Int).toNat)])) := (((KB.off off1).trans (KB.off off2)).trans (KB.off off3)).trans (KB.alloc hL)
    have nLb : L ≠ b := B3.fresh hL
    have eL : upd H3 L (.lst [.int d2, .int (d3 - 10 ^ (19 : Int).toNat)]) L = some (.lst [.int d2, .int (d3 - 10 ^ (19 : Int).toNat)]) := upd_same
    have BA := B3.alloc (o := .lst [.int d2, .int (d3 - 10 ^ (19 : Int).toNat)]) hL
    generalize upd H3 L (.lst [.int d2, .int (d3 - 10 ^ (19 : Int).toNat)]) = H4 at kA eL BA ⊢
    clear off1 off2 off3 B1 B2 B3 hL
    refine ⟨_, rfl, b, 2, _, rfl, BA, by omega, by decide, by decide, fun d4 H5 e0 e1 off5 B5 => ?_⟩
    have eL5 := (off5 L nLb).trans eL
    have k5 : KB b H H5 := kA.trans (KB.off off5)
    obtain ⟨v, hv, ev⟩ := atI_ex (xs := [V.int d2, .int (d3 - 10 ^ (19 : Int).toNat)]) e0 e1
    obtain ⟨i, rfl, hi⟩ : ∃ i, v = .int i ∧ i.natAbs < 10 ^ 21 := by
      simp only [List.mem_cons, List.not_mem_nil, or_false] at hv
      have q19 : ((10 : Int) ^ (19 : Int).toNat) = 10 ^ 19 := rfl
      have q20 : ((10 : Int) ^ (20 : Int).toNat) = 10 ^ 20 := rfl
      rw [q20] at c1
      rcases hv with rfl | rfl
      · exact ⟨_, rfl, by omega⟩
      · rw [q19]
        exact ⟨_, rfl, by omega⟩
    refine ⟨L, _, _, _, rfl, rfl, SqL.of eL5, ev, ?_⟩
    refine ⟨_, rfl, _, _, rfl, rfl, _, rfl, ite2 (fun c => ?_) (fun c => ?_)⟩
    · have c' : way > 1 := of_decide_eq_true c
      refine ⟨_, rfl, _, rfl, i, rfl, ?_, (by show 2 ≤ sizeLine; decide), fun M hM => ?_⟩
      · have h2 : i.natAbs < 2 ^ 100 := Nat.lt_of_lt_of_le hi (by decide)
        by_cases z : i.natAbs = 0
        · rw [z]; decide
        · have := (Nat.log2_lt z).mpr h2
          omega
      obtain ⟨y, hy, ey⟩ := atI_ex (xs := [V.int i, .str (Str.ofString (toString i))]) (d := way - 2) (by omega) (by show way - 2 < 2; omega)
      refine ⟨_, rfl, _, _, rfl, rfl, M, _, _, _, rfl, rfl, SqL.of upd_same, ey, ?_⟩
      refine k _ _ ?_ (k5.trans (KB.alloc hM)) ((B5.alloc hM).mono (by omega))
      simp only [List.mem_cons, List.not_mem_nil, or_false] at hy
      rcases hy with rfl | rfl
      · exact .inl ⟨_, rfl, hi⟩
      · refine .inr ⟨_, rfl, good_int i, ?_⟩
        rw [PySem.ofString_length]
        exact int_text_length_le10 (k := 21) (by decide) hi
    · have c' : way = 0 ∨ way = 1 := by
        have : ¬ way > 1 := fun z => c (decide_eq_true z)
        omega
      clear hv ev eL eL5 kA BA hi
      refine ⟨⟨_, rfl⟩, _, rfl, b, 7, _, rfl, B5, by omega, by decide, by decide, fun r H6 r0 r1 off6 B6 => ?_⟩
      obtain ⟨R, rfl⟩ := Int.eq_ofNat_of_zero_le r0
      have k6 : KB b H H6 := k5.trans (KB.off off6)
      refine ⟨R, rfl, by omega, by omega, fun D hD => ?_⟩
      have nDb : D ≠ b := B6.fresh hD
      refine lc_range (lo := 0) (n := R) (fun i H' => ∃ cs : List Nat, H' D = some (.lst ((cs.map fun c => (⟨#[c]⟩ : Str)).map V.str)) ∧ cs.length = i ∧ (∀ c ∈ cs, c < 1114112) ∧ KB b H6 H' ∧ Bx b (n + 5 + i) H')
        ⟨[], upd_same, rfl, by simp, KB.alloc hD, (B6.alloc hD).mono (by simp; omega)⟩ ?_ ?_
      · rintro i H7 hi ⟨cs, hz, hl, h1, k7, B7⟩
        refine ⟨rfl, lcY ?_⟩
        refine ⟨_, rfl, (by show 2 ≤ sizeLine; decide), fun M hM => ?_⟩
        obtain ⟨lo, elo, hlo, hi1, elo2, hhi⟩ : ∃ lo : Int, atI [V.int 64, .int 0] way = some (.int lo) ∧ 0 ≤ lo ∧ ∃ hi1 : Int, atI [V.int 26, .int 94] way = some (.int hi1) ∧ lo + hi1 ≤ 94 ∧ 0 < hi1 ∧ hi1 ≤ 94 := by
          rcases c' with rfl | rfl
          · exact ⟨64, rfl, by decide, 26, rfl, by decide, by decide, by decide⟩
          · exact ⟨0, rfl, by decide, 94, rfl, by decide, by decide, by decide⟩
        refine ⟨_, rfl, M, _, _, _, rfl, rfl, SqL.of upd_same, elo, ?_⟩
        refine ⟨_, rfl, (by show 2 ≤ sizeLine; decide), fun M2 hM2 => ?_⟩
        refine ⟨_, rfl, M2, _, _, _, rfl, rfl, SqL.of upd_same, elo2, ?_⟩
        have kk : KB b H7 (upd (upd H7 M (.lst [.int 64, .int 0])) M2 (.lst [.int 26, .int 94])) := (KB.alloc hM).trans (KB.alloc hM2)
        refine ⟨b, hi1, _, rfl, (B7.alloc hM).alloc hM2, by omega, hhi.2.1, dec9000 hhi.2.1 (by omega), fun d8 H8 g0 g1 off8 B8 => ?_⟩
        have k8 := kk.trans (KB.off off8)
        obtain ⟨cc, hcc, ecc⟩ := page_at (i := lo + d8) (by omega) (by omega)
        have hz8 := k8 D _ nDb hz
        refine ⟨_, _, rfl, rfl, page, _, cc, rfl, rfl, by decide +kernel, ecc, _, hz8, ?_, cs ++ [cc], ?_, ?_, ?_, ?_, ?_⟩
        · rw [List.length_map, List.length_map, hl]
          exact lt_line i (by omega)
        · rw [upd_same, List.map_append, List.map_append]
          rfl
        · rw [List.length_append, hl]
          rfl
        · intro z hz
          rcases List.mem_append.mp hz with q | q
          · exact h1 z q
          · rw [List.mem_singleton.mp q]
            exact hcc
        · intro c o nc e
          rw [upd_ne (ne_of_none e hD)]
          exact (k7.trans k8) c o nc e
        · exact (B8.put nDb).mono (by push_cast; omega)
      · rintro H7 ⟨cs, hz, hl, h1, k7, B7⟩
        have hlen := join_len (Str.ofString "") (cs.map fun c => (⟨#[c]⟩ : Str))
        have e0 : (Str.ofString "").length = 0 := by decide +kernel
        have hs := sum_ones (cs.map fun c => (⟨#[c]⟩ : Str)) (fun z hz => by obtain ⟨c, _, rfl⟩ := List.mem_map.mp hz; exact Nat.le_refl 1)
        rw [List.length_map] at hs hlen
        rw [e0] at hlen
        have gg : Good (Txt.join (Str.ofString "") (cs.map fun c => (⟨#[c]⟩ : Str))) := good_join (good_of "") fun z hz => by
          obtain ⟨c, hc, rfl⟩ := List.mem_map.mp hz
          intro d hd
          have e : d = c := by simpa using hd
          rw [e]
          exact h1 c hc
        refine ⟨_, D, _, rfl, rfl, .inl (SqL.of hz), ?_, ?_⟩
        · rw [List.length_map, e0]
          omega
        · exact k _ _ (.inr ⟨_, rfl, gg, by omega⟩) (k6.trans k7) (B7.mono (by omega))
abbrev s_law_word : Stmt := top 12
theorem sc_law_word : FnScope ["_law_box_here", "_law_k"] ["_law_box_here"] (defScope s_law_word) := ⟨rfl, rfl, rfl, by decide +kernel, rfl, by decide +kernel, by decide +kernel⟩
/-- a word that is sent -/
def Wrd (H : Hp) (e : Addr × List V) : Prop := H e.1 = some (.tup e.2) ∧ e.2.length ≤ 6 ∧ ∀ x ∈ e.2, Part x
def spWrd : Sp := fun vs H Q _ => ∃ (b : Addr) (n : Int), vs = [.ref b] ∧ Bx b n H ∧ n ≤ 80000 ∧ ∀ (t : Addr) (xs : List V) (H' : Hp), Wrd H' (t, xs) → KB b H H' → H t = none → Bx b (n + 73) H' → Q (.ref t) H'
theorem ok_wrd {f fT fP : Addr} {fd fdT fdP : FuncData} (F : Fun K "_law_word" "_law_word" s_law_word f fd) (T : Txt mg)
    (Nlaw_take : Fn K mg "_law_take" sTake ["_law_box_here", "_law_many"] fT fdT) (Glaw_take : FnOk P w K mg base CX0 1 fT fdT ["_law_box_here", "_law_many"] spTake)
    (Nlaw_part : Fn K mg "_law_part" s_law_part ["_law_box_here"] fP fdP) (Glaw_part : FnOk P w K mg base CX0 2 fP fdP ["_law_box_here"] spPart) : FnOk P w K mg base CX0 3 f fd ["_law_box_here"] spWrd := by
  refine F.ok sc_law_word (fun vs H Q E h => ?_) (fun cdv A outer s H vs Q E hr h => ?_)
  · obtain ⟨b, n, rfl, _⟩ := h
    rfl
  · obtain ⟨b, n, rfl, hB, hn, k⟩ := h
    refine ⟨_, pss_one (ps_ret (pe_callTy call_tuple_of (by rfl) T.tuple_ (by decide +kernel) (pa_cons (pe_lc (own := [("_law_k", 1)]) (g := gName 1) (tt := tYes) rfl sc_law_word.nd (pi_range1 (by rfl) T.range_ (pa_cons (pe_call Glaw_take (hr.mono (by decide)) (by rfl) Nlaw_take.g Nlaw_take.kp Nlaw_take.b .nil pass0 (pa_cons (pv 0) (pa_cons pe_int pa_nil))) pa_nil)) (blkOk_by (own := [("_law_k", 1)]) (N := ["_law_box_here", "_law_k"]) (sc := defScope s_law_word) (by decide +kernel)) (fun _ _ _ _ _ => (pg_name (i := 1) sc_law_word.nd rfl (Or.inl rfl))) (fun _ _ _ _ _ => pts_nil) (fun _ _ _ _ _ => (pe_call Glaw_part (hr.mono (by decide)) (by rfl) Nlaw_part.g Nlaw_part.kp Nlaw_part.b .nil pass0 (pa_cons (pv 0) pa_nil)))) pa_nil))), ?_⟩
    refine ⟨_, rfl, b, 7, n, rfl, hB, by omega, by decide, by decide, fun r H1 r0 r1 off1 B1 => ?_⟩
    obtain ⟨R, rfl⟩ := Int.eq_ofNat_of_zero_le r0
    refine ⟨R, rfl, by omega, by omega, fun D hD => ?_⟩
    have nDb : D ≠ b := B1.fresh hD
    refine lc_range (lo := 0) (n := R) (fun i H' => ∃ xs : List V, H' D = some (.lst xs) ∧ xs.length = i ∧ (∀ x ∈ xs, Part x) ∧ KB b H1 H' ∧ Bx b (n + 1 + 12 * i) H')
      ⟨[], upd_same, rfl, by simp, KB.alloc hD, (B1.alloc hD).mono (by simp)⟩ ?_ ?_
    · rintro i H2 hi ⟨xs, hz, hl, h1, k2, B2⟩
      refine ⟨rfl, lcY ?_⟩
      refine ⟨_, rfl, b, _, rfl, B2, by omega, fun x H3 px k3 B3 => ?_⟩
      refine ⟨_, k3 D _ nDb hz, ?_, xs ++ [x], upd_same, ?_, ?_, ?_, ?_⟩
      · rw [hl]
        exact lt_line i (by omega)
      · rw [List.length_append, hl]
        rfl
      · intro z hz
        rcases List.mem_append.mp hz with q | q
        · exact h1 z q
        · rw [List.mem_singleton.mp q]
          exact px
      · intro c o nc e
        rw [upd_ne (ne_of_none e hD)]
        exact (k2.trans k3) c o nc e
      · exact (B3.put nDb).mono (by push_cast; omega)
    · rintro H2 ⟨xs, hz, hl, h1, k2, B2⟩
      refine ⟨D, xs, rfl, .inl ⟨SqL.of hz, fun t ht => ?_⟩⟩
      have k12 : KB b H H2 := (KB.off off1).trans k2
      refine k t xs _ ⟨upd_same, by show xs.length ≤ 6; omega, h1⟩ (k12.trans (KB.alloc ht)) ?_ ((B2.alloc ht).mono (by omega))
      cases q : H t with
      | none => rfl
      | some o =>
        have := k12 t o (B2.fresh ht) q
        rw [ht] at this
        cases this
end
end K11

set_option maxRecDepth 100000
set_option maxHeartbeats 400000
namespace K11
open PySem PySem.Spec PyProof.Rows L2 GxR Gd TL My
/-! ### entries -/
abbrev En := Int × Addr × List V
def entK (e : En) : Key × V := (Sum.inl e.1, .ref e.2.1)
def enD (e : En) : PyData := .tuple [.int e.1, .tuple (e.2.2.map partD)]
structure Es (H : Hp) (s : Int) (es : List En) : Prop where
  asc : es.Pairwise fun a b => a.1 < b.1
  bd : ∀ e ∈ es, 0 ≤ e.1 ∧ e.1 < s
  wr : ∀ e ∈ es, Wrd H e.2
  sn : (es.length : Int) ≤ s
theorem Es.same {H H' : Hp} {s : Int} {es : List En} (h : Es H s es) (k : ∀ x ys, H x = some (.tup ys) → H' x = some (.tup ys)) : Es H' s es :=
  ⟨h.asc, h.bd, fun e he => ⟨k _ _ (h.wr e he).1, (h.wr e he).2⟩, h.sn⟩
theorem val_ent {n : Int} : ∀ {es : List En} {e : En}, es.Pairwise (fun a b => a.1 < b.1) → e ∈ es → e.1 = n → valV (es.map entK) (Sum.inl n) = some (.ref e.2.1)
  | a :: r, e, hp, he, hn => by
    rw [List.pairwise_cons] at hp
    rcases List.mem_cons.mp he with rfl | he
    · rw [List.map_cons, valV_pos (by rw [← hn]; rfl)]
      rfl
    · have := hp.1 e he
      rw [List.map_cons, valV_neg (by intro z; have : a.1 = n := Sum.inl.inj z; omega)]
      exact val_ent hp.2 he hn
theorem val_none {n : Int} : ∀ {es : List En}, (∀ e ∈ es, e.1 ≠ n) → valV (es.map entK) (Sum.inl n) = none
  | [], _ => rfl
  | a :: r, h => by
    rw [List.map_cons, valV_neg (by intro z; exact h a List.mem_cons_self (Sum.inl.inj z))]
    exact val_none fun e he => h e (List.mem_cons_of_mem _ he)
theorem drop_ent (n : Int) (es : List En) : dropK (es.map entK) (Sum.inl n) = (es.filter fun e => decide (e.1 ≠ n)).map entK := by
  unfold dropK
  rw [List.filter_map]
  congr 1
  refine List.filter_congr fun e _ => ?_
  show decide ((Sum.inl e.1 : Key) ≠ Sum.inl n) = _
  simp
theorem Es.drop {H : Hp} {s : Int} {es : List En} (h : Es H s es) (n : Int) : Es H s (es.filter fun e => decide (e.1 ≠ n)) :=
  ⟨h.asc.filter _, fun e he => h.bd e (List.mem_filter.mp he).1, fun e he => h.wr e ((List.mem_filter.mp he).1), by have := List.length_filter_le (fun e : En => decide (e.1 ≠ n)) es; have := h.sn; omega⟩
theorem put_ent {H : Hp} {s : Int} {es : List En} (h : Es H s es) (t : Addr) (xs : List V) : putK (es.map entK) (Sum.inl s) (.ref t) = (es ++ [(s, t, xs)]).map entK := by
  rw [putK_new _ (val_none fun e he z => by have := (h.bd e he).2; omega), List.map_append]
  rfl
theorem Es.put {H : Hp} {s : Int} {es : List En} (h : Es H s es) {t : Addr} {xs : List V} (w : Wrd H (t, xs)) (s0 : 0 ≤ s) : Es H (s + 1) (es ++ [(s, t, xs)]) := by
  refine ⟨?_, ?_, ?_, ?_⟩
  · rw [List.pairwise_append]
    refine ⟨h.asc, List.pairwise_singleton _ _, fun a ha b hb => ?_⟩
    obtain rfl := List.mem_singleton.mp hb
    exact (h.bd a ha).2
  · intro e he
    rcases List.mem_append.mp he with q | q
    · have := h.bd e q
      omega
    · obtain rfl := List.mem_singleton.mp q
      show 0 ≤ s ∧ s < s + 1
      omega
  · intro e he
    rcases List.mem_append.mp he with q | q
    · exact h.wr e q
    · obtain rfl := List.mem_singleton.mp q
      exact w
  · have := h.sn
    rw [List.length_append]
    simp
    omega
theorem en_dp {K : PySem.W.Frag} {H : Hp} : ∀ {ts : List Addr} {es : List En}, Paired (fun t (e : En) => H t = some (.tup [.int e.1, .ref e.2.1])) ts es → (∀ e ∈ es, Wrd H e.2) → DpAll K H (ts.map V.ref) (es.map enD)
  | _, _, .nil, _ => .nil
  | _, _, .cons a r, h => .cons (.tup (SqT.of a) (.cons (.int _) (.cons (.tup (SqT.of (h _ List.mem_cons_self).1) (dp_parts (h _ List.mem_cons_self).2.2)) .nil))) (en_dp r fun e he => h e (List.mem_cons_of_mem _ he))
theorem en_kv {H : Hp} : ∀ {ts : List Addr} {es : List En}, Paired (fun (t : Addr) (q : Key × V) => H t = some (.tup [kV q.1, q.2])) ts (es.map entK) → Paired (fun t (e : En) => H t = some (.tup [.int e.1, .ref e.2.1])) ts es
  | [], [], _ => .nil
  | _ :: _, _ :: _, .cons a r => .cons a (en_kv r)
theorem paired_mono {α β : Type} {F G : α → β → Prop} (h : ∀ a b, F a b → G a b) : ∀ {xs : List α} {ys : List β}, Paired F xs ys → Paired G xs ys
  | _, _, .nil => .nil
  | _, _, .cons a r => .cons (h _ _ a) (paired_mono h r)
theorem wrd_sb {H : Hp} {e : Addr × List V} (h : Wrd H e) : Sb (.tuple (e.2.map partD)) 1 666 := (sb_tuple (k := 0) (m := 110) (fun d hd => by
  obtain ⟨x, hx, rfl⟩ := List.mem_map.mp hd
  exact (h.2.2 x hx).sb)).mono (Nat.le_refl _) (by have := h.2.1; rw [List.length_map]; omega)
theorem es_sb {H : Hp} {s : Int} {es : List En} (h : Es H s es) (hs : s ≤ 290) : Sb (.list (es.map enD)) 3 390000 := (sb_list (k := 2) (m := 1334) (fun d hd => by
  obtain ⟨e, he, rfl⟩ := List.mem_map.mp hd
  have b := h.bd e he
  refine (sb_tuple (k := 1) (m := 666) (ds := [.int e.1, .tuple (e.2.2.map partD)]) (fun d hd => ?_)).mono (Nat.le_refl _) (by simp)
  simp only [List.mem_cons, List.not_mem_nil, or_false] at hd
  rcases hd with rfl | rfl
  · exact (sb_int (by omega)).mono (by decide) (by decide)
  · exact wrd_sb (h.wr e he))).mono (Nat.le_refl _) (by have := h.sn; rw [List.length_map]; omega)
theorem ks_eq {es : List En} (h : es.Pairwise fun a b => a.1 < b.1) {ys : List Int} (p : ys.Perm (es.map (·.1))) (q : ys.Pairwise (· ≤ ·)) : ys = es.map (·.1) :=
  p.eq_of_pairwise (fun a b _ _ h1 h2 => Int.le_antisymm h1 h2) q (List.pairwise_map.mpr (h.imp fun h => Int.le_of_lt h))
theorem ks_map (es : List En) : (es.map entK).map (·.1) = (es.map (·.1)).map Sum.inl := by
  rw [List.map_map, List.map_map]
  rfl
/-! ### the law's dict of a wire -/
def md (m : Addr) (s : Int) : List (Key × V) := [(Sum.inr "words", .ref m), (Sum.inr "sent", .int s)]
theorem kw_ : ¬ (("words" : Str) = "sent") := by decide +kernel
theorem ks_ : ¬ ((Sum.inr ("words" : Str) : Key) = Sum.inr ("sent" : Str)) := fun z => kw_ (Sum.inr.inj z)
theorem md_words (m : Addr) (s : Int) : valV (md m s) (Sum.inr "words") = some (.ref m) := valV_pos rfl
theorem md_sent (m : Addr) (s : Int) : valV (md m s) (Sum.inr "sent") = some (.int s) := by
  unfold md
  rw [valV_neg ks_, valV_pos rfl]
theorem md_put (m : Addr) (s u : Int) : putK (md m s) (Sum.inr "sent") (.int u) = md m u := by
  unfold putK md
  simp [kw_]
theorem md_new (m : Addr) (s : Int) : mergeK [] (md m s) = md m s := by
  unfold mergeK md
  simp [putK, kw_]
theorem md_ne (m : Addr) (s : Int) (es : List En) : (.dK (md m s) : HO) ≠ .dK (es.map entK) := by
  intro z
  injection z with z
  cases es with
  | nil => cases z
  | cons a r =>
    have := (List.cons.inj z).1
    cases this
/-! ### a wire and the law's dict of it -/
structure Pr where
  c : Addr
  d : Addr
  M : Addr
  m : Addr
  s : Int
  es : List En
structure Pr.Ok (C : Addr) (H : Hp) (p : Pr) : Prop where
  at_ : ∃ dx, H p.c = some (.ins C dx (wf p.d p.s))
  d_ : H p.d = some (.dK (p.es.map entK))
  M_ : H p.M = some (.dK (md p.m p.s))
  m_ : H p.m = some (.dK (p.es.map entK))
  dm : p.d ≠ p.m
  es_ : Es H p.s p.es
  s0 : 0 ≤ p.s
structure Dj (p q : Pr) : Prop where
  c : p.c ≠ q.c
  M : p.M ≠ q.M
  dd : p.d ≠ q.d
  d1 : p.d ≠ q.m
  d2 : p.m ≠ q.d
  mm : p.m ≠ q.m
theorem Dj.symm {p q : Pr} (h : Dj p q) : Dj q p := ⟨h.c.symm, h.M.symm, h.dd.symm, h.d2.symm, h.d1.symm, h.mm.symm⟩
/-- all but the box and a pair stays -/
def Kp (b : Addr) (p : Pr) (H H' : Hp) : Prop := ∀ x o, x ≠ b → x ≠ p.c → x ≠ p.d → x ≠ p.M → x ≠ p.m → H x = some o → H' x = some o
theorem bx_lst {b : Addr} {n : Int} {H : Hp} (h : Bx b n H) : ∃ xs, H b = some (.lst xs) := let ⟨_, _, _, e, _⟩ := h; ⟨_, e⟩
theorem Pr.Ok.same {C : Addr} {H H' : Hp} {p : Pr} (h : p.Ok C H) (k : ∀ x o, (∀ xs, o ≠ .lst xs) → H x = some o → H' x = some o) : p.Ok C H' :=
  ⟨let ⟨dx, e⟩ := h.at_; ⟨dx, k _ _ (by simp) e⟩, k _ _ (by simp) h.d_, k _ _ (by simp) h.M_, k _ _ (by simp) h.m_, h.dm, h.es_.same fun x ys e => k _ _ (by simp) e, h.s0⟩
theorem Pr.Ok.kp {C b : Addr} {H H' : Hp} {p q : Pr} (h : q.Ok C H) (hp : p.Ok C H) (dj : Dj p q) (hb : ∃ xs, H b = some (.lst xs)) (k : Kp b p H H') : q.Ok C H' := by
  obtain ⟨bs, hb⟩ := hb
  obtain ⟨⟨dx, e⟩, e2, e3, e4, e5, e6, e7⟩ := h
  obtain ⟨⟨dy, f⟩, f2, f3, f4, f5, f6, f7⟩ := hp
  have ni : ∀ {x y : Addr} {o u : HO}, H x = some o → H y = some u → o ≠ u → x ≠ y := fun h1 h2 n => ne_of h1 h2 n
  refine ⟨⟨dx, k _ _ ?_ ?_ ?_ ?_ ?_ e⟩, k _ _ ?_ ?_ ?_ ?_ ?_ e2, k _ _ ?_ ?_ ?_ ?_ ?_ e3, k _ _ ?_ ?_ ?_ ?_ ?_ e4, e5, e6.same fun x ys hx => k _ _ ?_ ?_ ?_ ?_ ?_ hx, e7⟩
  · exact ni e hb (by simp)
  · exact dj.c.symm
  · exact ni e f2 (by simp)
  · exact ni e f3 (by simp)
  · exact ni e f4 (by simp)
  · exact ni e2 hb (by simp)
  · exact ni e2 f (by simp)
  · exact dj.dd.symm
  · exact (ni f3 e2 (md_ne _ _ _)).symm
  · exact dj.d2.symm
  · exact ni e3 hb (by simp)
  · exact ni e3 f (by simp)
  · exact ni e3 f2 (md_ne _ _ _)
  · exact dj.M.symm
  · exact ni e3 f4 (md_ne _ _ _)
  · exact ni e4 hb (by simp)
  · exact ni e4 f (by simp)
  · exact dj.d1.symm
  · exact (ni f3 e4 (md_ne _ _ _)).symm
  · exact dj.mm.symm
  · exact ni hx hb (by simp)
  · exact ni hx f (by simp)
  · exact ni hx f2 (by simp)
  · exact ni hx f3 (by simp)
  · exact ni hx f4 (by simp)
/-- the lists of wires and of dicts: the chosen pair p at d, the other one q -/
structure Wo (C : Addr) (H0 H : Hp) (lc lm : Addr) (d : Nat) (p q : Pr) : Prop where
  d1 : d ≤ 1
  hc : ∃ xs, H lc = some (.lst xs) ∧ xs.length = 2 ∧ xs[d]? = some (.ref p.c) ∧ xs[1 - d]? = some (.ref q.c)
  hm : ∃ xs, H lm = some (.lst xs) ∧ xs.length = 2 ∧ xs[d]? = some (.ref p.M) ∧ xs[1 - d]? = some (.ref q.M)
  ne : lc ≠ lm
  p_ : p.Ok C H
  q_ : q.Ok C H
  dj : Dj p q
  s0 : Same H0 H
  z : ∀ x ∈ [lc, lm, p.c, p.d, p.M, p.m, q.c, q.d, q.M, q.m], H0 x = none
theorem Wo.swap {C : Addr} {H0 H : Hp} {lc lm : Addr} {d : Nat} {p q : Pr} (h : Wo C H0 H lc lm d p q) : Wo C H0 H lc lm (1 - d) q p := by
  obtain ⟨d1, ⟨xs, a1, a2, a3, a4⟩, ⟨ys, b1, b2, b3, b4⟩, ne, p_, q_, dj, s0, z⟩ := h
  have e : 1 - (1 - d) = d := by omega
  refine ⟨by omega, ⟨xs, a1, a2, a4, by rw [e]; exact a3⟩, ⟨ys, b1, b2, b4, by rw [e]; exact b3⟩, ne, q_, p_, dj.symm, s0, fun x hx => z x ?_⟩
  simp only [List.mem_cons, List.not_mem_nil, or_false] at hx ⊢
  rcases hx with h | h | h | h | h | h | h | h | h | h <;> simp [h]
theorem Wo.at_ {C : Addr} {H0 H : Hp} {lc lm : Addr} {d : Nat} {p q : Pr} (h : Wo C H0 H lc lm d p q) (e : Nat) (he : e ≤ 1) : ∃ p' q', Wo C H0 H lc lm e p' q' ∧ ((p' = p ∧ q' = q) ∨ (p' = q ∧ q' = p)) := by
  have := h.d1
  by_cases c : e = d
  · subst c
    exact ⟨p, q, h, .inl ⟨rfl, rfl⟩⟩
  · have : e = 1 - d := by omega
    subst this
    exact ⟨q, p, h.swap, .inr ⟨rfl, rfl⟩⟩
/-- the heap goes on: nothing of it changes -/
theorem Wo.same {C : Addr} {H0 H H' : Hp} {lc lm : Addr} {d : Nat} {p q : Pr} (h : Wo C H0 H lc lm d p q) (s : Same H H') : Wo C H0 H' lc lm d p q := by
  obtain ⟨d1, ⟨xs, a1, a2⟩, ⟨ys, b1, b2⟩, ne, p_, q_, dj, s0, z⟩ := h
  exact ⟨d1, ⟨xs, s _ _ a1, a2⟩, ⟨ys, s _ _ b1, b2⟩, ne, p_.same fun x o _ e => s _ _ e, q_.same fun x o _ e => s _ _ e, dj, s0.trans s, z⟩
theorem Wo.off {C b : Addr} {n : Int} {H0 H H' : Hp} {lc lm : Addr} {d : Nat} {p q : Pr} (h : Wo C H0 H lc lm d p q) (hb : Bx b n H) (zb : H0 b = none) (k : KB b H H') : Wo C H0 H' lc lm d p q := by
  obtain ⟨x, y, z', q', r⟩ := hb
  have noInt : ∀ {a : Addr} {xs : List V} {i j : Nat} {u v : Addr}, H a = some (.lst xs) → xs[i]? = some (.ref u) → a ≠ b := fun ha hx e => by
    rw [e, q'] at ha
    have := Option.some.inj ha
    injection this with this
    rw [← this] at hx
    rename_i i _ _ _
    match i, hx with
    | 0, hx => cases hx
    | 1, hx => cases hx
    | 2, hx => cases hx
    | n + 3, hx => simp at hx
  obtain ⟨d1, ⟨xs, a1, a2, a3, a4⟩, ⟨ys, b1, b2, b3, b4⟩, ne, p_, q_, dj, s0, z⟩ := h
  have kk : ∀ x o, (∀ xs, o ≠ .lst xs) → H x = some o → H' x = some o := fun x o n e => k x o (fun z => by rw [z, q'] at e; exact n _ (Option.some.inj e).symm) e
  exact ⟨d1, ⟨xs, k _ _ (noInt (j := 0) (v := 0) a1 a3) a1, a2, a3, a4⟩, ⟨ys, k _ _ (noInt (j := 0) (v := 0) b1 b3) b1, b2, b3, b4⟩, ne, p_.same kk, q_.same kk, dj, fun x o e => k x o (ne_of_none e zb) (s0 x o e), z⟩
/-- a deed of the chosen pair -/
theorem Wo.step {C b : Addr} {n : Int} {H0 H H' : Hp} {lc lm : Addr} {d : Nat} {p q p' : Pr} (h : Wo C H0 H lc lm d p q) (hb : Bx b n H) (zb : H0 b = none) (k : Kp b p H H') (ok : p'.Ok C H') (e1 : p'.c = p.c) (e2 : p'.d = p.d) (e3 : p'.M = p.M) (e4 : p'.m = p.m) :
    Wo C H0 H' lc lm d p' q := by
  have hbl := bx_lst hb
  obtain ⟨x, y, z', r', rr⟩ := hb
  obtain ⟨d1, ⟨xs, a1, a2, a3, a4⟩, ⟨ys, b1, b2, b3, b4⟩, ne, p_, q_, dj, s0, z⟩ := h
  have q2 := q_.kp p_ dj hbl k
  obtain ⟨⟨dy, f⟩, f2, f3, f4, f5, f6, f7⟩ := p_
  have noInt : ∀ {a : Addr} {xs : List V} {u : Addr}, H a = some (.lst xs) → (xs[d]? = some (.ref u)) → a ≠ b := fun ha hx e => by
    rw [e, r'] at ha
    have := Option.some.inj ha
    injection this with this
    rw [← this] at hx
    match d, d1, hx with
    | 0, _, hx => cases hx
    | 1, _, hx => cases hx
  have go : ∀ {a : Addr} {xs : List V} {u : Addr}, H a = some (.lst xs) → xs[d]? = some (.ref u) → H' a = some (.lst xs) := fun ha hx =>
    k _ _ (noInt ha hx) (ne_of ha f (by simp)) (ne_of ha f2 (by simp)) (ne_of ha f3 (by simp)) (ne_of ha f4 (by simp)) ha
  refine ⟨d1, ⟨xs, go a1 a3, a2, by rw [e1]; exact a3, a4⟩, ⟨ys, go b1 b3, b2, by rw [e3]; exact b3, b4⟩, ne, ok, q2, ⟨by rw [e1]; exact dj.c, by rw [e3]; exact dj.M, by rw [e2]; exact dj.dd, by rw [e2]; exact dj.d1, by rw [e4]; exact dj.d2, by rw [e4]; exact dj.mm⟩, fun x o e => k x o (ne_of_none e zb) (ne_of_none e (z _ (by simp))) (ne_of_none e (z _ (by simp))) (ne_of_none e (z _ (by simp))) (ne_of_none e (z _ (by simp))) (s0 x o e), by rw [e1, e2, e3, e4]; exact z⟩
/-- the chosen pair is a new one -/
theorem Wo.new {C : Addr} {H0 H H' : Hp} {lc lm : Addr} {d : Nat} {p q r : Pr} {xs ys : List V} (h : Wo C H0 H lc lm d p q) (hx : H lc = some (.lst xs)) (hy : H lm = some (.lst ys)) (k : ∀ x o, x ≠ lc → x ≠ lm → H x = some o → H' x = some o)
    (e1 : H' lc = some (.lst (xs.set d (.ref r.c)))) (e2 : H' lm = some (.lst (ys.set d (.ref r.M)))) (ok : r.Ok C H') (zr : ∀ x ∈ [r.c, r.d, r.M, r.m], H x = none) : Wo C H0 H' lc lm d r q := by
  obtain ⟨d1, ⟨xs', a1, a2, a3, a4⟩, ⟨ys', b1, b2, b3, b4⟩, ne, p_, q_, dj, s0, z⟩ := h
  rw [hx] at a1
  obtain rfl : xs' = xs := by injection a1 with a1; injection a1 with a1; exact a1.symm
  rw [hy] at b1
  obtain rfl : ys' = ys := by injection b1 with b1; injection b1 with b1; exact b1.symm
  obtain ⟨⟨dx, f⟩, f2, f3, f4, f5, f6, f7⟩ := id q_
  have n := fun x hx' => zr x hx'
  refine ⟨d1, ⟨_, e1, by rw [List.length_set, a2], by rw [List.getElem?_set_self (by omega)], by rw [List.getElem?_set_ne (by omega)]; exact a4⟩, ⟨_, e2, by rw [List.length_set, b2], by rw [List.getElem?_set_self (by omega)], by rw [List.getElem?_set_ne (by omega)]; exact b4⟩,
    ne, ok, q_.same fun x o no e => k x o (fun z => by rw [z, hx] at e; exact no _ (Option.some.inj e).symm) (fun z => by rw [z, hy] at e; exact no _ (Option.some.inj e).symm) e, ⟨(ne_of_none f (n _ (by simp))).symm, (ne_of_none f3 (n _ (by simp))).symm, (ne_of_none f2 (n _ (by simp))).symm, (ne_of_none f4 (n _ (by simp))).symm, (ne_of_none f2 (n _ (by simp))).symm, (ne_of_none f4 (n _ (by simp))).symm⟩,
    fun x o e => k x o (ne_of_none e (z _ (by simp))) (ne_of_none e (z _ (by simp))) (s0 x o e), ?_⟩
  intro x hx'
  simp only [List.mem_cons, List.not_mem_nil, or_false] at hx'
  have zz : ∀ {x}, H x = none → H0 x = none := fun e => s0.free e
  rcases hx' with rfl | rfl | rfl | rfl | rfl | rfl | rfl | rfl | rfl | rfl
  · exact z _ (by simp)
  · exact z _ (by simp)
  · exact zz (n _ (by simp))
  · exact zz (n _ (by simp))
  · exact zz (n _ (by simp))
  · exact zz (n _ (by simp))
  · exact z _ (by simp)
  · exact z _ (by simp)
  · exact z _ (by simp)
  · exact z _ (by simp)
end K11

set_option maxRecDepth 100000
set_option maxHeartbeats 400000
namespace K11
open PySem PySem.Spec PyProof.Rows L2 GxR Gd TL My
section
variable {P : Program} {w : World} {K : PySem.W.Frag} {mg : Str → Option Value} {base : Heap} {C : Addr}
abbrev s_law_right : Stmt := top 15
theorem sc_law_right : FnScope ["_law_wire", "_law_model", "_law_due", "_law_turn", "_law_found", "_law_number"] ["_law_wire", "_law_model"] (defScope s_law_right) := ⟨rfl, rfl, rfl, by decide +kernel, rfl, by decide +kernel, by decide +kernel⟩
def spRight (C : Addr) : Sp := fun vs H Q _ => ∃ (p : Pr), vs = [.ref p.c, .ref p.M] ∧ p.Ok C H ∧ p.s ≤ 290 ∧ ∀ H', Same H H' → Q (.bl true) H'
theorem ok_right {f f1 f2 : Addr} {fd fd1 fd2 : FuncData} (F : Fun K "_law_right" "_law_right" s_law_right f fd) (T : Txt mg) (TC : WirT K C)
    (Munder_way : Me K C "under_way" "Wire.under_way" s_under_way ["self"] f1 fd1) (Gunder_way : FnOk P w K mg base CX0 1 f1 fd1 ["self"] (spUnder C))
    (Msent : Me K C "sent" "Wire.sent" s_sent ["self"] f2 fd2) (Gsent : FnOk P w K mg base CX0 1 f2 fd2 ["self"] (spSent C)) :
    GOk P w K mg base CX0 2 f fd ["_law_wire", "_law_model"] (spRight C) := by
  refine gok F sc_law_right (fun vs H Q E h => ?_) (fun cdv A outer s H vs Q E gd hr h => ?_)
  · obtain ⟨p, rfl, _⟩ := h
    rfl
  · obtain ⟨p, rfl, ok, p290, k⟩ := h
    obtain ⟨⟨dx, hc⟩, hd, hM, hm, dm, es, s0⟩ := id ok
    refine ⟨_, pss_cons (ps_setLc (i := 2) (own := [("_law_number", 5)]) (g := gName 5) (tt := tYes) rfl sc_law_right.nd rfl rfl (sw_true rfl rfl rfl (by decide +kernel)) (pi_list (pe_callB (call_sortedDA rfl) (by rfl) T.sorted_ (by decide +kernel) (pa_cons (pe_dget (hu_of hr) (pv 1) pe_str (fun _ _ => rfl)) pa_nil))) (blkOk_by (own := [("_law_number", 5)]) (N := ["_law_wire", "_law_model", "_law_due", "_law_turn", "_law_found", "_law_number"]) (sc := defScope s_law_right) (by decide +kernel)) (fun _ _ _ _ _ => (pg_name (i := 5) sc_law_right.nd rfl (Or.inl rfl))) (fun _ _ _ _ _ => pts_nil) (fun _ _ _ _ _ => (pe_tup (pa_cons (pv 5) (pa_cons (pe_dget (hu_of hr) (pe_dget (hu_of hr) (pv 1) pe_str (fun _ _ => rfl)) (pv 5) (fun _ _ => rfl)) pa_nil)))))
      (pss_cons (ps_for PassesOwn.never rfl (pi_range1 (by rfl) T.range_ (pa_cons pe_int pa_nil)) (pg_name (i := 3) sc_law_right.nd rfl (Or.inl rfl)) (pss_cons (ps_set (i := 4) sc_law_right.nd rfl (Or.inl rfl) (pe_meth0 (pv 0) TC.cl Munder_way.m Gunder_way (hr.mono (by decide)) Munder_way.b .nil pass0))
          (pss_cons (ps_if (PW.pt (pw_or (pt_not (pt_val (pe_callB call_isi (by rfl) T.isinstance_ (by decide +kernel) (pa_cons (pv 4) (pa_cons (pe_bltn (v := .ty "list") (by rfl) T.list_ (by decide +kernel) rfl) pa_nil))))) (pw_or1 (pt_cmpR op_ne (pe_callB (call_repr gd hr) (by rfl) T.repr_ (by decide +kernel) (pa_cons (pv 4) pa_nil)) (pe_callB (call_repr gd hr) (by rfl) T.repr_ (by decide +kernel) (pa_cons (pv 2) pa_nil)) (nomark _))))) (pss_one (ps_ret pe_bl)) pss_nil)
          (pss_cons (ps_expr (pe_bm PySem.F.plainAttrs_list PySem.F.slot_list_append PySem.F.type_list_append mt_append (pv 4) (pa_cons pe_str pa_nil)))
          (pss_one (ps_expr (pe_bm0 PySem.F.plainAttrs_list PySem.F.slot_list_reverse PySem.F.type_list_reverse mt_reverse (pv 4))))))))
      (pss_one (ps_ret (pe_cmpR op_eq (pe_callB (call_repr gd hr) (by rfl) T.repr_ (by decide +kernel) (pa_cons (pe_meth0 (pv 0) TC.cl Msent.m Gsent (hr.mono (by decide)) Msent.b .nil pass0) pa_nil)) (pe_callB (call_repr gd hr) (by rfl) T.repr_ (by decide +kernel) (pa_cons (pe_dget (hu_of hr) (pv 1) pe_str (fun _ _ => rfl)) pa_nil)) (nomark _))))), ?_⟩
    have rd : ∀ {H'}, Same H H' → DGet H' p.M (kV (Sum.inr "words")) (some (.ref p.m)) := fun s => md_words p.m p.s ▸ DGet.k (k := Sum.inr ("words" : Str)) (s _ _ hM)
    have rs : ∀ {H'}, Same H H' → DGet H' p.M (kV (Sum.inr "sent")) (some (.int p.s)) := fun s => md_sent p.m p.s ▸ DGet.k (k := Sum.inr ("sent" : Str)) (s _ _ hM)
    refine ⟨_, rfl, p.M, _, rfl, rd (Same.refl H), p.m, _, p.es.map (·.1), rfl, .inl hm, ks_map _, fun ys a1 pm pw na => ?_⟩
    obtain rfl := ks_eq es.asc pm pw
    clear pm pw
    have sA : Same H (upd H a1 (.lst ((p.es.map (·.1)).map V.int))) := same_new na
    have eA : upd H a1 (.lst ((p.es.map (·.1)).map V.int)) a1 = some (.lst ((p.es.map (·.1)).map V.int)) := upd_same
    generalize upd H a1 (.lst ((p.es.map (·.1)).map V.int)) = H1 at sA eA ⊢
    have nes : ∀ e ∈ p.es, e.1.natAbs < 10 ^ 31 := fun e he => by have := es.bd e he; omega
    have l290 : p.es.length ≤ 290 := by have := es.sn; omega
    refine ⟨a1, rfl, ⟨_, SqL.of eA⟩, fun D hD => lc_it (walk_list (K := K) (xs := (p.es.map (·.1)).map V.int)) (fun i H' => ∃ ts : List Addr, H' D = some (.lst (ts.map V.ref)) ∧ ts.length = i ∧ Paired (fun t (e : En) => H' t = some (.tup [.int e.1, .ref e.2.1])) ts (p.es.take i) ∧ ∀ x o, x ≠ D → H1 x = some o → H' x = some o)
      ⟨[], upd_same, rfl, .nil, fun x o nx e => by rw [upd_ne nx]; exact e⟩ ?_ ?_ ?_⟩
    · rintro i H' _ ⟨_, _, _, _, q⟩
      exact SqL.of (q _ _ (ne_of_none eA hD) eA)
    · rintro i y H2 H3 hi ⟨ts, b1, b2, b3, b4⟩ ⟨rfl, hy⟩
      obtain ⟨e, he, rfl⟩ : ∃ e, p.es[i]? = some e ∧ y = .int e.1 := by
        rw [List.getElem?_map, List.getElem?_map] at hy
        cases q : p.es[i]? with
        | none => rw [q] at hy; cases hy
        | some e => rw [q] at hy; exact ⟨e, rfl, (Option.some.inj hy).symm⟩
      have hi' : i < 290 := by
        have := (List.getElem?_eq_some_iff.mp he).1
        omega
      have me := List.mem_of_getElem? he
      have nM : p.M ≠ D := ne_of_none (sA _ _ hM) hD
      have nm : p.m ≠ D := ne_of_none (sA _ _ hm) hD
      have gM : DGet H3 p.M (kV (Sum.inr "words")) (some (.ref p.m)) := md_words p.m p.s ▸ DGet.k (k := Sum.inr ("words" : Str)) (b4 _ _ nM (sA _ _ hM))
      have gm : DGet H3 p.m (kV (Sum.inl e.1)) (some (.ref e.2.1)) := val_ent es.asc me rfl ▸ DGet.k (k := Sum.inl e.1) (b4 _ _ nm (sA _ _ hm))
      refine ⟨rfl, lcY ?_⟩
      refine ⟨_, rfl, _, rfl, p.M, _, rfl, gM, _, rfl, p.m, _, rfl, gm, (by show 2 ≤ sizeLine; decide), fun t ht => ?_⟩
      have nDt : D ≠ t := ne_of_none b1 ht
      refine ⟨_, by rw [upd_ne nDt]; exact b1, ?_, ts ++ [t], ?_, ?_, ?_, ?_⟩
      · rw [List.length_map, b2]
        exact lt_line i (by omega)
      · rw [upd_same, List.map_append]
        rfl
      · rw [List.length_append, b2]
        rfl
      · have et : p.es.take (i + 1) = p.es.take i ++ [e] := by
          rw [List.take_succ, he]
          rfl
        rw [et]
        refine Paired.snoc ?_ ?_
        · have go : ∀ {us : List Addr} {fs : List En}, Paired (fun t (e : En) => H3 t = some (.tup [.int e.1, .ref e.2.1])) us fs → Paired (fun u (e : En) => upd (upd H3 t (.tup [.int e.1, .ref e.2.1])) D (.lst (ts.map V.ref ++ [.ref t])) u = some (.tup [.int e.1, .ref e.2.1])) us fs :=
            paired_mono fun u f hu => by
              rw [upd_ne (ne_of hu b1 (by simp)), upd_ne (ne_of_none hu ht)]
              exact hu
          exact paired_mono (fun u f hu => by
              rw [upd_ne (ne_of hu b1 (by simp)), upd_ne (ne_of_none hu ht)]
              exact hu) b3
        · rw [upd_ne nDt.symm, upd_same]
      · intro x o nx h
        have h3 := b4 x o nx h
        rw [upd_ne nx, upd_ne (ne_of_none h3 ht)]
        exact h3
    · rintro H2 ⟨ts, b1, b2, b3, b4⟩
      rw [List.length_map, List.length_map, List.take_of_length_le (Nat.le_refl _)] at b3
      have s2 : Same H H2 := fun x o e => b4 x o (ne_of_none (sA _ _ e) hD) (sA _ _ e)
      have e2 := es.same (H' := H2) fun x ys e => s2 _ _ e
      have dpD : Dp K H2 (.ref D) (.list (p.es.map enD)) := .lst (SqL.of b1) (en_dp b3 e2.wr)
      obtain ⟨m1, m2, m3⟩ := (es_sb es p290).rep (by decide) (by decide)
      refine ⟨2, rfl, by decide, by decide, for_it (walk_range (lo := 0) (n := 2)) (fun i σ H' => ∃ v3 v4 v5 : Option V, σ = [some (.ref p.c), some (.ref p.M), some (.ref D), v3, v4, v5] ∧ Same H2 H') ?_ ?_ ?_ ?_⟩
      · exact ⟨_, _, _, rfl, Same.refl _⟩
      · intros; trivial
      · rintro i y σ H4 H5 hi2 ⟨v3, v4, v5, rfl, s4⟩ ⟨rfl, rfl⟩
        have s04 := s2.trans s4
        refine ⟨_, rfl, p.c, dx, _, rfl, s04 _ _ hc, wf_no _ _ (by decide +kernel) (by decide +kernel), p.c, dx, p.d, p.s, p.es.map entK, rfl, s04 _ _ hc, s04 _ _ hd, fun H6 a us s6 na6 nus nin ea pr => ?_⟩
        have pr' := en_kv pr
        have e6 := es.same (H' := H6) fun x ys e => s6 _ _ (s04 _ _ e)
        refine ⟨_, rfl, _, _, _, _, true, rfl, .ty "list", .base (.lst ea), (by rfl), _, rfl, iteF ?_⟩
        refine ⟨_, rfl, _, .list (p.es.map enD), rfl, .lst (SqL.of ea) (en_dp pr' e6.wr), m1, m2, m3, ?_⟩
        refine ⟨_, rfl, _, .list (p.es.map enD), rfl, dp_nt (same_nt (s4.trans s6)) dpD, m1, m2, m3, rfl, _, rfl, iteNS rfl ?_⟩
        refine ⟨_, rfl, .inl ⟨rfl, _, SqL.of ea⟩, a, _, _, rfl, rfl, ea, ?_, ?_⟩
        · have := Paired.length pr'
          rw [List.length_map]
          exact lt_line _ (by omega)
        refine ⟨_, rfl, .inl ⟨rfl, _, SqL.of upd_same⟩, a, _, rfl, rfl, upd_same, ?_⟩
        refine ⟨_, _, _, rfl, fun x o e => ?_⟩
        have e4 := s4 _ _ e
        rw [upd_ne (ne_of_none e4 na6), upd_ne (ne_of_none e4 na6)]
        exact s6 _ _ e4
      · rintro σ H4 ⟨v3, v4, v5, rfl, s4⟩
        have s04 := s2.trans s4
        obtain ⟨n1, n2, n3⟩ := (sb_int (i := p.s) (by omega)).rep (by decide) (by decide)
        refine ⟨_, rfl, p.c, dx, _, rfl, s04 _ _ hc, wf_no _ _ (by decide +kernel) (by decide +kernel), p.c, dx, p.d, p.s, rfl, s04 _ _ hc, _, .int p.s, rfl, .int _, n1, n2, n3, ?_⟩
        refine ⟨_, rfl, p.M, _, rfl, rs s04, _, .int p.s, rfl, .int _, n1, n2, n3, rfl, ?_⟩
        show Q (.bl (decide (_ = _))) _
        rw [decide_eq_true rfl]
        exact k _ s04
end
end K11

set_option maxRecDepth 100000
set_option maxHeartbeats 400000
namespace K11
open PySem PySem.Spec PyProof.Rows L2 GxR Gd TL My
theorem ix2 {d : Nat} (h : d ≤ 1) : ixN 2 (d : Int) = some d := by
  match d, h with
  | 0, _ => rfl
  | 1, _ => rfl
theorem at2 {xs : List V} {d : Nat} {v : V} (h : xs[d]? = some v) : atI xs (d : Int) = some v := atI_nat h
theorem at2' {xs : List V} {d : Nat} {v : V} (hd : d ≤ 1) (h : xs[1 - d]? = some v) : atI xs (1 - (d : Int)) = some v := by
  rw [show (1 - (d : Int)) = ((1 - d : Nat) : Int) by omega]
  exact atI_nat h
section
variable {P : Program} {w : World} {K : PySem.W.Frag} {mg : Str → Option Value} {base : Heap} {C : Addr}
abbrev s_law_other : Stmt := top 13
theorem sc_law_other : FnScope ["_law_box_here", "_law_wires", "_law_models", "_law_at"] ["_law_box_here", "_law_wires", "_law_models"] (defScope s_law_other) := ⟨rfl, rfl, rfl, by decide +kernel, rfl, by decide +kernel, by decide +kernel⟩
def spOther (C : Addr) : Sp := fun vs H Q _ => ∃ (H0 : Hp) (b lc lm : Addr) (d : Nat) (p q : Pr) (n B : Int), vs = [.ref b, .ref lc, .ref lm] ∧ Bx b n H ∧ n ≤ 90000 ∧ H0 b = none ∧ Wo C H0 H lc lm d p q ∧ p.s ≤ B ∧ q.s ≤ B ∧ 0 ≤ B ∧
  ∀ H' d' p' q', Bx b (n + 2) H' → Wo C H0 H' lc lm d' p' q' → p'.s ≤ B → q'.s ≤ B → Q .non H'
theorem ok_other {f fT f1 fI : Addr} {fd fdT fd1 fdI : FuncData} (F : Fun K "_law_other" "_law_other" s_law_other f fd) (T : Txt mg) (TC : WirT K C) (gWire : mg "Wire" = some (.ref C)) (MWire : Mk K C fI)
    (GWire : FnOk P w K mg base CX0 1 fI fdI ["self"] (spInit C)) (bWire : Binds K fdI ["self"] [])
    (Glaw_take : FnOk P w K mg base CX0 1 fT fdT ["_law_box_here", "_law_many"] spTake) (Nlaw_take : Fn K mg "_law_take" sTake ["_law_box_here", "_law_many"] fT fdT)
    (Mtwin : Me K C "twin" "Wire.twin" s_twin ["self"] f1 fd1) (Gtwin : FnOk P w K mg base CX0 3 f1 fd1 ["self"] (spTwin C)) :
    FnOk P w K mg base CX0 4 f fd ["_law_box_here", "_law_wires", "_law_models"] (spOther C) := by
  refine F.ok sc_law_other (fun vs H Q E h => ?_) (fun cdv A outer s H vs Q E hr h => ?_)
  · obtain ⟨H0, b, lc, lm, d, p, q, n, B, rfl, _⟩ := h
    rfl
  · obtain ⟨H0, b, lc, lm, d0, p0, q0, n, B, rfl, hb, hn, zb, wo0, e0, e1, B0, k⟩ := h
    refine ⟨_, pss_cons (ps_set (i := 3) sc_law_other.nd rfl (Or.inl rfl) (pe_call Glaw_take (hr.mono (by decide)) (by rfl) Nlaw_take.g Nlaw_take.kp Nlaw_take.b .nil pass0 (pa_cons (pv 0) (pa_cons pe_int pa_nil))))
      (pss_one (ps_if (pt_cmpR op_eq (pe_call Glaw_take (hr.mono (by decide)) (by rfl) Nlaw_take.g Nlaw_take.kp Nlaw_take.b .nil pass0 (pa_cons (pv 0) (pa_cons pe_int pa_nil))) pe_int (nomark _)) (pss_cons (ps_asg (pe_make0 MWire GWire (hr.mono (by decide)) (by rfl) gWire bWire .nil pass0) (pg_sub (pv 1) (pv 3) set_list))
          (pss_one (ps_asg (pe_disp (pps_cons pe_str pe_dnewK (pps_cons pe_str pe_int pps_nil)) (by rfl) (by rfl) (fun z => by cases z) (by decide)) (pg_sub (pv 2) (pv 3) set_list)))) (pss_cons (ps_asg (pe_meth0 (pe_ix ix_list (pv 1) (pe_op op_sub pe_int (pv 3)) (fun _ _ => rfl)) TC.cl Mtwin.m Gtwin (hr.mono (by decide)) Mtwin.b .nil pass0) (pg_sub (pv 1) (pv 3) set_list))
          (pss_one (ps_asg (pe_disp (pps_cons pe_str (pe_callTy call_dictD (by rfl) T.dict_ (by decide +kernel) (pa_cons (pe_dget (hu_of hr) (pe_ix ix_list (pv 2) (pe_op op_sub pe_int (pv 3)) (fun _ _ => rfl)) pe_str (fun _ _ => rfl)) pa_nil)) (pps_cons pe_str (pe_dget (hu_of hr) (pe_ix ix_list (pv 2) (pe_op op_sub pe_int (pv 3)) (fun _ _ => rfl)) pe_str (fun _ _ => rfl)) pps_nil)) (by rfl) (by rfl) (fun z => by cases z) (by decide)) (pg_sub (pv 2) (pv 3) set_list)))))), ?_⟩
    refine ⟨_, rfl, b, 2, n, rfl, hb, by omega, by decide, by decide, fun d H1 a0 a1 off1 hb1 => ?_⟩
    refine ⟨_, rfl, b, 4, n + 1, rfl, hb1, by omega, by decide, by decide, fun d2 H2 _ _ off2 hb2 => ?_⟩
    have wo2 := wo0.off hb zb ((KB.off off1).trans (KB.off off2))
    have hb2' : Bx b (n + 2) H2 := hb2.mono (by omega)
    clear hb hb1 hb2 off1 off2 wo0
    obtain ⟨d, rfl⟩ := Int.eq_ofNat_of_zero_le a0
    obtain ⟨p, q, wo, sel⟩ := wo2.at_ d (by omega)
    have ep : p.s ≤ B ∧ q.s ≤ B := by
      rcases sel with ⟨rfl, rfl⟩ | ⟨rfl, rfl⟩
      · exact ⟨e0, e1⟩
      · exact ⟨e1, e0⟩
    clear wo2 sel e0 e1
    have hd := wo.d1
    obtain ⟨xs, hc, lx, x1, x2⟩ := wo.hc
    obtain ⟨ys, hm, ly, y1, y2⟩ := wo.hm
    have nbc : b ≠ lc := fun z => by
      obtain ⟨x, y, z', h', r⟩ := hb2'
      rw [z, hc] at h'
      injection h' with h'
      injection h' with h'
      rw [h'] at lx
      cases lx
    have nbm : b ≠ lm := fun z => by
      obtain ⟨x, y, z', h', r⟩ := hb2'
      rw [z, hm] at h'
      injection h' with h'
      injection h' with h'
      rw [h'] at ly
      cases ly
    have six : ixN xs.length (d : Int) = some d := by rw [lx]; exact ix2 hd
    have siy : ixN ys.length (d : Int) = some d := by rw [ly]; exact ix2 hd
    -- what is left behind the making of a new pair r
    have fin : ∀ (r : Pr) (H' : Hp), r.s ≤ B → (∀ x o, x ≠ lc → x ≠ lm → H2 x = some o → H' x = some o) → H' lc = some (.lst (xs.set d (.ref r.c))) → H' lm = some (.lst (ys.set d (.ref r.M))) → r.Ok C H' → (∀ x ∈ [r.c, r.d, r.M, r.m], H2 x = none) → Q .non H' :=
      fun r H' rs kk g1 g2 ok zr => k H' d r q (by
        obtain ⟨x, y, z, h', rr⟩ := hb2'
        exact ⟨x, y, z, kk _ _ nbc nbm h', rr⟩) (wo.new hc hm kk g1 g2 ok zr) rs ep.2
    refine ⟨rfl, _, rfl, ite2 (fun e5 => ?_) (fun e5 => ?_)⟩
    · intro x dy nx ny nxy
      refine ⟨x, dy, rfl, upd_same, fun dd H3 ndd off3 f1 f2 => ⟨rfl, ?_⟩⟩
      have ndx : dd ≠ x := (ne_of_none upd_same ndd).symm
      have ndd' : H2 dd = none := by
        rw [upd_ne ndx] at ndd
        by_cases z : dd = dy
        · rw [z, upd_same] at ndd; cases ndd
        · rw [upd_ne z] at ndd; exact ndd
      have s3 : Same H2 H3 := fun z o h => by
        have z1 := ne_of_none h nx
        rw [off3 z z1 (ne_of_none h ndd'), upd_ne z1, upd_ne (ne_of_none h ny)]
        exact h
      clear off3
      refine ⟨_, rfl, _, rfl, lc, _, _, _, rfl, rfl, s3 _ _ hc, six, ?_⟩
      have nlx : x ≠ lc := ne_of f1 (s3 _ _ hc) (by simp)
      have nld : dd ≠ lc := ne_of f2 (s3 _ _ hc) (by simp)
      have g1 : upd H3 lc (.lst (xs.set d (.ref x))) lc = some (.lst (xs.set d (.ref x))) := upd_same
      have g2 : upd H3 lc (.lst (xs.set d (.ref x))) x = some (.ins C dy (wf dd 0)) := by rw [upd_ne nlx]; exact f1
      have g3 : upd H3 lc (.lst (xs.set d (.ref x))) dd = some (.dK []) := by rw [upd_ne nld]; exact f2
      have g4 : ∀ z o, z ≠ lc → H2 z = some o → upd H3 lc (.lst (xs.set d (.ref x))) z = some o := fun z o z1 h => by rw [upd_ne z1]; exact s3 _ _ h
      have z2 : ∀ {z}, upd H3 lc (.lst (xs.set d (.ref x))) z = none → H2 z = none := fun {z} h => by
        by_cases c : z = lc
        · rw [c, upd_same] at h; cases h
        · rw [upd_ne c] at h; exact s3.free h
      generalize upd H3 lc (.lst (xs.set d (.ref x))) = H4 at g1 g2 g3 g4 z2 ⊢
      intro M nM m nm
      have nMm : M ≠ m := ne_of_none upd_same nm
      have nm4 : H4 m = none := by rw [upd_ne nMm.symm] at nm; exact nm
      refine ⟨by rw [upd_ne nMm, upd_same], md m 0, rfl, by simp [md, kw_], ?_⟩
      rw [md_new]
      have up : ∀ z o, H4 z = some o → upd (upd (upd H4 M (.dK [])) m (.dK [])) M (.dK (md m 0)) z = some o := fun z o h => by
        rw [upd_ne (ne_of_none h nM), upd_ne (ne_of_none h nm4), upd_ne (ne_of_none h nM)]
        exact h
      have um : upd (upd (upd H4 M (.dK [])) m (.dK [])) M (.dK (md m 0)) m = some (.dK []) := by rw [upd_ne nMm.symm, upd_same]
      have uM : upd (upd (upd H4 M (.dK [])) m (.dK [])) M (.dK (md m 0)) M = some (.dK (md m 0)) := upd_same
      generalize upd (upd (upd H4 M (.dK [])) m (.dK [])) M (.dK (md m 0)) = H5 at up um uM ⊢
      have hm5 : H5 lm = some (.lst ys) := up _ _ (g4 _ _ wo.ne.symm hm)
      refine ⟨_, rfl, _, rfl, lm, _, _, _, rfl, rfl, hm5, siy, ?_⟩
      have go : ∀ {z o}, o ≠ .lst ys → H5 z = some o → upd H5 lm (.lst (ys.set d (.ref M))) z = some o := fun n h => by rw [upd_ne (ne_of h hm5 n)]; exact h
      refine fin ⟨x, dd, M, m, 0, []⟩ _ B0 (fun z o z1 z2 h => by rw [upd_ne z2]; exact up _ _ (g4 z o z1 h)) ?_ upd_same ⟨⟨dy, go (by simp) (up _ _ g2)⟩, go (by simp) (up _ _ g3), go (by simp) uM, go (by simp) um, ne_of_none g3 nm4, ⟨.nil, by simp, by simp, by simp⟩, Int.le_refl _⟩ ?_
      · rw [upd_ne wo.ne]
        exact up _ _ g1
      · intro z hz
        simp only [List.mem_cons, List.not_mem_nil, or_false] at hz
        rcases hz with rfl | rfl | rfl | rfl
        · exact nx
        · exact ndd'
        · exact z2 nM
        · exact z2 nm4
    · obtain ⟨⟨dq, q1⟩, q2, q3, q4, q5, q6, q7⟩ := wo.q_
      refine ⟨_, rfl, _, rfl, _, _, rfl, rfl, lc, _, _, _, rfl, rfl, SqL.of hc, at2' hd x2, q.c, dq, _, rfl, q1, wf_no _ _ (by decide +kernel) (by decide +kernel), q.c, dq, q.d, q.s, q.es.map entK, rfl, q1, q2, fun x dy dd H3 nx ndd' s3 f1 f2 => ?_⟩
      refine ⟨_, rfl, _, rfl, lc, _, _, _, rfl, rfl, s3 _ _ hc, six, ?_⟩
      have nlx : x ≠ lc := ne_of f1 (s3 _ _ hc) (by simp)
      have nld : dd ≠ lc := ne_of f2 (s3 _ _ hc) (by simp)
      have g1 : upd H3 lc (.lst (xs.set d (.ref x))) lc = some (.lst (xs.set d (.ref x))) := upd_same
      have g2 : upd H3 lc (.lst (xs.set d (.ref x))) x = some (.ins C dy (wf dd q.s)) := by rw [upd_ne nlx]; exact f1
      have g3 : upd H3 lc (.lst (xs.set d (.ref x))) dd = some (.dK (q.es.map entK)) := by rw [upd_ne nld]; exact f2
      have g4 : ∀ z o, z ≠ lc → H2 z = some o → upd H3 lc (.lst (xs.set d (.ref x))) z = some o := fun z o z1 h => by rw [upd_ne z1]; exact s3 _ _ h
      have z2 : ∀ {z}, upd H3 lc (.lst (xs.set d (.ref x))) z = none → H2 z = none := fun {z} h => by
        by_cases c : z = lc
        · rw [c, upd_same] at h; cases h
        · rw [upd_ne c] at h; exact s3.free h
      have hq : ∀ {z o}, o ≠ .lst xs → H2 z = some o → upd H3 lc (.lst (xs.set d (.ref x))) z = some o := fun n h => by rw [upd_ne (ne_of h hc n)]; exact s3 _ _ h
      have h3 := hq (by simp) q3
      have h4 := hq (by simp) q4
      have h5 := g4 _ _ wo.ne.symm hm
      have h6 := q6.same (H' := upd H3 lc (.lst (xs.set d (.ref x)))) fun z us h => hq (by simp) h
      clear hq
      generalize upd H3 lc (.lst (xs.set d (.ref x))) = H4 at g1 g2 g3 g4 z2 h3 h4 h5 h6 ⊢
      intro M nM
      have up0 : ∀ z o, H4 z = some o → upd H4 M (.dK []) z = some o := fun z o h => by rw [upd_ne (ne_of_none h nM)]; exact h
      have gw : DGet (upd H4 M (.dK [])) q.M (kV (Sum.inr "words")) (some (.ref q.m)) := md_words q.m q.s ▸ DGet.k (k := Sum.inr ("words" : Str)) (up0 _ _ h3)
      refine ⟨_, rfl, _, rfl, _, _, rfl, rfl, lm, _, _, _, rfl, rfl, SqL.of (up0 _ _ h5), at2' hd y2, q.M, _, rfl, gw, q.m, _, rfl, .inl (up0 _ _ h4), fun m nm => ?_⟩
      have nMm : M ≠ m := ne_of_none upd_same nm
      have nm4 : H4 m = none := by rw [upd_ne nMm.symm] at nm; exact nm
      have up1 : ∀ z o, H4 z = some o → upd (upd H4 M (.dK [])) m (.dK (q.es.map entK)) z = some o := fun z o h => by rw [upd_ne (ne_of_none h nm4)]; exact up0 _ _ h
      have gs : DGet (upd (upd H4 M (.dK [])) m (.dK (q.es.map entK))) q.M (kV (Sum.inr "sent")) (some (.int q.s)) := md_sent q.m q.s ▸ DGet.k (k := Sum.inr ("sent" : Str)) (up1 _ _ h3)
      refine ⟨_, rfl, _, rfl, _, _, rfl, rfl, lm, _, _, _, rfl, rfl, SqL.of (up1 _ _ h5), at2' hd y2, q.M, _, rfl, gs, ?_⟩
      refine ⟨by rw [upd_ne nMm, upd_same], md m q.s, rfl, by simp [md, kw_], ?_⟩
      rw [md_new]
      have up : ∀ z o, H4 z = some o → upd (upd (upd H4 M (.dK [])) m (.dK (q.es.map entK))) M (.dK (md m q.s)) z = some o := fun z o h => by
        rw [upd_ne (ne_of_none h nM)]
        exact up1 _ _ h
      have um : upd (upd (upd H4 M (.dK [])) m (.dK (q.es.map entK))) M (.dK (md m q.s)) m = some (.dK (q.es.map entK)) := by rw [upd_ne nMm.symm, upd_same]
      have uM : upd (upd (upd H4 M (.dK [])) m (.dK (q.es.map entK))) M (.dK (md m q.s)) M = some (.dK (md m q.s)) := upd_same
      generalize upd (upd (upd H4 M (.dK [])) m (.dK (q.es.map entK))) M (.dK (md m q.s)) = H5 at up um uM ⊢
      have hm5 : H5 lm = some (.lst ys) := up _ _ h5
      refine ⟨_, rfl, _, rfl, lm, _, _, _, rfl, rfl, hm5, siy, ?_⟩
      have go : ∀ {z o}, o ≠ .lst ys → H5 z = some o → upd H5 lm (.lst (ys.set d (.ref M))) z = some o := fun n h => by rw [upd_ne (ne_of h hm5 n)]; exact h
      refine fin ⟨x, dd, M, m, q.s, q.es⟩ _ ep.2 (fun z o z1 z2 h => by rw [upd_ne z2]; exact up _ _ (g4 z o z1 h)) ?_ upd_same ⟨⟨dy, go (by simp) (up _ _ g2)⟩, go (by simp) (up _ _ g3), go (by simp) uM, go (by simp) um, ne_of_none g3 nm4, h6.same fun z us h => go (by simp) (up _ _ h), q7⟩ ?_
      · rw [upd_ne wo.ne]
        exact up _ _ g1
      · intro z hz
        simp only [List.mem_cons, List.not_mem_nil, or_false] at hz
        rcases hz with rfl | rfl | rfl | rfl
        · exact nx
        · exact ndd'
        · exact z2 nM
        · exact z2 nm4
end
end K11

set_option maxRecDepth 100000
set_option maxHeartbeats 400000
namespace K11
open PySem PySem.Spec PyProof.Rows L2 GxR Gd TL My
theorem shaped_ints (ns : List Int) : SeqAt.shaped (.list (ns.map PyData.int)) = true := by
  have h1 : ∀ l : List Int, PyData.canLayAll0 (l.map PyData.int) = true := fun l => by
    induction l with
    | nil => rfl
    | cons a r ih => simp only [List.map_cons, PyData.canLayAll0, PyData.canLay0, ih, Bool.and_self]
  have h2 : ∀ l : List Int, PyData.depthAll (l.map PyData.int) = 0 := fun l => by
    induction l with
    | nil => rfl
    | cons a r ih => simp only [List.map_cons, PyData.depthAll, PyData.depth, ih]; rfl
  unfold SeqAt.shaped
  rw [Bool.and_eq_true]
  exact ⟨by unfold PyData.canLay0; exact h1 ns, decide_eq_true (by unfold PyData.depth; rw [h2]; decide)⟩
theorem eqv_ints {ns : List Int} : PyData.eqv (.list (ns.map PyData.int)) (.list []) = decide (ns = []) := by
  cases ns with
  | nil => simp [PyData.eqv, PyData.eqvAll]
  | cons a r => simp [PyData.eqv, PyData.eqvAll]
theorem ints_dp {K : PySem.W.Frag} {H : Hp} : ∀ ns : List Int, DpAll K H (ns.map V.int) (ns.map PyData.int)
  | [] => .nil
  | n :: r => .cons (.int n) (ints_dp r)
theorem eqDK {X : Cx} {K : PySem.W.Frag} (h : X.K = K) (hu : X.A.units + 64 < cLine) : OpR X (compareOp .Eq) (rEqD K) := h ▸ op_eqD hu
theorem last_at {xs : List V} (h : xs ≠ []) : ∃ v ∈ xs, atI xs (-1) = some v := by
  have hl := List.length_pos_iff.mpr h
  refine ⟨xs[xs.length - 1]'(by omega), List.getElem_mem _, ?_⟩
  have e : ixN xs.length (-1) = some (xs.length - 1) := by
    unfold ixN
    rw [if_neg (by decide)]
    split
    · congr 1
      omega
    · omega
  unfold atI
  rw [e]
  exact List.getElem?_eq_getElem _
theorem bx_kq {C b : Addr} {n : Int} {H H' : Hp} {p : Pr} (hb : Bx b n H) (ok : p.Ok C H) (k : ∀ x o, x ≠ p.c → x ≠ p.d → x ≠ p.M → x ≠ p.m → H x = some o → H' x = some o) : Bx b n H' := by
  obtain ⟨x, y, z, r, rr⟩ := hb
  obtain ⟨⟨dx, e⟩, e2, e3, e4, _⟩ := ok
  exact ⟨x, y, z, k _ _ (ne_of r e (by simp)) (ne_of r e2 (by simp)) (ne_of r e3 (by simp)) (ne_of r e4 (by simp)) r, rr⟩
section
variable {P : Program} {w : World} {K : PySem.W.Frag} {mg : Str → Option Value} {base : Heap} {C : Addr}
abbrev s_law_deed : Stmt := top 14
theorem sc_law_deed : FnScope ["_law_box_here", "_law_wires", "_law_models", "_law_at", "_law_wire", "_law_model", "_law_way", "_law_word_here", "_law_known", "_law_number", "_law_due"] ["_law_box_here", "_law_wires", "_law_models"] (defScope s_law_deed) := ⟨rfl, rfl, rfl, by decide +kernel, rfl, by decide +kernel, by decide +kernel⟩
def spDeed (C : Addr) : Sp := fun vs H Q _ => ∃ (H0 : Hp) (b lc lm : Addr) (d : Nat) (p q : Pr) (n B : Int), vs = [.ref b, .ref lc, .ref lm] ∧ Bx b n H ∧ n ≤ 70000 ∧ H0 b = none ∧ Wo C H0 H lc lm d p q ∧ p.s ≤ B ∧ q.s ≤ B ∧ 0 ≤ B ∧ B ≤ 280 ∧
  ∀ H' d' p' q', Bx b (n + 90) H' → Wo C H0 H' lc lm d' p' q' → p'.s ≤ B + 1 → q'.s ≤ B + 1 → Q (.bl true) H'
theorem ok_deed {f fT fO fW f1 f2 f3 : Addr} {fd fdT fdO fdW fd1 fd2 fd3 : FuncData} (F : Fun K "_law_deed" "_law_deed" s_law_deed f fd) (T : Txt mg) (TC : WirT K C)
    (Glaw_take : FnOk P w K mg base CX0 1 fT fdT ["_law_box_here", "_law_many"] spTake) (Nlaw_take : Fn K mg "_law_take" sTake ["_law_box_here", "_law_many"] fT fdT)
    (Glaw_other : FnOk P w K mg base CX0 4 fO fdO ["_law_box_here", "_law_wires", "_law_models"] (spOther C)) (Nlaw_other : Fn K mg "_law_other" s_law_other ["_law_box_here", "_law_wires", "_law_models"] fO fdO)
    (Glaw_word : FnOk P w K mg base CX0 3 fW fdW ["_law_box_here"] spWrd) (Nlaw_word : Fn K mg "_law_word" s_law_word ["_law_box_here"] fW fdW)
    (Msend : Me K C "send" "Wire.send" s_send ["self", "word"] f1 fd1) (Gsend : FnOk P w K mg base CX0 1 f1 fd1 ["self", "word"] (spSend C))
    (Mget : Me K C "get" "Wire.get" s_get ["self", "number"] f2 fd2) (Gget : FnOk P w K mg base CX0 3 f2 fd2 ["self", "number"] (spGet C))
    (Mlose : Me K C "lose" "Wire.lose" s_lose ["self", "number"] f3 fd3) (Glose : FnOk P w K mg base CX0 4 f3 fd3 ["self", "number"] (spLose C)) :
    GOk P w K mg base CX0 5 f fd ["_law_box_here", "_law_wires", "_law_models"] (spDeed C) := by
  refine gok F sc_law_deed (fun vs H Q E h => ?_) (fun cdv A outer s H vs Q E gd hr h => ?_)
  · obtain ⟨H0, b, lc, lm, d, p, q, n, B, rfl, _⟩ := h
    rfl
  · obtain ⟨H0, b, lc, lm, d0, p0, q0, n, B, rfl, hb, hn, zb, wo0, e0, e1, B0, B8, k⟩ := h
    have hu := hr.units
    refine ⟨_, pss_cons (ps_if (pt_cmpR op_eq (pe_call Glaw_take (hr.mono (by decide)) (by rfl) Nlaw_take.g Nlaw_take.kp Nlaw_take.b .nil pass0 (pa_cons (pv 0) (pa_cons pe_int pa_nil))) pe_int (nomark _)) (pss_one (ps_expr (pe_call Glaw_other (hr.mono (by decide)) (by rfl) Nlaw_other.g Nlaw_other.kp Nlaw_other.b .nil pass0 (pa_cons (pv 0) (pa_cons (pv 1) (pa_cons (pv 2) pa_nil)))))) pss_nil)
      (pss_cons (ps_set (i := 3) sc_law_deed.nd rfl (Or.inl rfl) (pe_call Glaw_take (hr.mono (by decide)) (by rfl) Nlaw_take.g Nlaw_take.kp Nlaw_take.b .nil pass0 (pa_cons (pv 0) (pa_cons pe_int pa_nil))))
      (pss_cons (ps_par (i := 4) (j := 5) rfl sc_law_deed.nd rfl rfl (by decide) rfl rfl (pa_cons (pe_ix ix_list (pv 1) (pv 3) (fun _ _ => rfl)) (pa_cons (pe_ix ix_list (pv 2) (pv 3) (fun _ _ => rfl)) pa_nil)) (by rfl))
      (pss_cons (ps_set (i := 6) sc_law_deed.nd rfl (Or.inl rfl) (pe_call Glaw_take (hr.mono (by decide)) (by rfl) Nlaw_take.g Nlaw_take.kp Nlaw_take.b .nil pass0 (pa_cons (pv 0) (pa_cons pe_int pa_nil))))
      (pss_cons (ps_set (i := 7) sc_law_deed.nd rfl (Or.inl rfl) (pe_call Glaw_word (hr.mono (by decide)) (by rfl) Nlaw_word.g Nlaw_word.kp Nlaw_word.b .nil pass0 (pa_cons (pv 0) pa_nil)))
      (pss_cons (ps_set (i := 8) sc_law_deed.nd rfl (Or.inl rfl) (pe_callB (call_sortedDA rfl) (by rfl) T.sorted_ (by decide +kernel) (pa_cons (pe_dget (hu_of hr) (pv 5) pe_str (fun _ _ => rfl)) pa_nil)))
      (pss_cons (ps_if (PW.pt (pw_or (pt_cmpR op_lt (pv 6) pe_int (nomark _)) (pw_or1 (pt_cmpR (eqDK (K := K) rfl hu) (pv 8) (pe_lst pa_nil) (nomark _))))) (pss_cons (ps_set (i := 9) sc_law_deed.nd rfl (Or.inl rfl) (pe_dget (hu_of hr) (pv 5) pe_str (fun _ _ => rfl)))
          (pss_cons (ps_dput (hu_of hr) (pe_dget (hu_of hr) (pv 5) pe_str (fun _ _ => rfl)) (pv 9) (pv 7) rfl)
          (pss_cons (ps_dput (hu_of hr) (pv 5) pe_str (pe_op op_add (pv 9) pe_int) rfl)
          (pss_one (ps_ret (pe_cmpR op_eq (pe_callB (call_repr gd hr) (by rfl) T.repr_ (by decide +kernel) (pa_cons (pe_meth (pv 4) TC.cl Msend.m Gsend (hr.mono (by decide)) Msend.b .nil pass0 (pa_cons (pv 7) pa_nil)) pa_nil)) (pe_callB (call_repr gd hr) (by rfl) T.repr_ (by decide +kernel) (pa_cons (pv 9) pa_nil)) (nomark _))))))) pss_nil)
      (pss_cons (ps_set (i := 9) sc_law_deed.nd rfl (Or.inl rfl) (pe_ix ix_list (pe_lst (pa_cons (pe_ix ix_list (pv 8) pe_int (fun _ _ => rfl)) (pa_cons (pe_ix ix_list (pv 8) (pe_un un_neg pe_int) (fun _ _ => rfl)) (pa_cons (pe_ix ix_list (pv 8) (pe_call Glaw_take (hr.mono (by decide)) (by rfl) Nlaw_take.g Nlaw_take.kp Nlaw_take.b .nil pass0 (pa_cons (pv 0) (pa_cons (pe_callB call_len_seq (by rfl) T.len_ PySem.boot_len (pa_cons (pv 8) pa_nil)) pa_nil))) (fun _ _ => rfl)) pa_nil)))) (pe_call Glaw_take (hr.mono (by decide)) (by rfl) Nlaw_take.g Nlaw_take.kp Nlaw_take.b .nil pass0 (pa_cons (pv 0) (pa_cons pe_int pa_nil))) (fun _ _ => rfl)))
      (pss_cons (ps_set (i := 10) sc_law_deed.nd rfl (Or.inl rfl) (pe_dpop1 (pe_dget (hu_of hr) (pv 5) pe_str (fun _ _ => rfl)) (pv 9) ⟨rfl, rfl, rfl, rfl⟩))
      (pss_cons (ps_if (pt_cmpR op_eq (pv 6) pe_int (nomark _)) (pss_one (ps_ret (pe_cmpR op_eq (pe_callB (call_repr gd hr) (by rfl) T.repr_ (by decide +kernel) (pa_cons (pe_meth (pv 4) TC.cl Mget.m Gget (hr.mono (by decide)) Mget.b .nil pass0 (pa_cons (pv 9) pa_nil)) pa_nil)) (pe_callB (call_repr gd hr) (by rfl) T.repr_ (by decide +kernel) (pa_cons (pv 10) pa_nil)) (nomark _)))) pss_nil)
      (pss_one (ps_ret (pe_cmpR op_isN (pe_meth (pv 4) TC.cl Mlose.m Glose (hr.mono (by decide)) Mlose.b .nil pass0 (pa_cons (pv 9) pa_nil)) pe_non (nomark _))))))))))))), ?_⟩
    refine (fun (rest : ∀ (H2 : Hp) (d : Nat) (p q : Pr), Wo C H0 H2 lc lm d p q → Bx b (n + 3) H2 → p.s ≤ B → q.s ≤ B → (?G : Hp → Prop) H2) => ?main) ?last
    case main =>
      refine ⟨_, rfl, b, 8, n, rfl, hb, by omega, by decide, by decide, fun d1 H1 _ _ off1 hb1 => ?_⟩
      have wo1 := wo0.off hb zb (KB.off off1)
      refine ⟨rfl, _, rfl, ite2 (fun e5 => ?_) (fun e5 => ?_)⟩
      · refine ⟨_, rfl, _, rfl, _, rfl, H0, b, lc, lm, d0, p0, q0, n + 1, B, rfl, hb1, by omega, zb, wo1, e0, e1, B0, fun H2 d' p' q' hb2 wo2 r1 r2 => ?_⟩
        exact rest H2 d' p' q' wo2 (hb2.mono (by omega)) r1 r2
      · exact rest H1 d0 p0 q0 wo1 (hb1.mono (by omega)) e0 e1
    clear hb wo0 e0 e1
    intro H2 d0 p0 q0 wo0 hb e0 e1
    refine ⟨_, rfl, b, 2, _, rfl, hb, by omega, by decide, by decide, fun d H3 a0 a1 off3 hb3 => ?_⟩
    have wo3 := wo0.off hb zb (KB.off off3)
    clear hb wo0 off3
    obtain ⟨d, rfl⟩ := Int.eq_ofNat_of_zero_le a0
    obtain ⟨p, q, wo, sel⟩ := wo3.at_ d (by omega)
    have ep : p.s ≤ B ∧ q.s ≤ B := by
      rcases sel with ⟨rfl, rfl⟩ | ⟨rfl, rfl⟩
      · exact ⟨e0, e1⟩
      · exact ⟨e1, e0⟩
    clear wo3 sel e0 e1 d0 p0 q0
    obtain ⟨xs, hc, lx, x1, x2⟩ := wo.hc
    obtain ⟨ys, hm, ly, y1, y2⟩ := wo.hm
    refine ⟨_, rfl, _, rfl, lc, _, _, _, rfl, rfl, SqL.of hc, at2 x1, _, rfl, _, rfl, lm, _, _, _, rfl, rfl, SqL.of hm, at2 y1, _, _, rfl, ?_⟩
    obtain ⟨⟨dx, c1⟩, c2, c3, c4, c5, c6, c7⟩ := id wo.p_
    refine ⟨_, rfl, b, 4, _, rfl, hb3, by omega, by decide, by decide, fun way H4 w0 w1 off4 hb4 => ?_⟩
    refine ⟨_, rfl, b, _, rfl, hb4, by omega, fun t ws H5 wr k5 zt hb5 => ?_⟩
    have wo5 := wo.off hb3 zb ((KB.off off4).trans k5)
    clear hb3 hb4 off4 k5 wo hc hm x1 x2 y1 y2 lx ly
    obtain ⟨⟨dx, c1⟩, c2, c3, c4, c5, c6, c7⟩ := id wo5.p_
    have rw_ : ∀ {H'}, Same H5 H' → DGet H' p.M (kV (Sum.inr "words")) (some (.ref p.m)) := fun s => md_words p.m p.s ▸ DGet.k (k := Sum.inr ("words" : Str)) (s _ _ c3)
    have rs : ∀ {H'}, Same H5 H' → DGet H' p.M (kV (Sum.inr "sent")) (some (.int p.s)) := fun s => md_sent p.m p.s ▸ DGet.k (k := Sum.inr ("sent" : Str)) (s _ _ c3)
    have l290 : p.es.length ≤ 290 := by have := c6.sn; omega
    refine ⟨_, rfl, p.M, _, rfl, rw_ (Same.refl H5), p.m, _, p.es.map (·.1), rfl, .inl c4, ks_map _, fun ks a1 pm pw na => ?_⟩
    obtain rfl := ks_eq c6.asc pm pw
    clear pm pw
    have nab : a1 ≠ b := hb5.fresh na
    have s6 : Same H5 (upd H5 a1 (.lst ((p.es.map (·.1)).map V.int))) := same_new na
    have eA : upd H5 a1 (.lst ((p.es.map (·.1)).map V.int)) a1 = some (.lst ((p.es.map (·.1)).map V.int)) := upd_same
    have hb6 := hb5.alloc (o := .lst ((p.es.map (·.1)).map V.int)) na
    generalize upd H5 a1 (.lst ((p.es.map (·.1)).map V.int)) = H6 at s6 eA hb6 ⊢
    -- a word is sent
    have send : ∀ (H7 : Hp), Same H6 H7 → Bx b (n + 3 + 1 + 1 + 73) H7 → tSeq (tAsg (tDGet (tVar 5) (tC (V.str "sent"))) (gName 9))
          (tSeq (sDPut (tDGet (tVar 5) (tC (V.str "words"))) (tVar 9) (tVar 7)) (tSeq (sDPut (tVar 5) (tC (V.str "sent")) (tOp (rI0 fun i j => V.int (i + j)) (tVar 9) (tC (V.int 1))))
          (tRet (tOp rEq (tCB (rRepr K) (tCons (tMeth C "send" (spSend C) [] E0 (tVar 4) (tCons (tVar 7) tNil)) tNil)) (tCB (rRepr K) (tCons (tVar 9) tNil))))))
          { nx := fun _ H' => Q .non H', rt := Q } [some (.ref b), some (.ref lc), some (.ref lm), some (.int (d : Nat)), some (.ref p.c), some (.ref p.M), some (.int way), some (.ref t), some (.ref a1), none, none] H7 := by
      intro H7 s7 hb7
      have s57 := s6.trans s7
      have wo7 := wo5.same s57
      obtain ⟨⟨dx, c1⟩, c2, c3, c4, c5, c6, c7⟩ := id wo7.p_
      have wr7 : Wrd H7 (t, ws) := ⟨s57 _ _ wr.1, wr.2⟩
      refine ⟨_, rfl, p.M, _, rfl, rs s57, ?_⟩
      have ep' := put_ent c6 t ws
      refine ⟨_, rfl, _, rfl, p.M, _, rfl, rw_ s57, _, rfl, p.m, _, rfl, DPut.k (k := Sum.inl p.s) c4 (by rw [List.length_map]; exact lt_line _ (by omega)), ?_⟩
      rw [ep']
      have nmM : p.m ≠ p.M := (ne_of c3 c4 (md_ne _ _ _)).symm
      have hM8 : upd H7 p.m (.dK ((p.es ++ [(p.s, t, ws)]).map entK)) p.M = some (.dK (md p.m p.s)) := by rw [upd_ne nmM.symm]; exact c3
      refine ⟨_, rfl, _, _, rfl, rfl, _, rfl, p.M, _, rfl, DPut.k (k := Sum.inr ("sent" : Str)) hM8 (by show 2 < sizeLine; decide), ?_⟩
      rw [md_put]
      have ncm : p.c ≠ p.m := ne_of c1 c4 (by simp)
      have ncM : p.c ≠ p.M := ne_of c1 c3 (by simp)
      have ncd : p.c ≠ p.d := ne_of c1 c2 (by simp)
      have ndM : p.d ≠ p.M := (ne_of c3 c2 (md_ne _ _ _)).symm
      generalize hH8 : upd (upd H7 p.m (.dK ((p.es ++ [(p.s, t, ws)]).map entK))) p.M (.dK (md p.m (p.s + 1))) = H8
      have f1 : H8 p.c = some (.ins C dx (wf p.d p.s)) := by rw [← hH8, upd_ne ncM, upd_ne ncm]; exact c1
      have f2 : H8 p.d = some (.dK (p.es.map entK)) := by rw [← hH8, upd_ne ndM, upd_ne c5]; exact c2
      have f3 : H8 p.M = some (.dK (md p.m (p.s + 1))) := by rw [← hH8, upd_same]
      have f4 : H8 p.m = some (.dK ((p.es ++ [(p.s, t, ws)]).map entK)) := by rw [← hH8, upd_ne nmM, upd_same]
      have f5 : ∀ x o, x ≠ p.m → x ≠ p.M → H7 x = some o → H8 x = some o := fun x o x1 x2 h => by rw [← hH8, upd_ne x2, upd_ne x1]; exact h
      clear hH8
      refine ⟨_, rfl, p.c, dx, _, rfl, f1, wf_no _ _ (by decide +kernel) (by decide +kernel), _, rfl, p.c, dx, p.d, p.s, p.es.map entK, .ref t, rfl, f1, f2, (by rw [List.length_map]; exact lt_line _ (by omega)), ?_⟩
      rw [ep']
      obtain ⟨m1, m2, m3⟩ := (sb_int (i := p.s) (by omega)).rep (by decide) (by decide)
      refine ⟨_, .int p.s, rfl, .int _, m1, m2, m3, _, rfl, _, .int p.s, rfl, .int _, m1, m2, m3, rfl, ?_⟩
      show Q (.bl (decide (_ = _))) _
      rw [decide_eq_true rfl]
      have kq : ∀ x o, x ≠ p.c → x ≠ p.d → x ≠ p.M → x ≠ p.m → H7 x = some o → upd (upd H8 p.d (.dK ((p.es ++ [(p.s, t, ws)]).map entK))) p.c (.ins C dx (wf p.d (p.s + 1))) x = some o := fun x o x2 x3 x4 x5 h => by
        rw [upd_ne x2, upd_ne x3]
        exact f5 x o x5 x4 h
      refine k _ d { p with s := p.s + 1, es := p.es ++ [(p.s, t, ws)] } q ((bx_kq hb7 wo7.p_ kq).mono (by omega)) (wo7.step hb7 zb (fun x o _ => kq x o) ⟨⟨dx, upd_same⟩, ?_, ?_, ?_, c5, (c6.put wr7 c7).same fun x us h => ?_, by show 0 ≤ p.s + 1; omega⟩ rfl rfl rfl rfl) (by show p.s + 1 ≤ B + 1; omega) (by omega)
      · show upd _ p.c _ p.d = _
        rw [upd_ne ncd.symm, upd_same]
      · show upd _ p.c _ p.M = _
        rw [upd_ne ncM.symm, upd_ne ndM.symm]
        exact f3
      · show upd _ p.c _ p.m = _
        rw [upd_ne ncm.symm, upd_ne c5.symm]
        exact f4
      · exact kq x _ (ne_of h c1 (by simp)) (ne_of h c2 (by simp)) (ne_of h c3 (by simp)) (ne_of h c4 (by simp)) h
    refine ⟨_, rfl, _, _, rfl, rfl, _, rfl, ite2 (fun c => send H6 (Same.refl _) hb6) (fun c => ?_)⟩
    refine ⟨_, rfl, Nat.zero_le _, fun u hu => ?_⟩
    have s7 : Same H6 (upd H6 u (.lst [])) := same_new hu
    refine ⟨.list ((p.es.map (·.1)).map PyData.int), .list [], .lst (SqL.of (s7 _ _ eA)) (ints_dp _), .lst (SqL.of upd_same) .nil, shaped_ints _, rfl, _, rfl, ?_⟩
    rw [eqv_ints]
    have hb7 := hb6.alloc (o := .lst []) hu
    refine ite2 (fun c2 => send _ s7 hb7) (fun c2 => ?_)
    clear send
    have ne : p.es.map (·.1) ≠ [] := fun z => c2 (decide_eq_true z)
    have wo7 := wo5.same (s6.trans s7)
    have eA7 := s7 _ _ eA
    generalize upd H6 u (.lst []) = H7 at s7 hb7 wo7 eA7 ⊢
    clear s7 hb6 eA s6 rw_ rs wo5 hb5 c1 c2 c3 c4 c6 wr zt na H6 hu c
    obtain ⟨⟨dx, c1⟩, c2, c3, c4, c5, c6, c7⟩ := id wo7.p_
    have nev : (p.es.map (·.1)).map V.int ≠ [] := fun z => ne (List.map_eq_nil_iff.mp z)
    have len0 := List.length_pos_iff.mpr nev
    obtain ⟨v0, m0, g0⟩ := atI_ex (xs := (p.es.map (·.1)).map V.int) (d := 0) (Int.le_refl 0) (by omega)
    obtain ⟨v1, m1, g1⟩ := last_at nev
    refine ⟨_, rfl, a1, _, _, _, rfl, rfl, SqL.of eA7, g0, _, rfl, _, rfl, a1, _, _, _, rfl, rfl, SqL.of eA7, g1, ?_⟩
    refine ⟨_, rfl, _, rfl, _, rfl, a1, _, rfl, .inl (SqL.of eA7), b, _, _, rfl, hb7, by omega, by omega, dec9000 (by omega) (by rw [List.length_map, List.length_map]; omega), fun r H8 r0 r1 off8 hb8 => ?_⟩
    have eA8 := (off8 a1 nab).trans eA7
    obtain ⟨v2, m2, g2⟩ := atI_ex (xs := (p.es.map (·.1)).map V.int) r0 r1
    refine ⟨a1, _, _, _, rfl, rfl, SqL.of eA8, g2, (by show 3 ≤ sizeLine; decide), fun L hL => ?_⟩
    have nLb : L ≠ b := hb8.fresh hL
    refine ⟨_, rfl, b, 3, _, rfl, hb8.alloc hL, by omega, by decide, by decide, fun r3 H9 q0 q1 off9 hb9 => ?_⟩
    have wo9 := (wo7.off hb7 zb (KB.off off8)).same (same_new (o := .lst [v0, v1, v2]) hL) |>.off (hb8.alloc hL) zb (KB.off off9)
    have eL : H9 L = some (.lst [v0, v1, v2]) := (off9 L nLb).trans upd_same
    obtain ⟨v3, m3, g3⟩ := atI_ex (xs := [v0, v1, v2]) q0 q1
    obtain ⟨e, me, rfl⟩ : ∃ e ∈ p.es, v3 = .int e.1 := by
      have mem : ∀ {v}, v ∈ (p.es.map (·.1)).map V.int → ∃ e ∈ p.es, v = .int e.1 := fun {v} h => by
        obtain ⟨i, hi, rfl⟩ := List.mem_map.mp h
        obtain ⟨e, he, rfl⟩ := List.mem_map.mp hi
        exact ⟨e, he, rfl⟩
      simp only [List.mem_cons, List.not_mem_nil, or_false] at m3
      rcases m3 with rfl | rfl | rfl
      · exact mem m0
      · exact mem m1
      · exact mem m2
    refine ⟨L, _, _, _, rfl, rfl, SqL.of eL, g3, ?_⟩
    have hb9' : Bx b (n + 85) H9 := hb9.mono (by omega)
    clear g3 eL hL nLb off9 off8 eA8 eA7 hb9 hb8 hb7 wo7 m0 m1 m2 g0 g1 g2 c1 c2 c3 c4 c6 nab
    obtain ⟨⟨dx, c1⟩, c2, c3, c4, c5, c6, c7⟩ := id wo9.p_
    have gM : DGet H9 p.M (kV (Sum.inr "words")) (some (.ref p.m)) := md_words p.m p.s ▸ DGet.k (k := Sum.inr ("words" : Str)) c3
    have ve := val_ent c6.asc me rfl
    refine ⟨_, rfl, p.M, _, rfl, gM, p.m, rfl, .inl ⟨_, .inl c4⟩, _, rfl, _, Sum.inl e.1, _, c4, rfl, ve, ?_⟩
    rw [drop_ent]
    have be := c6.bd e me
    have we := c6.wr e me
    have nmM : p.m ≠ p.M := (ne_of c3 c4 (md_ne _ _ _)).symm
    have ncm : p.c ≠ p.m := ne_of c1 c4 (by simp)
    have ncM : p.c ≠ p.M := ne_of c1 c3 (by simp)
    have ncd : p.c ≠ p.d := ne_of c1 c2 (by simp)
    have ndM : p.d ≠ p.M := (ne_of c3 c2 (md_ne _ _ _)).symm
    generalize hes : (p.es.filter fun x => decide (x.1 ≠ e.1)) = es'
    have c6' : Es H9 p.s es' := hes ▸ c6.drop e.1
    have d1 : upd H9 p.m (.dK (es'.map entK)) p.c = some (.ins C dx (wf p.d p.s)) := by rw [upd_ne ncm]; exact c1
    have d2 : upd H9 p.m (.dK (es'.map entK)) p.d = some (.dK (p.es.map entK)) := by rw [upd_ne c5]; exact c2
    have kq : ∀ x o, x ≠ p.c → x ≠ p.d → x ≠ p.M → x ≠ p.m → H9 x = some o → upd (upd H9 p.m (.dK (es'.map entK))) p.d (.dK (es'.map entK)) x = some o := fun x o x2 x3 x4 x5 h => by
      rw [upd_ne x3, upd_ne x5]
      exact h
    have fin : Q (.bl true) (upd (upd H9 p.m (.dK (es'.map entK))) p.d (.dK (es'.map entK))) := by
      refine k _ d { p with es := es' } q ((bx_kq hb9' wo9.p_ kq).mono (by omega)) (wo9.step hb9' zb (fun x o _ => kq x o) ⟨⟨dx, ?_⟩, upd_same, ?_, ?_, c5, c6'.same fun x us h => ?_, c7⟩ rfl rfl rfl rfl) (by show p.s ≤ B + 1; omega) (by omega)
      · show upd _ p.d _ p.c = _
        rw [upd_ne ncd]
        exact d1
      · show upd _ p.d _ p.M = _
        rw [upd_ne ndM.symm, upd_ne nmM.symm]
        exact c3
      · show upd _ p.d _ p.m = _
        rw [upd_ne c5.symm, upd_same]
      · exact kq x _ (ne_of h c1 (by simp)) (ne_of h c2 (by simp)) (ne_of h c3 (by simp)) (ne_of h c4 (by simp)) h
    refine ⟨_, rfl, rfl, _, rfl, ite2 (fun c => ?_) (fun c => ?_)⟩
    · refine ⟨_, rfl, p.c, dx, _, rfl, d1, wf_no _ _ (by decide +kernel) (by decide +kernel), _, rfl, p.c, dx, p.d, p.s, p.es.map entK, e.1, _, rfl, d1, d2, be.1, by omega, ve, ?_⟩
      rw [drop_ent, hes]
      obtain ⟨m1, m2, m3⟩ := (wrd_sb we).rep (by decide) (by decide)
      have dpw : Dp K (upd (upd H9 p.m (.dK (es'.map entK))) p.d (.dK (es'.map entK))) (.ref e.2.1) (.tuple (e.2.2.map partD)) :=
        .tup (SqT.of (kq _ _ (ne_of we.1 c1 (by simp)) (ne_of we.1 c2 (by simp)) (ne_of we.1 c3 (by simp)) (ne_of we.1 c4 (by simp)) we.1)) (dp_parts we.2.2)
      refine ⟨_, .tuple (e.2.2.map partD), rfl, dpw, m1, m2, m3, _, rfl, _, .tuple (e.2.2.map partD), rfl, dpw, m1, m2, m3, rfl, ?_⟩
      show Q (.bl (decide (_ = _))) _
      rw [decide_eq_true rfl]
      exact fin
    · refine ⟨_, rfl, p.c, dx, _, rfl, d1, wf_no _ _ (by decide +kernel) (by decide +kernel), _, rfl, p.c, dx, p.d, p.s, p.es.map entK, e.1, _, rfl, d1, d2, be.1, by omega, ve, ?_⟩
      rw [drop_ent, hes]
      refine ⟨rfl, ?_⟩
      exact fin
end
end K11

set_option maxRecDepth 100000
set_option maxHeartbeats 400000
namespace K11
open PySem PySem.Spec PyProof.Rows L2 GxR Gd TL My
theorem made_w {C : Addr} {H H3 : Hp} {x dy dd : Addr} (nx : H x = none) (ny : H dy = none) (ndd : upd (upd H dy (.own x)) x (.ins C dy []) dd = none)
    (off : ∀ z, z ≠ x → z ≠ dd → H3 z = upd (upd H dy (.own x)) x (.ins C dy []) z) : Same H H3 ∧ H dd = none ∧ x ≠ dd := by
  have ndx : dd ≠ x := (ne_of_none upd_same ndd).symm
  have ndd' : H dd = none := by
    rw [upd_ne ndx] at ndd
    by_cases z : dd = dy
    · rw [z, upd_same] at ndd; cases ndd
    · rw [upd_ne z] at ndd; exact ndd
  exact ⟨fun z o h => by
    have z1 := ne_of_none h nx
    rw [off z z1 (ne_of_none h ndd'), upd_ne z1, upd_ne (ne_of_none h ny)]
    exact h, ndd', ndx.symm⟩
theorem made_d {H : Hp} {M m : Addr} (nM : H M = none) (nm : upd H M (.dK []) m = none) : Same H (upd (upd (upd H M (.dK [])) m (.dK [])) M (.dK (md m 0))) ∧ H m = none ∧ M ≠ m ∧
    upd (upd (upd H M (.dK [])) m (.dK [])) M (.dK (md m 0)) M = some (.dK (md m 0)) ∧ upd (upd (upd H M (.dK [])) m (.dK [])) M (.dK (md m 0)) m = some (.dK []) := by
  have nMm : M ≠ m := ne_of_none upd_same nm
  have nm4 : H m = none := by rw [upd_ne nMm.symm] at nm; exact nm
  exact ⟨fun z o h => by
    rw [upd_ne (ne_of_none h nM), upd_ne (ne_of_none h nm4), upd_ne (ne_of_none h nM)]
    exact h, nm4, nMm, upd_same, by rw [upd_ne nMm.symm, upd_same]⟩
section
variable {P : Program} {w : World} {K : PySem.W.Frag} {mg : Str → Option Value} {base : Heap} {C : Addr}
abbrev s_law : Stmt := top 16
theorem sc_law : FnScope ["_law_script", "_law_wires", "_law_models", "_law_many", "_law_quiet", "_law_k", "_law_box_here", "_law_turn"] ["_law_script"] (defScope s_law) := ⟨rfl, rfl, rfl, by decide +kernel, rfl, by decide +kernel, by decide +kernel⟩
def spLaw (K : PySem.W.Frag) : Sp := fun vs H Q _ => ∃ (a : Addr) (ns : List Int), vs = [.ref a] ∧ SqL K H a (ns.map V.int) ∧ SmAt H ∧ ns.length ≤ 63 ∧ ∀ H', Q (.bl true) H'
theorem ok_law {f fI f1 f2 f3 f4 f5 : Addr} {fd fdI fd1 fd2 fd3 fd4 fd5 : FuncData} (F : Fun K "law" "law" s_law f fd) (T : Txt mg) (gWire : mg "Wire" = some (.ref C)) (MWire : Mk K C fI)
    (GWire : FnOk P w K mg base CX0 1 fI fdI ["self"] (spInit C)) (bWire : Binds K fdI ["self"] [])
    (Glaw_cell : FnOk P w K mg base CX0 1 f1 fd1 ["_law_script", "_law_k"] (spCell K)) (Nlaw_cell : Fn K mg "_law_cell" sCell ["_law_script", "_law_k"] f1 fd1)
    (Glaw_box : FnOk P w K mg base CX0 1 f2 fd2 ["_law_cell_here"] spBox) (Nlaw_box : Fn K mg "_law_box" sBox ["_law_cell_here"] f2 fd2)
    (Glaw_take : FnOk P w K mg base CX0 1 f3 fd3 ["_law_box_here", "_law_many"] spTake) (Nlaw_take : Fn K mg "_law_take" sTake ["_law_box_here", "_law_many"] f3 fd3)
    (Glaw_right : GOk P w K mg base CX0 2 f4 fd4 ["_law_wire", "_law_model"] (spRight C)) (Nlaw_right : Fn K mg "_law_right" s_law_right ["_law_wire", "_law_model"] f4 fd4)
    (Glaw_deed : GOk P w K mg base CX0 5 f5 fd5 ["_law_box_here", "_law_wires", "_law_models"] (spDeed C)) (Nlaw_deed : Fn K mg "_law_deed" s_law_deed ["_law_box_here", "_law_wires", "_law_models"] f5 fd5) :
    GOk P w K mg base CX0 6 f fd ["_law_script"] (spLaw K) := by
  refine gok F sc_law (fun vs H Q E h => ?_) (fun cdv A outer s H vs Q E gd hr h => ?_)
  · obtain ⟨a, ns, rfl, _⟩ := h
    rfl
  · obtain ⟨a, ns, rfl, hS, sm, hl, k⟩ := h
    refine ⟨_, pss_cons (ps_set (i := 1) sc_law.nd rfl (Or.inl rfl) (pe_lst (pa_cons (pe_make0 MWire GWire (hr.mono (by decide)) (by rfl) gWire bWire .nil pass0) (pa_cons (pe_make0 MWire GWire (hr.mono (by decide)) (by rfl) gWire bWire .nil pass0) pa_nil))))
      (pss_cons (ps_set (i := 2) sc_law.nd rfl (Or.inl rfl) (pe_lst (pa_cons (pe_disp (pps_cons pe_str pe_dnewK (pps_cons pe_str pe_int pps_nil)) (by rfl) (by rfl) (fun z => by cases z) (by decide)) (pa_cons (pe_disp (pps_cons pe_str pe_dnewK (pps_cons pe_str pe_int pps_nil)) (by rfl) (by rfl) (fun z => by cases z) (by decide)) pa_nil))))
      (pss_cons (ps_set (i := 3) sc_law.nd rfl (Or.inl rfl) (pe_callB (call_max2 rfl) (by rfl) T.max_ (by decide +kernel) (pa_cons pe_int (pa_cons (pe_callB (call_min2 rfl) (by rfl) T.min_ (by decide +kernel) (pa_cons pe_int (pa_cons (pe_callB call_len_seq (by rfl) T.len_ PySem.boot_len (pa_cons (pv 0) pa_nil)) pa_nil))) pa_nil))))
      (pss_cons (ps_set (i := 4) sc_law.nd rfl (Or.inl rfl) (pe_cmpR op_eq (pe_call Glaw_take (hr.mono (by decide)) (by rfl) Nlaw_take.g Nlaw_take.kp Nlaw_take.b .nil pass0 (pa_cons (pe_call Glaw_box (hr.mono (by decide)) (by rfl) Nlaw_box.g Nlaw_box.kp Nlaw_box.b .nil pass0 (pa_cons (pe_call Glaw_cell (hr.mono (by decide)) (by rfl) Nlaw_cell.g Nlaw_cell.kp Nlaw_cell.b .nil pass0 (pa_cons (pv 0) (pa_cons (pe_op op_sub (pv 3) pe_int) pa_nil))) pa_nil)) (pa_cons pe_int pa_nil))) pe_int (nomark _)))
      (pss_cons (ps_for PassesOwn.never rfl (pi_range1 (by rfl) T.range_ (pa_cons (pv 3) pa_nil)) (pg_name (i := 5) sc_law.nd rfl (Or.inl rfl)) (pss_cons (ps_set (i := 6) sc_law.nd rfl (Or.inl rfl) (pe_call Glaw_box (hr.mono (by decide)) (by rfl) Nlaw_box.g Nlaw_box.kp Nlaw_box.b .nil pass0 (pa_cons (pe_call Glaw_cell (hr.mono (by decide)) (by rfl) Nlaw_cell.g Nlaw_cell.kp Nlaw_cell.b .nil pass0 (pa_cons (pv 0) (pa_cons (pv 5) pa_nil))) pa_nil)))
          (pss_cons (ps_for PassesOwn.never rfl (pi_range1 (by rfl) T.range_ (pa_cons (pe_op op_add pe_int (pe_call Glaw_take (hr.mono (by decide)) (by rfl) Nlaw_take.g Nlaw_take.kp Nlaw_take.b .nil pass0 (pa_cons (pv 6) (pa_cons pe_int pa_nil)))) pa_nil)) (pg_name (i := 7) sc_law.nd rfl (Or.inl rfl)) (pss_one (ps_if (pt_not (pt_val (pe_gcall gd Glaw_deed (hr.mono (by decide)) (by rfl) Nlaw_deed.g Nlaw_deed.kp Nlaw_deed.b .nil pass0 (pa_cons (pv 6) (pa_cons (pv 1) (pa_cons (pv 2) pa_nil)))))) (pss_one (ps_ret pe_bl)) pss_nil)))
          (pss_one (ps_if (PW.pt (pw_or (pt_not (pt_val (pv 4))) (pw_or1 (pt_cmpR op_eq (pv 5) (pe_op op_sub (pv 3) pe_int) (nomark _))))) (pss_one (ps_if (PW.pt (pw_or (pt_not (pt_val (pe_gcall gd Glaw_right (hr.mono (by decide)) (by rfl) Nlaw_right.g Nlaw_right.kp Nlaw_right.b .nil pass0 (pa_cons (pe_ix ix_list (pv 1) pe_int (fun _ _ => rfl)) (pa_cons (pe_ix ix_list (pv 2) pe_int (fun _ _ => rfl)) pa_nil))))) (pw_or1 (pt_not (pt_val (pe_gcall gd Glaw_right (hr.mono (by decide)) (by rfl) Nlaw_right.g Nlaw_right.kp Nlaw_right.b .nil pass0 (pa_cons (pe_ix ix_list (pv 1) pe_int (fun _ _ => rfl)) (pa_cons (pe_ix ix_list (pv 2) pe_int (fun _ _ => rfl)) pa_nil)))))))) (pss_one (ps_ret pe_bl)) pss_nil)) pss_nil)))))
      (pss_one (ps_ret pe_bl)))))), ?_⟩
    intro c0 dy0 nc0 nd0 _
    refine ⟨c0, dy0, rfl, upd_same, fun d0 H1 ndd0 off1 e0 f0 => ⟨rfl, ?_⟩⟩
    obtain ⟨s1, zd0, ncd0⟩ := made_w nc0 nd0 ndd0 off1
    clear off1 ndd0 nd0
    intro c1 dy1 nc1 nd1 _
    refine ⟨c1, dy1, rfl, upd_same, fun d1 H2 ndd1 off2 e1 f1 => ⟨rfl, (by show 2 ≤ sizeLine; decide), fun lc nlc => ?_⟩⟩
    obtain ⟨s2, zd1, ncd1⟩ := made_w nc1 nd1 ndd1 off2
    clear off2 ndd1 nd1
    have s3 : Same H2 (upd H2 lc (.lst [.ref c0, .ref c1])) := same_new nlc
    have hlc : upd H2 lc (.lst [.ref c0, .ref c1]) lc = some (.lst [.ref c0, .ref c1]) := upd_same
    generalize upd H2 lc (.lst [.ref c0, .ref c1]) = H3 at s3 hlc ⊢
    intro M0 nM0 m0 nm0
    obtain ⟨s4, zm0, nMm0, g0, h0⟩ := made_d nM0 nm0
    refine ⟨by rw [upd_ne nMm0, upd_same], md m0 0, rfl, by simp [md, kw_], ?_⟩
    rw [md_new]
    generalize upd (upd (upd H3 M0 (.dK [])) m0 (.dK [])) M0 (.dK (md m0 0)) = H4 at s4 g0 h0 ⊢
    intro M1 nM1 m1 nm1
    obtain ⟨s5, zm1, nMm1, g1, h1⟩ := made_d nM1 nm1
    refine ⟨by rw [upd_ne nMm1, upd_same], md m1 0, rfl, by simp [md, kw_], ?_⟩
    rw [md_new]
    generalize upd (upd (upd H4 M1 (.dK [])) m1 (.dK [])) M1 (.dK (md m1 0)) = H5 at s5 g1 h1 ⊢
    refine ⟨(by show 2 ≤ sizeLine; decide), fun lm nlm => ?_⟩
    have s6 : Same H5 (upd H5 lm (.lst [.ref M0, .ref M1])) := same_new nlm
    have hlm : upd H5 lm (.lst [.ref M0, .ref M1]) lm = some (.lst [.ref M0, .ref M1]) := upd_same
    generalize upd H5 lm (.lst [.ref M0, .ref M1]) = H6 at s6 hlm ⊢
    have s16 : Same H1 H6 := s2.trans (s3.trans (s4.trans (s5.trans s6)))
    have s26 : Same H2 H6 := s3.trans (s4.trans (s5.trans s6))
    have s36 : Same H3 H6 := s4.trans (s5.trans s6)
    have s46 : Same H4 H6 := s5.trans s6
    have sA : Same H H6 := s1.trans s16
    have s13 : Same H H3 := s1.trans (s2.trans s3)
    have s14 : Same H H4 := s13.trans s4
    have wo : Wo C H H6 lc lm 0 ⟨c0, d0, M0, m0, 0, []⟩ ⟨c1, d1, M1, m1, 0, []⟩ := by
      refine ⟨by decide, ⟨_, s36 _ _ hlc, rfl, rfl, rfl⟩, ⟨_, hlm, rfl, rfl, rfl⟩, ?_, ⟨⟨dy0, s16 _ _ e0⟩, s16 _ _ f0, s46 _ _ g0, s46 _ _ h0, ?_, ⟨.nil, by simp, by simp, by simp⟩, Int.le_refl _⟩,
        ⟨⟨dy1, s26 _ _ e1⟩, s26 _ _ f1, s6 _ _ g1, s6 _ _ h1, ?_, ⟨.nil, by simp, by simp, by simp⟩, Int.le_refl _⟩, ⟨?_, ?_, ?_, ?_, ?_, ?_⟩, sA, ?_⟩
      · exact ne_of_none (s5 _ _ (s4 _ _ hlc)) nlm
      · exact ne_of_none (s3 _ _ (s2 _ _ f0)) zm0
      · exact ne_of_none (s4 _ _ (s3 _ _ f1)) zm1
      · exact ne_of_none e0 nc1
      · exact ne_of_none g0 nM1
      · exact ne_of_none f0 zd1
      · exact ne_of_none (s4 _ _ (s3 _ _ (s2 _ _ f0))) zm1
      · exact (ne_of_none (s3 _ _ f1) zm0).symm
      · exact ne_of_none h0 zm1
      · intro x hx
        simp only [List.mem_cons, List.not_mem_nil, or_false] at hx
        rcases hx with rfl | rfl | rfl | rfl | rfl | rfl | rfl | rfl | rfl | rfl
        · exact s1.free (s2.free nlc)
        · exact s14.free (s5.free nlm)
        · exact nc0
        · exact zd0
        · exact s13.free nM0
        · exact s13.free zm0
        · exact s1.free nc1
        · exact s1.free zd1
        · exact s14.free nM1
        · exact s14.free zm1
    clear s1 s2 s3 s4 s5 s6 s16 s26 s36 s46 s13 s14 sA e0 e1 f0 f1 g0 g1 h0 h1 hlc hlm nlc nlm nM0 nM1 nm0 nm1 nc0 nc1 zd0 zd1 zm0 zm1 nMm0 nMm1 ncd0 ncd1
    have hlen : (ns.map V.int).length = ns.length := List.length_map ..
    refine ⟨_, rfl, a, _, rfl, .inl (wo.s0.seq hS), _, _, rfl, _, _, rfl, ?_⟩
    obtain ⟨N, hN, N2, N50⟩ : ∃ N : Nat, (if (if (((ns.map V.int).length : Nat) : Int) < 50 then (((ns.map V.int).length : Nat) : Int) else 50) > 2 then (if (((ns.map V.int).length : Nat) : Int) < 50 then (((ns.map V.int).length : Nat) : Int) else 50) else 2) = (N : Int) ∧ 2 ≤ N ∧ N ≤ 50 := by
      rw [hlen]
      refine ⟨max 2 (min 50 ns.length), ?_, by omega, by omega⟩
      split <;> split <;> omega
    rw [hN]
    refine ⟨_, rfl, _, rfl, _, _, rfl, rfl, a, ns, N - 1, ?_, wo.s0.seq hS, fun cell => ?_⟩
    · show [V.ref a, V.int ((N : Int) - 1)] = [V.ref a, V.int ((N - 1 : Nat) : Int)]
      rw [show ((N : Int) - 1) = ((N - 1 : Nat) : Int) by omega]
    refine ⟨cell, rfl, fun b1 H7 nb1 off1 hb1 => ?_⟩
    refine ⟨b1, 2, 0, rfl, hb1, by omega, by decide, by decide, fun quiet H8 q0 q1 off2 hb2 => ?_⟩
    have s8 : Same H6 H8 := fun x o e => (off2 x (ne_of_none e nb1)).trans ((off1 x (ne_of_none e nb1)).trans e)
    have wo8 := wo.same s8
    clear wo s8 off1 off2 hb1 hb2
    refine ⟨rfl, ?_⟩
    generalize decide (V.int quiet = V.int 0) = bq
    refine ⟨_, rfl, _, rfl, by omega, by omega, for_range (lo := 0) (n := N) (fun i σ H' => ∃ (v5 v6 v7 : Option V) (d : Nat) (p q : Pr), σ = [some (.ref a), some (.ref lc), some (.ref lm), some (.int (N : Int)), some (.bl bq), v5, v6, v7] ∧
      Wo C H H' lc lm d p q ∧ p.s ≤ 4 * i ∧ q.s ≤ 4 * i) ⟨_, _, _, _, _, _, rfl, wo8, by simp, by simp⟩ ?_ ?_⟩
    · clear wo8
      rintro i σ H1 hi ⟨v5, v6, v7, d, p, q, rfl, wo, L0, L1⟩
      refine ⟨_, rfl, _, rfl, a, ns, i, ?_, wo.s0.seq hS, fun cell => ?_⟩
      · show [V.ref a, V.int (0 + (i : Int))] = [V.ref a, V.int i]
        rw [Int.zero_add]
      refine ⟨cell, rfl, fun b H2 nb off hb => ?_⟩
      have zb : H b = none := wo.s0.free nb
      have wo2 := wo.same (H' := H2) fun x o e => (off x (ne_of_none e nb)).trans e
      clear wo off nb
      refine ⟨_, rfl, b, 4, 0, rfl, hb, by omega, by decide, by decide, fun D0 H3 d0 d1 off3 hb3 => ?_⟩
      have wo3 := wo2.off hb zb (KB.off off3)
      clear wo2 hb off3
      obtain ⟨D, rfl⟩ := Int.eq_ofNat_of_zero_le d0
      have eD : ((1 : Int) + (D : Int)).toNat = 1 + D := by omega
      refine ⟨_, _, rfl, rfl, _, rfl, by omega, by omega, ?_⟩
      rw [eD]
      refine for_range (lo := 0) (n := 1 + D) (fun j σ H' => ∃ (v7 : Option V) (d : Nat) (p q : Pr), σ = [some (.ref a), some (.ref lc), some (.ref lm), some (.int (N : Int)), some (.bl bq), some (.int (0 + (i : Int))), some (.ref b), v7] ∧
        Wo C H H' lc lm d p q ∧ Bx b (1 + 90 * j) H' ∧ p.s ≤ 4 * i + j ∧ q.s ≤ 4 * i + j) ⟨_, d, p, q, rfl, wo3, hb3.mono (by omega), by omega, by omega⟩ ?_ ?_
      · clear wo3 hb3 L0 L1
        rintro j σ H4 hj ⟨v7, d, p, q, rfl, wo, hb, L0, L1⟩
        have hi' : i < N := hi
        refine ⟨_, rfl, _, rfl, _, rfl, H, b, lc, lm, d, p, q, 1 + 90 * j, 4 * i + j, rfl, hb, by omega, zb, wo, L0, L1, by omega, by omega, fun H5 d' p' q' hb5 wo5 r0 r1 => ?_⟩
        refine ⟨_, rfl, iteF ?_⟩
        exact ⟨_, d', p', q', rfl, wo5, hb5.mono (by push_cast; omega), by push_cast; omega, by push_cast; omega⟩
      · rintro σ H4 ⟨u7, d, p, q, rfl, wo4, hb, L0, L1⟩
        have hi' : i < N := hi
        obtain ⟨p, q, wo, sel⟩ := wo4.at_ 0 (by decide)
        have ep : p.s ≤ 4 * i + 4 ∧ q.s ≤ 4 * i + 4 := by
          rcases sel with ⟨rfl, rfl⟩ | ⟨rfl, rfl⟩
          · exact ⟨by omega, by omega⟩
          · exact ⟨by omega, by omega⟩
        clear wo4 sel L0 L1
        have nxt : ∀ H9, Same H4 H9 → ∃ (v5 v6 v7 : Option V) (d : Nat) (p q : Pr), ([some (.ref a), some (.ref lc), some (.ref lm), some (.int (N : Int)), some (.bl bq), some (.int (0 + (i : Int))), some (.ref b), u7] : L2.St) = [some (.ref a), some (.ref lc), some (.ref lm), some (.int (N : Int)), some (.bl bq), v5, v6, v7] ∧
            Wo C H H9 lc lm d p q ∧ p.s ≤ 4 * (i + 1 : Nat) ∧ q.s ≤ 4 * (i + 1 : Nat) := fun H9 s9 => ⟨_, _, _, 0, p, q, rfl, wo.same s9, by push_cast; omega, by push_cast; omega⟩
        obtain ⟨xs, hc, lx, x1, x2⟩ := wo.hc
        obtain ⟨ys, hm, ly, y1, y2⟩ := wo.hm
        have chk : tIfS (tOr (tNot (tB (tCall (spRight C) [] E0 (tCons (tOp (rIxL K) (tVar 1) (tC (.int 0))) (tCons (tOp (rIxL K) (tVar 2) (tC (.int 0))) tNil))))) (tNot (tB (tCall (spRight C) [] E0 (tCons (tOp (rIxL K) (tVar 1) (tC (.int 1))) (tCons (tOp (rIxL K) (tVar 2) (tC (.int 1))) tNil)))))) (tRet (tC (.bl false))) tNext
            { nx := fun σ H' => ∃ (v5 v6 v7 : Option V) (d : Nat) (p q : Pr), σ = [some (.ref a), some (.ref lc), some (.ref lm), some (.int (N : Int)), some (.bl bq), v5, v6, v7] ∧ Wo C H H' lc lm d p q ∧ p.s ≤ 4 * (i + 1 : Nat) ∧ q.s ≤ 4 * (i + 1 : Nat), rt := Q,
              bk := fun _ _ => False, ct := fun _ _ => False } [some (.ref a), some (.ref lc), some (.ref lm), some (.int (N : Int)), some (.bl bq), some (.int (0 + (i : Int))), some (.ref b), u7] H4 := by
          refine ⟨_, rfl, lc, _, _, _, rfl, rfl, SqL.of hc, at2 x1, _, rfl, lm, _, _, _, rfl, rfl, SqL.of hm, at2 y1, p, rfl, wo.p_, by omega, fun H5 s5 => ?_⟩
          refine ⟨_, rfl, iteF ?_⟩
          refine ⟨_, rfl, lc, _, _, _, rfl, rfl, SqL.of (s5 _ _ hc), at2 (d := 1) x2, _, rfl, lm, _, _, _, rfl, rfl, SqL.of (s5 _ _ hm), at2 (d := 1) y2, q, rfl, (wo.same s5).q_, by omega, fun H6 s6 => ?_⟩
          refine ⟨_, rfl, iteF ?_⟩
          exact nxt H6 (s5.trans s6)
        cases bq with
        | true =>
          refine ⟨_, rfl, _, rfl, iteF ?_⟩
          refine ⟨_, rfl, _, rfl, _, _, rfl, rfl, rfl, _, rfl, ite2 (fun c => chk) (fun c => ?_)⟩
          exact nxt H4 (Same.refl _)
        | false =>
          refine ⟨_, rfl, _, rfl, iteT ?_⟩
          exact chk
    · rintro σ H1 ⟨v5, v6, v7, d, p, q, rfl, wo, L0, L1⟩
      exact k H1
end
end K11

set_option maxRecDepth 100000
set_option maxHeartbeats 4000000
namespace K11
open PySem PySem.Spec PyProof.Rows L2 GxR Gd TL My
theorem all_mk {l : PySem.W.OpenLaw}  {w : World} {K : PySem.W.Frag} {h : Heap} {mg : Str → Option Value} {fa C f1 f2 f3 f4 f5 f6 f7 f8 f9 f10 f11 f12 f13 f14 f15 f16 f17 f18  : Addr} 
    (X : K.In h) (G : h.Ns mainGlobals mg) (hfa : mg "law" = some (.ref fa)) 
     {od1 an1 : Option Addr} {sl1 : Array (Option Value)} {oc1 kV1 dc1 pm1 cd1 ct1 : Value} {od2 an2 : Option Addr} {sl2 : Array (Option Value)} {oc2 kV2 dc2 pm2 cd2 ct2 : Value} {od3 an3 : Option Addr} {sl3 : Array (Option Value)} {oc3 kV3 dc3 pm3 cd3 ct3 : Value} {od4 an4 : Option Addr} {sl4 : Array (Option Value)} {oc4 kV4 dc4 pm4 cd4 ct4 : Value} {od5 an5 : Option Addr} {sl5 : Array (Option Value)} {oc5 kV5 dc5 pm5 cd5 ct5 : Value} {od6 an6 : Option Addr} {sl6 : Array (Option Value)} {oc6 kV6 dc6 pm6 cd6 ct6 : Value} {od7 an7 : Option Addr} {sl7 : Array (Option Value)} {oc7 kV7 dc7 pm7 cd7 ct7 : Value} {od8 an8 : Option Addr} {sl8 : Array (Option Value)} {oc8 kV8 dc8 pm8 cd8 ct8 : Value} {od9 an9 : Option Addr} {sl9 : Array (Option Value)} {oc9 kV9 dc9 pm9 cd9 ct9 : Value} {od10 an10 : Option Addr} {sl10 : Array (Option Value)} {oc10 kV10 dc10 pm10 cd10 ct10 : Value} {od11 an11 : Option Addr} {sl11 : Array (Option Value)} {oc11 kV11 dc11 pm11 cd11 ct11 : Value} {od12 an12 : Option Addr} {sl12 : Array (Option Value)} {oc12 kV12 dc12 pm12 cd12 ct12 : Value} {od13 an13 : Option Addr} {sl13 : Array (Option Value)} {oc13 kV13 dc13 pm13 cd13 ct13 : Value} {od14 an14 : Option Addr} {sl14 : Array (Option Value)} {oc14 kV14 dc14 pm14 cd14 ct14 : Value} {od15 an15 : Option Addr} {sl15 : Array (Option Value)} {oc15 kV15 dc15 pm15 cd15 ct15 : Value} {od16 an16 : Option Addr} {sl16 : Array (Option Value)} {oc16 kV16 dc16 pm16 cd16 ct16 : Value} {od17 an17 : Option Addr} {sl17 : Array (Option Value)} {oc17 kV17 dc17 pm17 cd17 ct17 : Value} {od18 an18 : Option Addr} {sl18 : Array (Option Value)} {oc18 kV18 dc18 pm18 cd18 ct18 : Value}
    (aC : PySem.W.nsIn K mainGlobals "Wire" = some (some (.ref C))) (pgC : PySem.W.plainGet K C Str.empty = true) (hdC : PySem.W.hasDictIn K C = true) (poC : PySem.W.plainOver K C = true) (saC : PySem.W.findIn K (.ref C) "__setattr__" = some (some (.builtin "object.__setattr__"))) (mkC : PySem.W.makesIn K C = true) (kcC : PySem.W.keepIn K (.ref C) = true) (n0C : PySem.W.findIn K (.ref C) "_words" = some none) (n1C : PySem.W.findIn K (.ref C) "_sent" = some none) (a1 : PySem.W.nsIn K mainGlobals "is_whole" = some (some (.ref f1))) (l1 : K.lookup f1 = some ⟨oc1, od1, .func (PySem.W.fnOf "is_whole" "is_whole" (defArgs sWhole) (defBody sWhole) (defScope sWhole) .none kV1 dc1 pm1 an1 cd1 ct1), sl1⟩) (c1 : PySem.W.codeIn K cd1 "is_whole" = true) (k1 : PySem.W.keepIn K (.ref f1) = true) (a2 : PySem.W.findIn K (.ref C) "__init__" = some (some (.ref f2))) (i2 : PySem.W.isFn K (.ref f2) = true) (l2 : K.lookup f2 = some ⟨oc2, od2, .func (PySem.W.fnOf "__init__" "Wire.__init__" (defArgs s_init) (defBody s_init) (defScope s_init) .none kV2 dc2 pm2 an2 cd2 ct2), sl2⟩) (c2 : PySem.W.codeIn K cd2 "Wire.__init__" = true) (k2 : PySem.W.keepIn K (.ref f2) = true) (a3 : PySem.W.findIn K (.ref C) "send" = some (some (.ref f3))) (i3 : PySem.W.isFn K (.ref f3) = true) (l3 : K.lookup f3 = some ⟨oc3, od3, .func (PySem.W.fnOf "send" "Wire.send" (defArgs s_send) (defBody s_send) (defScope s_send) .none kV3 dc3 pm3 an3 cd3 ct3), sl3⟩) (c3 : PySem.W.codeIn K cd3 "Wire.send" = true) (k3 : PySem.W.keepIn K (.ref f3) = true) (a4 : PySem.W.findIn K (.ref C) "word" = some (some (.ref f4))) (i4 : PySem.W.isFn K (.ref f4) = true) (l4 : K.lookup f4 = some ⟨oc4, od4, .func (PySem.W.fnOf "word" "Wire.word" (defArgs s_word) (defBody s_word) (defScope s_word) .none kV4 dc4 pm4 an4 cd4 ct4), sl4⟩) (c4 : PySem.W.codeIn K cd4 "Wire.word" = true) (k4 : PySem.W.keepIn K (.ref f4) = true) (a5 : PySem.W.findIn K (.ref C) "get" = some (some (.ref f5))) (i5 : PySem.W.isFn K (.ref f5) = true) (l5 : K.lookup f5 = some ⟨oc5, od5, .func (PySem.W.fnOf "get" "Wire.get" (defArgs s_get) (defBody s_get) (defScope s_get) .none kV5 dc5 pm5 an5 cd5 ct5), sl5⟩) (c5 : PySem.W.codeIn K cd5 "Wire.get" = true) (k5 : PySem.W.keepIn K (.ref f5) = true) (a6 : PySem.W.findIn K (.ref C) "lose" = some (some (.ref f6))) (i6 : PySem.W.isFn K (.ref f6) = true) (l6 : K.lookup f6 = some ⟨oc6, od6, .func (PySem.W.fnOf "lose" "Wire.lose" (defArgs s_lose) (defBody s_lose) (defScope s_lose) .none kV6 dc6 pm6 an6 cd6 ct6), sl6⟩) (c6 : PySem.W.codeIn K cd6 "Wire.lose" = true) (k6 : PySem.W.keepIn K (.ref f6) = true) (a7 : PySem.W.findIn K (.ref C) "under_way" = some (some (.ref f7))) (i7 : PySem.W.isFn K (.ref f7) = true) (l7 : K.lookup f7 = some ⟨oc7, od7, .func (PySem.W.fnOf "under_way" "Wire.under_way" (defArgs s_under_way) (defBody s_under_way) (defScope s_under_way) .none kV7 dc7 pm7 an7 cd7 ct7), sl7⟩) (c7 : PySem.W.codeIn K cd7 "Wire.under_way" = true) (k7 : PySem.W.keepIn K (.ref f7) = true) (a8 : PySem.W.findIn K (.ref C) "sent" = some (some (.ref f8))) (i8 : PySem.W.isFn K (.ref f8) = true) (l8 : K.lookup f8 = some ⟨oc8, od8, .func (PySem.W.fnOf "sent" "Wire.sent" (defArgs s_sent) (defBody s_sent) (defScope s_sent) .none kV8 dc8 pm8 an8 cd8 ct8), sl8⟩) (c8 : PySem.W.codeIn K cd8 "Wire.sent" = true) (k8 : PySem.W.keepIn K (.ref f8) = true) (a9 : PySem.W.findIn K (.ref C) "twin" = some (some (.ref f9))) (i9 : PySem.W.isFn K (.ref f9) = true) (l9 : K.lookup f9 = some ⟨oc9, od9, .func (PySem.W.fnOf "twin" "Wire.twin" (defArgs s_twin) (defBody s_twin) (defScope s_twin) .none kV9 dc9 pm9 an9 cd9 ct9), sl9⟩) (c9 : PySem.W.codeIn K cd9 "Wire.twin" = true) (k9 : PySem.W.keepIn K (.ref f9) = true) (a10 : PySem.W.nsIn K mainGlobals "_law_cell" = some (some (.ref f10))) (l10 : K.lookup f10 = some ⟨oc10, od10, .func (PySem.W.fnOf "_law_cell" "_law_cell" (defArgs sCell) (defBody sCell) (defScope sCell) .none kV10 dc10 pm10 an10 cd10 ct10), sl10⟩) (c10 : PySem.W.codeIn K cd10 "_law_cell" = true) (k10 : PySem.W.keepIn K (.ref f10) = true) (a11 : PySem.W.nsIn K mainGlobals "_law_box" = some (some (.ref f11))) (l11 : K.lookup f11 = some ⟨oc11, od11, .func (PySem.W.fnOf "_law_box" "_law_box" (defArgs sBox) (defBody sBox) (defScope sBox) .none kV11 dc11 pm11 an11 cd11 ct11), sl11⟩) (c11 : PySem.W.codeIn K cd11 "_law_box" = true) (k11 : PySem.W.keepIn K (.ref f11) = true) (a12 : PySem.W.nsIn K mainGlobals "_law_take" = some (some (.ref f12))) (l12 : K.lookup f12 = some ⟨oc12, od12, .func (PySem.W.fnOf "_law_take" "_law_take" (defArgs sTake) (defBody sTake) (defScope sTake) .none kV12 dc12 pm12 an12 cd12 ct12), sl12⟩) (c12 : PySem.W.codeIn K cd12 "_law_take" = true) (k12 : PySem.W.keepIn K (.ref f12) = true) (a13 : PySem.W.nsIn K mainGlobals "_law_part" = some (some (.ref f13))) (l13 : K.lookup f13 = some ⟨oc13, od13, .func (PySem.W.fnOf "_law_part" "_law_part" (defArgs s_law_part) (defBody s_law_part) (defScope s_law_part) .none kV13 dc13 pm13 an13 cd13 ct13), sl13⟩) (c13 : PySem.W.codeIn K cd13 "_law_part" = true) (k13 : PySem.W.keepIn K (.ref f13) = true) (a14 : PySem.W.nsIn K mainGlobals "_law_word" = some (some (.ref f14))) (l14 : K.lookup f14 = some ⟨oc14, od14, .func (PySem.W.fnOf "_law_word" "_law_word" (defArgs s_law_word) (defBody s_law_word) (defScope s_law_word) .none kV14 dc14 pm14 an14 cd14 ct14), sl14⟩) (c14 : PySem.W.codeIn K cd14 "_law_word" = true) (k14 : PySem.W.keepIn K (.ref f14) = true) (a15 : PySem.W.nsIn K mainGlobals "_law_right" = some (some (.ref f15))) (l15 : K.lookup f15 = some ⟨oc15, od15, .func (PySem.W.fnOf "_law_right" "_law_right" (defArgs s_law_right) (defBody s_law_right) (defScope s_law_right) .none kV15 dc15 pm15 an15 cd15 ct15), sl15⟩) (c15 : PySem.W.codeIn K cd15 "_law_right" = true) (k15 : PySem.W.keepIn K (.ref f15) = true) (a16 : PySem.W.nsIn K mainGlobals "_law_other" = some (some (.ref f16))) (l16 : K.lookup f16 = some ⟨oc16, od16, .func (PySem.W.fnOf "_law_other" "_law_other" (defArgs s_law_other) (defBody s_law_other) (defScope s_law_other) .none kV16 dc16 pm16 an16 cd16 ct16), sl16⟩) (c16 : PySem.W.codeIn K cd16 "_law_other" = true) (k16 : PySem.W.keepIn K (.ref f16) = true) (a17 : PySem.W.nsIn K mainGlobals "_law_deed" = some (some (.ref f17))) (l17 : K.lookup f17 = some ⟨oc17, od17, .func (PySem.W.fnOf "_law_deed" "_law_deed" (defArgs s_law_deed) (defBody s_law_deed) (defScope s_law_deed) .none kV17 dc17 pm17 an17 cd17 ct17), sl17⟩) (c17 : PySem.W.codeIn K cd17 "_law_deed" = true) (k17 : PySem.W.keepIn K (.ref f17) = true) (a18 : PySem.W.nsIn K mainGlobals "law" = some (some (.ref f18))) (l18 : K.lookup f18 = some ⟨oc18, od18, .func (PySem.W.fnOf "law" "law" (defArgs s_law) (defBody s_law) (defScope s_law) .none kV18 dc18 pm18 an18 cd18 ct18), sl18⟩) (c18 : PySem.W.codeIn K cd18 "law" = true) (k18 : PySem.W.keepIn K (.ref f18) = true) (z0 : PySem.W.nsIn K mainGlobals "isinstance" = some none) (z1 : PySem.W.nsIn K mainGlobals "int" = some none) (z2 : PySem.W.nsIn K mainGlobals "bool" = some none) (z3 : PySem.W.nsIn K mainGlobals "str" = some none) (z4 : PySem.W.nsIn K mainGlobals "len" = some none) (z5 : PySem.W.nsIn K mainGlobals "all" = some none) (z6 : PySem.W.nsIn K mainGlobals "max" = some none) (z7 : PySem.W.nsIn K mainGlobals "min" = some none) (z8 : PySem.W.nsIn K mainGlobals "range" = some none) (z9 : PySem.W.nsIn K mainGlobals "repr" = some none) (z10 : PySem.W.nsIn K mainGlobals "list" = some none) (z11 : PySem.W.nsIn K mainGlobals "tuple" = some none) (z12 : PySem.W.nsIn K mainGlobals "enumerate" = some none) (z13 : PySem.W.nsIn K mainGlobals "sorted" = some none) (z14 : PySem.W.nsIn K mainGlobals "dict" = some none) (smN : K.lookup sysModules = none) :
    GLawS l w K CX0 6 63 "_law_script" mg fa := by
  have e := hfa.symm.trans (PySem.W.mg_of X G a18)
  cases e
  have T : Txt mg := ⟨PySem.W.mg_none_of X G z0, PySem.W.mg_none_of X G z1, PySem.W.mg_none_of X G z2, PySem.W.mg_none_of X G z3, PySem.W.mg_none_of X G z4, PySem.W.mg_none_of X G z5, PySem.W.mg_none_of X G z6, PySem.W.mg_none_of X G z7, PySem.W.mg_none_of X G z8, PySem.W.mg_none_of X G z9, PySem.W.mg_none_of X G z10, PySem.W.mg_none_of X G z11, PySem.W.mg_none_of X G z12, PySem.W.mg_none_of X G z13, PySem.W.mg_none_of X G z14⟩
  have F1 := fun_mk (st := sWhole) l1 c1 k1
  have b1 := F1.binds (ps := ["thing", "low", "high"]) fun _ _ _ _ _ _ us hl => match us, hl with | [_, _, _], _ => rfl
  have F2 := fun_mk (st := s_init) l2 c2 k2
  have b2 := F2.binds (ps := ["self"]) fun _ _ _ _ _ _ us hl => match us, hl with | [_], _ => rfl
  have F3 := fun_mk (st := s_send) l3 c3 k3
  have b3 := F3.binds (ps := ["self", "word"]) fun _ _ _ _ _ _ us hl => match us, hl with | [_, _], _ => rfl
  have F4 := fun_mk (st := s_word) l4 c4 k4
  have b4 := F4.binds (ps := ["self", "number"]) fun _ _ _ _ _ _ us hl => match us, hl with | [_, _], _ => rfl
  have F5 := fun_mk (st := s_get) l5 c5 k5
  have b5 := F5.binds (ps := ["self", "number"]) fun _ _ _ _ _ _ us hl => match us, hl with | [_, _], _ => rfl
  have F6 := fun_mk (st := s_lose) l6 c6 k6
  have b6 := F6.binds (ps := ["self", "number"]) fun _ _ _ _ _ _ us hl => match us, hl with | [_, _], _ => rfl
  have F7 := fun_mk (st := s_under_way) l7 c7 k7
  have b7 := F7.binds (ps := ["self"]) fun _ _ _ _ _ _ us hl => match us, hl with | [_], _ => rfl
  have F8 := fun_mk (st := s_sent) l8 c8 k8
  have b8 := F8.binds (ps := ["self"]) fun _ _ _ _ _ _ us hl => match us, hl with | [_], _ => rfl
  have F9 := fun_mk (st := s_twin) l9 c9 k9
  have b9 := F9.binds (ps := ["self"]) fun _ _ _ _ _ _ us hl => match us, hl with | [_], _ => rfl
  have F10 := fun_mk (st := sCell) l10 c10 k10
  have b10 := F10.binds (ps := ["_law_script", "_law_k"]) fun _ _ _ _ _ _ us hl => match us, hl with | [_, _], _ => rfl
  have F11 := fun_mk (st := sBox) l11 c11 k11
  have b11 := F11.binds (ps := ["_law_cell_here"]) fun _ _ _ _ _ _ us hl => match us, hl with | [_], _ => rfl
  have F12 := fun_mk (st := sTake) l12 c12 k12
  have b12 := F12.binds (ps := ["_law_box_here", "_law_many"]) fun _ _ _ _ _ _ us hl => match us, hl with | [_, _], _ => rfl
  have F13 := fun_mk (st := s_law_part) l13 c13 k13
  have b13 := F13.binds (ps := ["_law_box_here"]) fun _ _ _ _ _ _ us hl => match us, hl with | [_], _ => rfl
  have F14 := fun_mk (st := s_law_word) l14 c14 k14
  have b14 := F14.binds (ps := ["_law_box_here"]) fun _ _ _ _ _ _ us hl => match us, hl with | [_], _ => rfl
  have F15 := fun_mk (st := s_law_right) l15 c15 k15
  have b15 := F15.binds (ps := ["_law_wire", "_law_model"]) fun _ _ _ _ _ _ us hl => match us, hl with | [_, _], _ => rfl
  have F16 := fun_mk (st := s_law_other) l16 c16 k16
  have b16 := F16.binds (ps := ["_law_box_here", "_law_wires", "_law_models"]) fun _ _ _ _ _ _ us hl => match us, hl with | [_, _, _], _ => rfl
  have F17 := fun_mk (st := s_law_deed) l17 c17 k17
  have b17 := F17.binds (ps := ["_law_box_here", "_law_wires", "_law_models"]) fun _ _ _ _ _ _ us hl => match us, hl with | [_, _, _], _ => rfl
  have F18 := fun_mk (st := s_law) l18 c18 k18
  have TC : WirT K C := ⟨⟨pgC, hdC, poC, saC⟩, n0C, n1C⟩
  refine ⟨PySem.W.fnOf "law" "law" (defArgs s_law) (defBody s_law) (defScope s_law) .none kV18 dc18 pm18 an18 cd18 ct18, spLaw K, smN, fun s v => .of_eq rfl, ?_, ?_⟩
  · intro H a ns hn sm hS
    exact ⟨a, ns, rfl, hS, sm, hn, fun _ => rfl⟩
  · intro base kb nb
    have gis_whole : FnOk l.prog w K mg base CX0 _ f1 _ _ _ := ok_whole F1 T
    have ginit : FnOk l.prog w K mg base CX0 _ f2 _ _ _ := ok_init F2 TC
    have gsend : FnOk l.prog w K mg base CX0 _ f3 _ _ _ := ok_send F3 TC
    have gword : FnOk l.prog w K mg base CX0 _ f4 _ _ _ := ok_word F4 TC ⟨F1, PySem.W.mg_of X G a1, b1⟩ gis_whole
    have gget : FnOk l.prog w K mg base CX0 _ f5 _ _ _ := ok_get F5 TC ⟨F4, ⟨a4, i4, k4⟩, b4⟩ gword
    have glose : FnOk l.prog w K mg base CX0 _ f6 _ _ _ := ok_lose F6 TC ⟨F5, ⟨a5, i5, k5⟩, b5⟩ gget
    have gunder_way : FnOk l.prog w K mg base CX0 _ f7 _ _ _ := ok_under F7 T TC
    have gsent : FnOk l.prog w K mg base CX0 _ f8 _ _ _ := ok_sent F8 TC
    have gtwin : FnOk l.prog w K mg base CX0 _ f9 _ _ _ := ok_twin F9 T TC (PySem.W.mg_of X G aC) ⟨mkC, a2, i2, kcC⟩ ginit b2
    have glaw_cell : FnOk l.prog w K mg base CX0 _ f10 _ _ _ := ok_cell F10 T
    have glaw_box : FnOk l.prog w K mg base CX0 _ f11 _ _ _ := ok_box F11 T
    have glaw_take : FnOk l.prog w K mg base CX0 _ f12 _ _ _ := ok_take F12
    have glaw_part : FnOk l.prog w K mg base CX0 _ f13 _ _ _ := ok_part F13 T ⟨F12, PySem.W.mg_of X G a12, b12⟩ glaw_take
    have glaw_word : FnOk l.prog w K mg base CX0 _ f14 _ _ _ := ok_wrd F14 T ⟨F12, PySem.W.mg_of X G a12, b12⟩ glaw_take ⟨F13, PySem.W.mg_of X G a13, b13⟩ glaw_part
    have glaw_right : GOk l.prog w K mg base CX0 _ f15 _ _ _ := ok_right F15 T TC ⟨F7, ⟨a7, i7, k7⟩, b7⟩ gunder_way ⟨F8, ⟨a8, i8, k8⟩, b8⟩ gsent
    have glaw_other : FnOk l.prog w K mg base CX0 _ f16 _ _ _ := ok_other F16 T TC (PySem.W.mg_of X G aC) ⟨mkC, a2, i2, kcC⟩ ginit b2 glaw_take ⟨F12, PySem.W.mg_of X G a12, b12⟩ ⟨F9, ⟨a9, i9, k9⟩, b9⟩ gtwin
    have glaw_deed : GOk l.prog w K mg base CX0 _ f17 _ _ _ := ok_deed F17 T TC glaw_take ⟨F12, PySem.W.mg_of X G a12, b12⟩ glaw_other ⟨F16, PySem.W.mg_of X G a16, b16⟩ glaw_word ⟨F14, PySem.W.mg_of X G a14, b14⟩ ⟨F3, ⟨a3, i3, k3⟩, b3⟩ gsend ⟨F5, ⟨a5, i5, k5⟩, b5⟩ gget ⟨F6, ⟨a6, i6, k6⟩, b6⟩ glose
    exact ok_law F18 T (PySem.W.mg_of X G aC) ⟨mkC, a2, i2, kcC⟩ ginit b2 glaw_cell ⟨F10, PySem.W.mg_of X G a10, b10⟩ glaw_box ⟨F11, PySem.W.mg_of X G a11, b11⟩ glaw_take ⟨F12, PySem.W.mg_of X G a12, b12⟩ glaw_right ⟨F15, PySem.W.mg_of X G a15, b15⟩ glaw_deed ⟨F17, PySem.W.mg_of X G a17, b17⟩
end K11

open PySem PySem.W PyProof.Rows in
set_option maxRecDepth 100000 in
set_option maxHeartbeats 0 in
theorem PySem.Challenge.cw_onestaff_k11_words_under_way_holds : PySem.Challenge.rw_onestaff_k11_words_under_way.Holds := by
  w_on; o_law; k_head; (case hw => w_witness2)
  k_fill
  refine Gd.walk_s (no := by first | rfl | decide +kernel) (l := PySem.Challenge.rw_onestaff_k11_words_under_way) (n := 63) (k := 6) (x := "_law_script") (CX := fun _ => L2.CX0) rfl (by decide) rfl ⟨rfl, by decide, by decide⟩ (fun w h Y => PySem.W.kIn_of Y) ?F (fun _ _ _ _ _ z => z)
  case F =>
    intro w mg fa h Y KX G hmg 
    refine' K11.all_mk KX G hmg  ?QaC ?QpgC ?QhdC ?QpoC ?QsaC ?QmkC ?QkcC ?Qn0C ?Qn1C ?Qa1 ?Ql1 ?Qc1 ?Qk1 ?Qa2 ?Qi2 ?Ql2 ?Qc2 ?Qk2 ?Qa3 ?Qi3 ?Ql3 ?Qc3 ?Qk3 ?Qa4 ?Qi4 ?Ql4 ?Qc4 ?Qk4 ?Qa5 ?Qi5 ?Ql5 ?Qc5 ?Qk5 ?Qa6 ?Qi6 ?Ql6 ?Qc6 ?Qk6 ?Qa7 ?Qi7 ?Ql7 ?Qc7 ?Qk7 ?Qa8 ?Qi8 ?Ql8 ?Qc8 ?Qk8 ?Qa9 ?Qi9 ?Ql9 ?Qc9 ?Qk9 ?Qa10 ?Ql10 ?Qc10 ?Qk10 ?Qa11 ?Ql11 ?Qc11 ?Qk11 ?Qa12 ?Ql12 ?Qc12 ?Qk12 ?Qa13 ?Ql13 ?Qc13 ?Qk13 ?Qa14 ?Ql14 ?Qc14 ?Qk14 ?Qa15 ?Ql15 ?Qc15 ?Qk15 ?Qa16 ?Ql16 ?Qc16 ?Qk16 ?Qa17 ?Ql17 ?Qc17 ?Qk17 ?Qa18 ?Ql18 ?Qc18 ?Qk18 ?Qz0 ?Qz1 ?Qz2 ?Qz3 ?Qz4 ?Qz5 ?Qz6 ?Qz7 ?Qz8 ?Qz9 ?Qz10 ?Qz11 ?Qz12 ?Qz13 ?Qz14 ?QsmN
    (case QaC => k_is)
    (case QpgC => k_is)
    (case QhdC => k_is)
    (case QpoC => k_is)
    (case QsaC => k_is)
    (case QmkC => k_is)
    (case QkcC => k_is)
    (case Qn0C => k_is)
    (case Qn1C => k_is)
    (case Qa1 => k_is)
    (case Ql1 => k_is)
    (case Qc1 => k_is)
    (case Qk1 => k_is)
    (case Qa2 => k_is)
    (case Qi2 => k_is)
    (case Ql2 => k_is)
    (case Qc2 => k_is)
    (case Qk2 => k_is)
    (case Qa3 => k_is)
    (case Qi3 => k_is)
    (case Ql3 => k_is)
    (case Qc3 => k_is)
    (case Qk3 => k_is)
    (case Qa4 => k_is)
    (case Qi4 => k_is)
    (case Ql4 => k_is)
    (case Qc4 => k_is)
    (case Qk4 => k_is)
    (case Qa5 => k_is)
    (case Qi5 => k_is)
    (case Ql5 => k_is)
    (case Qc5 => k_is)
    (case Qk5 => k_is)
    (case Qa6 => k_is)
    (case Qi6 => k_is)
    (case Ql6 => k_is)
    (case Qc6 => k_is)
    (case Qk6 => k_is)
    (case Qa7 => k_is)
    (case Qi7 => k_is)
    (case Ql7 => k_is)
    (case Qc7 => k_is)
    (case Qk7 => k_is)
    (case Qa8 => k_is)
    (case Qi8 => k_is)
    (case Ql8 => k_is)
    (case Qc8 => k_is)
    (case Qk8 => k_is)
    (case Qa9 => k_is)
    (case Qi9 => k_is)
    (case Ql9 => k_is)
    (case Qc9 => k_is)
    (case Qk9 => k_is)
    (case Qa10 => k_is)
    (case Ql10 => k_is)
    (case Qc10 => k_is)
    (case Qk10 => k_is)
    (case Qa11 => k_is)
    (case Ql11 => k_is)
    (case Qc11 => k_is)
    (case Qk11 => k_is)
    (case Qa12 => k_is)
    (case Ql12 => k_is)
    (case Qc12 => k_is)
    (case Qk12 => k_is)
    (case Qa13 => k_is)
    (case Ql13 => k_is)
    (case Qc13 => k_is)
    (case Qk13 => k_is)
    (case Qa14 => k_is)
    (case Ql14 => k_is)
    (case Qc14 => k_is)
    (case Qk14 => k_is)
    (case Qa15 => k_is)
    (case Ql15 => k_is)
    (case Qc15 => k_is)
    (case Qk15 => k_is)
    (case Qa16 => k_is)
    (case Ql16 => k_is)
    (case Qc16 => k_is)
    (case Qk16 => k_is)
    (case Qa17 => k_is)
    (case Ql17 => k_is)
    (case Qc17 => k_is)
    (case Qk17 => k_is)
    (case Qa18 => k_is)
    (case Ql18 => k_is)
    (case Qc18 => k_is)
    (case Qk18 => k_is)
    (case Qz0 => k_is)
    (case Qz1 => k_is)
    (case Qz2 => k_is)
    (case Qz3 => k_is)
    (case Qz4 => k_is)
    (case Qz5 => k_is)
    (case Qz6 => k_is)
    (case Qz7 => k_is)
    (case Qz8 => k_is)
    (case Qz9 => k_is)
    (case Qz10 => k_is)
    (case Qz11 => k_is)
    (case Qz12 => k_is)
    (case Qz13 => k_is)
    (case Qz14 => k_is)
    (case QsmN => first | rfl | kernel_rfl)

