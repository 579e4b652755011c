import PyProof.Rows.All
import Wide.All
import OpenK.AllK
import Wide.FinOn
import HandS.Base
import HandS.Call
import HandS.List
import HandS.Comp
import HandS.Ends
import HandS.Words
import HandS.WordsList
import HandS.Dict
import HandS.Iter
import PyProof.ReprRoads
import HandS.ForMost
import HandS.Wide
import HandS.DictComp
import HandS.IsInst
import HandS.NoneIn
import HandS.Conv
import HandS.SortInts
import HandS.WideBits
import HandS.Style
import KE.GoesEnumKw
import HandS.Deep
import HandS.Codes
import KE.SortData
import PyProof.Rows.ReprOcc
import PySem.Challenge.RW_foldednets_k50_whole_catching
set_option Elab.async false
set_option linter.all false
set_option maxRecDepth 100000
namespace Fo
open PySem PySem.Spec PyProof.Rows L2
/-! piece Aux1 -/
section
open PySem PySem.Spec PyProof.Rows L2
abbrev Sl := L2.St

/-! ## calls while no repr is under way -/
structure FnG (P : Program) (w : World) (K : PySem.W.Frag) (mg : Str → Option Value) (base : Heap)
    (CX : CXT) (k : Nat) (f : Addr) (fd : FuncData) (ps : List Str) (sp : Sp) : Prop where
  arity : ∀ vs H Q E, sp vs H Q E → vs.length = ps.length
  go : ∀ (A : Around) (outer : List Env) (s : Shared) (H : Hp) (args : Args) (us : List Value)
      (vs : List V) (Q : VK) (E : XK), Room k A → A.guards = some [] →
      Env0 P w K mg base A outer s H → BindsTo s fd args (ps.zip us) → Vals vs us → sp vs H Q E →
      codeAny (model P w) A (.call (.ref f) args) (CR CX outer P w H s Q E) s

theorem FnG.of {P : Program} {w : World} {K : PySem.W.Frag} {mg : Str → Option Value} {base : Heap}
    {CX : CXT} {k : Nat} {f : Addr} {fd : FuncData} {ps : List Str} {sp : Sp}
    (F : FnOk P w K mg base CX k f fd ps sp) : FnG P w K mg base CX k f fd ps sp :=
  ⟨F.len, fun A outer s H args us vs Q E hr _ => F.run A outer s H args us vs Q E hr⟩

section
variable {X : Cx} {CX : CXT} {k : Nat} {f : Addr} {fd : FuncData} {ps : List Str} {sp : Sp}
  {dvs : List V} {ds : List Value} {E : XK} {x : Str} {p pos : Pos} {e : Expr} {es : List Expr} {t : TA}
theorem go_fn {pins : List (Addr × Obj)} {σ : L2.St} {H : Hp} {s : Shared} {Q : VK} {us : List Value} {vs : List V}
    (F : FnG X.prog X.w X.K X.mg X.base CX k f fd ps sp) (hr : Room k X.A) (hgd : X.A.guards = some [])
    (hb : Binds X.K fd ps ds) (hd : Vals dvs ds) (hx : Passes CX X E)
    (I : Inv X pins σ H s) (r : Vals vs us) (h : sp (vs ++ dvs) H Q E) :
    wpAny (model X.prog X.w) X.A (call (.ref f) us) (EP X pins σ Q) X.xe s := by
  have rr := Vals.append r hd
  have hlen : (us ++ ds).length = ps.length := rr.length.symm.trans (F.arity _ _ _ _ h)
  have step := F.go X.A X.stack s H ⟨us, []⟩ (us ++ ds) (vs ++ dvs) Q E hr hgd I.env0 (hb s us I.kIn hlen) rr h
  refine wpAny_call (codeAny_mono step ?_)
  intro out s' hq
  match out, hq with
  | .error e, hq => exact hx pins σ H s e s' I hq
  | .ok (.ret u), hq => exact I.after hq
  | .ok .next, hq => exact hq.elim
  | .ok .brk, hq => exact hq.elim
  | .ok .cont, hq => exact hq.elim

theorem pe_callG (F : FnG X.prog X.w X.K X.mg X.base CX k f fd ps sp) (hr : Room k X.A) (hgd : X.A.guards = some [])
    (hg : Gl X x) (hm : X.mg x = some (.ref f)) (hk : PySem.W.keepIn X.K (.ref f) = true)
    (hb : Binds X.K fd ps ds) (hd : Vals dvs ds) (hx : Passes CX X E) (ha : PA X (e :: es) t)
    (hdb : (x == ("__debug__" : Str)) = false := by decide)
    (he : starEach (e :: es) X.env = (false, eval e X.env) :: starEach es X.env := by rfl)
    (hpl : (backTo pos (starEach es X.env)).any (·.1) = false := by rfl) :
    PE X (.Call (.Name x p) (e :: es) [] pos) (tCall sp dvs E t) := by
  constructor
  intro pins s σ H Q I h
  apply wpAny_Call_Name_kw
  apply ld_glob I hg hm _ hdb
  refine PySem.W.callWith_K (h₀ := X.base) I.ok.mod.kin hk (thn (ha.run pos pins s σ H _ I h) ?_) he hpl
  rintro us s1 ⟨vs, H1, I1, r, q⟩
  exact ⟨I1.kIn, go_fn F hr hgd hb hd hx I1 r q⟩

/-- f(k = v, ..), keywords alone -/
theorem pe_callK0 {ks : List Str} {kws : List Keyword} {tk : TA} {g : List Value → List Value → List Value}
    {gV : List V → List V → List V} (F : FnOk X.prog X.w X.K X.mg X.base CX k f fd ps sp) (hr : Room k X.A)
    (hg : Gl X x) (hm : X.mg x = some (.ref f)) (hk : PySem.W.keepIn X.K (.ref f) = true)
    (hb : KBinds X.K fd ps ks g gV) (hx : Passes CX X E) (hkw : PK X kws tk)
    (hall : (backToKw pos (keywordEach kws X.env)).all (·.1.isSome) = true := by rfl)
    (hks : (backToKw pos (keywordEach kws X.env)).filterMap (·.1) = ks := by rfl)
    (hdb : (x == ("__debug__" : Str)) = false := by decide)
    (hpl : ((backTo pos (starEach [] X.env)).any (·.1) || (backToKw pos (keywordEach kws X.env)).any (·.1.isNone)) = false := by rfl) :
    PE X (.Call (.Name x p) [] kws pos) (tCallK sp gV E tNil tk) := by
  constructor
  intro pins s σ H Q I h
  apply wpAny_Call_Name_kw
  apply ld_glob I hg hm _ hdb
  refine PySem.W.callWith_KW0 (h₀ := X.base) I.ok.mod.kin hk hall (thn (hkw.run pos pins s σ H _ I h) ?_) hpl
  rintro ws s2 ⟨zs, H2, I2, rz, q2⟩
  refine ⟨I2.kIn, ?_⟩
  rw [hks]
  exact run_fnk (us := []) F hr hb hx I2 .nil rz q2
end

section
variable {P : Program} {w : World} {K : PySem.W.Frag} {mg : Str → Option Value} {base : Heap}
/-- a def's body, where no repr is under way -/
theorem okG {x qual : Str} {st : Stmt} {f : Addr} {fd : FuncData} {N ps : List Str} {k : Nat} {sp : Sp}
    (F : Fun K x qual st f fd) (S : FnScope N ps (defScope st)) (len : ∀ vs H Q E, sp vs H Q E → vs.length = ps.length)
    (hbody : ∀ (cdv : Value) (A : Around) (outer : List Env) (s : Shared) (H : Hp) (vs : List V) (Q : VK) (E : XK),
      Room k (A.deeper (envOfC qual (defScope st) s.heap.objs.size f cdv)) → A.guards = some [] → sp vs H Q E →
      ∃ t, PSs (cxOf CX0 P w K mg base N qual (defScope st) f cdv A outer s H E).nox (defBody st) t ∧
        t { nx := fun _ H' => Q .non H', rt := Q } (start N vs) H) :
    FnG P w K mg base CX0 (k + 1) f fd ps sp := by
  obtain ⟨oc, od, kV, doc, pm, an, cdv, ct, osl, rfl, lk, hcd⟩ := F.ex
  constructor
  · exact len
  intro A outer s H args us vs Q E hr hgd e0 hb r hsp
  have keepB : ∀ b o, base.get? b = some o → s.heap.get? b = some o := fun b o e => (e0.bs b o e).1
  have inK : K.In s.heap := e0.mod.kin.keeps keepB
  have noLim : s.heap.NoLimit := e0.mod.nolimit.keeps keepB
  have kinds : ∀ y ∈ ps.zip us, (defScope st).names.lookup y.1 = some .local ∨
      ((defScope st).names.lookup y.1 = some .cell ∧
        ((cellsFrom (s.heap.objs.size + 1) (defScope st).names []).lookup y.1).isSome = true) := by
    rintro ⟨n, v⟩ hy
    cases S.par n (List.of_mem_zip hy).1 with
    | inl q => exact Or.inl q
    | inr q => exact Or.inr ⟨q, PySem.W.cellsFrom_some _ _ _ (Or.inl q)⟩
  refine codeAny_call_function hr.depth (inK _ _ lk) rfl S.co S.gen rfl (PySem.W.codeRec_of inK hcd) (hb _ _ _ _ ?_)
  apply wpAny_newFunctionEnv_cells S.kind kinds
  intro env henv s1 inC
  subst henv
  refine ⟨noLim.keeps inC.toInCall.keep, codeAny_func ?_⟩
  obtain ⟨t, ht, hq⟩ := hbody cdv A outer s H vs Q E (hr.deeper _) hgd hsp
  have I0 : Inv (cxOf CX0 P w K mg base N qual (defScope st) f cdv A outer s H E) [] (start N vs) H s1 :=
    inv_start S hr.hd e0 (len _ _ _ _ hsp) r inC
  refine wpAny_mono (ht.nox.run [] s1 (start N vs) H _ I0 hq) ?_ (fun _ _ z => z)
  intro fl s' hs
  match fl, hs with
  | .ret u, hs =>
    obtain ⟨v, σ', H', J, rv, q⟩ := hs
    exact ⟨v, H', J.os, J.bare, J.base, J.hok, rv, q⟩
  | .next, hs =>
    obtain ⟨σ', H', J, q⟩ := hs
    exact ⟨.non, H', J.os, J.bare, J.base, J.hok, rfl, q⟩
  | .brk, hs =>
    obtain ⟨_, _, _, q⟩ := hs
    exact q.elim
  | .cont, hs =>
    obtain ⟨_, _, _, q⟩ := hs
    exact q.elim
end

/-! ## repr of data -/
section
variable {X : Cx}
theorem call_reprD (hgd : X.A.guards = some []) (hu : X.A.units + 64 < cLine) :
    CallR X (.builtin "repr") (fun xs H Q => ∃ a d, xs = [.ref a] ∧ Dp X.K H (.ref a) d ∧ d.showable = true ∧
      d.hasDict = false ∧ d.depth ≤ 60 ∧ d.shown.length ≤ sizeLine ∧ Q (.str d.shown) H) := by
  intro pins s σ H xs us Q I r h
  obtain ⟨a, d, rfl, hd, hs, hn, hdp, hz, q⟩ := h
  obtain ⟨u, rfl, ru⟩ := vals1 r
  cases ru
  obtain ⟨as, rd⟩ := Dp.reads I d _ _ hd rfl
  exact repr_of_reads' rd hs (PyData.noDict_hsm hn) hgd (by omega) (fun _ _ z => z)
    (fun h' u tk hk => ⟨.str d.shown, H, I.kept hk, ⟨_, rfl⟩, q⟩) hz

/-! ## great powers -/
theorem op_powW : OpR X (binaryOp .Pow) (rI (fun i j => 0 ≤ j ∧ (Builtin.Int.intBits i : Int) * j ≤ 2 ^ 27) fun i j => .int (i ^ j.toNat)) :=
  opI fun _ _ _ _ _ _ _ hc q => pow_int hc.1 hc.2 q

/-! ## xs[::k], k 1 or -1 -/
def stepV (o : Option Int) (xs : List V) : List V := if o = some (-1) then xs.reverse else xs
def tStep (K : PySem.W.Frag) (te tk : TE) : TE := fun σ H Q => te σ H fun x H1 => tPart tk σ H1 fun o H2 =>
  ∃ a xs, x = .ref a ∧ (o = some 1 ∨ o = some (-1)) ∧ SqL K H2 a xs ∧ ∀ p, H2 p = none → Q (.ref p) (upd H2 p (.lst (stepV o xs)))
theorem slicePick_one (its : List Value) : slicePick its.toArray none none (some 1) = its.toArray := by
  have h := slicePick_cut its none none
  have e : slicePick its.toArray none none (some 1) = slicePick its.toArray none none none := rfl
  rw [e, h]
  simp [HT.sIx]

theorem pe_step {e st : Expr} {te tk : TE} {p3 pos : Pos} (he : PE X e te) (hst : PE X st tk)
    (hgo : ∀ v sl, subscripted (.Slice none none (some st) p3) false v sl = operate [v, sl] (getItem v sl) := by intro _ _; rfl)
    (hlt : ∀ v r, letTemporaryGo e v r = pure () := by intro _ _; rfl) :
    PE X (.Subscript e (.Slice none none (some st) p3) pos) (tStep X.K te tk) := by
  constructor
  intro pins s σ H Q I h
  apply Subscript_
  refine thn (he.run pins s σ H _ I h) ?_
  rintro v s1 ⟨x, H1, I1, r1, q1⟩
  apply wpAny_Slice
  refine thn (po_none.run pins s1 σ H1 (fun o H2 => o = none ∧ H2 = H1) I1 ⟨rfl, rfl⟩) ?_
  rintro vl s2 ⟨l, H2, I2, pl, rfl, rfl⟩
  refine thn (po_none.run pins s2 σ H2 (fun o H3 => o = none ∧ H3 = H2) I2 ⟨rfl, rfl⟩) ?_
  rintro vu s3 ⟨u, H3, I3, pu, rfl, rfl⟩
  refine thn ((po_some hst).run pins s3 σ H3 _ I3 q1) ?_
  rintro vs s4 ⟨o, H4, I4, ps, a, xs, rfl, hk, hx, q⟩
  cases r1
  have I5 : Inv X pins σ H4 { s4 with heap := s4.heap.push { cls := .type "slice", data := .fields #[vl, vu, vs] } } :=
    I4.kept (t' := s4.toks) fun b ob z => Heap.get?_push_of_some _ z
  obtain ⟨its, r, ht, hz⟩ := I5.list hx
  have hlen := r.length
  have fin : ∀ (ys : List V) (its' : List Value), Vals ys its' → ys.length ≤ sizeLine → (∀ p, H4 p = none → Q (.ref p) (upd H4 p (.lst ys))) →
      EP X pins σ Q (.ref (s4.heap.push { cls := .type "slice", data := .fields #[vl, vu, vs] }).objs.size)
        { s4 with heap := (s4.heap.push { cls := .type "slice", data := .fields #[vl, vu, vs] }).push { cls := .type "list", data := .seq its'.toArray } } := by
    intro ys its' rv hz' hq
    refine ⟨.ref _, _, I5.laid (t' := s4.toks) (o := .lst ys) (fun b ob z => Heap.get?_push_of_some _ z) (Nat.le_refl _) ?_, rfl, hq _ (I5.hok.fresh (Nat.le_refl _))⟩
    exact ⟨hz', its', 0, rv, Heap.get?_push_size _ rfl⟩
  have hgo' := hgo (.ref a) (.ref s4.heap.objs.size)
  refine tail_any (ops := [.ref a, .ref s4.heap.objs.size]) ht.isList.typeIs (PySem.slot_list_getitem.lookup) ?_ hgo'
  refine wpAny_getItem_list_slice ht.isList (Heap.IsSliceOf.new _ vl vu vs) pl pu ps (by rcases hk with rfl | rfl <;> decide) ?_ (by rw [List.size_toArray]; omega)
  rcases hk with rfl | rfl
  · rw [slicePick_one]
    have e : stepV (some 1) xs = xs := by simp [stepV]
    rw [e] at q
    exact fin xs its r hz q
  · rw [PySem.W.krv_pick]
    have e : stepV (some (-1)) xs = xs.reverse := by simp [stepV]
    rw [e] at q
    exact fin xs.reverse its.reverse (Vals.reverse r) (by rw [List.length_reverse]; exact hz) q

/-! ## count of a flat thing; d[k] |= e -/
def rCnt (K : PySem.W.Frag) : V → List V → Hp → VK → Prop := fun x vs H Q => ∃ (p : Addr) (xs : List V) (y : V),
  x = .ref p ∧ vs = [y] ∧ SqL K H p xs ∧ flatV y = true ∧ xs.all flatV = true ∧ Q (.int ((xs.countP fun z => eqV z y : Nat) : Int)) H
theorem countP_eqU {x : V} : ∀ {xs : List V} {us : List Value}, Vals xs us → xs.all flatV = true → us.countP (eqU x) = xs.countP fun y => eqV y x
  | _, _, .nil, _ => rfl
  | y :: xs, u :: us, .cons r t, hf => by
    rw [List.all_cons, Bool.and_eq_true] at hf
    rw [List.countP_cons, List.countP_cons, countP_eqU t hf.2, eqU_of r hf.1]
theorem mt_cnt : MtR X "list.count" (rCnt X.K) := by
  intro pins s σ H x xs v us Q I rx rxs h
  obtain ⟨p, ys, y, rfl, rfl, hs, hy, hf, q⟩ := h
  cases rx
  obtain ⟨u, rfl, ru⟩ := rxs.one
  obtain ⟨its, rv, ⟨⟨cls, dd, data, sl⟩, n, ho, hc, hdn, hd⟩, hlen⟩ := I.list hs
  simp only at hc hd
  subst hc hd
  refine call_meets PySem.F.slot_list_count ⟨_, ho, rfl⟩ PySem.F.entry_list_count (PySem.F.args_list_count_2 _ _)
    (SeqAt.list_countAt p its.toArray n dd sl u (eqU y)) ⟨ho, fun z hz => mem_eqAt ru hy rv hf z (by simpa using hz), ?_⟩
  refine ⟨.int ((ys.countP fun z => eqV z y : Nat) : Int), H, I.tok _, ⟨s.toks, ?_⟩, q⟩
  show Value.int ((its.toArray.toList.countP (eqU y) : Nat) : Int) s.toks = Value.int ((ys.countP fun z => eqV z y : Nat) : Int) s.toks
  rw [show its.toArray.toList = its from rfl, countP_eqU rv hf]
theorem in_or : InOp X .BitOr (rI0 fun i j => .int (Builtin.bitOr i j)) := by
  rintro pins s σ H x y u v Q I rx ry ⟨i, j, rfl, rfl, q⟩
  obtain ⟨t, rfl⟩ := (show ∃ t, u = Value.int i t from rx)
  obtain ⟨t', rfl⟩ := (show ∃ t', v = Value.int j t' from ry)
  exact ior_int ⟨.int _, H, I.tok _, ⟨_, rfl⟩, q⟩
end

/-! ## the end of a law whose def is a FnG -/
theorem law_callG {P : Program} {w : World} {K : PySem.W.Frag} {mg mb : Str → Option Value} {k : Nat} {fa a : Addr} {fd : FuncData} {x : Str} {sp : Sp} {s1 : Shared}
    {vs : List Value} {ns : List Int} (inK : K.In s1.heap) (gn : s1.heap.Ns mainGlobals mg) (bn : s1.heap.Ns builtinsNs mb)
    (bb : ∀ x : Str, x ≠ "__name__" → mb x = bootBuiltins x) (nl : s1.heap.NoLimit) (g0 : s1.gens = #[])
    (ha : s1.heap.get? a = some { cls := .type "list", data := .seq vs.toArray }) (hi : IntsAre vs ns) (hl : ns.length ≤ sizeLine) (hr : Room k callerA)
    (F : ∀ base : Heap, K.In base → base.Ns mainGlobals mg → FnG P w K mg base CX0 k fa fd [x] sp)
    (bnd : ∀ (s : Shared) (u : Value), BindsTo s fd ⟨[u], []⟩ [(x, u)])
    (hsp : ∀ H : Hp, Only H → SqL K H a (ns.map V.int) → sp [.ref a] H (fun v _ => v = .bl true) fun _ _ _ => False) :
    codeAny (model P w) callerA (.call (.ref fa) ⟨[.ref a], []⟩) (fun r s' => r = .ok (.ret (.bool true)) ∧ OldK s1.heap s'.heap ∧ s'.os = s1.os ∧ AllBare s'.gens) s1 := by
  have rel := vals_ints hi
  have vlen := hi.length
  have main : ∀ H : Hp, Only H → SqL K H a (ns.map V.int) → HOk P w H s1.heap → (∀ b u, H b = some u → b = a ∧ K.lookup a = none) →
      codeAny (model P w) callerA (.call (.ref fa) ⟨[.ref a], []⟩) (fun r s' => r = .ok (.ret (.bool true)) ∧ OldK s1.heap s'.heap ∧ s'.os = s1.os ∧ AllBare s'.gens) s1 := by
    intro H only hS hok own
    have undict : ∀ {b : Addr} {o : Obj} {es : Array DictEntry} {ep : Nat}, s1.heap.get? b = some o → o.data = .dict es ep → H b = none := by
      intro b o es ep e d
      match q : H b with
      | none => rfl
      | some u =>
        obtain ⟨rfl, _⟩ := own b u q
        rw [ha] at e
        cases e
        have d' : Data.seq vs.toArray _ = Data.dict es ep := d
        cases d'
    have nsOf : ∀ {b : Addr} {m : Str → Option Value}, s1.heap.Ns b m → (hidT s1.heap H).Ns b m :=
      fun ⟨o, es, ep, e, d, r⟩ => ⟨o, es, ep, hidT_get e (undict e d), d, r⟩
    have kIn : K.In (hidT s1.heap H) := by
      intro b o e
      refine hidT_get (inK b o e) ?_
      match q : H b with
      | none => rfl
      | some u =>
        obtain ⟨rfl, hk⟩ := own b u q
        rw [hk] at e
        cases e
    have modOk : Mod K mg (hidT s1.heap H) :=
      ⟨kIn, nsOf gn, ⟨mb, nsOf bn, bb⟩, let ⟨mc, h1, h2⟩ := nl; ⟨mc, nsOf h1, h2⟩⟩
    have env0 : Env0 P w K mg (hidT s1.heap H) callerA [] s1 H :=
      ⟨rfl, modOk, fun b o e => of_hidT e, Nat.le_of_eq (hidT_size _ _), trivial, fun b hb => absurd (show b ∈ ([] : List Addr) from hb) (by simp), hok, .of_eq g0⟩
    refine codeAny_mono ((F _ kIn (nsOf gn)).go callerA [] s1 H ⟨[.ref a], []⟩ [.ref a] [.ref a] _ _ hr rfl env0 (bnd s1 (.ref a)) (.cons rfl .nil) (hsp H only hS)) ?_
    intro r s' h
    match r, h with
    | .error e, h => exact h.elim
    | .ok .next, h => exact h.elim
    | .ok .brk, h => exact h.elim
    | .ok .cont, h => exact h.elim
    | .ok (.ret u), h =>
      obtain ⟨v, H', os, bare, un, hok', r', q⟩ := h
      obtain rfl : v = .bl true := q
      obtain rfl : u = Value.bool true := r'
      refine ⟨rfl, OldK.of_keep ?_, os, bare⟩
      intro b o e
      match q : H b with
      | none => exact un.keep b o e q (by intro z; exact absurd (show b ∈ ([] : List Addr) from z) (by simp)) (by simp)
      | some u =>
        rcases only b with z | ⟨ob, xs, z⟩
        · rw [q] at z; cases z
        · have e1 := (hok b _ z).1
          have e2 := (hok' b _ (un.frzs b ob _ z)).1
          rw [e] at e1
          cases e1
          exact e2
  match hk : K.lookup a with
  | some o =>
    have e := inK a o hk
    rw [ha] at e
    cases e
    refine main (fun _ => none) (fun _ => .inl rfl) (.inr ⟨_, vs.toArray, _, hk, rfl, rfl, rfl, by rw [List.size_toArray, vlen]; exact hl, by simpa using rel⟩) ?_ ?_
    · intro b u z
      have z' : (none : Option HO) = some u := z
      cases z'
    · intro b u z
      have z' : (none : Option HO) = some u := z
      cases z'
  | none =>
    let ob : Obj := { cls := .type "list", data := .seq vs.toArray }
    have at_a : ∀ {b : Addr} {u : HO}, (if b = a then some (HO.frz ob (.lst (ns.map V.int))) else none) = some u → b = a ∧ u = .frz ob (.lst (ns.map V.int)) := by
      intro b u z
      by_cases hb : b = a
      · rw [if_pos hb] at z
        exact ⟨hb, (Option.some.inj z).symm⟩
      · rw [if_neg hb] at z
        cases z
    refine main (fun b => if b = a then some (.frz ob (.lst (ns.map V.int))) else none) ?_ (.inl (.inr ⟨ob, if_pos rfl⟩)) ?_ ?_
    · intro b
      by_cases hb : b = a
      · exact .inr ⟨_, _, if_pos hb⟩
      · exact .inl (if_neg hb)
    · intro b u z
      obtain ⟨rfl, rfl⟩ := at_a z
      exact ⟨ha, by rw [List.length_map]; exact hl, vs, _, rel, ha⟩
    · intro b u z
      exact ⟨(at_a z).1, hk⟩

theorem walkG {l : PySem.W.OpenLaw} {n k : Nat} {q : Program} {loose : List Str} {XP : (Str → Option Value) → Heap → Prop} {YP : World → Heap → Prop} {d : DefRec} {K : Params → PySem.W.Frag} {sp : World → Sp} {x : Str}
    (hn : l.most = some n) (hn2 : n ≤ sizeLine) (hdf : d.params.defaults = []) (hr : Room k callerA)
    (hY : ∀ (w : World) (h : Heap), YP w h → (K w.params).In h)
    (F : ∀ (w : World) (mg : Str → Option Value) (fa : Addr) (h : Heap), (K w.params).In h → h.Ns mainGlobals mg → mg d.name = some (.ref fa) →
      ∃ fd : FuncData, (∀ (s : Shared) (u : Value), BindsTo s fd ⟨[u], []⟩ [(x, u)]) ∧
        ∀ base : Heap, (K w.params).In base → base.Ns mainGlobals mg → FnG l.prog w (K w.params) mg base CX0 k fa fd [x] (sp w))
    (hsp : ∀ (w : World) (H : Hp) (a : Addr) (ns : List Int), ns.length ≤ n → Only H → SqL (K w.params) H a (ns.map V.int) → sp w [.ref a] H (fun v _ => v = .bl true) fun _ _ _ => False) :
    PySem.W.WalkO q loose XP YP l.row.toRowW d [] (fun f vs => PySem.call f vs) := by
  apply Att.attach_call hn hdf
  intro w s0 s1 mg mb fa o pm cd doc a vs ns G Y ho hd hcd hmg hobj hints hlen hg
  obtain ⟨fd, hb, hF⟩ := F w mg fa _ (hY w _ Y) G.T.g hmg
  exact law_callG (hY w _ Y) G.T.g G.T.b G.T.builtins G.T.nolimit hg hobj hints (Nat.le_trans hlen hn2) hr hF hb fun H hO hS => hsp w H a ns hlen hO hS

end
end Fo
/-! piece Aux2 -/
namespace Fo
open PySem PySem.Spec PyProof.Rows L2
/-- a def of the text that may be called by its name -/
structure Cal (P : Program) (w : World) (K : PySem.W.Frag) (mg : Str → Option Value) (base : Heap) (x : Str) (k : Nat) (ps : List Str) (sp : Sp) : Prop where
  ex : ∃ (f : Addr) (fd : FuncData), FnOk P w K mg base CX0 k f fd ps sp ∧ mg x = some (.ref f) ∧ PySem.W.keepIn K (.ref f) = true ∧ Binds K fd ps []
section
variable {X : Cx} {x : Str} {p pos : Pos} {e : Expr} {es : List Expr} {t : TA} {k j : Nat} {ps : List Str} {sp : Sp}
theorem pe_cal (C : Cal X.prog X.w X.K X.mg X.base x k ps sp) (hr : Room j X.A) (hkj : k ≤ j) (hg : Gl X x) (ha : PA X (e :: es) t)
    (hdb : (x == ("__debug__" : Str)) = false := by decide)
    (he : starEach (e :: es) X.env = (false, eval e X.env) :: starEach es X.env := by rfl)
    (hpl : (backTo pos (starEach es X.env)).any (·.1) = false := by rfl) :
    PE X (.Call (.Name x p) (e :: es) [] pos) (tCall sp [] E0 t) := by
  obtain ⟨f, fd, F, hm, hk, hb⟩ := C.ex
  exact pe_call F (hr.mono hkj) hg hm hk hb .nil pass0 ha hdb he hpl
end
theorem opAdd {X : Cx} : OpR X (binaryOp .Add) (fun x y H Q => rI0 (fun i j => .int (i + j)) x y H Q ∨ rCat x y H Q) := op_add.or op_cat
end Fo
namespace Fo
open PySem PySem.Spec PyProof.Rows L2
theorem mk_body {X : Cx} {b : List Stmt} {t : TS} {D : Ends} {σ : L2.St} {H : Hp} (h : PSs X b t) (r : t D σ H) : ∃ t, PSs X b t ∧ t D σ H := ⟨t, h, r⟩
end Fo
namespace Fo
open PySem PySem.Spec PyProof.Rows L2
def gOr (g g' : TG) : TG := fun v σ H Q => g v σ H Q ∨ g' v σ H Q
theorem PG_or {X : Cx} {tg : Expr} {g g' : TG} (h : PG X tg g) (h' : PG X tg g') : PG X tg (gOr g g') := by
  constructor
  intro pins s σ H v u Q I r q
  rcases q with q | q
  · exact h.run pins s σ H v u Q I r q
  · exact h'.run pins s σ H v u Q I r q
end Fo
namespace Fo
open PySem PySem.Spec PyProof.Rows L2
def ownOf (N : List Str) (sc : Scope) : List (Str × Nat) := sc.names.filterMap fun y => match y.2 with
  | .local => (N.idxOf? y.1).map fun i => (y.1, i)
  | .cell => (N.idxOf? y.1).map fun i => (y.1, i)
  | _ => none
section
variable {X : Cx}
theorem pe_lcO {N ps : List Str} {sc : Scope} {elt tg iter : Expr} {ifs : List Expr} {scope : Scope} {pos : Pos} {wi : TI} {g : TG} {tt : TT} {te : TE} {vs : List Nat}
    (S : FnScope N ps sc) (hXN : X.N = N) (hXs : X.env.scope = sc)
    (hv : (ownOf N scope).map (·.2) = vs) (hb : blkC N sc scope (ownOf N scope) = true) (hc : X.calm = true) (hi : PI X tg iter wi)
    (hg : ∀ (s : Shared) (H : Hp) (C : Addr) (cl : List (Str × Addr)) (fp : List Addr), PG (X.blk s H scope (compEnvC scope cl C X.env) fp) tg g)
    (ht : ∀ (s : Shared) (H : Hp) (C : Addr) (cl : List (Str × Addr)) (fp : List Addr), PTs (X.blk s H scope (compEnvC scope cl C X.env) fp) ifs tt)
    (he : ∀ (s : Shared) (H : Hp) (C : Addr) (cl : List (Str × Addr)) (fp : List Addr), PE (X.blk s H scope (compEnvC scope cl C X.env) fp) elt te)
    (hs : ∀ x, foldedSetIterable iter X.env x = pure x := by intro _; rfl) :
    PE X (.ListComp elt [⟨tg, iter, ifs, 0⟩] scope pos) (tLc wi g tt te vs) := by
  subst hv
  refine pe_lc hc (by rw [hXN]; exact S.nd) hi ?_ hg ht he hs
  rw [hXN, hXs]
  exact blkOk_by hb
theorem ps_setLcO {N ps : List Str} {sc : Scope} {i : Nat} {y : Str} {py : Pos} {elt tg iter : Expr} {ifs : List Expr} {scope : Scope} {pos spos : Pos} {wi : TI} {g : TG} {tt : TT} {te : TE} {vs : List Nat}
    (S : FnScope N ps sc) (hXN : X.N = N) (hXs : X.env.scope = sc)
    (hv : (ownOf N scope).map (·.2) = vs) (hb : blkC N sc scope (ownOf N scope) = true) (hc : X.calm = true) (hy : X.N[i]? = some y)
    (hyl : X.env.scope.names.lookup y = some .local)
    (hsw : swapsWith (.ListComp elt [⟨tg, iter, ifs, 0⟩] scope pos) (some (.Name y py)) spos.line X.env = pure true) (hi : PI X tg iter wi)
    (hg : ∀ (s : Shared) (H : Hp) (C : Addr) (cl : List (Str × Addr)) (fp : List Addr), PG (X.blk s H scope (compEnvC scope cl C X.env) fp) tg g)
    (ht : ∀ (s : Shared) (H : Hp) (C : Addr) (cl : List (Str × Addr)) (fp : List Addr), PTs (X.blk s H scope (compEnvC scope cl C X.env) fp) ifs tt)
    (he : ∀ (s : Shared) (H : Hp) (C : Addr) (cl : List (Str × Addr)) (fp : List Addr), PE (X.blk s H scope (compEnvC scope cl C X.env) fp) elt te)
    (hs : ∀ x, foldedSetIterable iter X.env x = pure x := by intro _; rfl) :
    PS X (.Assign [.Name y py] (.ListComp elt [⟨tg, iter, ifs, 0⟩] scope pos) spos) (tAsg (tLc wi g tt te vs) (gName i)) := by
  subst hv
  refine ps_setLc hc (by rw [hXN]; exact S.nd) hy hyl hsw hi ?_ hg ht he hs
  rw [hXN, hXs]
  exact blkOk_by hb
end
end Fo
namespace Fo
open PySem PySem.Spec PyProof.Rows L2
/-! rules whose reading names the written part by a letter of its own, for a comprehension's block -/
structure KMark (K : PySem.W.Frag) : Prop where
  mk ::
section
variable {X : Cx} {K : PySem.W.Frag}
theorem ix_seqK (_ : KMark K) (h : X.K = K) : IxR X (rIx K) := h ▸ ix_seq
theorem op_inK (_ : KMark K) (h : X.K = K) : OpR X (compareOp .In) (rIn K false) := h ▸ op_in_seq
theorem op_notInK (_ : KMark K) (h : X.K = K) : OpR X (compareOp .NotIn) (rIn K true) := h ▸ op_notIn_seq
def rEqB (K : PySem.W.Frag) : R2 := fun x y H Q => rEq x y H Q ∨ rEqD K x y H Q
def rNeB (K : PySem.W.Frag) : R2 := fun x y H Q => rNe x y H Q ∨ rNeD K x y H Q
theorem op_eqK (_ : KMark K) (h : X.K = K) (hu : X.A.units + 64 < cLine) : OpR X (compareOp .Eq) (rEqB K) := h ▸ op_eq.or (op_eqD hu)
theorem op_neK (_ : KMark K) (h : X.K = K) (hu : X.A.units + 64 < cLine) : OpR X (compareOp .NotEq) (rNeB K) := h ▸ op_ne.or (op_neD hu)
def cListOf (K : PySem.W.Frag) : List V → Hp → VK → Prop := fun xs H Q => ∃ p ys, xs = [.ref p] ∧ (SqL K H p ys ∨ SqT K H p ys) ∧ ∀ l, H l = none → Q (.ref l) (upd H l (.lst ys))
def cLen (K : PySem.W.Frag) : List V → Hp → VK → Prop := fun xs H Q => ∃ p ys, xs = [.ref p] ∧ (SqL K H p ys ∨ SqT K H p ys) ∧ Q (.int ys.length) H
theorem call_listK (_ : KMark K) (h : X.K = K) : CallR X (.type "list") (cListOf K) := h ▸ call_list_of
theorem call_lenK (_ : KMark K) (h : X.K = K) : CallR X (.builtin "len") (cLen K) := h ▸ call_len_seq
theorem cr_sortedK (_ : KMark K) (h : X.K = K) : CallR X (.builtin "sorted") (rSorted K) := h ▸ cr_sorted
def cRepr (K : PySem.W.Frag) : List V → Hp → VK → Prop := fun xs H Q => ∃ a d, xs = [.ref a] ∧ Dp K H (.ref a) d ∧ d.showable = true ∧ d.hasDict = false ∧ d.depth ≤ 60 ∧ d.shown.length ≤ sizeLine ∧ Q (.str d.shown) H
theorem call_reprK (_ : KMark K) (h : X.K = K) (hgd : X.A.guards = some []) (hu : X.A.units + 64 < cLine) : CallR X (.builtin "repr") (cRepr K) := h ▸ call_reprD hgd hu
def rAddB : R2 := fun x y H Q => rI0 (fun i j => .int (i + j)) x y H Q ∨ rCat x y H Q
theorem opAddB : OpR X (binaryOp .Add) rAddB := op_add.or op_cat
theorem pi_listK {tg l : Expr} {tl : TE} (_ : KMark K) (h : X.K = K) (hl : PE X l tl) : PI X tg l (iList K tl) := h ▸ pi_list hl
theorem pg_tup2 {a b : Expr} {k : Nat} {pos : Pos} {t : TGs} (_ : KMark K) (h : X.K = K) (hc : X.calm = true) (hg : PGs X [a, b] t)
    (hn : (assignEach [a, b] X.env).length = 2 := by rfl) (hst : (assignEach [a, b] X.env).findIdx? (·.1) = none := by rfl) : PG X (.Tuple [a, b] k pos) (gTup K 2 t) := h ▸ pg_tup hc hg hn hst
theorem pg_unl2 {a b : Expr} {k : Nat} {pos : Pos} {t : TGs} (_ : KMark K) (h : X.K = K) (hc : X.calm = true) (hg : PGs X [a, b] t)
    (hn : (assignEach [a, b] X.env).length = 2 := by rfl) (hst : (assignEach [a, b] X.env).findIdx? (·.1) = none := by rfl) : PG X (.Tuple [a, b] k pos) (gUnl K 2 t) := h ▸ pg_unl hc hg hn hst
theorem pe_stepK {e st : Expr} {te tk : TE} {p3 pos : Pos} (_ : KMark K) (h : X.K = K) (he : PE X e te) (hst : PE X st tk)
    (hgo : ∀ v sl, subscripted (.Slice none none (some st) p3) false v sl = operate [v, sl] (getItem v sl) := by intro _ _; rfl)
    (hlt : ∀ v r, letTemporaryGo e v r = pure () := by intro _ _; rfl) : PE X (.Subscript e (.Slice none none (some st) p3) pos) (tStep K te tk) := h ▸ pe_step he hst hgo hlt
theorem sl_listK (_ : KMark K) (h : X.K = K) : SlR X (rSlL K) := h ▸ sl_list
theorem mt_cntK (_ : KMark K) (h : X.K = K) : MtR X "list.count" (rCnt K) := h ▸ mt_cnt
def tTruth (K : PySem.W.Frag) (ta : TE) : TT := fun σ H Q => ta σ H fun x H' => ∃ k, TruV K x H' k ∧ Q k H'
theorem pt_truthK {a : Expr} {ta : TE} (_ : KMark K) (h : X.K = K) (ha : PE X a ta) (he : ∀ whole, isTrue a X.env whole = (do let v ← whole; standAt a.pos; holding [v] (truthy v))) : PT X a (tTruth K ta) := h ▸ pt_truth ha he
def cInt : List V → Hp → VK → Prop := fun xs H Q => (∃ i, xs = [.int i] ∧ Q (.int i) H) ∨ ∃ k, xs = [.bl k] ∧ Q (.int (if k then 1 else 0)) H
theorem call_intB : CallR X (.type "int") cInt := call_int1
end
end Fo

namespace Fo
open PySem PySem.Spec PyProof.Rows L2
/-! piece Text1 -/
section
open PySem PySem.Spec PyProof.Rows L2
def topS (i : Nat) : Stmt := PySem.Challenge.pw_foldednets_k50_whole_catching.main.body.getD i (.Pass ⟨0, 0, 0, 0⟩)
abbrev s_is_place : Stmt := topS 6
theorem sc_is_place : FnScope ["place", "places"] ["place", "places"] (defScope s_is_place) := ⟨rfl, rfl, rfl, by decide +kernel, rfl, by decide +kernel, by decide +kernel⟩
abbrev s_read_net : Stmt := topS 7
theorem sc_read_net : FnScope ["places", "lines", "bits", "place", "near", "at", "line", "low", "high"] ["places", "lines"] (defScope s_read_net) := ⟨rfl, rfl, rfl, by decide +kernel, rfl, by decide +kernel, by decide +kernel⟩
abbrev s_check_place : Stmt := topS 8
theorem sc_check_place : FnScope ["near", "place"] ["near", "place"] (defScope s_check_place) := ⟨rfl, rfl, rfl, by decide +kernel, rfl, by decide +kernel, by decide +kernel⟩
abbrev s_whole_lot : Stmt := topS 9
theorem sc_whole_lot : FnScope ["near"] ["near"] (defScope s_whole_lot) := ⟨rfl, rfl, rfl, by decide +kernel, rfl, by decide +kernel, by decide +kernel⟩
abbrev s_members : Stmt := topS 10
theorem sc_members : FnScope ["lot", "place"] ["lot"] (defScope s_members) := ⟨rfl, rfl, rfl, by decide +kernel, rfl, by decide +kernel, by decide +kernel⟩
abbrev s_first_target : Stmt := topS 11
theorem sc_first_target : FnScope ["near", "lot", "place", "mine", "other", "theirs"] ["near", "lot", "place"] (defScope s_first_target) := ⟨rfl, rfl, rfl, by decide +kernel, rfl, by decide +kernel, by decide +kernel⟩
abbrev s_fold_around : Stmt := topS 12
theorem sc_fold_around : FnScope ["near", "held", "lot", "pairs", "folded", "place", "other"] ["near", "held"] (defScope s_fold_around) := ⟨rfl, rfl, rfl, by decide +kernel, rfl, by decide +kernel, by decide +kernel⟩
abbrev s_turns_to_catch : Stmt := topS 14
theorem sc_turns_to_catch : FnScope ["places", "lines", "seeker", "fleer", "turns", "_"] ["places", "lines", "seeker", "fleer"] (defScope s_turns_to_catch) := ⟨rfl, rfl, rfl, by decide +kernel, rfl, by decide +kernel, by decide +kernel⟩
abbrev s_best_starts : Stmt := topS 15
theorem sc_best_starts : FnScope ["places", "lines", "near", "answers", "lot", "turns", "before", "sure", "best"] ["places", "lines"] (defScope s_best_starts) := ⟨rfl, rfl, rfl, by decide +kernel, rfl, by decide +kernel, by decide +kernel⟩
abbrev s_seeker_goes : Stmt := topS 16
theorem sc_seeker_goes : FnScope ["places", "lines", "seeker", "fleer", "_", "goal"] ["places", "lines", "seeker", "fleer"] (defScope s_seeker_goes) := ⟨rfl, rfl, rfl, by decide +kernel, rfl, by decide +kernel, by decide +kernel⟩
abbrev s_read_both : Stmt := topS 17
theorem sc_read_both : FnScope ["places", "lines", "seeker", "fleer", "near"] ["places", "lines", "seeker", "fleer"] (defScope s_read_both) := ⟨rfl, rfl, rfl, by decide +kernel, rfl, by decide +kernel, by decide +kernel⟩
abbrev s_best_going : Stmt := topS 18
theorem sc_best_going : FnScope ["near", "seeker", "fleer", "answers", "lot", "turns", "before", "sure", "traps", "goals"] ["near", "seeker", "fleer"] (defScope s_best_going) := ⟨rfl, rfl, rfl, by decide +kernel, rfl, by decide +kernel, by decide +kernel⟩
abbrev s_same_places : Stmt := topS 19
theorem sc_same_places : FnScope ["near", "place"] ["near"] (defScope s_same_places) := ⟨rfl, rfl, rfl, by decide +kernel, rfl, by decide +kernel, by decide +kernel⟩
abbrev s_traps : Stmt := topS 20
theorem sc_traps : FnScope ["answers", "sure", "place"] ["answers", "sure"] (defScope s_traps) := ⟨rfl, rfl, rfl, by decide +kernel, rfl, by decide +kernel, by decide +kernel⟩
abbrev s_one_turn_ahead : Stmt := topS 21
theorem sc_one_turn_ahead : FnScope ["near", "traps", "sure", "lot", "beside", "place"] ["near", "traps"] (defScope s_one_turn_ahead) := ⟨rfl, rfl, rfl, by decide +kernel, rfl, by decide +kernel, by decide +kernel⟩
abbrev s_common : Stmt := topS 22
theorem sc_common : FnScope ["lots", "places", "lot", "place"] ["lots", "places"] (defScope s_common) := ⟨rfl, rfl, rfl, by decide +kernel, rfl, by decide +kernel, by decide +kernel⟩
abbrev s_full_order : Stmt := topS 24
theorem sc_full_order : FnScope ["places", "lines"] ["places", "lines"] (defScope s_full_order) := ⟨rfl, rfl, rfl, by decide +kernel, rfl, by decide +kernel, by decide +kernel⟩
abbrev s_end_size : Stmt := topS 25
theorem sc_end_size : FnScope ["places", "lines"] ["places", "lines"] (defScope s_end_size) := ⟨rfl, rfl, rfl, by decide +kernel, rfl, by decide +kernel, by decide +kernel⟩
abbrev s_order_around : Stmt := topS 26
theorem sc_order_around : FnScope ["near", "held", "_", "pairs", "place"] ["near", "held"] (defScope s_order_around) := ⟨rfl, rfl, rfl, by decide +kernel, rfl, by decide +kernel, by decide +kernel⟩
abbrev s_all_lead : Stmt := topS 28
theorem sc_all_lead : FnScope ["places", "lines"] ["places", "lines"] (defScope s_all_lead) := ⟨rfl, rfl, rfl, by decide +kernel, rfl, by decide +kernel, by decide +kernel⟩
abbrev s_law_draws : Stmt := topS 30
theorem sc_law_draws : FnScope ["_law_cell"] ["_law_cell"] (defScope s_law_draws) := ⟨rfl, rfl, rfl, by decide +kernel, rfl, by decide +kernel, by decide +kernel⟩
abbrev s_law_next : Stmt := topS 31
theorem sc_law_next : FnScope ["_law_draws_here", "_law_k", "_law_number"] ["_law_draws_here"] (defScope s_law_next) := ⟨rfl, rfl, rfl, by decide +kernel, rfl, by decide +kernel, by decide +kernel⟩
abbrev s_law_mixed : Stmt := topS 32
theorem sc_law_mixed : FnScope ["_law_draws_here", "_law_things", "_law_rest", "_law_told"] ["_law_draws_here", "_law_things"] (defScope s_law_mixed) := ⟨rfl, rfl, rfl, by decide +kernel, rfl, by decide +kernel, by decide +kernel⟩
abbrev s_law_net : Stmt := topS 33
theorem sc_law_net : FnScope ["_law_draws_here", "_law_most", "_law_size", "_law_kind", "_law_pairs", "_law_spot", "_law_mate", "_law_one", "_law_pick", "_law_known", "_law_names", "_law_told", "_law_low", "_law_high"] ["_law_draws_here", "_law_most"] (defScope s_law_net) := ⟨rfl, rfl, rfl, by decide +kernel, rfl, by decide +kernel, by decide +kernel⟩
abbrev s_law_near : Stmt := topS 34
theorem sc_law_near : FnScope ["_law_size", "_law_sides", "_law_told", "_law_spot", "_law_low", "_law_high"] ["_law_size", "_law_sides"] (defScope s_law_near) := ⟨rfl, rfl, rfl, by decide +kernel, rfl, by decide +kernel, by decide +kernel⟩
abbrev s_law_onto : Stmt := topS 35
theorem sc_law_onto : FnScope ["_law_near_here", "_law_stay", "_law_spot", "_law_some", "_law_mate", "_law_goal"] ["_law_near_here", "_law_stay", "_law_spot"] (defScope s_law_onto) := ⟨rfl, rfl, rfl, by decide +kernel, rfl, by decide +kernel, by decide +kernel⟩
abbrev s_law_full : Stmt := topS 36
theorem sc_law_full : FnScope ["_law_draws_here", "_law_near_here", "_law_size", "_law_stay", "_law_steps", "_law_some", "_law_spot", "_law_goals_here", "_law_mate"] ["_law_draws_here", "_law_near_here", "_law_size"] (defScope s_law_full) := ⟨rfl, rfl, rfl, by decide +kernel, rfl, by decide +kernel, by decide +kernel⟩
abbrev s_law_goals : Stmt := topS 37
theorem sc_law_goals : FnScope ["_law_size", "_law_steps", "_law_told", "_law_spot", "_law_goal"] ["_law_size", "_law_steps"] (defScope s_law_goals) := ⟨rfl, rfl, rfl, by decide +kernel, rfl, by decide +kernel, by decide +kernel⟩
abbrev s_law_table : Stmt := topS 38
theorem sc_law_table : FnScope ["_law_near_here", "_law_size", "_law_spots", "_law_told", "_law_spot", "_law_here", "_law_many", "_law_fresh", "_law_there"] ["_law_near_here", "_law_size"] (defScope s_law_table) := ⟨rfl, rfl, rfl, by decide +kernel, rfl, by decide +kernel, by decide +kernel⟩
abbrev s_law_good : Stmt := topS 39
theorem sc_law_good : FnScope ["_law_near_here", "_law_told", "_law_here", "_law_there", "_law_goals_here", "_law_goal", "_law_open_now", "_law_spot"] ["_law_near_here", "_law_told", "_law_here", "_law_there"] (defScope s_law_good) := ⟨rfl, rfl, rfl, by decide +kernel, rfl, by decide +kernel, by decide +kernel⟩
abbrev s_law_right : Stmt := topS 40
theorem sc_law_right : FnScope ["_law_draws_here", "_law_size", "_law_sides", "_law_near_here", "_law_before", "_law_table_here", "_law_here", "_law_there", "_law_due", "_law_goal", "_law_later", "_law_spot", "_law_named"] ["_law_draws_here", "_law_size", "_law_sides"] (defScope s_law_right) := ⟨rfl, rfl, rfl, by decide +kernel, rfl, by decide +kernel, by decide +kernel⟩
abbrev s_law_starts_right : Stmt := topS 41
theorem sc_law_starts_right : FnScope ["_law_draws_here", "_law_size", "_law_sides", "_law_table_here", "_law_before", "_law_alone", "_law_worst", "_law_here", "_law_sure", "_law_many", "_law_due", "_law_told"] ["_law_draws_here", "_law_size", "_law_sides", "_law_table_here"] (defScope s_law_starts_right) := ⟨rfl, rfl, rfl, by decide +kernel, rfl, by decide +kernel, by decide +kernel⟩
abbrev s_law : Stmt := topS 42
theorem sc_law : FnScope ["_law_script", "_law_draws_here", "_law_cell", "_law_most", "_law_size", "_law_sides", "_law_line", "_law_spot", "_law_row", "_law_told", "_law_seven"] ["_law_script"] (defScope s_law) := ⟨rfl, rfl, rfl, by decide +kernel, rfl, by decide +kernel, by decide +kernel⟩

end
end Fo
/-! piece Dat -/
namespace Fo
open PySem PySem.Spec PyProof.Rows L2
/-! ## plain data: may be compared and shown -/
structure DOk (n b : Nat) (d : PyData) : Prop where
  lay : d.canLay0 = true
  dep : d.depth ≤ n
  sh : d.showable = true
  nd : d.hasDict = false
  len : d.shown.length ≤ b
theorem DOk.mono {n m b c : Nat} {d : PyData} (h : DOk n b d) (hn : n ≤ m) (hb : b ≤ c) : DOk m c d :=
  ⟨h.lay, Nat.le_trans h.dep hn, h.sh, h.nd, Nat.le_trans h.len hb⟩
theorem DOk.shaped {n b : Nat} {d : PyData} (h : DOk n b d) (hn : n ≤ 64) : SeqAt.shaped d = true := by
  unfold SeqAt.shaped
  rw [h.lay, decide_eq_true (Nat.le_trans h.dep hn)]
  rfl
theorem dok_none : DOk 0 4 .none := ⟨rfl, Nat.le_refl _, rfl, rfl, by decide⟩
theorem dok_bool (k : Bool) : DOk 0 5 (.bool k) := by cases k <;> exact ⟨rfl, Nat.le_refl _, rfl, rfl, by decide⟩
theorem natLen : ∀ n : Fin 1000, (PyData.shown (.int (Int.ofNat n.val))).length ≤ 4 ∧ (PyData.shown (.int (Int.negSucc n.val))).length ≤ 5 := by decide +kernel
theorem dok_int {i : Int} (h : i.natAbs < 1000) : DOk 0 5 (.int i) := by
  refine ⟨rfl, Nat.le_refl _, ?_, rfl, ?_⟩
  · unfold PyData.showable
    apply decide_eq_true
    have h1 : i.natAbs.log2 ≤ i.natAbs := Nat.log2_le_self _
    omega
  · cases i with
    | ofNat n => exact Nat.le_trans (natLen ⟨n, h⟩).1 (by decide)
    | negSucc n => exact (natLen ⟨n, by simp [Int.natAbs_negSucc] at h; omega⟩).2
theorem textFrom_le : ∀ (ts : List Str) (k : Nat) (acc : Str), (textFrom k acc ts).length ≤ acc.length + piled ts
  | [], k, acc => by
    show acc.length ≤ acc.length + piled []
    rw [piled_nil]
    exact Nat.le_refl _
  | t :: r, k, acc => by
    have h := textFrom_le r (k + 1) (acc ++ (if k > 0 then ", " else "" : String) ++ t)
    have e : (acc ++ (if k > 0 then ", " else "" : String) ++ t).length ≤ acc.length + 2 + t.length := by
      rw [strLen_append, strLen_append]
      split
      · exact Nat.le_refl _
      · exact Nat.add_le_add_right (Nat.add_le_add_left (Nat.zero_le _) _) _
    rw [piled_cons]
    show (textFrom (k + 1) _ r).length ≤ _
    omega
theorem listText_le (ts : List Str) : (listText ts).length ≤ 2 + piled ts := by
  have h := textFrom_le ts 0 "["
  unfold listText
  rw [strLen_append]
  have e1 : (Str.ofString "[").length = 1 := rfl
  have e2 : (Str.ofString "]").length = 1 := rfl
  omega
theorem tupleText_le (ts : List Str) : (tupleText ts).length ≤ 3 + piled ts := by
  unfold tupleText
  rw [strLen_append, strLen_append]
  have e1 : (Str.ofString "(").length = 1 := rfl
  have e3 : (Str.ofString (if ts.length == 1 then ",)" else ")")).length ≤ 2 := by split <;> decide
  by_cases h : ts = []
  · subst h
    have : (Str.join ", " ([] : List Str)).length = 0 := rfl
    omega
  · have := join_length_add ts h
    omega
theorem all_of {n b : Nat} : ∀ {xs : List PyData}, (∀ x ∈ xs, DOk n b x) → PyData.canLayAll0 xs = true ∧ PyData.depthAll xs ≤ n ∧ PyData.showableAll xs = true ∧ PyData.hasDictAll xs = false ∧ piled (PyData.shownAll xs) ≤ xs.length * (b + 2)
  | [], _ => ⟨rfl, Nat.zero_le _, rfl, rfl, by show piled [] ≤ _; rw [piled_nil]; exact Nat.zero_le _⟩
  | x :: xs, h => by
    obtain ⟨h1, h2, h3, h4, h5⟩ := all_of (xs := xs) fun y hy => h y (List.mem_cons_of_mem _ hy)
    have hx := h x (List.mem_cons_self ..)
    refine ⟨?_, ?_, ?_, ?_, ?_⟩
    · unfold PyData.canLayAll0; rw [hx.lay, h1]; rfl
    · unfold PyData.depthAll; exact Nat.max_le.mpr ⟨hx.dep, h2⟩
    · unfold PyData.showableAll; rw [hx.sh, h3]; rfl
    · unfold PyData.hasDictAll; rw [hx.nd, h4]; rfl
    · show piled (PyData.shown x :: PyData.shownAll xs) ≤ (xs.length + 1) * (b + 2)
      rw [piled_cons, Nat.succ_mul]
      have := hx.len
      omega
theorem dok_list {n b : Nat} {xs : List PyData} (h : ∀ x ∈ xs, DOk n b x) : DOk (n + 1) (2 + xs.length * (b + 2)) (.list xs) := by
  obtain ⟨h1, h2, h3, h4, h5⟩ := all_of h
  refine ⟨?_, ?_, ?_, ?_, ?_⟩
  · unfold PyData.canLay0; exact h1
  · unfold PyData.depth; omega
  · unfold PyData.showable; exact h3
  · unfold PyData.hasDict; exact h4
  · unfold PyData.shown; exact Nat.le_trans (listText_le _) (by omega)
theorem dok_tuple {n b : Nat} {xs : List PyData} (h : ∀ x ∈ xs, DOk n b x) : DOk (n + 1) (3 + xs.length * (b + 2)) (.tuple xs) := by
  obtain ⟨h1, h2, h3, h4, h5⟩ := all_of h
  refine ⟨?_, ?_, ?_, ?_, ?_⟩
  · unfold PyData.canLay0; exact h1
  · unfold PyData.depth; omega
  · unfold PyData.showable; exact h3
  · unfold PyData.hasDict; exact h4
  · unfold PyData.shown; exact Nat.le_trans (tupleText_le _) (by omega)
theorem eqv_list_nil (ds : List PyData) : PyData.eqv (.list ds) (.list []) = ds.isEmpty := by
  cases ds <;> simp [PyData.eqv, PyData.eqvAll]

section
variable {K : PySem.W.Frag} {H H' : Hp}
theorem dp_ints : ∀ xs : List Int, DpAll K H (xs.map V.int) (xs.map PyData.int)
  | [] => .nil
  | x :: xs => .cons (.int x) (dp_ints xs)
theorem dpAll_of {f : V → PyData} : ∀ {xs : List V}, (∀ x ∈ xs, Dp K H x (f x)) → DpAll K H xs (xs.map f)
  | [], _ => .nil
  | x :: xs, h => .cons (h x (List.mem_cons_self ..)) (dpAll_of fun y hy => h y (List.mem_cons_of_mem _ hy))
end
end Fo
namespace Fo
open PySem PySem.Spec PyProof.Rows L2
theorem ifF {b : Bool} {A B : Prop} (e : b = false) (h : B) : if b = true then A else B := by
  rw [e, if_neg Bool.false_ne_true]
  exact h
theorem ifT {b : Bool} {A B : Prop} (e : b = true) (h : A) : if b = true then A else B := by
  rw [if_pos e]
  exact h
theorem perm_erase {α : Type} : ∀ {l : List α} {j : Nat} {y : α}, l[j]? = some y → (y :: l.eraseIdx j).Perm l
  | [], _, _, h => by simp at h
  | a :: r, 0, y, h => by
    simp at h
    subst h
    exact List.Perm.refl _
  | a :: r, j + 1, y, h => by
    simp only [List.getElem?_cons_succ] at h
    exact (List.Perm.swap a y _).trans (List.Perm.cons a (perm_erase h))
theorem perm_move {α : Type} {ts ls xs : List α} {j : Nat} {y : α} (h : ls[j]? = some y) (p : (ts ++ ls).Perm xs) : ((ts ++ [y]) ++ ls.eraseIdx j).Perm xs := by
  refine List.Perm.trans ?_ p
  rw [List.append_assoc]
  exact List.Perm.append_left ts (perm_erase h)
/-- an index that is a remainder by the length -/
theorem mod_ix {n : Int} {len : Nat} (h : 0 < len) : ∃ j, j < len ∧ n % (len : Int) = (j : Int) := by
  have h1 := Int.emod_nonneg n (show (len : Int) ≠ 0 by omega)
  have h2 := Int.emod_lt_of_pos n (show (0 : Int) < len by omega)
  exact ⟨(n % (len : Int)).toNat, by omega, by omega⟩
theorem seqIx {j len : Nat} (h : j < len) : PySem.seqIndex? (j : Int) len = some j := by
  have h1 : ixN len (j : Int) = some j := by
    unfold ixN
    rw [if_pos (by omega), if_pos (by omega)]
    rfl
  exact (ixN_seq h1).1
end Fo
namespace Fo
open PySem PySem.Spec PyProof.Rows L2
theorem same_upd {H0 H : Hp} {r : Addr} {o : HO} (s : Same H0 H) (h : H0 r = none) : Same H0 (upd H r o) := fun b x e => by
  rw [upd_ne (ne_of_none e h)]
  exact s b x e
/-- lists of numbers of our own, in a list of our own -/
structure LsAt (H0 H : Hp) (D : Addr) (rs : List Addr) (ts : List (List Int)) : Prop where
  hD : H D = some (.lst (rs.map V.ref))
  nd : rs.Nodup
  len : rs.length = ts.length
  at_ : ∀ (i : Nat) (r : Addr) (t : List Int), rs[i]? = some r → ts[i]? = some t → H r = some (.lst (t.map V.int))
  fr : ∀ r ∈ rs, H0 r = none
  nD : D ∉ rs
theorem LsAt.trk {H0 H : Hp} {D : Addr} {rs : List Addr} {ts : List (List Int)} (L : LsAt H0 H D rs ts) {r : Addr} (h : r ∈ rs) : ∃ o, H r = some o := by
  obtain ⟨i, hi⟩ := List.getElem?_of_mem h
  have hl : i < ts.length := by rw [← L.len]; exact (List.getElem?_eq_some_iff.mp hi).1
  exact ⟨_, L.at_ i r _ hi (List.getElem?_eq_getElem hl)⟩
theorem LsAt.nil {H0 H : Hp} {D : Addr} (h : H D = some (.lst [])) : LsAt H0 H D [] [] :=
  ⟨h, List.nodup_nil, rfl, (fun i r t h _ => by simp at h), (fun r h => nomatch h), (fun h => nomatch h)⟩
theorem LsAt.push {H0 H : Hp} {D r : Addr} {rs : List Addr} {ts : List (List Int)} {t : List Int} (L : LsAt H0 H D rs ts) (nr : H r = none) (n0 : H0 r = none) :
    LsAt H0 (upd (upd H r (.lst (t.map V.int))) D (.lst (rs.map V.ref ++ [V.ref r]))) D (rs ++ [r]) (ts ++ [t]) := by
  have hDr : D ≠ r := ne_of_none L.hD nr
  have hrn : r ∉ rs := fun h => by
    obtain ⟨o, e⟩ := L.trk h
    rw [nr] at e
    cases e
  refine ⟨?_, ?_, ?_, ?_, ?_, ?_⟩
  · rw [upd_same, List.map_append]
    rfl
  · rw [List.nodup_append]
    refine ⟨L.nd, by simp, ?_⟩
    intro a ha b hb
    simp at hb
    subst hb
    rintro rfl
    exact hrn ha
  · rw [List.length_append, List.length_append, L.len]
    rfl
  · intro i a u ha hu
    by_cases hi : i < rs.length
    · rw [List.getElem?_append_left hi] at ha
      rw [List.getElem?_append_left (by rw [← L.len]; exact hi)] at hu
      have hm := List.mem_of_getElem? ha
      rw [upd_ne (show a ≠ D from fun e => L.nD (by rw [← e]; exact hm)), upd_ne (show a ≠ r from fun e => hrn (by rw [← e]; exact hm))]
      exact L.at_ i a u ha hu
    · rw [List.getElem?_append_right (by omega)] at ha
      rw [List.getElem?_append_right (by rw [← L.len]; omega), ← L.len] at hu
      have e0 : i - rs.length = 0 := by
        have := (List.getElem?_eq_some_iff.mp ha).1
        simp at this
        omega
      rw [e0] at ha hu
      simp at ha hu
      subst ha hu
      rw [upd_ne hDr.symm, upd_same]
  · intro a ha
    rcases List.mem_append.mp ha with ha | ha
    · exact L.fr a ha
    · simp at ha
      subst ha
      exact n0
  · intro h
    rcases List.mem_append.mp h with h | h
    · exact L.nD h
    · simp at h
      exact hDr h
theorem LsAt.modify {H0 H : Hp} {D r : Addr} {rs : List Addr} {ts : List (List Int)} {j : Nat} {t : List Int} {v : Int} (L : LsAt H0 H D rs ts) (hr : rs[j]? = some r) (ht : ts[j]? = some t) :
    LsAt H0 (upd H r (.lst (t.map V.int ++ [V.int v]))) D rs (ts.modify j (· ++ [v])) := by
  have hm := List.mem_of_getElem? hr
  refine ⟨?_, L.nd, ?_, ?_, L.fr, L.nD⟩
  · rw [upd_ne (fun e => L.nD (by rw [e]; exact hm))]
    exact L.hD
  · rw [List.length_modify]
    exact L.len
  · intro i a u ha hu
    rw [List.getElem?_modify] at hu
    by_cases hij : i = j
    · subst hij
      rw [hr] at ha
      cases ha
      rw [ht] at hu
      simp at hu
      subst hu
      rw [upd_same, List.map_append]
      rfl
    · have hne : a ≠ r := fun e => by
        subst e
        exact hij (nd_ix L.nd ha hr)
      rw [upd_ne hne]
      simp only [if_neg (Ne.symm hij)] at hu
      exact L.at_ i a u ha (by simpa using hu)
theorem LsAt.fr_none {H0 H : Hp} {D : Addr} {rs : List Addr} {ts : List (List Int)} (L : LsAt H0 H D rs ts) (h : H0 D = none) : H0 D = none := h
theorem LsAt.but {H0 H : Hp} {D r : Addr} {rs : List Addr} {ts : List (List Int)} {o : HO} (L : LsAt H0 H D rs ts) (nr : H r = none) : LsAt H0 (upd H r o) D rs ts := by
  refine ⟨by rw [upd_ne (ne_of_none L.hD nr)]; exact L.hD, L.nd, L.len, ?_, L.fr, L.nD⟩
  intro i a u ha hu
  rw [upd_ne (ne_of_none (L.at_ i a u ha hu) nr)]
  exact L.at_ i a u ha hu
theorem LsAt.same {H0 H H' : Hp} {D : Addr} {rs : List Addr} {ts : List (List Int)} (L : LsAt H0 H D rs ts) (s : Same H H') : LsAt H0 H' D rs ts :=
  ⟨s _ _ L.hD, L.nd, L.len, fun i r t h1 h2 => s _ _ (L.at_ i r t h1 h2), L.fr, L.nD⟩
end Fo

/-! piece Aux3 -/
namespace Fo
open PySem PySem.Spec PyProof.Rows L2
section
variable {X : Cx}
/-! ## x is not True -/
def isTrueV (x : V) : Bool := match x with
  | .bl true => true
  | _ => false
def rNotT : R2 := fun x y H Q => y = .bl true ∧ Q (.bl (!isTrueV x)) H
theorem op_notT : OpR X (compareOp .IsNot) rNotT := by
  intro pins s σ H x y v u Q I rx ry h
  obtain ⟨rfl, q⟩ := h
  cases (show u = Value.bool true from ry)
  have fin : ∀ b : Bool, b = !isTrueV x → EP X pins σ Q (.bool b) s := fun b e => ⟨.bl b, H, I, rfl, by rw [e]; exact q⟩
  cases x with
  | bl b =>
    cases (show v = Value.bool b from rx)
    cases b with
    | true => exact wpAny_isNot_self rfl (fin false rfl)
    | false => exact wpAny_isNot_other rfl (fun z => nomatch z) (fin true rfl)
  | non => cases (show v = Value.none from rx); exact wpAny_isNot_other rfl (fun z => nomatch z) (fin true rfl)
  | ty n => cases (show v = Value.type n from rx); exact wpAny_isNot_other rfl (fun z => nomatch z) (fin true rfl)
  | ref a => cases (show v = Value.ref a from rx); exact wpAny_isNot_other rfl (fun z => nomatch z) (fin true rfl)
  | int i => obtain ⟨t, rfl⟩ := (show ∃ t, v = Value.int i t from rx); exact wpAny_isNot_other rfl (fun z => nomatch z) (fin true rfl)
  | str i => obtain ⟨t, rfl⟩ := (show ∃ t, v = Value.str i t from rx); exact wpAny_isNot_other rfl (fun z => nomatch z) (fin true rfl)
  | byt i => obtain ⟨t, rfl⟩ := (show ∃ t, v = Value.bytes i t from rx); exact wpAny_isNot_other rfl (fun z => nomatch z) (fin true rfl)
  | flt i => obtain ⟨t, rfl⟩ := (show ∃ t, v = Value.float i t from rx); exact wpAny_isNot_other rfl (fun z => nomatch z) (fin true rfl)
/-! ## a test of three comparisons in a row -/
section
variable {a b c d : Expr} {pos : Pos} {ta tb tc td : TE}
def tChain3 (r r' r'' : R2) (ta tb tc td : TE) : TT := fun σ H Q => ta σ H fun x H1 => tb σ H1 fun y H2 => r x y H2 fun z H3 => ∃ k, z = .bl k ∧
  (if k = true then tc σ H3 fun w' H4 => r' y w' H4 fun z2 H5 => ∃ k2, z2 = .bl k2 ∧ (if k2 = true then td σ H5 fun w2 H6 => r'' w' w2 H6 fun z3 H7 => ∃ k3, z3 = .bl k3 ∧ Q k3 H7 else Q false H5) else Q false H3)
theorem pt_chain3 {op op' op'' : CmpOp} {r r' r'' : R2} (ho : OpR X (compareOp op) r) (ho' : OpR X (compareOp op') r') (ho'' : OpR X (compareOp op'') r'') (ha : PE X a ta) (hb : PE X b tb) (hc : PE X c tc) (hd : PE X d td)
    (hm : lastMarks [op, op', op''] [b, c, d] = false := by with_unfolding_all rfl) : PT X (.Compare a [op, op', op''] [b, c, d] pos) (tChain3 r r' r'' ta tb tc td) := by
  refine ⟨fun pins s σ H Q I h => ?_⟩
  refine isTrue_chain (thn (ha.run pins s σ H _ I h) fun v s1 ⟨x, H1, I1, r1, q1⟩ => test_link (thn (hb.run pins s1 σ H1 _ I1 q1) fun u s2 ⟨y, H2, I2, r2, q2⟩ =>
    thn (ho pins s2 σ H2 x y v u _ I2 r1 r2 q2) fun d s3 ⟨z, H3, I3, r3, k, e, q3⟩ => ?_)) hm
  subst e
  cases r3
  refine wpAny_truthy_bool ?_
  cases k with
  | false => exact ite_ff ⟨H3, I3, q3⟩
  | true =>
    refine ite_tt (test_link (thn (hc.run pins s3 σ H3 _ I3 q3) fun w' s4 ⟨z', H4, I4, r4, q4⟩ => thn (ho' pins s4 σ H4 y z' u w' _ I4 r2 r4 q4) fun d' s5 ⟨z2, H5, I5, r5, k2, e2, q5⟩ => ?_))
    subst e2
    cases r5
    refine wpAny_truthy_bool ?_
    cases k2 with
    | false => exact ite_ff ⟨H5, I5, q5⟩
    | true =>
      refine ite_tt (test_last (thn (hd.run pins s5 σ H5 _ I5 q5) fun w2 s6 ⟨z6, H6, I6, r6, q6⟩ => thn (ho'' pins s6 σ H6 z' z6 w' w2 _ I6 r4 r6 q6) fun d2 s7 ⟨z7, H7, I7, r7, k7, e7, q7⟩ => ?_))
      subst e7
      cases r7
      exact wpAny_truthy_bool ⟨H7, I7, q7⟩
end
/-! ## a[i] |= e of a list of ints -/
def rGetL : V → V → Hp → VK → Prop := fun o i H Q => ∃ p xs k j y, o = .ref p ∧ i = .int k ∧ H p = some (.lst xs) ∧ 0 ≤ k ∧ k.toNat = j ∧ xs[j]? = some y ∧ Q y H
theorem get_list : PGet X rGetL := by
  intro pins s σ H o i ov iv Q I ro ri h
  obtain ⟨p, xs, k, j, y, rfl, rfl, hp, h0, hj, hy, q⟩ := h
  cases ro
  obtain ⟨t, rfl⟩ := (show ∃ t, iv = Value.int k t from ri)
  obtain ⟨its, n, r, ho, hz⟩ := I.lst hp
  obtain ⟨w, ew, rw'⟩ := r.get hy
  have hl := r.length
  have hn := line63
  have hjl : j < xs.length := (List.getElem?_eq_some_iff.mp hy).1
  obtain ⟨its2, r2, pl, _⟩ := I.list (SqL.of hp)
  obtain ⟨w2, ew2, rw2⟩ := r2.get hy
  have fin : EP X pins σ Q w2 s := ⟨y, H, I, rw2, q⟩
  exact wpAny_mono (wpAny_getItem_list (Q := fun r s' => r = w2 ∧ EP X pins σ Q r s') pl.isList h0 (by omega) (by rw [hj]; simpa using ew2) ⟨rfl, fin⟩) (fun v s' z => z.2) (fun _ _ z => z)
theorem ip_or : PIp X .BitOr (ipI fun i j => Builtin.bitOr i j) := by
  intro pins s σ H x y v u Q I r1 r2 h
  obtain ⟨i, j, e1, e2, q⟩ := h
  subst e1; subst e2
  obtain ⟨t, rfl⟩ := r1
  obtain ⟨t', rfl⟩ := r2
  exact ior_int ⟨.int _, H, I.tok _, ⟨_, rfl⟩, q⟩
theorem ip_and : PIp X .BitAnd (ipI fun i j => Builtin.bitAnd i j) := by
  intro pins s σ H x y v u Q I r1 r2 h
  obtain ⟨i, j, e1, e2, q⟩ := h
  subst e1; subst e2
  obtain ⟨t, rfl⟩ := r1
  obtain ⟨t', rfl⟩ := r2
  exact iand_int ⟨.int _, H, I.tok _, ⟨_, rfl⟩, q⟩
theorem ip_xor : PIp X .BitXor (ipI fun i j => Builtin.bitXor i j) := by
  intro pins s σ H x y v u Q I r1 r2 h
  obtain ⟨i, j, e1, e2, q⟩ := h
  subst e1; subst e2
  obtain ⟨t, rfl⟩ := r1
  obtain ⟨t', rfl⟩ := r2
  exact ixor_int ⟨.int _, H, I.tok _, ⟨_, rfl⟩, q⟩
/-! ## bits of natural numbers -/
theorem bAnd (a b : Nat) : Builtin.bitAnd (a : Int) (b : Int) = ((a &&& b : Nat) : Int) := by
  rw [bitAnd_pp (Int.natCast_nonneg a) (Int.natCast_nonneg b)]
  rfl
theorem bOr (a b : Nat) : Builtin.bitOr (a : Int) (b : Int) = ((a ||| b : Nat) : Int) := by
  rw [bitOr_nn (Int.natCast_nonneg a) (Int.natCast_nonneg b)]
  rfl
theorem bit_test (v k : Nat) : (Builtin.bitAnd ((v : Int) / 2 ^ k) 1 != 0) = v.testBit k := by
  have e : (v : Int) / 2 ^ k = ((v / 2 ^ k : Nat) : Int) := by rw [Int.natCast_ediv, Int.natCast_pow]; rfl
  rw [e, show Builtin.bitAnd ((v / 2 ^ k : Nat) : Int) 1 = ((v / 2 ^ k &&& 1 : Nat) : Int) from bAnd _ 1, Nat.testBit_eq_decide_div_mod_eq, Nat.and_one_is_mod]
  rcases Nat.mod_two_eq_zero_or_one (v / 2 ^ k) with h | h <;> rw [h] <;> rfl
end
end Fo
namespace Fo
open PySem PySem.Spec PyProof.Rows L2
theorem cut_1 (xs : List V) : cutV xs (some 1) none = xs.drop 1 := by
  unfold cutV
  rw [show HT.sIx xs.length 0 (some 1) = min 1 xs.length from HT.sIx_nat xs.length 0 1, HT.sIx_none]
  cases xs with
  | nil => rfl
  | cons x r =>
    rw [show min 1 (x :: r).length = 1 from Nat.min_eq_left (by rw [List.length_cons]; omega), List.drop_succ_cons, List.drop_zero, List.length_cons, Nat.add_sub_cancel, List.take_length]
end Fo

namespace Fo
open PySem PySem.Spec PyProof.Rows L2
/-! piece Aux4 -/
section
open PySem PySem.Spec PyProof.Rows L2
theorem pe_lcN {X : Cx} {N : List Str} {sc : Scope} {elt tg iter : Expr} {ifs : List Expr} {scope : Scope} {pos : Pos} {wi : TI} {g : TG} {tt : TT} {te : TE} {vs : List Nat}
    (nd : N.Nodup) (hXN : X.N = N) (hXs : X.env.scope = sc)
    (hv : (ownOf N scope).map (·.2) = vs) (hb : blkC N sc scope (ownOf N scope) = true) (hc : X.calm = true) (hi : PI X tg iter wi)
    (hg : ∀ (s : Shared) (H : Hp) (C : Addr) (cl : List (Str × Addr)) (fp : List Addr), PG (X.blk s H scope (compEnvC scope cl C X.env) fp) tg g)
    (ht : ∀ (s : Shared) (H : Hp) (C : Addr) (cl : List (Str × Addr)) (fp : List Addr), PTs (X.blk s H scope (compEnvC scope cl C X.env) fp) ifs tt)
    (he : ∀ (s : Shared) (H : Hp) (C : Addr) (cl : List (Str × Addr)) (fp : List Addr), PE (X.blk s H scope (compEnvC scope cl C X.env) fp) elt te)
    (hs : ∀ x, foldedSetIterable iter X.env x = pure x := by intro _; rfl) :
    PE X (.ListComp elt [⟨tg, iter, ifs, 0⟩] scope pos) (tLc wi g tt te vs) := by
  subst hv
  refine pe_lc hc (by rw [hXN]; exact nd) hi ?_ hg ht he hs
  rw [hXN, hXs]
  exact blkOk_by hb
theorem call_minK {X : Cx} {K : PySem.W.Frag} (_ : KMark K) (h : X.K = K) (hc : X.calm = true) : CallR X (.builtin "min") (rMin K) := h ▸ cr_min hc

end
/-! piece EN -/
section
open PySem PySem.Spec PyProof.Rows L2
/-! ### enumerate(list, c), enumerate(list, start=c) -/
def ItE (K : PySem.W.Frag) (a : Addr) (c : Int) : It where
  go i H := ∃ (ys : List V) (y : V), SqL K H a ys ∧ ys[i]? = some y
  yld i H v G := ∃ T y, v = .ref T ∧ H T = none ∧ G = upd H T (.tup [.int (c + (i : Nat)), y]) ∧ ∀ ys, SqL K H a ys → ys[i]? = some y
  stop i H := ∃ ys : List V, SqL K H a ys ∧ ys.length = i
theorem turn_enumC {P : Program} {w : World} {K : PySem.W.Frag} {es : List Expr} {kk : Nat} {tp : Pos} (c : Int) (a e it : Addr) :
    Turn P w K (.Tuple es kk tp) (ItE K a c) [e, it] e (fun i h => (∃ old, IsEnum h e it (c + (i : Nat)) old) ∧ h.IsListIter it a i ∧ e ≠ it) := by
  refine ⟨by simp, ?ob, ?ke, ?im, ?dn, ?sf⟩
  case ob =>
    rintro i h ⟨⟨old, he⟩, ⟨o, ho, hc, hd⟩, _⟩ b hb
    rcases (show b = e ∨ b = it by simpa using hb) with z | z
    · subst z; exact ⟨_, he, fun v q => nomatch q⟩
    · subst z; exact ⟨o, ho, fun v q => by rw [hd] at q; cases q⟩
  case ke =>
    rintro i h h' ⟨⟨old, he⟩, hi, hne⟩ k
    exact ⟨⟨old, k e (by simp) _ he⟩, hi.at fun o q => k it (by simp) o q, hne⟩
  case im =>
    intro X hP hw hK hc i pins s σ H E I hf st hg
    subst hP hw hK
    obtain ⟨⟨old, he⟩, hit, hne⟩ := st
    obtain ⟨xs, x, hq, hx⟩ := hg
    obtain ⟨its, rv, p, hz⟩ := I.list hq
    obtain ⟨u, hu, ru⟩ := rv.get hx
    have hel : e < s.heap.objs.size := Heap.lt_size he
    have hil : it < s.heap.objs.size := by obtain ⟨_, q, _⟩ := hit; exact Heap.lt_size q
    have hai : a ≠ it := fun z => by
      obtain ⟨o1, h1, c1, _⟩ := hit
      obtain ⟨o2, h2, c2, _⟩ := p.isList
      rw [z, h1] at h2
      cases h2
      rw [c1] at c2
      exact absurd c2 (by decide)
    have hea : e ≠ a := fun z => by
      obtain ⟨o2, h2, c2, _⟩ := p.isList
      rw [← z, show s.heap.get? e = _ from he] at h2
      cases h2
      exact absurd (show Value.type "enumerate" = Value.type "list" from c2) (by decide)
    have D := Draws.list (prog := X.prog) (w := X.w) (A := X.A.in1) (I.ok.hd hc) it a hai its.toArray
    have hlt : i < its.toArray.size := by
      have := (List.getElem?_eq_some_iff.mp hu).1
      simpa using this
    refine wpAny_pyNext_enum_itemC D he ⟨hit, p.isList⟩ hlt hne (by simp [hne, hea]) fun x' h' tk hx' ho hst hT hsz hk => ?_
    obtain rfl : x' = u := by
      have h1 : its.toArray[i]? = some u := by simpa using hu
      rw [h1] at hx'
      exact (Option.some.inj hx').symm
    refine ⟨_, rfl, wpAny_letOwnedTupleGo_enum ho fun h2 he2 sb => ?_⟩
    have hT2 : h2.get? s.heap.objs.size = some { cls := .type "tuple", data := .seq #[.int (c + (i : Nat)) tk, x'] } := (sb.2 _ (Nat.ne_of_gt hel)).trans hT
    have fresh : ObjOk X.prog X.w (upd H s.heap.objs.size (.tup [.int (c + (i : Nat)), x])) h2 s.heap.objs.size (.tup [.int (c + (i : Nat)), x]) :=
      ⟨by show 2 ≤ sizeLine; decide, [.int (c + (i : Nat)) tk, x'], .cons ⟨_, rfl⟩ (.cons ru .nil), ⟨_, hT2, rfl, _, rfl⟩⟩
    have I2 : Inv X pins σ (upd H s.heap.objs.size (.tup [.int (c + (i : Nat)), x])) { s with heap := h2, toks := tk + 1 } :=
      I.turnedNew (ch := [e, it]) (fun b ob hb q => (sb.2 b (fun z => hb (by simp [z]))).trans (hk b ob (fun z => hb (by simp [z])) (fun z => hb (by simp [z])) q)) hf (Nat.le_refl _) fresh
    refine ⟨.ref s.heap.objs.size, _, I2, rfl, ⟨_, x, rfl, I.hok.fresh (Nat.le_refl _), rfl, fun ys hy => by rw [I.list_inj hy hq]; exact hx⟩, ⟨⟨x', ?_⟩, hst.1.at fun o q => (sb.2 it (Ne.symm hne)).trans q, hne⟩, fun b hb => ?_⟩
    · rw [show c + ((i + 1 : Nat) : Int) = c + (i : Nat) + 1 by omega]
      exact he2
    · have hlt2 : b < s.heap.objs.size := by
        rcases (show b = e ∨ b = it by simpa using hb) with z | z
        · subst z; exact hel
        · subst z; exact hil
      rw [upd_ne (Nat.ne_of_lt hlt2)]
      exact (hf b hb).1
  case dn =>
    intro X hP hw hK hc i pins s σ H E I hf st hg
    subst hP hw hK
    obtain ⟨⟨old, he⟩, hit, hne⟩ := st
    obtain ⟨xs, hq, hx⟩ := hg
    obtain ⟨its, rv, p, hz⟩ := I.list hq
    obtain ⟨f0, f1, f2, f3, f4, f5⟩ := hf it (by simp)
    have hl := rv.length
    have hai : a ≠ it := fun z => by
      obtain ⟨o1, h1, c1, _⟩ := hit
      obtain ⟨o2, h2, c2, _⟩ := p.isList
      rw [z, h1] at h2
      cases h2
      rw [c1] at c2
      exact absurd c2 (by decide)
    have D := Draws.list (prog := X.prog) (w := X.w) (A := X.A.in1) (I.ok.hd hc) it a hai its.toArray
    have hn : its.toArray.size = i := by simp; omega
    exact wpAny_pyNext_enum_endD D he ⟨by rw [hn]; exact hit, p.isList⟩ fun h' eb => ⟨rfl, I.turned (t' := s.toks) (fun b o hb q => eb b o hb q) f0 f1 f3 f4 f5⟩
  case sf =>
    rintro A i s Q E ⟨⟨_, he⟩, _⟩ h
    exact wpAny_pyIter_enum he h
/-- what the iterator of the list at a, told from c on, begins with -/
theorem enum_start {X : Cx} {pins : List (Addr × Obj)} {σ : L2.St} {H : Hp} {s1 : Shared} {es : List Expr} {kk : Nat} {tp : Pos} {a : Addr} {c : Int} {R : It → Hp → Prop} {h' : Heap}
    (I : Inv X pins σ H s1) (he : IsEnum h' (s1.heap.objs.size + 1) s1.heap.objs.size c .none) (hit : h'.get? s1.heap.objs.size = some { cls := .type "list_iterator", data := .fields #[.ref a, .int 0 0] })
    (hk : ∀ b o, s1.heap.get? b = some o → h'.get? b = some o) (q : R (ItE X.K a c) H) :
    wpAny (model X.prog X.w) X.A (pyIter (.ref (s1.heap.objs.size + 1))) (PIE X pins σ (.Tuple es kk tp) R) X.xe { s1 with heap := h' } := by
  refine wpAny_pyIter_enum he ?_
  have I2 : Inv X pins σ H { s1 with heap := h' } := I.kept (t' := s1.toks) hk
  refine ⟨s1.heap.objs.size + 1, [s1.heap.objs.size + 1, s1.heap.objs.size], _, _, H, rfl, I2, turn_enumC c a (s1.heap.objs.size + 1) s1.heap.objs.size, ⟨⟨.none, ?_⟩, ⟨_, hit, rfl, rfl⟩, Nat.succ_ne_self _⟩, fun b hb => ?_, q⟩
  · rw [show c + ((0 : Nat) : Int) = c by omega]
    exact he
  · have hle : s1.heap.objs.size ≤ b := by
      rcases (show b = s1.heap.objs.size + 1 ∨ b = s1.heap.objs.size by simpa using hb) with z | z
      · subst z; exact Nat.le_add_right _ _
      · subst z; exact Nat.le_refl _
    exact I.fpOk hle (I.hok.fresh hle)
def iEnumC (K : PySem.W.Frag) (ta : TA) : TI := fun σ H R => ta σ H fun vs H1 => ∃ a xs c, vs = [.ref a, .int c] ∧ SqL K H1 a xs ∧ (-(2 ^ 63) ≤ c ∧ c < 2 ^ 63) ∧ R (ItE K a c) H1
theorem pi_enumC {X : Cx} {K : PySem.W.Frag} {e k : Expr} {ta : TA} {p pos tp : Pos} {es : List Expr} {kk : Nat} (_ : KMark K) (hXK : X.K = K) (hg : Gl X "enumerate") (hm : X.mg "enumerate" = none) (ha : PA X [e, k] ta)
    (hs : starEach [e, k] X.env = [(false, eval e X.env), (false, eval k X.env)] := by rfl) (hs2 : starEach [k] X.env = [(false, eval k X.env)] := by rfl) :
    PI X (.Tuple es kk tp) (.Call (.Name "enumerate" p) [e, k] [] pos) (iEnumC K ta) := by
  subst hXK
  refine ⟨fun pins s σ H R I h => ?_⟩
  refine Call_ (ld_blt I hg hm boot_enumerate (PyProof.Rows.callWith_type1 (thn (ha.run pos pins s σ H _ I h) fun us s1 ⟨vs, H1, I1, r1, q1⟩ => ?_) (by rw [hs, hs2]) (by rw [hs2]; rfl)))
  obtain ⟨a, xs, c, rfl, hq, hc, q⟩ := q1
  cases r1 with
  | cons r rr =>
    cases rr with
    | cons r' rr =>
      cases rr
      cases r
      obtain ⟨t, rfl⟩ := r'
      obtain ⟨its, rv, p', hz⟩ := I1.list hq
      exact enum_begins (begins_list a its.toArray) p'.isList hc.1 hc.2 fun h' he hit hsz hk => enum_start I1 he hit hk q
def iEnumS (K : PySem.W.Frag) (ta tk : TA) : TI := fun σ H R => ta σ H fun vs H1 => tk σ H1 fun zs H2 => ∃ a xs c, vs = [.ref a] ∧ zs = [.int c] ∧ SqL K H2 a xs ∧ (-(2 ^ 63) ≤ c ∧ c < 2 ^ 63) ∧ R (ItE K a c) H2
theorem pi_enumS {X : Cx} {K : PySem.W.Frag} {e : Expr} {kws : List Keyword} {ta tk : TA} {p pos tp : Pos} {es : List Expr} {kk : Nat} (_ : KMark K) (hXK : X.K = K) (hg : Gl X "enumerate") (hm : X.mg "enumerate" = none) (ha : PA X [e] ta) (hkw : PK X kws tk)
    (hall : (backToKw pos (keywordEach kws X.env)).all (·.1.isSome) = true := by rfl) (hks : (backToKw pos (keywordEach kws X.env)).filterMap (·.1) = [Str.ofString "start"] := by rfl)
    (hpl : ((backTo pos (starEach [e] X.env)).any (·.1) || (backToKw pos (keywordEach kws X.env)).any (·.1.isNone)) = false := by rfl) (he : starEach [e] X.env = (false, eval e X.env) :: starEach [] X.env := by rfl) :
    PI X (.Tuple es kk tp) (.Call (.Name "enumerate" p) [e] kws pos) (iEnumS K ta tk) := by
  subst hXK
  refine ⟨fun pins s σ H R I h => ?_⟩
  refine wpAny_Call_Name_kw (ld_blt I hg hm boot_enumerate ?_)
  refine PySem.W.callWith_of (P := fun _ => True) hpl (fun h _ => ⟨.machine, .inr (.inl rfl), .of_pure rfl⟩) (evalArgs_kw2 hall (thn (ha.run pos pins s σ H _ I h) fun us s1 ⟨vs, H1, I1, r1, q1⟩ => thn (hkw.run pos pins s1 σ H1 _ I1 q1) fun ws s2 ⟨zs, H2, I2, r2, q2⟩ => ⟨trivial, ?_⟩) he)
  rw [hks]
  obtain ⟨a, xs, c, rfl, rfl, hq, hc, q⟩ := q2
  obtain ⟨u, rfl, ru⟩ := vals1 r1
  obtain ⟨v, rfl, rv⟩ := vals1 r2
  cases ru
  obtain ⟨t, rfl⟩ := rv
  obtain ⟨its, rv, p', hz⟩ := I2.list hq
  exact enum_begins_start (begins_list a its.toArray) p'.isList hc.1 hc.2 fun h' he hit hsz hk => enum_start I2 he hit hk q
/-- for over such an iterator -/
theorem for_enumC {K : PySem.W.Frag} {a : Addr} {c : Int} {xs : List V} {g : TG} {tb : TS} {D : Ends} {σ : Sl} {H : Hp} (Pv : Nat → Sl → Hp → Prop) (h0 : Pv 0 σ H) (hl : ∀ i σ H, i ≤ xs.length → Pv i σ H → SqL K H a xs)
    (hs : ∀ (i : Nat) x T σ H, xs[i]? = some x → Pv i σ H → H T = none → g (.ref T) σ (upd H T (.tup [.int (c + (i : Nat)), x])) fun σ2 H2 => tb { D with nx := Pv (i + 1), ct := Pv (i + 1), bk := D.nx } σ2 H2)
    (hd : ∀ σ H, Pv xs.length σ H → D.nx σ H) :
    ∃ W : Nat → Nat → Sl → Hp → Prop, (∃ m, W 0 m σ H) ∧ ∀ i m σ H, W i m σ H →
      ((ItE K a c).stop i H ∧ D.nx σ H) ∨ ((ItE K a c).go i H ∧ ∃ N : Sl → Hp → Prop, (∀ σ' H', N σ' H' → ∃ m', m' < m ∧ W (i + 1) m' σ' H') ∧
        ∀ x H', (ItE K a c).yld i H x H' → g x σ H' fun σ2 H2 => tb { D with nx := N, ct := N, bk := D.nx } σ2 H2) := by
  refine ⟨fun i m σ H => m = xs.length - i ∧ i ≤ xs.length ∧ Pv i σ H, ⟨xs.length, by simp, Nat.zero_le _, h0⟩, ?_⟩
  rintro i m σ H ⟨rfl, hi, p⟩
  have q := hl i σ H hi p
  by_cases hlt : i < xs.length
  · refine Or.inr ⟨⟨xs, xs[i], q, List.getElem?_eq_getElem hlt⟩, Pv (i + 1), fun σ' H' p' => ⟨xs.length - (i + 1), by omega, rfl, hlt, p'⟩, ?_⟩
    rintro x H' ⟨T, y, rfl, nT, rfl, hx⟩
    exact hs i y T σ H (hx xs q) p nT
  · obtain rfl : i = xs.length := by omega
    exact Or.inl ⟨⟨xs, q, rfl⟩, hd σ H p⟩

end
/-! piece AX -/
section
open PySem PySem.Spec PyProof.Rows L2
section
variable {X : Cx} {K : PySem.W.Frag}
theorem op_inDK {k : Nat} (_ : KMark K) (h : X.K = K) (hr : Room k X.A) : OpR X (compareOp .In) (rInD K) := h ▸ op_inD (by have := hr.un; omega)
theorem op_notInDK {k : Nat} (_ : KMark K) (h : X.K = K) (hr : Room k X.A) : OpR X (compareOp .NotIn) (rNotInD K) := h ▸ op_notInD (by have := hr.un; omega)
/-- x in y, flat things or data -/
def rInB2 (K : PySem.W.Frag) : R2 := fun x y H Q => rIn K false x y H Q ∨ rInD K x y H Q
def rNotInB2 (K : PySem.W.Frag) : R2 := fun x y H Q => rIn K true x y H Q ∨ rNotInD K x y H Q
theorem op_inB2 {k : Nat} (m : KMark K) (h : X.K = K) (hr : Room k X.A) : OpR X (compareOp .In) (rInB2 K) := (op_inK m h).or (op_inDK m h hr)
theorem op_notInB2 {k : Nat} (m : KMark K) (h : X.K = K) (hr : Room k X.A) : OpR X (compareOp .NotIn) (rNotInB2 K) := (op_notInK m h).or (op_notInDK m h hr)
/-- products of numbers, and lists repeated -/
def rMulB : R2 := fun x y H Q => rI CMul (fun i j => .int (i * j)) x y H Q ∨ rRep x y H Q
theorem opMulB : OpR X (binaryOp .Mult) rMulB := op_mul.or op_rep
end

end
/-! piece AX2 -/
section
open PySem PySem.Spec PyProof.Rows L2
section
variable {X : Cx} {K : PySem.W.Frag}
theorem pe_step2 {e st : Expr} {te tk : TE} {p3 pos : Pos} (he : PE X e te) (hst : PE X st tk)
    (hgo : ∀ v sl, subscripted (.Slice none none (some st) p3) false v sl = operate [v, sl] (getItem v sl) := by intro _ _; rfl) :
    PE X (.Subscript e (.Slice none none (some st) p3) pos) (tStep X.K te tk) := by
  constructor
  intro pins s σ H Q I h
  apply Subscript_
  refine thn (he.run pins s σ H _ I h) ?_
  rintro v s1 ⟨x, H1, I1, r1, q1⟩
  apply wpAny_Slice
  refine thn (po_none.run pins s1 σ H1 (fun o H2 => o = none ∧ H2 = H1) I1 ⟨rfl, rfl⟩) ?_
  rintro vl s2 ⟨l, H2, I2, pl, rfl, rfl⟩
  refine thn (po_none.run pins s2 σ H2 (fun o H3 => o = none ∧ H3 = H2) I2 ⟨rfl, rfl⟩) ?_
  rintro vu s3 ⟨u, H3, I3, pu, rfl, rfl⟩
  refine thn ((po_some hst).run pins s3 σ H3 _ I3 q1) ?_
  rintro vs s4 ⟨o, H4, I4, ps, a, xs, rfl, hk, hx, q⟩
  cases r1
  have I5 : Inv X pins σ H4 { s4 with heap := s4.heap.push { cls := .type "slice", data := .fields #[vl, vu, vs] } } :=
    I4.kept (t' := s4.toks) fun b ob z => Heap.get?_push_of_some _ z
  obtain ⟨its, r, ht, hz⟩ := I5.list hx
  have hlen := r.length
  have fin : ∀ (ys : List V) (its' : List Value), Vals ys its' → ys.length ≤ sizeLine → (∀ p, H4 p = none → Q (.ref p) (upd H4 p (.lst ys))) →
      EP X pins σ Q (.ref (s4.heap.push { cls := .type "slice", data := .fields #[vl, vu, vs] }).objs.size)
        { s4 with heap := (s4.heap.push { cls := .type "slice", data := .fields #[vl, vu, vs] }).push { cls := .type "list", data := .seq its'.toArray } } := by
    intro ys its' rv hz' hq
    refine ⟨.ref _, _, I5.laid (t' := s4.toks) (o := .lst ys) (fun b ob z => Heap.get?_push_of_some _ z) (Nat.le_refl _) ?_, rfl, hq _ (I5.hok.fresh (Nat.le_refl _))⟩
    exact ⟨hz', its', 0, rv, Heap.get?_push_size _ rfl⟩
  have hgo' := hgo (.ref a) (.ref s4.heap.objs.size)
  refine tail_any (ops := [.ref a, .ref s4.heap.objs.size]) ht.isList.typeIs (PySem.slot_list_getitem.lookup) ?_ hgo'
  refine wpAny_getItem_list_slice ht.isList (Heap.IsSliceOf.new _ vl vu vs) pl pu ps (by rcases hk with rfl | rfl <;> decide) ?_ (by rw [List.size_toArray]; omega)
  rcases hk with rfl | rfl
  · rw [slicePick_one]
    have e : stepV (some 1) xs = xs := by simp [stepV]
    rw [e] at q
    exact fin xs its r hz q
  · rw [PySem.W.krv_pick]
    have e : stepV (some (-1)) xs = xs.reverse := by simp [stepV]
    rw [e] at q
    exact fin xs.reverse its.reverse (Vals.reverse r) (by rw [List.length_reverse]; exact hz) q

theorem pe_stepK2 {e st : Expr} {te tk : TE} {p3 pos : Pos} (_ : KMark K) (h : X.K = K) (he : PE X e te) (hst : PE X st tk)
    (hgo : ∀ v sl, subscripted (.Slice none none (some st) p3) false v sl = operate [v, sl] (getItem v sl) := by intro _ _; rfl) : PE X (.Subscript e (.Slice none none (some st) p3) pos) (tStep K te tk) := h ▸ pe_step2 he hst hgo
end

end
/-! tactics TAC -/
local macro_rules | `(tactic| wtm_at "fo a") => `(tactic| first
  | exact pa_nil
  | (refine' pa_cons ?k1 ?k2; (case k1 => wtm_at "fo e"); (case k2 => wtm_at "fo a"))
  | fail "no")
local macro_rules | `(tactic| wtm_at "fo v") => `(tactic| first
  | exact pv 0
  | exact pv 1
  | exact pv 2
  | exact pv 3
  | exact pv 4
  | exact pv 5
  | exact pv 6
  | exact pv 7
  | exact pv 8
  | exact pv 9
  | exact pv 10
  | exact pv 11
  | exact pv 12
  | exact pv 13
  | exact pv 14
  | exact pv 15
  | fail "no")
local macro_rules | `(tactic| wtm_at "fo e") => `(tactic| first
  | with_reducible exact pe_int
  | with_reducible exact pe_bl
  | with_reducible exact pe_non
  | with_reducible exact pe_str
  | ((with_reducible show PE _ (.Name _ _) _); wtm_at "fo v")
  | ((with_reducible show PE _ (.BinOp _ .Add _ _) _); apply pe_op opAddB <;> wtm_at "fo e")
  | ((with_reducible show PE _ (.BinOp _ .Sub _ _) _); apply pe_op op_sub <;> wtm_at "fo e")
  | ((with_reducible show PE _ (.BinOp _ .Mult _ _) _); apply pe_op op_mul <;> wtm_at "fo e")
  | ((with_reducible show PE _ (.BinOp _ .Mod _ _) _); apply pe_op op_mod <;> wtm_at "fo e")
  | ((with_reducible show PE _ (.BinOp _ .FloorDiv _ _) _); apply pe_op op_fdiv <;> wtm_at "fo e")
  | ((with_reducible show PE _ (.BinOp _ .Pow _ _) _); apply pe_op op_powW <;> wtm_at "fo e")
  | ((with_reducible show PE _ (.BinOp _ .LShift _ _) _); apply pe_op op_shl <;> wtm_at "fo e")
  | ((with_reducible show PE _ (.BinOp _ .RShift _ _) _); apply pe_op op_shr <;> wtm_at "fo e")
  | ((with_reducible show PE _ (.BinOp _ .BitAnd _ _) _); apply pe_op op_and <;> wtm_at "fo e")
  | ((with_reducible show PE _ (.List _ _) _); apply pe_lst; wtm_at "fo a")
  | ((with_reducible show PE _ (.Tuple _ _ _) _); apply pe_tup; wtm_at "fo a")
  | ((with_reducible show PE _ (.ListComp _ [_] _ _) _); wtm_at "fo lc")
  | ((with_reducible show PE _ (.IfExp _ _ _ _) _); apply pe_ifExp; (· wtm_at "fo t"); (· wtm_at "fo e"); (· wtm_at "fo e"))
  | ((with_reducible show PE _ (.UnaryOp .USub _ _) _); apply pe_un un_neg; wtm_at "fo e")
  | ((with_reducible show PE _ (.Call (.Name _ _) [] (_ :: _) _) _); wtm_at "fo kcall")
  | ((with_reducible show PE _ (.Call (.Name _ _) _ _ _) _); wtm_at "fo call")
  | ((with_reducible show PE _ (.Call (.Attribute _ _ _) _ _ _) _); wtm_at "fo meth")
  | ((with_reducible show PE _ (.Compare _ _ _ _) _); wtm_at "fo cmp")
  | ((with_reducible show PE _ (.Subscript _ (.Slice _ _ _ _) _) _); wtm_at "fo slice")
  | ((with_reducible show PE _ (.Subscript _ _ _) _); refine' pe_ix (ix_seqK (by assumption) (by exact rfl)) ?ka ?kb (fun _ _ => rfl); (case ka => wtm_at "fo e"); (case kb => wtm_at "fo e"))
  | fail "no")
local macro_rules | `(tactic| wtm_at "fo own") => `(tactic| first
  | ((show _ = [0]); kernel_rfl!)
  | ((show _ = [1]); kernel_rfl!)
  | ((show _ = [2]); kernel_rfl!)
  | ((show _ = [3]); kernel_rfl!)
  | ((show _ = [4]); kernel_rfl!)
  | ((show _ = [5]); kernel_rfl!)
  | ((show _ = [6]); kernel_rfl!)
  | ((show _ = [7]); kernel_rfl!)
  | ((show _ = [8]); kernel_rfl!)
  | ((show _ = [9]); kernel_rfl!)
  | ((show _ = [10]); kernel_rfl!)
  | ((show _ = [11]); kernel_rfl!)
  | ((show _ = [12]); kernel_rfl!)
  | ((show _ = [13]); kernel_rfl!)
  | ((show _ = [14]); kernel_rfl!)
  | ((show _ = [15]); kernel_rfl!)
  | ((show _ = [0, 1]); kernel_rfl!)
  | ((show _ = [1, 2]); kernel_rfl!)
  | ((show _ = [2, 3]); kernel_rfl!)
  | ((show _ = [3, 4]); kernel_rfl!)
  | ((show _ = [4, 5]); kernel_rfl!)
  | ((show _ = [5, 6]); kernel_rfl!)
  | ((show _ = [6, 7]); kernel_rfl!)
  | ((show _ = [7, 8]); kernel_rfl!)
  | ((show _ = [8, 9]); kernel_rfl!)
  | ((show _ = [9, 10]); kernel_rfl!)
  | ((show _ = [10, 11]); kernel_rfl!)
  | ((show _ = [11, 12]); kernel_rfl!)
  | ((show _ = [12, 13]); kernel_rfl!)
  | ((show _ = [13, 14]); kernel_rfl!)
  | ((show _ = [14, 15]); kernel_rfl!)
  | fail "no")
local macro_rules | `(tactic| wtm_at "fo ts") => `(tactic| first
  | exact pts_nil
  | (apply pts_one; wtm_at "fo t")
  | fail "no")
local macro_rules | `(tactic| wtm_at "fo lc") => `(tactic| first
  | (refine' pe_lcO (by assumption) (by exact rfl) (by exact rfl) (by wtm_at "fo own") (by decide +kernel) rfl ?ki ?kg ?kt ?ke; (case ki => wtm_at "fo i"); (case kg => (intro _ _ _ _ _; wtm_at "fo g")); (case kt => (intro _ _ _ _ _; wtm_at "fo ts")); (case ke => (intro _ _ _ _ _; wtm_at "fo e")))
  | fail "no")
local macro_rules | `(tactic| wtm_at "fo part") => `(tactic| first
  | exact po_none
  | (apply po_some; wtm_at "fo e")
  | fail "no")
local macro_rules | `(tactic| wtm_at "fo slice") => `(tactic| first
  | ((with_reducible show PE _ (.Subscript _ (.Slice _ _ none _) _) _); refine' pe_slice (sl_listK (by assumption) (by exact rfl)) ?ka ?kb ?kc; (case ka => wtm_at "fo e"); (case kb => wtm_at "fo part"); (case kc => wtm_at "fo part"))
  | ((with_reducible show PE _ (.Subscript _ (.Slice none none (some _) _) _) _); refine' pe_stepK (by assumption) (by exact rfl) ?ka ?kb; (case ka => wtm_at "fo e"); (case kb => wtm_at "fo e"))
  | fail "no")
local macro_rules | `(tactic| wtm_at "fo cmp") => `(tactic| first
  | ((with_reducible show PE _ (.Compare _ [.Lt] _ _) _); refine' pe_cmpR op_lt ?ka ?kb (nomark _); (case ka => wtm_at "fo e"); (case kb => wtm_at "fo e"))
  | ((with_reducible show PE _ (.Compare _ [.LtE] _ _) _); refine' pe_cmpR op_le ?ka ?kb (nomark _); (case ka => wtm_at "fo e"); (case kb => wtm_at "fo e"))
  | ((with_reducible show PE _ (.Compare _ [.Gt] _ _) _); refine' pe_cmpR op_gt ?ka ?kb (nomark _); (case ka => wtm_at "fo e"); (case kb => wtm_at "fo e"))
  | ((with_reducible show PE _ (.Compare _ [.GtE] _ _) _); refine' pe_cmpR op_ge ?ka ?kb (nomark _); (case ka => wtm_at "fo e"); (case kb => wtm_at "fo e"))
  | ((with_reducible show PE _ (.Compare _ [.Eq] _ _) _); refine' pe_cmpR (op_eqK (by assumption) (by exact rfl) (Room.units (by assumption))) ?ka ?kb (nomark _); (case ka => wtm_at "fo e"); (case kb => wtm_at "fo e"))
  | ((with_reducible show PE _ (.Compare _ [.NotEq] _ _) _); refine' pe_cmpR (op_neK (by assumption) (by exact rfl) (Room.units (by assumption))) ?ka ?kb (nomark _); (case ka => wtm_at "fo e"); (case kb => wtm_at "fo e"))
  | fail "no")
local macro_rules | `(tactic| wtm_at "fo tcmp") => `(tactic| first
  | ((with_reducible show PT _ (.Compare _ [.Lt] _ _) _); refine' pt_cmpR op_lt ?ka ?kb (nomark _); (case ka => wtm_at "fo e"); (case kb => wtm_at "fo e"))
  | ((with_reducible show PT _ (.Compare _ [.LtE] _ _) _); refine' pt_cmpR op_le ?ka ?kb (nomark _); (case ka => wtm_at "fo e"); (case kb => wtm_at "fo e"))
  | ((with_reducible show PT _ (.Compare _ [.Gt] _ _) _); refine' pt_cmpR op_gt ?ka ?kb (nomark _); (case ka => wtm_at "fo e"); (case kb => wtm_at "fo e"))
  | ((with_reducible show PT _ (.Compare _ [.GtE] _ _) _); refine' pt_cmpR op_ge ?ka ?kb (nomark _); (case ka => wtm_at "fo e"); (case kb => wtm_at "fo e"))
  | ((with_reducible show PT _ (.Compare _ [.Eq] _ _) _); refine' pt_cmpR (op_eqK (by assumption) (by exact rfl) (Room.units (by assumption))) ?ka ?kb (nomark _); (case ka => wtm_at "fo e"); (case kb => wtm_at "fo e"))
  | ((with_reducible show PT _ (.Compare _ [.NotEq] _ _) _); refine' pt_cmpR (op_neK (by assumption) (by exact rfl) (Room.units (by assumption))) ?ka ?kb (nomark _); (case ka => wtm_at "fo e"); (case kb => wtm_at "fo e"))
  | ((with_reducible show PT _ (.Compare _ [.In] _ _) _); refine' pt_cmpR (op_inK (by assumption) (by exact rfl)) ?ka ?kb rfl; (case ka => wtm_at "fo e"); (case kb => wtm_at "fo e"))
  | ((with_reducible show PT _ (.Compare _ [.NotIn] _ _) _); refine' pt_cmpR (op_notInK (by assumption) (by exact rfl)) ?ka ?kb rfl; (case ka => wtm_at "fo e"); (case kb => wtm_at "fo e"))
  | fail "no")
local macro_rules | `(tactic| wtm_at "fo w") => `(tactic| first
  | ((with_reducible show PW _ (.BoolOp .And [_] _) _); apply pw_and1; wtm_at "fo t")
  | ((with_reducible show PW _ (.BoolOp .And _ _) _); apply pw_and; (· wtm_at "fo t"); (· wtm_at "fo w"))
  | ((with_reducible show PW _ (.BoolOp .Or [_] _) _); apply pw_or1; wtm_at "fo t")
  | ((with_reducible show PW _ (.BoolOp .Or _ _) _); apply pw_or; (· wtm_at "fo t"); (· wtm_at "fo w"))
  | fail "no")
local macro_rules | `(tactic| wtm_at "fo meth") => `(tactic| first
  | ((with_reducible show PE _ (.Call (.Attribute _ (Str.ofString "append") _) _ _ _) _); refine' pe_bm PySem.F.plainAttrs_list PySem.F.slot_list_append PySem.F.type_list_append mt_append ?ka ?kb; (case ka => wtm_at "fo e"); (case kb => wtm_at "fo a"))
  | ((with_reducible show PE _ (.Call (.Attribute _ (Str.ofString "pop") _) [_] _ _) _); refine' pe_bm PySem.F.plainAttrs_list PySem.F.slot_list_pop PySem.F.type_list_pop mt_popAt ?ka ?kb; (case ka => wtm_at "fo e"); (case kb => wtm_at "fo a"))
  | ((with_reducible show PE _ (.Call (.Attribute _ (Str.ofString "pop") _) [] _ _) _); refine' pe_bm0 PySem.F.plainAttrs_list PySem.F.slot_list_pop PySem.F.type_list_pop mt_pop ?ka; (case ka => wtm_at "fo e"))
  | fail "no")
local macro_rules | `(tactic| wtm_at "fo k") => `(tactic| first
  | exact pk_nil
  | (refine' pk_cons ?k1 ?k2; (case k1 => wtm_at "fo e"); (case k2 => wtm_at "fo k"))
  | fail "no")
local macro_rules | `(tactic| wtm_at "fo kcall") => `(tactic| first
  | (refine' pe_kcal (by assumption) (by assumption) (by decide) (by rfl) ?ka; (case ka => wtm_at "fo k"))
  | fail "no")
local macro_rules | `(tactic| wtm_at "fo call") => `(tactic| first
  | ((with_reducible show PE _ (.Call (.Name (Str.ofString "int") _) _ _ _) _); refine' pe_callTy call_intB (by rfl) (by assumption) (by decide +kernel) ?ka; (case ka => wtm_at "fo a"))
  | ((with_reducible show PE _ (.Call (.Name (Str.ofString "len") _) _ _ _) _); refine' pe_callB (call_lenK (by assumption) (by exact rfl)) (by rfl) (by assumption) PySem.boot_len ?ka; (case ka => wtm_at "fo a"))
  | ((with_reducible show PE _ (.Call (.Name (Str.ofString "list") _) [.Call (.Name (Str.ofString "range") _) [_, _] _ _] _ _) _); refine' pe_listRg rfl (by rfl) (by assumption) (prg_2 (by rfl) (by assumption) ?ka ?kb); (case ka => wtm_at "fo e"); (case kb => wtm_at "fo e"))
  | ((with_reducible show PE _ (.Call (.Name (Str.ofString "list") _) _ _ _) _); refine' pe_callTy (call_listK (by assumption) (by exact rfl)) (by rfl) (by assumption) (by decide +kernel) ?ka; (case ka => wtm_at "fo a"))
  | ((with_reducible show PE _ (.Call (.Name (Str.ofString "min") _) [_, _] _ _) _); refine' pe_callB (call_min2 rfl) (by rfl) (by assumption) (by decide +kernel) ?ka; (case ka => wtm_at "fo a"))
  | ((with_reducible show PE _ (.Call (.Name (Str.ofString "sorted") _) [_] _ _) _); refine' pe_callB (cr_sortedK (by assumption) (by exact rfl)) (by rfl) (by assumption) (by decide +kernel) ?ka; (case ka => wtm_at "fo a"))
  | ((with_reducible show PE _ (.Call (.Name (Str.ofString "repr") _) [_] _ _) _); refine' pe_callB (call_reprK (by assumption) (by exact rfl) (by assumption) (Room.units (by assumption))) (by rfl) (by assumption) (by decide +kernel) ?ka; (case ka => wtm_at "fo a"))
  | (refine' pe_cal (by assumption) (by assumption) (by decide) (by rfl) ?ka; (case ka => wtm_at "fo a"))
  | fail "no")
local macro_rules | `(tactic| wtm_at "fo setlc") => `(tactic| first
  | (refine' ps_setLcO (i := 0) (by assumption) (by exact rfl) (by exact rfl) (by wtm_at "fo own") (by decide +kernel) rfl rfl rfl (sw_true rfl rfl rfl (by decide +kernel)) ?ki ?kg ?kt ?ke; (case ki => wtm_at "fo i"); (case kg => (intro _ _ _ _ _; wtm_at "fo g")); (case kt => (intro _ _ _ _ _; wtm_at "fo ts")); (case ke => (intro _ _ _ _ _; wtm_at "fo e")))
  | (refine' ps_setLcO (i := 1) (by assumption) (by exact rfl) (by exact rfl) (by wtm_at "fo own") (by decide +kernel) rfl rfl rfl (sw_true rfl rfl rfl (by decide +kernel)) ?ki ?kg ?kt ?ke; (case ki => wtm_at "fo i"); (case kg => (intro _ _ _ _ _; wtm_at "fo g")); (case kt => (intro _ _ _ _ _; wtm_at "fo ts")); (case ke => (intro _ _ _ _ _; wtm_at "fo e")))
  | (refine' ps_setLcO (i := 2) (by assumption) (by exact rfl) (by exact rfl) (by wtm_at "fo own") (by decide +kernel) rfl rfl rfl (sw_true rfl rfl rfl (by decide +kernel)) ?ki ?kg ?kt ?ke; (case ki => wtm_at "fo i"); (case kg => (intro _ _ _ _ _; wtm_at "fo g")); (case kt => (intro _ _ _ _ _; wtm_at "fo ts")); (case ke => (intro _ _ _ _ _; wtm_at "fo e")))
  | (refine' ps_setLcO (i := 3) (by assumption) (by exact rfl) (by exact rfl) (by wtm_at "fo own") (by decide +kernel) rfl rfl rfl (sw_true rfl rfl rfl (by decide +kernel)) ?ki ?kg ?kt ?ke; (case ki => wtm_at "fo i"); (case kg => (intro _ _ _ _ _; wtm_at "fo g")); (case kt => (intro _ _ _ _ _; wtm_at "fo ts")); (case ke => (intro _ _ _ _ _; wtm_at "fo e")))
  | (refine' ps_setLcO (i := 4) (by assumption) (by exact rfl) (by exact rfl) (by wtm_at "fo own") (by decide +kernel) rfl rfl rfl (sw_true rfl rfl rfl (by decide +kernel)) ?ki ?kg ?kt ?ke; (case ki => wtm_at "fo i"); (case kg => (intro _ _ _ _ _; wtm_at "fo g")); (case kt => (intro _ _ _ _ _; wtm_at "fo ts")); (case ke => (intro _ _ _ _ _; wtm_at "fo e")))
  | (refine' ps_setLcO (i := 5) (by assumption) (by exact rfl) (by exact rfl) (by wtm_at "fo own") (by decide +kernel) rfl rfl rfl (sw_true rfl rfl rfl (by decide +kernel)) ?ki ?kg ?kt ?ke; (case ki => wtm_at "fo i"); (case kg => (intro _ _ _ _ _; wtm_at "fo g")); (case kt => (intro _ _ _ _ _; wtm_at "fo ts")); (case ke => (intro _ _ _ _ _; wtm_at "fo e")))
  | (refine' ps_setLcO (i := 6) (by assumption) (by exact rfl) (by exact rfl) (by wtm_at "fo own") (by decide +kernel) rfl rfl rfl (sw_true rfl rfl rfl (by decide +kernel)) ?ki ?kg ?kt ?ke; (case ki => wtm_at "fo i"); (case kg => (intro _ _ _ _ _; wtm_at "fo g")); (case kt => (intro _ _ _ _ _; wtm_at "fo ts")); (case ke => (intro _ _ _ _ _; wtm_at "fo e")))
  | (refine' ps_setLcO (i := 7) (by assumption) (by exact rfl) (by exact rfl) (by wtm_at "fo own") (by decide +kernel) rfl rfl rfl (sw_true rfl rfl rfl (by decide +kernel)) ?ki ?kg ?kt ?ke; (case ki => wtm_at "fo i"); (case kg => (intro _ _ _ _ _; wtm_at "fo g")); (case kt => (intro _ _ _ _ _; wtm_at "fo ts")); (case ke => (intro _ _ _ _ _; wtm_at "fo e")))
  | (refine' ps_setLcO (i := 8) (by assumption) (by exact rfl) (by exact rfl) (by wtm_at "fo own") (by decide +kernel) rfl rfl rfl (sw_true rfl rfl rfl (by decide +kernel)) ?ki ?kg ?kt ?ke; (case ki => wtm_at "fo i"); (case kg => (intro _ _ _ _ _; wtm_at "fo g")); (case kt => (intro _ _ _ _ _; wtm_at "fo ts")); (case ke => (intro _ _ _ _ _; wtm_at "fo e")))
  | (refine' ps_setLcO (i := 9) (by assumption) (by exact rfl) (by exact rfl) (by wtm_at "fo own") (by decide +kernel) rfl rfl rfl (sw_true rfl rfl rfl (by decide +kernel)) ?ki ?kg ?kt ?ke; (case ki => wtm_at "fo i"); (case kg => (intro _ _ _ _ _; wtm_at "fo g")); (case kt => (intro _ _ _ _ _; wtm_at "fo ts")); (case ke => (intro _ _ _ _ _; wtm_at "fo e")))
  | (refine' ps_setLcO (i := 10) (by assumption) (by exact rfl) (by exact rfl) (by wtm_at "fo own") (by decide +kernel) rfl rfl rfl (sw_true rfl rfl rfl (by decide +kernel)) ?ki ?kg ?kt ?ke; (case ki => wtm_at "fo i"); (case kg => (intro _ _ _ _ _; wtm_at "fo g")); (case kt => (intro _ _ _ _ _; wtm_at "fo ts")); (case ke => (intro _ _ _ _ _; wtm_at "fo e")))
  | (refine' ps_setLcO (i := 11) (by assumption) (by exact rfl) (by exact rfl) (by wtm_at "fo own") (by decide +kernel) rfl rfl rfl (sw_true rfl rfl rfl (by decide +kernel)) ?ki ?kg ?kt ?ke; (case ki => wtm_at "fo i"); (case kg => (intro _ _ _ _ _; wtm_at "fo g")); (case kt => (intro _ _ _ _ _; wtm_at "fo ts")); (case ke => (intro _ _ _ _ _; wtm_at "fo e")))
  | (refine' ps_setLcO (i := 12) (by assumption) (by exact rfl) (by exact rfl) (by wtm_at "fo own") (by decide +kernel) rfl rfl rfl (sw_true rfl rfl rfl (by decide +kernel)) ?ki ?kg ?kt ?ke; (case ki => wtm_at "fo i"); (case kg => (intro _ _ _ _ _; wtm_at "fo g")); (case kt => (intro _ _ _ _ _; wtm_at "fo ts")); (case ke => (intro _ _ _ _ _; wtm_at "fo e")))
  | (refine' ps_setLcO (i := 13) (by assumption) (by exact rfl) (by exact rfl) (by wtm_at "fo own") (by decide +kernel) rfl rfl rfl (sw_true rfl rfl rfl (by decide +kernel)) ?ki ?kg ?kt ?ke; (case ki => wtm_at "fo i"); (case kg => (intro _ _ _ _ _; wtm_at "fo g")); (case kt => (intro _ _ _ _ _; wtm_at "fo ts")); (case ke => (intro _ _ _ _ _; wtm_at "fo e")))
  | (refine' ps_setLcO (i := 14) (by assumption) (by exact rfl) (by exact rfl) (by wtm_at "fo own") (by decide +kernel) rfl rfl rfl (sw_true rfl rfl rfl (by decide +kernel)) ?ki ?kg ?kt ?ke; (case ki => wtm_at "fo i"); (case kg => (intro _ _ _ _ _; wtm_at "fo g")); (case kt => (intro _ _ _ _ _; wtm_at "fo ts")); (case ke => (intro _ _ _ _ _; wtm_at "fo e")))
  | (refine' ps_setLcO (i := 15) (by assumption) (by exact rfl) (by exact rfl) (by wtm_at "fo own") (by decide +kernel) rfl rfl rfl (sw_true rfl rfl rfl (by decide +kernel)) ?ki ?kg ?kt ?ke; (case ki => wtm_at "fo i"); (case kg => (intro _ _ _ _ _; wtm_at "fo g")); (case kt => (intro _ _ _ _ _; wtm_at "fo ts")); (case ke => (intro _ _ _ _ _; wtm_at "fo e")))
  | fail "no")
local macro_rules | `(tactic| wtm_at "fo set") => `(tactic| first
  | (refine' ps_set (i := 0) (by assumption) rfl (by first | exact Or.inl rfl | exact Or.inr rfl) ?ka; (case ka => wtm_at "fo e"))
  | (refine' ps_set (i := 1) (by assumption) rfl (by first | exact Or.inl rfl | exact Or.inr rfl) ?ka; (case ka => wtm_at "fo e"))
  | (refine' ps_set (i := 2) (by assumption) rfl (by first | exact Or.inl rfl | exact Or.inr rfl) ?ka; (case ka => wtm_at "fo e"))
  | (refine' ps_set (i := 3) (by assumption) rfl (by first | exact Or.inl rfl | exact Or.inr rfl) ?ka; (case ka => wtm_at "fo e"))
  | (refine' ps_set (i := 4) (by assumption) rfl (by first | exact Or.inl rfl | exact Or.inr rfl) ?ka; (case ka => wtm_at "fo e"))
  | (refine' ps_set (i := 5) (by assumption) rfl (by first | exact Or.inl rfl | exact Or.inr rfl) ?ka; (case ka => wtm_at "fo e"))
  | (refine' ps_set (i := 6) (by assumption) rfl (by first | exact Or.inl rfl | exact Or.inr rfl) ?ka; (case ka => wtm_at "fo e"))
  | (refine' ps_set (i := 7) (by assumption) rfl (by first | exact Or.inl rfl | exact Or.inr rfl) ?ka; (case ka => wtm_at "fo e"))
  | (refine' ps_set (i := 8) (by assumption) rfl (by first | exact Or.inl rfl | exact Or.inr rfl) ?ka; (case ka => wtm_at "fo e"))
  | (refine' ps_set (i := 9) (by assumption) rfl (by first | exact Or.inl rfl | exact Or.inr rfl) ?ka; (case ka => wtm_at "fo e"))
  | (refine' ps_set (i := 10) (by assumption) rfl (by first | exact Or.inl rfl | exact Or.inr rfl) ?ka; (case ka => wtm_at "fo e"))
  | (refine' ps_set (i := 11) (by assumption) rfl (by first | exact Or.inl rfl | exact Or.inr rfl) ?ka; (case ka => wtm_at "fo e"))
  | (refine' ps_set (i := 12) (by assumption) rfl (by first | exact Or.inl rfl | exact Or.inr rfl) ?ka; (case ka => wtm_at "fo e"))
  | (refine' ps_set (i := 13) (by assumption) rfl (by first | exact Or.inl rfl | exact Or.inr rfl) ?ka; (case ka => wtm_at "fo e"))
  | fail "no")
local macro_rules | `(tactic| wtm_at "fo t") => `(tactic| first
  | ((with_reducible show PT _ (.BoolOp _ _ _) _); apply PW.pt; wtm_at "fo w")
  | ((with_reducible show PT _ (.UnaryOp .Not _ _) _); apply pt_not; wtm_at "fo t")
  | ((with_reducible show PT _ (.Compare _ _ _ _) _); wtm_at "fo tcmp")
  | (refine' pt_truthK (by assumption) (by exact rfl) ?ka (by intro _; rfl); (case ka => wtm_at "fo e"))
  | fail "no")
local macro_rules | `(tactic| wtm_at "fo gn") => `(tactic| first
  | exact pg_name (i := 0) (by assumption) rfl (by first | exact Or.inl rfl | exact Or.inr rfl)
  | exact pg_name (i := 1) (by assumption) rfl (by first | exact Or.inl rfl | exact Or.inr rfl)
  | exact pg_name (i := 2) (by assumption) rfl (by first | exact Or.inl rfl | exact Or.inr rfl)
  | exact pg_name (i := 3) (by assumption) rfl (by first | exact Or.inl rfl | exact Or.inr rfl)
  | exact pg_name (i := 4) (by assumption) rfl (by first | exact Or.inl rfl | exact Or.inr rfl)
  | exact pg_name (i := 5) (by assumption) rfl (by first | exact Or.inl rfl | exact Or.inr rfl)
  | exact pg_name (i := 6) (by assumption) rfl (by first | exact Or.inl rfl | exact Or.inr rfl)
  | exact pg_name (i := 7) (by assumption) rfl (by first | exact Or.inl rfl | exact Or.inr rfl)
  | exact pg_name (i := 8) (by assumption) rfl (by first | exact Or.inl rfl | exact Or.inr rfl)
  | exact pg_name (i := 9) (by assumption) rfl (by first | exact Or.inl rfl | exact Or.inr rfl)
  | exact pg_name (i := 10) (by assumption) rfl (by first | exact Or.inl rfl | exact Or.inr rfl)
  | exact pg_name (i := 11) (by assumption) rfl (by first | exact Or.inl rfl | exact Or.inr rfl)
  | exact pg_name (i := 12) (by assumption) rfl (by first | exact Or.inl rfl | exact Or.inr rfl)
  | exact pg_name (i := 13) (by assumption) rfl (by first | exact Or.inl rfl | exact Or.inr rfl)
  | exact pg_name (i := 14) (by assumption) rfl (by first | exact Or.inl rfl | exact Or.inr rfl)
  | exact pg_name (i := 15) (by assumption) rfl (by first | exact Or.inl rfl | exact Or.inr rfl)
  | fail "no")
local macro_rules | `(tactic| wtm_at "fo par") => `(tactic| first
  | (refine' ps_par (i := 0) (j := 1) rfl (by assumption) rfl rfl (by decide) rfl rfl ?ka (by rfl); (case ka => wtm_at "fo a"))
  | (refine' ps_par (i := 1) (j := 2) rfl (by assumption) rfl rfl (by decide) rfl rfl ?ka (by rfl); (case ka => wtm_at "fo a"))
  | (refine' ps_par (i := 2) (j := 3) rfl (by assumption) rfl rfl (by decide) rfl rfl ?ka (by rfl); (case ka => wtm_at "fo a"))
  | (refine' ps_par (i := 3) (j := 4) rfl (by assumption) rfl rfl (by decide) rfl rfl ?ka (by rfl); (case ka => wtm_at "fo a"))
  | (refine' ps_par (i := 4) (j := 5) rfl (by assumption) rfl rfl (by decide) rfl rfl ?ka (by rfl); (case ka => wtm_at "fo a"))
  | (refine' ps_par (i := 5) (j := 6) rfl (by assumption) rfl rfl (by decide) rfl rfl ?ka (by rfl); (case ka => wtm_at "fo a"))
  | (refine' ps_par (i := 6) (j := 7) rfl (by assumption) rfl rfl (by decide) rfl rfl ?ka (by rfl); (case ka => wtm_at "fo a"))
  | (refine' ps_par (i := 7) (j := 8) rfl (by assumption) rfl rfl (by decide) rfl rfl ?ka (by rfl); (case ka => wtm_at "fo a"))
  | (refine' ps_par (i := 8) (j := 9) rfl (by assumption) rfl rfl (by decide) rfl rfl ?ka (by rfl); (case ka => wtm_at "fo a"))
  | (refine' ps_par (i := 9) (j := 10) rfl (by assumption) rfl rfl (by decide) rfl rfl ?ka (by rfl); (case ka => wtm_at "fo a"))
  | (refine' ps_par (i := 10) (j := 11) rfl (by assumption) rfl rfl (by decide) rfl rfl ?ka (by rfl); (case ka => wtm_at "fo a"))
  | (refine' ps_par (i := 11) (j := 12) rfl (by assumption) rfl rfl (by decide) rfl rfl ?ka (by rfl); (case ka => wtm_at "fo a"))
  | (refine' ps_par (i := 12) (j := 13) rfl (by assumption) rfl rfl (by decide) rfl rfl ?ka (by rfl); (case ka => wtm_at "fo a"))
  | (refine' ps_par (i := 13) (j := 14) rfl (by assumption) rfl rfl (by decide) rfl rfl ?ka (by rfl); (case ka => wtm_at "fo a"))
  | (refine' ps_par (i := 14) (j := 15) rfl (by assumption) rfl rfl (by decide) rfl rfl ?ka (by rfl); (case ka => wtm_at "fo a"))
  | fail "no")
local macro_rules | `(tactic| wtm_at "fo g") => `(tactic| first
  | ((with_reducible show PG _ (.Name _ _) _); wtm_at "fo gn")
  | ((with_reducible show PG _ (.Tuple _ _ _) _); apply PG_or; (· refine' pg_tup2 (by assumption) (by exact rfl) rfl ?kg; (case kg => wtm_at "fo gs")); (· refine' pg_unl2 (by assumption) (by exact rfl) rfl ?kg; (case kg => wtm_at "fo gs")))
  | fail "no")
local macro_rules | `(tactic| wtm_at "fo gs") => `(tactic| first
  | exact pgs_nil
  | (refine' pgs_cons ?k1 ?k2; (case k1 => wtm_at "fo g"); (case k2 => wtm_at "fo gs"))
  | fail "no")
local macro_rules | `(tactic| wtm_at "fo i") => `(tactic| first
  | ((with_reducible show PI _ _ (.Call (.Name (Str.ofString "range") _) [_] _ _) _); refine' pi_range1 (by rfl) (by assumption) ?ka; (case ka => wtm_at "fo a"))
  | ((with_reducible show PI _ _ (.Call (.Name (Str.ofString "range") _) [_, _] _ _) _); refine' pi_range2 (by rfl) (by assumption) ?ka; (case ka => wtm_at "fo a"))
  | ((with_reducible show PI _ _ (.Call (.Name (Str.ofString "enumerate") _) [_] _ _) _); refine' pi_enum (by rfl) (by assumption) ?ka; (case ka => wtm_at "fo a"))
  | (refine' pi_listK (by assumption) (by exact rfl) ?ka; (case ka => wtm_at "fo e"))
  | fail "no")
local macro_rules | `(tactic| wtm_at "fo s") => `(tactic| first
  | ((with_reducible show PS _ (.While _ _ _ _) _); refine' ps_while PassesOwn.never ?kt ?kb; (case kt => wtm_at "fo t"); (case kb => wtm_at "fo ss"))
  | ((with_reducible show PS _ (.For _ _ _ _ _) _); refine' ps_for PassesOwn.never rfl ?ki ?kg ?kb; (case ki => wtm_at "fo i"); (case kg => wtm_at "fo g"); (case kb => wtm_at "fo ss"))
  | ((with_reducible show PS _ (.Assign [.Name _ _] (.ListComp _ [_] _ _) _) _); wtm_at "fo setlc")
  | ((with_reducible show PS _ (.Assign [.Name _ _] _ _) _); wtm_at "fo set")
  | ((with_reducible show PS _ (.Assign [.Tuple [.Name _ _, .Name _ _] _ _] (.Tuple [_, _] _ _) _) _); wtm_at "fo par")
  | ((with_reducible show PS _ (.Assign [.Subscript _ _ _] _ _) _); refine' ps_asg ?ka (pg_sub ?kb ?kc set_list); (case ka => wtm_at "fo e"); (case kb => wtm_at "fo e"); (case kc => wtm_at "fo e"))
  | ((with_reducible show PS _ (.Return (some _) _) _); apply ps_ret; wtm_at "fo e")
  | ((with_reducible show PS _ (.Expr _ _) _); refine' ps_expr ?ka; (case ka => wtm_at "fo e"))
  | ((with_reducible show PS _ (.If _ _ _ _) _); apply ps_if; (· wtm_at "fo t"); (· wtm_at "fo ss"); (· wtm_at "fo ss"))
  | fail "no")
local macro_rules | `(tactic| wtm_at "fo ss") => `(tactic| first
  | with_reducible exact pss_nil
  | ((with_reducible show PSs _ [_] _); apply pss_one; wtm_at "fo s")
  | (apply pss_cons; (· wtm_at "fo s"); (· wtm_at "fo ss"))
  | fail "no")
local macro_rules | `(tactic| wtm_at "fo hp") => `(tactic| first
  | assumption
  | exact upd_same
  | (refine (upd_ne ?ne).trans ?hp; (case ne => wtm_at "fo ne"); (case hp => wtm_at "fo hp"))
  | fail "no")
local macro_rules | `(tactic| wtm_at "fo ne") => `(tactic| first
  | assumption
  | (apply Ne.symm; assumption)
  | exact ne_of_none (by assumption) (by assumption)
  | exact Ne.symm (ne_of_none (by assumption) (by assumption))
  | fail "no")
local macro_rules | `(tactic| wtm_at "fo sz") => `(tactic| first
  | exact (Nat.le_of_ble_eq_true rfl : _ ≤ sizeLine)
  | exact (Nat.le_of_ble_eq_true rfl : _ < sizeLine)
  | exact Nat.lt_of_le_of_lt (m := 100000) (by first | assumption | omega | (simp; omega)) (by decide)
  | exact Nat.le_trans (m := 100000) (by first | assumption | omega | (simp; omega)) (by decide)
  | fail "no")
local macro_rules | `(tactic| wtm_at "fo r1") => `(tactic| first
  | refine ⟨(Nat.le_of_ble_eq_true rfl : _ ≤ sizeLine), fun p np => ?_⟩
  | (refine' ⟨_, _, rfl, Or.inl (SqL.of ?h), ?_⟩; (case h => wtm_at "fo hp"))
  | refine ⟨_, rfl, ?_⟩
  | refine ⟨_, _, rfl, rfl, ?_⟩
  | refine ⟨_, _, rfl, ⟨by omega, by omega, by omega, by omega⟩, ?_⟩
  | refine ⟨_, rfl, by omega, by omega, ?_⟩
  | refine Or.inl ⟨_, rfl, ?_⟩
  | refine Or.inl ⟨rfl, ?_⟩
  | refine Or.inl ⟨_, _, rfl, rfl, ?_⟩
  | (refine' Or.inl ⟨_, _, _, _, rfl, rfl, SqL.of ?h, ?a, ?_⟩; (case h => wtm_at "fo hp"); (case a => rfl))
  | (refine' ⟨_, _, _, _, rfl, rfl, ?h, ?a, ?_⟩; (case h => wtm_at "fo hp"); (case a => rfl))
  | (refine' ⟨.inl ⟨rfl, _, SqL.of ?h⟩, ?_⟩; (case h => wtm_at "fo hp"))
  | (refine' ⟨_, _, _, rfl, rfl, ?h, ?z, ?_⟩; (case h => wtm_at "fo hp"); (case z => wtm_at "fo sz"))
  | (refine' ⟨_, rfl, ⟨_, SqL.of ?h⟩, ?_⟩; (case h => wtm_at "fo hp"))
  | fail "no")
local macro_rules | `(tactic| wtm_at "fo side") => `(tactic| ((try dsimp only [CMul, CDiv]); first
  | assumption
  | decide
  | omega
  | exact ⟨by decide, by decide⟩
  | exact ⟨by omega, by omega⟩
  | decide +kernel
  | fail "no"))
local macro_rules | `(tactic| wtm_at "fo r2") => `(tactic| first
  | wtm_at "fo r1"
  | refine And.intro (by wtm_at "fo side") ?_
  | fail "no")
local macro_rules | `(tactic| wtm_at "fo r") => `(tactic| repeat wtm_at "fo r2")
/-! piece D1 -/
section
def Dr (H : Hp) (d : Addr) (k : Int) : Prop := ∃ a b, H d = some (.lst [.int a, .int k, .bl b]) ∧ 0 ≤ k
def SameBut (d : Addr) (H H' : Hp) : Prop := ∀ b o, b ≠ d → H b = some o → H' b = some o
@[irreducible] def spNext : Sp := fun vs H Q _ => ∃ d k, vs = [.ref d] ∧ Dr H d k ∧ k < 2 ^ 40 ∧
  ∀ n H', 0 ≤ n → SameBut d H H' → Dr H' d (k + 1) → Q (.int n) H'
theorem call_next {d : Addr} {k : Int} {H : Hp} {Q : VK} {E : XK} (hd : Dr H d k) (hk : k < 2 ^ 40) (q : ∀ n H', 0 ≤ n → SameBut d H H' → Dr H' d (k + 1) → Q (.int n) H') : spNext [.ref d] H Q E := by
  unfold spNext
  exact ⟨d, k, rfl, hd, hk, q⟩
variable {P : Program} {w : World} {K : PySem.W.Frag} {mg : Str → Option Value} {base : Heap}
set_option maxHeartbeats 2000000 in
theorem ok_next {f : Addr} {fd : FuncData} (F : Fun K "_law_next" "_law_next" s_law_next f fd) (mi : mg "int" = none) :
    FnOk P w K mg base CX0 1 f fd ["_law_draws_here"] spNext := by
  refine F.ok sc_law_next (fun vs H Q E h => ?_) (fun cdv A outer s H vs Q E hr h => ?_)
  · unfold spNext at h
    obtain ⟨d, k, rfl, _⟩ := h
    rfl
  · have nd := sc_law_next.nd
    have hS := sc_law_next
    have hKM : KMark K := ⟨⟩
    have hmi : (cxOf CX0 P w K mg base ["_law_draws_here", "_law_k", "_law_drawn"] "_law_next" (defScope s_law_next) f cdv A outer s H E).nox.mg "int" = none := mi
    refine' mk_body ?body ?rd
    case body =>
      show PSs _ [_, _, _, _, _, _] _
      wtm_at "fo ss"
    case rd =>
     unfold spNext at h
     obtain ⟨d, k, rfl, ⟨a, b, hd, hk⟩, hk2, q⟩ := h
     wtm_at "fo r"
     refine ite2 (fun hb => ?_) (fun hb => ?_)
     · wtm_at "fo r"
       refine q _ _ (Int.emod_nonneg _ (by decide)) ?_ ⟨_, _, upd_same, by omega⟩
       intro c o hc e
       rw [upd_ne hc, upd_ne hc]
       exact e
     · wtm_at "fo r"
       refine q _ _ (by omega) ?_ ⟨_, _, upd_same, by omega⟩
       intro c o hc e
       rw [upd_ne hc]
       exact e
end
/-! piece D2 -/
section
@[irreducible] def spDraws : Sp := fun vs H Q _ => ∃ c : Int, vs = [.int c] ∧
  ∀ p a b, H p = none → Q (.ref p) (upd H p (.lst [.int a, .int 0, .bl b]))
theorem call_draws {c : Int} {H : Hp} {Q : VK} {E : XK} (q : ∀ p a b, H p = none → Q (.ref p) (upd H p (.lst [.int a, .int 0, .bl b]))) : spDraws [.int c] H Q E := by
  unfold spDraws
  exact ⟨c, rfl, q⟩
variable {P : Program} {w : World} {K : PySem.W.Frag} {mg : Str → Option Value} {base : Heap}
set_option maxHeartbeats 2000000 in
theorem ok_draws {f : Addr} {fd : FuncData} (F : Fun K "_law_draws" "_law_draws" s_law_draws f fd) (mi : mg "int" = none) :
    FnOk P w K mg base CX0 1 f fd ["_law_cell"] spDraws := by
  refine F.ok sc_law_draws (fun vs H Q E h => ?_) (fun cdv A outer s H vs Q E hr h => ?_)
  · unfold spDraws at h
    obtain ⟨c, rfl, _⟩ := h
    rfl
  · have nd := sc_law_draws.nd
    have hS := sc_law_draws
    have hKM : KMark K := ⟨⟩
    refine' mk_body ?body ?rd
    case body =>
      show PSs _ [_] _
      wtm_at "fo ss"
    case rd =>
     unfold spDraws at h
     obtain ⟨c, rfl, q⟩ := h
     wtm_at "fo r"
     exact q _ _ _ (by assumption)
end
/-! piece D3 -/
section
theorem SameBut.refl (d : Addr) (H : Hp) : SameBut d H H := fun _ _ _ h => h
theorem SameBut.trans {d : Addr} {H H1 H2 : Hp} (a : SameBut d H H1) (b : SameBut d H1 H2) : SameBut d H H2 := fun c o n e => b c o n (a c o n e)
theorem SameBut.new {d p : Addr} {H H1 : Hp} {o : HO} (a : SameBut d H H1) (np : H p = none) : SameBut d H (upd H1 p o) := fun c u n e => by
  rw [upd_ne (ne_of_none e np)]
  exact a c u n e
theorem SameBut.at {d p : Addr} {H H1 : Hp} {o u : HO} (a : SameBut d H H1) (hp : H p = some o) (hd : H d = some u) (ne : o ≠ u) : H1 p = some o :=
  a p o (ne_of hp hd ne) hp
/-- a thing that may be shuffled: a small number, or a pair of such -/
def Item (H : Hp) (x : V) : Prop := (∃ i : Int, x = .int i ∧ i.natAbs < 1000) ∨ ∃ r i j, x = .ref r ∧ H r = some (.lst [.int i, .int j]) ∧ i.natAbs < 1000 ∧ j.natAbs < 1000
theorem Dr.ne_pair {H : Hp} {d r : Addr} {k i j : Int} (h : Dr H d k) (hr : H r = some (.lst [.int i, .int j])) : r ≠ d := by
  obtain ⟨a, b, hd, _⟩ := h
  exact ne_of hr hd (by intro e; injection e with e; simp at e)
theorem Item.but {d : Addr} {H H' : Hp} {x : V} {k : Int} (h : Item H x) (s : SameBut d H H') (hd : Dr H d k) : Item H' x := by
  rcases h with h | ⟨r, i, j, rfl, hr, h1, h2⟩
  · exact .inl h
  · exact .inr ⟨r, i, j, rfl, s r _ (hd.ne_pair hr) hr, h1, h2⟩
theorem Item.dp {K : PySem.W.Frag} {H : Hp} {x : V} (h : Item H x) : ∃ e, Dp K H x e ∧ DOk 1 20 e := by
  rcases h with ⟨i, rfl, hi⟩ | ⟨r, i, j, rfl, hr, h1, h2⟩
  · exact ⟨_, .int i, (dok_int hi).mono (by decide) (by decide)⟩
  · refine ⟨.list [.int i, .int j], .lst (SqL.of hr) (.cons (.int i) (.cons (.int j) .nil)), (dok_list (n := 0) (b := 5) ?_).mono (by decide) (by simp)⟩
    intro x hx
    simp only [List.mem_cons, List.not_mem_nil, or_false] at hx
    rcases hx with rfl | rfl
    · exact dok_int h1
    · exact dok_int h2
theorem items_dp {K : PySem.W.Frag} {H : Hp} : ∀ {xs : List V}, (∀ x ∈ xs, Item H x) → ∃ ds, DpAll K H xs ds ∧ (∀ e ∈ ds, DOk 1 20 e) ∧ ds.length = xs.length
  | [], _ => ⟨[], .nil, (fun _ h => nomatch h), rfl⟩
  | x :: xs, h => by
    obtain ⟨ds, h1, h2, h3⟩ := items_dp (K := K) (xs := xs) fun y hy => h y (List.mem_cons_of_mem _ hy)
    obtain ⟨e, h4, h5⟩ := (h x (List.mem_cons_self ..)).dp (K := K)
    refine ⟨e :: ds, .cons h4 h1, ?_, by simp [h3]⟩
    intro u hu
    rcases List.mem_cons.mp hu with rfl | hu
    · exact h5
    · exact h2 u hu
@[irreducible] def spShuf : Sp := fun vs H Q _ => ∃ d q k xs, vs = [.ref d, .ref q] ∧ Dr H d k ∧ k ≤ 1000000 ∧ H q = some (.lst xs) ∧ xs.length ≤ 200 ∧ (∀ x ∈ xs, Item H x) ∧
  ∀ p ys H' k', ys.Perm xs → SameBut d H H' → H p = none → H' p = some (.lst ys) → Dr H' d k' → k' ≤ k + 200 → Q (.ref p) H'
theorem call_shuf {d q : Addr} {k : Int} {xs : List V} {H : Hp} {Q : VK} {E : XK} (hd : Dr H d k) (hk : k ≤ 1000000) (hq : H q = some (.lst xs)) (hl : xs.length ≤ 200) (hi : ∀ x ∈ xs, Item H x)
    (fin : ∀ p ys H' k', ys.Perm xs → SameBut d H H' → H p = none → H' p = some (.lst ys) → Dr H' d k' → k' ≤ k + 200 → Q (.ref p) H') : spShuf [.ref d, .ref q] H Q E := by
  unfold spShuf
  exact ⟨d, q, k, xs, rfl, hd, hk, hq, hl, hi, fin⟩
variable {P : Program} {w : World} {K : PySem.W.Frag} {mg : Str → Option Value} {base : Heap}
set_option maxHeartbeats 4000000 in
theorem ok_shuf {f : Addr} {fd : FuncData} (F : Fun K "_law_mixed" "_law_mixed" s_law_mixed f fd) (mi : mg "int" = none) (ml : mg "list" = none) (mn : mg "len" = none)
    (C : Cal P w K mg base "_law_next" 1 ["_law_draws_here"] spNext) :
    FnOk P w K mg base CX0 2 f fd ["_law_draws_here", "_law_things"] spShuf := by
  refine F.ok sc_law_mixed (fun vs H Q E h => ?_) (fun cdv A outer s H vs Q E hr h => ?_)
  · unfold spShuf at h
    obtain ⟨d, q, k, xs, rfl, _⟩ := h
    rfl
  · have nd := sc_law_mixed.nd
    have hS := sc_law_mixed
    have hKM : KMark K := ⟨⟩
    refine' mk_body ?body ?rd
    case body =>
      show PSs _ [_, _, _, _] _
      wtm_at "fo ss"
    case rd =>
     unfold spShuf at h
     obtain ⟨d, q, k, xs, rfl, hd, hk, hq, hlen, hit, fin⟩ := h
     wtm_at "fo r"
     intro l nl
     wtm_at "fo r"
     rename_i t nt
     have nl' : l ≠ d := by
       obtain ⟨a, b, e, _⟩ := hd
       exact (ne_of_none e nl).symm
     have tl : t ≠ l := (ne_of_none (upd_same (H := H) (a := l) (o := HO.lst xs)) nt).symm
     have nt0 : H t = none := by rw [upd_ne tl] at nt; exact nt
     have nt' : t ≠ d := by
       obtain ⟨a, b, e, _⟩ := hd
       exact (ne_of_none e nt0).symm
     let W : Nat → Sl → Hp → Prop := fun m σ H1 => ∃ ls ts k1, σ = [some (.ref d), some (.ref q), some (.ref l), some (.ref t)] ∧ m = ls.length ∧ H1 l = some (.lst ls) ∧ H1 t = some (.lst ts) ∧
       (ts ++ ls).Perm xs ∧ Dr H1 d k1 ∧ k1 + ls.length = k + xs.length ∧ SameBut d H H1
     refine ⟨W, ⟨xs.length, xs, [], k, rfl, rfl, ?_, upd_same, .refl _, ?_, rfl, ?_⟩, fun m σ H1 hW => ?_⟩
     · rw [upd_ne tl.symm]
       exact upd_same
     · obtain ⟨a, b, e, h0⟩ := hd
       exact ⟨a, b, by rw [upd_ne nt'.symm, upd_ne nl'.symm]; exact e, h0⟩
     · exact ((SameBut.refl d H).new nl).new nt0
     obtain ⟨ls, ts, k1, rfl, rfl, hl, ht, hp, hd1, hk1, sb⟩ := hW
     have hlen2 : ts.length + ls.length = xs.length := by rw [← List.length_append]; exact hp.length_eq
     have hit1 : ∀ x ∈ ls, Item H1 x := fun x hx => (hit x (hp.mem_iff.mp (List.mem_append_right _ hx))).but sb hd
     wtm_at "fo r"
     rename_i e ne
     have le : l ≠ e := ne_of_none hl ne
     have te : t ≠ e := ne_of_none ht ne
     have hd2 : Dr (upd H1 e (HO.lst [])) d k1 := by
       obtain ⟨a, b, h1, h2⟩ := hd1
       exact ⟨a, b, by rw [upd_ne (ne_of_none h1 ne)]; exact h1, h2⟩
     have hit2 : ∀ x ∈ ls, Item (upd H1 e (HO.lst [])) x := fun x hx => (hit1 x hx).but (SameBut.new (.refl d H1) ne) hd1
     obtain ⟨ds, h1, h2, h3⟩ := items_dp (K := K) hit2
     have hl2 : (upd H1 e (HO.lst [])) l = some (.lst ls) := by rw [upd_ne le]; exact hl
     have ht2 : (upd H1 e (HO.lst [])) t = some (.lst ts) := by rw [upd_ne te]; exact ht
     refine Or.inr ⟨.list ds, .list [], .lst (SqL.of hl2) h1, .lst (SqL.of upd_same) .nil, (dok_list h2).shaped (by decide), rfl, ?_⟩
     refine ⟨_, rfl, ?_⟩
     rcases ls with _ | ⟨y0, r0⟩
     · have : ds = [] := by cases ds with | nil => rfl | cons _ _ => simp at h3
       subst this
       refine ifF (by rw [eqv_list_nil]; rfl) ?_
       wtm_at "fo r"
       refine fin t ts _ k1 (by simpa using hp) ((sb.trans (SameBut.new (.refl d H1) ne))) nt0 ht2 hd2 ?_
       simp at hk1 hlen2
       omega
     · have : ds.isEmpty = false := by cases ds with | nil => simp at h3 | cons _ _ => rfl
       refine ifT (by rw [eqv_list_nil, this]; rfl) ?_
       generalize hls : y0 :: r0 = ls at *
       have hpos : 0 < ls.length := by rw [← hls]; simp
       refine ⟨fun σ' H' => ∃ m', m' < ls.length ∧ W m' σ' H', fun _ _ h => h, ?_⟩
       wtm_at "fo r"
       refine call_next hd2 (by omega) (fun n H3 hn sb3 hd3 => ?_)
       have hl3 : H3 l = some (.lst ls) := sb3 l _ nl' hl2
       have ht3 : H3 t = some (.lst ts) := sb3 t _ nt' ht2
       wtm_at "fo r"
       obtain ⟨j, hj, ej⟩ := mod_ix (n := n) hpos
       have hy : ls[j]? = some ls[j] := List.getElem?_eq_getElem hj
       refine ⟨l, ls, _, j, ls[j], rfl, rfl, hl3, ?_, ?_, ?_, hy, ?_⟩
       · show _
         rw [ej]
         omega
       · show _
         rw [ej]
         omega
       · show _
         rw [ej]
         exact seqIx hj
       have ht4 : (upd H3 l (.lst (ls.eraseIdx j))) t = some (.lst ts) := by rw [upd_ne tl]; exact ht3
       refine ⟨t, ts, _, rfl, rfl, ht4, Nat.lt_of_le_of_lt (m := 1000) (by omega) (by decide), ?_⟩
       have hlen3 : (ls.eraseIdx j).length + 1 = ls.length := by rw [List.length_eraseIdx, if_pos hj]; omega
       refine ⟨(ls.eraseIdx j).length, by omega, ls.eraseIdx j, ts ++ [ls[j]], k1 + 1, rfl, rfl, ?_, upd_same, perm_move hy hp, ?_, by omega, ?_⟩
       · rw [upd_ne tl.symm]
         exact upd_same
       · obtain ⟨a, b, e1, h0⟩ := hd3
         exact ⟨a, b, by rw [upd_ne nt'.symm, upd_ne nl'.symm]; exact e1, h0⟩
       · exact (((sb.trans (SameBut.new (.refl d H1) ne)).trans sb3).new nl).new nt0
end
/-! piece D4 -/
section
/-! ### what is beside, by the law -/
def near0 (n : Nat) : List (List Int) := (List.range (n + 1)).map fun (i : Nat) => [(i : Int)]
def addE (t : List (List Int)) (e : Int × Int) : List (List Int) := (t.modify e.1.toNat (· ++ [e.2])).modify e.2.toNat (· ++ [e.1])
def nearM (n : Nat) (es : List (Int × Int)) : List (List Int) := es.foldl addE (near0 n)
def Pairs (H : Hp) (p : Addr) (es : List (Int × Int)) : Prop := ∃ rs : List Addr, H p = some (.lst (rs.map V.ref)) ∧ rs.length = es.length ∧
  ∀ (i : Nat) (r : Addr) (e : Int × Int), rs[i]? = some r → es[i]? = some e → H r = some (.lst [.int e.1, .int e.2])
def Lists (H : Hp) (p : Addr) (ts : List (List Int)) : Prop := ∃ rs : List Addr, H p = some (.lst (rs.map V.ref)) ∧ rs.Nodup ∧ rs.length = ts.length ∧
  ∀ (i : Nat) (r : Addr) (t : List Int), rs[i]? = some r → ts[i]? = some t → H r = some (.lst (t.map V.int))
theorem addE_length (t : List (List Int)) (e : Int × Int) : (addE t e).length = t.length := by
  unfold addE
  rw [List.length_modify, List.length_modify]
theorem foldl_addE_length : ∀ (es : List (Int × Int)) (t : List (List Int)), (es.foldl addE t).length = t.length
  | [], _ => rfl
  | e :: es, t => by
    rw [List.foldl_cons, foldl_addE_length es, addE_length]
theorem mem_modify {α : Type} {f : α → α} {l : List α} {i : Nat} {x : α} (h : x ∈ l.modify i f) : x ∈ l ∨ ∃ y ∈ l, x = f y := by
  obtain ⟨j, hj⟩ := List.getElem?_of_mem h
  rw [List.getElem?_modify] at hj
  cases hl : l[j]? with
  | none => rw [hl] at hj; simp at hj
  | some y =>
    rw [hl] at hj
    have hm := List.mem_of_getElem? hl
    by_cases e : i = j
    · simp [e] at hj
      exact .inr ⟨y, hm, hj.symm⟩
    · simp [e] at hj
      exact .inl (hj ▸ hm)
theorem addE_bound {t : List (List Int)} {b : Nat} (h : ∀ u ∈ t, u.length ≤ b) (e : Int × Int) : ∀ u ∈ addE t e, u.length ≤ b + 2 := by
  intro u hu
  unfold addE at hu
  rcases mem_modify hu with hu | ⟨v, hv, rfl⟩
  · rcases mem_modify hu with hu | ⟨v, hv, rfl⟩
    · exact Nat.le_trans (h u hu) (by omega)
    · have := h v hv
      simp; omega
  · rcases mem_modify hv with hv | ⟨x, hx, rfl⟩
    · have := h v hv
      simp; omega
    · have := h x hx
      simp; omega
theorem foldl_addE_bound : ∀ (es : List (Int × Int)) (t : List (List Int)) (b : Nat), (∀ u ∈ t, u.length ≤ b) → ∀ u ∈ es.foldl addE t, u.length ≤ b + 2 * es.length
  | [], _, _, h => h
  | e :: es, t, b, h => fun u hu => by
    have := foldl_addE_bound es (addE t e) (b + 2) (addE_bound h e) u hu
    rw [List.length_cons]
    omega
theorem near0_length (n : Nat) : (near0 n).length = n + 1 := by simp [near0]
theorem near0_bound (n : Nat) : ∀ u ∈ near0 n, u.length ≤ 1 := by
  intro u hu
  simp [near0] at hu
  obtain ⟨i, _, rfl⟩ := hu
  simp
@[irreducible] def spNear : Sp := fun vs H Q _ => ∃ (n : Nat) (q : Addr) (es : List (Int × Int)), vs = [.int n, .ref q] ∧ n ≤ 12 ∧ Pairs H q es ∧ es.length ≤ 200 ∧ (∀ e ∈ es, 1 ≤ e.1 ∧ e.1 ≤ n ∧ 1 ≤ e.2 ∧ e.2 ≤ n) ∧
  ∀ p H', Same H H' → H p = none → Lists H' p (nearM n es) → Q (.ref p) H'
theorem call_near {n : Nat} {q : Addr} {es : List (Int × Int)} {H : Hp} {Q : VK} {E : XK} (hn : n ≤ 12) (hq : Pairs H q es) (hl : es.length ≤ 200) (he : ∀ e ∈ es, 1 ≤ e.1 ∧ e.1 ≤ n ∧ 1 ≤ e.2 ∧ e.2 ≤ n)
    (fin : ∀ p H', Same H H' → H p = none → Lists H' p (nearM n es) → Q (.ref p) H') : spNear [.int n, .ref q] H Q E := by
  unfold spNear
  exact ⟨n, q, es, rfl, hn, hq, hl, he, fin⟩
variable {P : Program} {w : World} {K : PySem.W.Frag} {mg : Str → Option Value} {base : Heap}
end
/-! piece D5m -/
section
/-! ### nets in lists of pairs -/
abbrev Edge := Int × Int
def Apart (a b : Edge) : Prop := a ≠ b ∧ a ≠ (b.2, b.1)
structure Simp (n : Int) (es : List Edge) : Prop where
  rng : ∀ e ∈ es, 1 ≤ e.1 ∧ e.1 ≤ n ∧ 1 ≤ e.2 ∧ e.2 ≤ n ∧ e.1 ≠ e.2
  ap : es.Pairwise Apart
theorem Apart.symm {a b : Edge} (h : Apart a b) : Apart b a := ⟨fun e => h.1 e.symm, fun e => h.2 (by rw [e])⟩
structure PsAt (H : Hp) (D : Addr) (rs : List Addr) (es : List Edge) : Prop where
  hD : H D = some (.lst (rs.map V.ref))
  len : rs.length = es.length
  at_ : ∀ (i : Nat) (r : Addr) (e : Edge), rs[i]? = some r → es[i]? = some e → H r = some (.lst [.int e.1, .int e.2])
theorem PsAt.pairs {H : Hp} {D : Addr} {rs : List Addr} {es : List Edge} (h : PsAt H D rs es) : Pairs H D es := ⟨rs, h.hD, h.len, h.at_⟩
theorem PsAt.of {H : Hp} {D : Addr} {es : List Edge} (h : Pairs H D es) : ∃ rs, PsAt H D rs es := by
  obtain ⟨rs, a, b, c⟩ := h
  exact ⟨rs, a, b, c⟩
theorem PsAt.mem {H : Hp} {D : Addr} {rs : List Addr} {es : List Edge} (h : PsAt H D rs es) {r : Addr} (hr : r ∈ rs) : ∃ e ∈ es, H r = some (.lst [.int e.1, .int e.2]) := by
  obtain ⟨i, hi⟩ := List.getElem?_of_mem hr
  have hl : i < es.length := by rw [← h.len]; exact (List.getElem?_eq_some_iff.mp hi).1
  exact ⟨es[i], List.getElem_mem hl, h.at_ i r _ hi (List.getElem?_eq_getElem hl)⟩
theorem PsAt.ne {H : Hp} {D : Addr} {rs : List Addr} {es : List Edge} (h : PsAt H D rs es) {r : Addr} (hr : r ∈ rs) : r ≠ D := by
  obtain ⟨e, _, he⟩ := h.mem hr
  refine ne_of he h.hD ?_
  intro q
  injection q with q
  cases rs with
  | nil => simp at q
  | cons a l => simp at q
theorem PsAt.nil {H : Hp} {D : Addr} (h : H D = some (.lst [])) : PsAt H D [] [] := ⟨h, rfl, fun i r e h _ => by simp at h⟩
theorem PsAt.same {H H' : Hp} {D : Addr} {rs : List Addr} {es : List Edge} (h : PsAt H D rs es) (s : Same H H') : PsAt H' D rs es :=
  ⟨s _ _ h.hD, h.len, fun i r e a b => s _ _ (h.at_ i r e a b)⟩
theorem Dr.ne_refs {H : Hp} {d D : Addr} {k : Int} {rs : List Addr} (h : Dr H d k) (hr : H D = some (.lst (rs.map V.ref))) : D ≠ d := by
  obtain ⟨a, b, hd, _⟩ := h
  refine ne_of hr hd ?_
  intro e
  injection e with e
  cases rs with
  | nil => simp at e
  | cons x l => simp at e
theorem Dr.ne_ints {H : Hp} {d D : Addr} {k : Int} {xs : List Int} (h : Dr H d k) (hr : H D = some (.lst (xs.map V.int))) : D ≠ d := by
  obtain ⟨a, b, hd, _⟩ := h
  refine ne_of hr hd ?_
  intro e
  injection e with e
  cases xs with
  | nil => simp at e
  | cons x l => cases l with
    | nil => simp at e
    | cons y l => cases l with
      | nil => simp at e
      | cons z l => simp at e
theorem PsAt.but {H H' : Hp} {d D : Addr} {k : Int} {rs : List Addr} {es : List Edge} (h : PsAt H D rs es) (s : SameBut d H H') (hd : Dr H d k) : PsAt H' D rs es :=
  ⟨s _ _ (hd.ne_refs h.hD) h.hD, h.len, fun i r e a b => s _ _ (hd.ne_pair (h.at_ i r e a b)) (h.at_ i r e a b)⟩
theorem PsAt.push {H : Hp} {D r : Addr} {rs : List Addr} {es : List Edge} (h : PsAt H D rs es) (nr : H r = none) (e : Edge) :
    PsAt (upd (upd H r (.lst [.int e.1, .int e.2])) D (.lst (rs.map V.ref ++ [V.ref r]))) D (rs ++ [r]) (es ++ [e]) := by
  have hDr : D ≠ r := ne_of_none h.hD nr
  refine ⟨?_, ?_, ?_⟩
  · rw [upd_same, List.map_append]
    rfl
  · rw [List.length_append, List.length_append, h.len]
    rfl
  · intro i a u ha hu
    by_cases hi : i < rs.length
    · rw [List.getElem?_append_left hi] at ha
      rw [List.getElem?_append_left (by rw [← h.len]; exact hi)] at hu
      rw [upd_ne (h.ne (List.mem_of_getElem? ha)), upd_ne (ne_of_none (h.at_ i a u ha hu) nr)]
      exact h.at_ i a u ha hu
    · rw [List.getElem?_append_right (by omega)] at ha
      rw [List.getElem?_append_right (by rw [← h.len]; omega), ← h.len] at hu
      have e0 : i - rs.length = 0 := by
        have := (List.getElem?_eq_some_iff.mp ha).1
        simp at this
        omega
      rw [e0] at ha hu
      simp at ha hu
      subst ha hu
      rw [upd_ne hDr.symm, upd_same]
theorem PsAt.cat {H : Hp} {D D2 p : Addr} {rs rs2 : List Addr} {es es2 : List Edge} (h : PsAt H D rs es) (h2 : PsAt H D2 rs2 es2) (np : H p = none) :
    PsAt (upd H p (.lst (rs.map V.ref ++ rs2.map V.ref))) p (rs ++ rs2) (es ++ es2) := by
  refine ⟨by rw [upd_same, List.map_append], by rw [List.length_append, List.length_append, h.len, h2.len], ?_⟩
  intro i a u ha hu
  by_cases hi : i < rs.length
  · rw [List.getElem?_append_left hi] at ha
    rw [List.getElem?_append_left (by rw [← h.len]; exact hi)] at hu
    rw [upd_ne (ne_of_none (h.at_ i a u ha hu) np)]
    exact h.at_ i a u ha hu
  · rw [List.getElem?_append_right (by omega)] at ha
    rw [List.getElem?_append_right (by rw [← h.len]; omega), ← h.len] at hu
    rw [upd_ne (ne_of_none (h2.at_ _ a u ha hu) np)]
    exact h2.at_ _ a u ha hu
theorem PsAt.one {H : Hp} {D r : Addr} {e : Edge} (hD : H D = some (.lst [V.ref r])) (hr : H r = some (.lst [.int e.1, .int e.2])) : PsAt H D [r] [e] := by
  refine ⟨hD, rfl, ?_⟩
  intro i a u ha hu
  cases i with
  | zero => simp at ha hu; subst ha hu; exact hr
  | succ i => simp at ha
/-! numbers without repeats -/
theorem nodup_le : ∀ (n : Nat) (l : List Int), l.Nodup → (∀ x ∈ l, 1 ≤ x ∧ x ≤ n) → l.length ≤ n
  | 0, l, _, h => by
    cases l with
    | nil => exact Nat.le_refl _
    | cons a r => have := h a (List.mem_cons_self ..); omega
  | n + 1, l, nd, h => by
    have h1 : (l.erase ((n : Int) + 1)).length ≤ n := by
      apply nodup_le n _ (nd.erase _)
      intro x hx
      have hx2 := (List.Nodup.mem_erase_iff nd).mp hx
      have := h x hx2.2
      have := hx2.1
      omega
    have h2 : l.length ≤ (l.erase ((n : Int) + 1)).length + 1 := by
      rw [List.length_erase]
      split <;> omega
    omega
/-! the mates of a place in a list of pairs -/
def mates (g : Int) (es : List Edge) : List Int := es.filterMap fun e => if e.1 = g ∨ e.2 = g then some (e.1 + e.2 - g) else none
theorem mates_rng {n g : Int} {es : List Edge} (h : Simp n es) : ∀ m ∈ mates g es, 1 ≤ m ∧ m ≤ n ∧ m ≠ g := by
  intro m hm
  obtain ⟨e, he, hf⟩ := List.mem_filterMap.mp hm
  have := h.rng e he
  split at hf
  · rename_i hg
    cases hf
    rcases hg with rfl | rfl <;> omega
  · cases hf
theorem mates_nodup {n g : Int} {es : List Edge} (h : Simp n es) : (mates g es).Nodup := by
  unfold mates List.Nodup
  rw [List.pairwise_filterMap]
  refine h.ap.imp_of_mem ?_
  intro a b ha hb hab x hx y hy
  split at hx
  · rename_i h1
    split at hy
    · rename_i h2
      cases hx
      cases hy
      intro e
      obtain ⟨a1, a2⟩ := a
      obtain ⟨b1, b2⟩ := b
      have q1 := hab.1
      have q2 := hab.2
      simp only [ne_eq, Prod.mk.injEq] at q1 q2
      simp only at e h1 h2
      apply Classical.byContradiction
      intro _
      omega
    · cases hy
  · cases hx
theorem simp_grow {s g : Int} {es : List Edge} {fs : List Int} (h : Simp (s - 1) es) (g1 : 1 ≤ g) (g2 : g ≤ s - 1) (hf : fs.Sublist (mates g es)) : Simp s (es ++ (g, s) :: fs.map fun m => (m, s)) := by
  have hr : ∀ m ∈ g :: fs, 1 ≤ m ∧ m ≤ s - 1 := by
    intro m hm
    rcases List.mem_cons.mp hm with rfl | hm
    · exact ⟨g1, g2⟩
    · have := mates_rng h m (hf.subset hm)
      exact ⟨this.1, this.2.1⟩
  have hnd : (g :: fs).Nodup := by
    refine List.nodup_cons.mpr ⟨fun hg => ?_, (mates_nodup h).sublist hf⟩
    exact (mates_rng h g (hf.subset hg)).2.2 rfl
  have hm : (g, s) :: fs.map (fun m => (m, s)) = (g :: fs).map fun m => (m, s) := rfl
  rw [hm]
  generalize g :: fs = l at hr hnd
  refine ⟨?_, ?_⟩
  · intro e he
    rcases List.mem_append.mp he with he | he
    · have := h.rng e he
      omega
    · obtain ⟨m, hm, rfl⟩ := List.mem_map.mp he
      have := hr m hm
      simp only
      omega
  · rw [List.pairwise_append]
    refine ⟨h.ap, ?_, ?_⟩
    · rw [List.pairwise_map]
      refine hnd.imp_of_mem ?_
      intro a b ha hb hab
      have := hr a ha
      have := hr b hb
      refine ⟨fun e => hab ?_, fun e => ?_⟩
      · simp only [Prod.mk.injEq] at e; exact e.1
      · simp only [Prod.mk.injEq] at e; omega
    · intro a ha b hb
      obtain ⟨m, hm, rfl⟩ := List.mem_map.mp hb
      have q1 := h.rng a ha
      have q2 := hr m hm
      refine ⟨fun e => ?_, fun e => ?_⟩
      · have e1 := congrArg Prod.snd e
        simp only at e1
        omega
      · have e1 := congrArg Prod.fst e
        simp only at e1
        omega
theorem mates_len {s g : Int} {es : List Edge} {fs : List Int} (h : Simp (s - 1) es) (hs : s ≤ 13) (hf : fs.Sublist (mates g es)) : fs.length ≤ 12 := by
  apply nodup_le 12 fs ((mates_nodup h).sublist hf)
  intro m hm
  have := mates_rng h m (hf.subset hm)
  omega
theorem simp_mono {n m : Int} {es : List Edge} (h : Simp n es) (hm : n ≤ m) : Simp m es := ⟨fun e he => by have := h.rng e he; omega, h.ap⟩

theorem mates_snoc (g : Int) (es : List Edge) (e : Edge) : mates g (es ++ [e]) = mates g es ++ (if e.1 = g ∨ e.2 = g then [e.1 + e.2 - g] else []) := by
  unfold mates
  rw [List.filterMap_append]
  congr 1
  by_cases h : e.1 = g ∨ e.2 = g
  · simp [h]
  · simp [h]
theorem mates_length (g : Int) (es : List Edge) : (mates g es).length ≤ es.length := List.length_filterMap_le ..
theorem inV2 (g a b : Int) : inV (.int g) [.int a, .int b] = decide (a = g ∨ b = g) := by
  simp only [inV, List.any_cons, List.any_nil, Bool.or_false, eqV]
  by_cases h1 : a = g <;> by_cases h2 : b = g <;> simp [h1, h2]
theorem Dr.same {H H' : Hp} {d : Addr} {k : Int} (h : Dr H d k) (s : Same H H') : Dr H' d k := by
  obtain ⟨a, b, e, h0⟩ := h
  exact ⟨a, b, s _ _ e, h0⟩
theorem Same.but {H H' : Hp} (d : Addr) (s : Same H H') : SameBut d H H' := fun b o _ e => s b o e
theorem SameBut.none {d p : Addr} {H H' : Hp} {k : Int} (s : SameBut d H H') (hd : Dr H' d k) (np : H' p = none) : H p = none := by
  cases hq : H p with
  | none => rfl
  | some o =>
    obtain ⟨a, b, e, _⟩ := hd
    have hne : p ≠ d := (ne_of_none e np).symm
    rw [s p o hne hq] at np
    cases np
end
/-! piece D6m -/
section
/-! ### renaming, flipping and shuffling a net -/
theorem simp_perm {n : Int} {es fs : List Edge} (h : Simp n es) (p : fs.Perm es) : Simp n fs :=
  ⟨fun e he => h.rng e (p.mem_iff.mp he), (p.pairwise_iff (fun hab => Apart.symm hab)).mpr h.ap⟩
theorem simp_map {n m : Int} {es : List Edge} (h : Simp n es) (f : Int → Int) (hr : ∀ x, 1 ≤ x → x ≤ n → 1 ≤ f x ∧ f x ≤ m) (inj : ∀ x y, 1 ≤ x → x ≤ n → 1 ≤ y → y ≤ n → f x = f y → x = y) :
    Simp m (es.map fun e => (f e.1, f e.2)) := by
  refine ⟨?_, ?_⟩
  · intro e he
    obtain ⟨a, ha, rfl⟩ := List.mem_map.mp he
    have q := h.rng a ha
    have q1 := hr a.1 q.1 q.2.1
    have q2 := hr a.2 q.2.2.1 q.2.2.2.1
    refine ⟨q1.1, q1.2, q2.1, q2.2, fun e => q.2.2.2.2 (inj _ _ q.1 q.2.1 q.2.2.1 q.2.2.2.1 e)⟩
  · rw [List.pairwise_map]
    refine h.ap.imp_of_mem ?_
    intro a b ha hb hab
    have qa := h.rng a ha
    have qb := h.rng b hb
    refine ⟨fun e => hab.1 ?_, fun e => hab.2 ?_⟩
    · simp only [Prod.mk.injEq] at e
      exact Prod.ext (inj _ _ qa.1 qa.2.1 qb.1 qb.2.1 e.1) (inj _ _ qa.2.2.1 qa.2.2.2.1 qb.2.2.1 qb.2.2.2.1 e.2)
    · simp only [Prod.mk.injEq] at e
      exact Prod.ext (inj _ _ qa.1 qa.2.1 qb.2.2.1 qb.2.2.2.1 e.1) (inj _ _ qa.2.2.1 qa.2.2.2.1 qb.1 qb.2.1 e.2)
/-- some pairs the other way about -/
def Flips : List Edge → List Edge → Prop
  | [], [] => True
  | a :: as, b :: bs => (b = a ∨ b = (a.2, a.1)) ∧ Flips as bs
  | _, _ => False
theorem flips_snoc : ∀ {as bs : List Edge} {a b : Edge}, Flips as bs → (b = a ∨ b = (a.2, a.1)) → Flips (as ++ [a]) (bs ++ [b])
  | [], [], _, _, _, h => ⟨h, trivial⟩
  | _ :: _, _ :: _, _, _, h, h2 => ⟨h.1, flips_snoc h.2 h2⟩
theorem flips_mem : ∀ {as bs : List Edge}, Flips as bs → ∀ b ∈ bs, ∃ a ∈ as, b = a ∨ b = (a.2, a.1)
  | [], [], _, b, h => nomatch h
  | a :: as, c :: bs, h, b, hb => by
    rcases List.mem_cons.mp hb with rfl | hb
    · exact ⟨a, List.mem_cons_self .., h.1⟩
    · obtain ⟨x, hx, h2⟩ := flips_mem h.2 b hb
      exact ⟨x, List.mem_cons_of_mem _ hx, h2⟩
theorem flips_apart {a b c d : Edge} (h : Apart a b) (hc : c = a ∨ c = (a.2, a.1)) (hd : d = b ∨ d = (b.2, b.1)) : Apart c d := by
  obtain ⟨a1, a2⟩ := a
  obtain ⟨b1, b2⟩ := b
  have q1 := h.1
  have q2 := h.2
  simp only [ne_eq, Prod.mk.injEq] at q1 q2
  unfold Apart
  rcases hc with rfl | rfl <;> rcases hd with rfl | rfl <;> simp only [ne_eq, Prod.mk.injEq] <;> refine ⟨fun e => ?_, fun e => ?_⟩ <;> first | exact q1 e | exact q2 e | exact q1 ⟨e.2, e.1⟩ | exact q2 ⟨e.2, e.1⟩
theorem flips_pair : ∀ {as bs : List Edge}, Flips as bs → as.Pairwise Apart → bs.Pairwise Apart
  | [], [], _, _ => List.Pairwise.nil
  | a :: as, b :: bs, h, hp => by
    rw [List.pairwise_cons] at hp ⊢
    refine ⟨?_, flips_pair h.2 hp.2⟩
    intro c hc
    obtain ⟨x, hx, hx2⟩ := flips_mem h.2 c hc
    exact flips_apart (hp.1 x hx) h.1 hx2
theorem simp_flips {n : Int} {es fs : List Edge} (h : Simp n es) (hf : Flips es fs) : Simp n fs := by
  refine ⟨?_, flips_pair hf h.ap⟩
  intro e he
  obtain ⟨a, ha, h2⟩ := flips_mem hf e he
  have q := h.rng a ha
  rcases h2 with rfl | rfl
  · exact q
  · exact ⟨q.2.2.1, q.2.2.2.1, q.1, q.2.1, fun e => q.2.2.2.2 e.symm⟩
theorem flips_length : ∀ {as bs : List Edge}, Flips as bs → bs.length = as.length
  | [], [], _ => rfl
  | _ :: _, _ :: _, h => by rw [List.length_cons, List.length_cons, flips_length h.2]
/-- any lines: those of one place to greater ones -/
theorem simp_rows {n a : Int} {es : List Edge} {bs : List Int} (h : Simp n es) (h1 : ∀ e ∈ es, e.1 < a ∧ e.1 < e.2) (ha : 1 ≤ a) (han : a ≤ n) (hb : ∀ b ∈ bs, a < b ∧ b ≤ n) (nd : bs.Nodup) : Simp n (es ++ bs.map fun b => (a, b)) := by
  refine ⟨?_, ?_⟩
  · intro e he
    rcases List.mem_append.mp he with he | he
    · exact h.rng e he
    · obtain ⟨b, hb2, rfl⟩ := List.mem_map.mp he
      have := hb b hb2
      simp only
      omega
  · rw [List.pairwise_append]
    refine ⟨h.ap, ?_, ?_⟩
    · rw [List.pairwise_map]
      refine nd.imp_of_mem ?_
      intro x y hx hy hxy
      have := hb x hx
      have := hb y hy
      refine ⟨fun e => hxy ?_, fun e => ?_⟩
      · simp only [Prod.mk.injEq] at e; exact e.2
      · simp only [Prod.mk.injEq] at e; omega
    · intro x hx y hy
      obtain ⟨b, hb2, rfl⟩ := List.mem_map.mp hy
      have q1 := h1 x hx
      have q2 := hb b hb2
      refine ⟨fun e => ?_, fun e => ?_⟩
      · have := congrArg Prod.fst e; simp only at this; omega
      · have e1 := congrArg Prod.fst e
        have e2 := congrArg Prod.snd e
        simp only at e1 e2
        omega
theorem perm_lift {α β : Type} (f : α → β) {l m : List β} (h : l.Perm m) : ∀ zs, m = zs.map f → ∃ zs' : List α, zs'.Perm zs ∧ l = zs'.map f := by
  induction h with
  | nil => intro zs e; exact ⟨[], by cases zs with | nil => exact List.Perm.refl _ | cons a r => simp at e, rfl⟩
  | cons x _ ih =>
    intro zs e
    cases zs with
    | nil => simp at e
    | cons a r =>
      simp only [List.map_cons, List.cons.injEq] at e
      obtain ⟨zs', h1, h2⟩ := ih r e.2
      exact ⟨a :: zs', h1.cons a, by rw [List.map_cons, ← h2, e.1]⟩
  | swap x y l =>
    intro zs e
    cases zs with
    | nil => simp at e
    | cons a r =>
      cases r with
      | nil => simp at e
      | cons b r =>
        simp only [List.map_cons, List.cons.injEq] at e
        exact ⟨b :: a :: r, List.Perm.swap a b r, by rw [List.map_cons, List.map_cons, ← e.1, ← e.2.1, ← e.2.2]⟩
  | trans _ _ ih1 ih2 =>
    intro zs e
    obtain ⟨z1, h1, h2⟩ := ih2 zs e
    obtain ⟨z2, h3, h4⟩ := ih1 z1 h2
    exact ⟨z2, h3.trans h1, h4⟩
theorem zip_at {α β : Type} : ∀ {rs : List α} {es : List β} {i : Nat} {r : α} {e : β}, (rs.zip es)[i]? = some (r, e) → rs[i]? = some r ∧ es[i]? = some e
  | [], _, _, _, _, h => by simp at h
  | _ :: _, [], _, _, _, h => by simp at h
  | a :: rs, b :: es, 0, r, e, h => by simp at h; simp [h.1, h.2]
  | a :: rs, b :: es, i + 1, r, e, h => by
    simp only [List.zip_cons_cons, List.getElem?_cons_succ] at h ⊢
    exact zip_at h
theorem PsAt.perm {H H' : Hp} {D D2 : Addr} {rs : List Addr} {es : List Edge} {ys : List V} (h : PsAt H D rs es) (hp : ys.Perm (rs.map V.ref)) (hD : H' D2 = some (.lst ys))
    (keep : ∀ r e, r ∈ rs → H r = some (.lst [.int e.1, .int e.2]) → H' r = some (.lst [.int (e : Edge).1, .int e.2])) : ∃ fs rs', fs.Perm es ∧ PsAt H' D2 rs' fs := by
  have e1 : rs.map V.ref = (rs.zip es).map fun z => V.ref z.1 := by
    rw [show (fun z : Addr × Edge => V.ref z.1) = V.ref ∘ Prod.fst from rfl, ← List.map_map, List.map_fst_zip (by rw [h.len]; exact Nat.le_refl _)]
  obtain ⟨zs, hz, rfl⟩ := perm_lift (fun z : Addr × Edge => V.ref z.1) hp (rs.zip es) e1
  refine ⟨zs.map (·.2), zs.map (·.1), ?_, ?_, ?_, ?_⟩
  · have := hz.map (·.2)
    rw [List.map_snd_zip (by rw [h.len]; exact Nat.le_refl _)] at this
    exact this
  · rw [List.map_map]
    exact hD
  · rw [List.length_map, List.length_map]
  · intro i r e hr he
    rw [List.getElem?_map] at hr he
    cases hzi : zs[i]? with
    | none => rw [hzi] at hr; cases hr
    | some z =>
      rw [hzi] at hr he
      cases hr
      cases he
      have hm : z ∈ rs.zip es := hz.mem_iff.mp (List.mem_of_getElem? hzi)
      obtain ⟨j, hj⟩ := List.getElem?_of_mem hm
      obtain ⟨a, b⟩ := z
      obtain ⟨j1, j2⟩ := zip_at hj
      exact keep a b (List.mem_of_getElem? j1) (h.at_ j a b j1 j2)
theorem PsAt.cong {H : Hp} {D : Addr} {rs : List Addr} {es fs : List Edge} (h : PsAt H D rs es) (e : es = fs) : PsAt H D rs fs := e ▸ h
/-- a row of names: zs is the numbers 1 to n in some order -/
def nameOf (zs : List Int) (x : Int) : Int := (zs[(x - 1).toNat]?).getD 0
theorem name_at {zs : List Int} {n : Nat} (hz : zs.Perm ((List.range n).map fun (i : Nat) => (1 : Int) + i)) {x : Int} (h1 : 1 ≤ x) (h2 : x ≤ n) : zs[(x - 1).toNat]? = some (nameOf zs x) ∧ 1 ≤ nameOf zs x ∧ nameOf zs x ≤ n := by
  have hl : zs.length = n := by rw [hz.length_eq]; simp
  have hi : (x - 1).toNat < zs.length := by omega
  have e : zs[(x - 1).toNat]? = some zs[(x - 1).toNat] := List.getElem?_eq_getElem hi
  have e2 : nameOf zs x = zs[(x - 1).toNat] := by unfold nameOf; rw [e]; rfl
  have hm : zs[(x - 1).toNat] ∈ ((List.range n).map fun (i : Nat) => (1 : Int) + i) := hz.mem_iff.mp (List.getElem_mem hi)
  obtain ⟨i, hi2, hi3⟩ := List.mem_map.mp hm
  have := List.mem_range.mp hi2
  rw [e2]
  exact ⟨e, by omega, by omega⟩
theorem name_inj {zs : List Int} {n : Nat} (hz : zs.Perm ((List.range n).map fun (i : Nat) => (1 : Int) + i)) {x y : Int} (h1 : 1 ≤ x) (h2 : x ≤ n) (h3 : 1 ≤ y) (h4 : y ≤ n) (e : nameOf zs x = nameOf zs y) : x = y := by
  have nd : zs.Nodup := by
    refine (hz.nodup_iff).mpr ?_
    rw [List.Nodup, List.pairwise_map]
    refine List.nodup_range.imp ?_
    intro a b hab h
    exact hab (by omega)
  have a1 := (name_at hz h1 h2).1
  have a2 := (name_at hz h3 h4).1
  rw [e] at a1
  have := nd_ix nd a1 a2
  omega
theorem simp_nil (n : Int) : Simp n [] := ⟨(fun e h => nomatch h), List.Pairwise.nil⟩
end
/-! piece D7m -/
section
/-! ### what is beside a place -/
theorem addE_get {t : List (List Int)} {e : Edge} {p : Nat} {u : List Int} (h1 : 0 ≤ e.1) (h2 : 0 ≤ e.2) (hne : e.1 ≠ e.2) (h : t[p]? = some u) :
    (addE t e)[p]? = some (u ++ (if e.1 = (p : Int) ∨ e.2 = (p : Int) then [e.1 + e.2 - p] else [])) := by
  unfold addE
  rw [List.getElem?_modify, List.getElem?_modify, h]
  by_cases a1 : e.1.toNat = p <;> by_cases a2 : e.2.toNat = p
  · omega
  · have b1 : e.1 = (p : Int) := by omega
    have b2 : ¬ e.2 = (p : Int) := by omega
    have b3 : e.1 + e.2 - p = e.2 := by omega
    simp [a1, a2, b1, b3]
    try omega
  · have b1 : ¬ e.1 = (p : Int) := by omega
    have b2 : e.2 = (p : Int) := by omega
    have b3 : e.1 + e.2 - p = e.1 := by omega
    simp [a1, a2, b2, b3]
    try omega
  · have b1 : ¬ e.1 = (p : Int) := by omega
    have b2 : ¬ e.2 = (p : Int) := by omega
    simp [a1, a2, b1, b2]
theorem foldl_addE_get {p : Nat} : ∀ (es : List Edge) (t : List (List Int)) (u : List Int), (∀ e ∈ es, 0 ≤ e.1 ∧ 0 ≤ e.2 ∧ e.1 ≠ e.2) → t[p]? = some u → (es.foldl addE t)[p]? = some (u ++ mates p es)
  | [], t, u, _, h => by simpa [mates] using h
  | e :: es, t, u, hr, h => by
    have he := hr e (List.mem_cons_self ..)
    have := foldl_addE_get es (addE t e) _ (fun x hx => hr x (List.mem_cons_of_mem _ hx)) (addE_get he.1 he.2.1 he.2.2 h)
    have hm : mates (p : Int) (e :: es) = (if e.1 = (p : Int) ∨ e.2 = (p : Int) then [e.1 + e.2 - p] else []) ++ mates p es := by
      unfold mates
      by_cases hc : e.1 = (p : Int) ∨ e.2 = (p : Int) <;> simp [List.filterMap_cons, hc]
    rw [List.foldl_cons, this, List.append_assoc, hm]
theorem near_get {n : Nat} {es : List Edge} (h : Simp n es) {p : Nat} (h1 : 1 ≤ p) (h2 : p ≤ n) : (nearM n es)[p]? = some ((p : Int) :: mates p es) := by
  have h0 : (near0 n)[p]? = some [(p : Int)] := by
    unfold near0
    rw [List.getElem?_map, List.getElem?_range (by omega)]
    rfl
  exact foldl_addE_get es (near0 n) [(p : Int)] (fun e he => by have := h.rng e he; omega) h0
def besideM (n : Nat) (es : List Edge) (p : Int) : List Int := ((List.range n).map fun (i : Nat) => (i : Int) + 1).filter fun x => decide (x = p ∨ x ∈ mates p es)
theorem besideM_lt (n : Nat) (es : List Edge) (p : Int) : (besideM n es p).Pairwise (· < ·) := by
  unfold besideM
  apply List.Pairwise.filter
  rw [List.pairwise_map]
  exact List.pairwise_lt_range.imp fun h => by omega
theorem besideM_mem {n : Nat} {es : List Edge} {p : Int} (h : Simp n es) (h1 : 1 ≤ p) (h2 : p ≤ n) (x : Int) : x ∈ besideM n es p ↔ x ∈ p :: mates p es := by
  unfold besideM
  rw [List.mem_filter, List.mem_cons, decide_eq_true_iff]
  constructor
  · exact fun h => h.2
  · intro hx
    refine ⟨?_, hx⟩
    have : 1 ≤ x ∧ x ≤ n := by
      rcases hx with rfl | hx
      · exact ⟨h1, h2⟩
      · have := mates_rng h x hx
        exact ⟨this.1, this.2.1⟩
    exact List.mem_map.mpr ⟨(x - 1).toNat, List.mem_range.mpr (by omega), by omega⟩
theorem lt_unique : ∀ {l m : List Int}, l.Pairwise (· < ·) → m.Pairwise (· < ·) → (∀ x, x ∈ l ↔ x ∈ m) → l = m
  | [], [], _, _, _ => rfl
  | [], b :: m, _, _, h => by have := (h b).mpr (List.mem_cons_self ..); simp at this
  | a :: l, [], _, _, h => by have := (h a).mp (List.mem_cons_self ..); simp at this
  | a :: l, b :: m, hl, hm, h => by
    rw [List.pairwise_cons] at hl hm
    have hab : a = b := by
      have h1 := (h a).mp (List.mem_cons_self ..)
      have h2 := (h b).mpr (List.mem_cons_self ..)
      rcases List.mem_cons.mp h1 with e | h1
      · exact e
      · rcases List.mem_cons.mp h2 with e | h2
        · exact e.symm
        · have := hm.1 a h1
          have := hl.1 b h2
          omega
    subst hab
    rw [lt_unique hl.2 hm.2 fun x => ?_]
    constructor
    · intro hx
      rcases List.mem_cons.mp ((h x).mp (List.mem_cons_of_mem _ hx)) with e | hx2
      · subst e; have := hl.1 x hx; omega
      · exact hx2
    · intro hx
      rcases List.mem_cons.mp ((h x).mpr (List.mem_cons_of_mem _ hx)) with e | hx2
      · subst e; have := hm.1 x hx; omega
      · exact hx2
theorem sorted_is {l m k : List Int} (hp : l.Perm k) (hs : l.Pairwise (· ≤ ·)) (hk : k.Nodup) (hm : m.Pairwise (· < ·)) (h : ∀ x, x ∈ m ↔ x ∈ k) : l = m := by
  have hn : l.Nodup := hp.nodup_iff.mpr hk
  refine lt_unique ?_ hm fun x => (hp.mem_iff).trans (h x).symm
  have := hs.and hn
  exact this.imp fun ⟨a, b⟩ => by omega
theorem near_sorted {n : Nat} {es : List Edge} {p : Int} (h : Simp n es) (h1 : 1 ≤ p) (h2 : p ≤ n) {l : List Int} (hp : l.Perm (p :: mates p es)) (hs : l.Pairwise (· ≤ ·)) : l = besideM n es p :=
  sorted_is hp hs (List.nodup_cons.mpr ⟨fun hm => (mates_rng h p hm).2.2 rfl, mates_nodup h⟩) (besideM_lt n es p) (besideM_mem h h1 h2)
theorem besideM_length {n : Nat} {es : List Edge} {p : Int} (hn : n ≤ 12) : (besideM n es p).length ≤ 12 := by
  unfold besideM
  refine Nat.le_trans (List.length_filter_le ..) ?_
  simp
  exact hn
theorem besideM_rng {n : Nat} {es : List Edge} {p x : Int} (hx : x ∈ besideM n es p) : 1 ≤ x ∧ x ≤ n := by
  unfold besideM at hx
  obtain ⟨h1, _⟩ := List.mem_filter.mp hx
  obtain ⟨i, hi, rfl⟩ := List.mem_map.mp h1
  have := List.mem_range.mp hi
  omega
/-! the data of nets and of rows -/
def dI (xs : List Int) : PyData := .list (xs.map PyData.int)
def dE (es : List Edge) : PyData := .list (es.map fun e => .list [.int e.1, .int e.2])
theorem dok_dI {xs : List Int} (h : ∀ x ∈ xs, x.natAbs < 1000) : DOk 1 (2 + xs.length * 7) (dI xs) := by
  have := dok_list (n := 0) (b := 5) (xs := xs.map PyData.int) (fun d hd => by
    obtain ⟨x, hx, rfl⟩ := List.mem_map.mp hd
    exact dok_int (h x hx))
  rw [List.length_map] at this
  exact this
theorem dok_pair {a b : Int} (h1 : a.natAbs < 1000) (h2 : b.natAbs < 1000) : DOk 1 20 (.list [.int a, .int b]) := by
  refine (dok_list (n := 0) (b := 5) ?_).mono (by decide) (by simp)
  intro x hx
  simp only [List.mem_cons, List.not_mem_nil, or_false] at hx
  rcases hx with rfl | rfl
  · exact dok_int h1
  · exact dok_int h2
theorem dok_dE {es : List Edge} (h : ∀ e ∈ es, e.1.natAbs < 1000 ∧ e.2.natAbs < 1000) : DOk 2 (2 + es.length * 22) (dE es) := by
  have := dok_list (n := 1) (b := 20) (xs := es.map fun e => PyData.list [.int e.1, .int e.2]) (fun d hd => by
    obtain ⟨x, hx, rfl⟩ := List.mem_map.mp hd
    exact dok_pair (h x hx).1 (h x hx).2)
  rw [List.length_map] at this
  exact this
theorem Simp.small {n : Int} {es : List Edge} (h : Simp n es) (hn : n ≤ 200) : ∀ e ∈ es, e.1.natAbs < 1000 ∧ e.2.natAbs < 1000 := fun e he => by
  have := h.rng e he
  omega
theorem dp_dI {K : PySem.W.Frag} {H : Hp} {p : Addr} {xs : List Int} (h : SqL K H p (xs.map V.int)) : Dp K H (.ref p) (dI xs) := .lst h (dp_ints xs)
theorem dp_pairsAll {K : PySem.W.Frag} {H : Hp} : ∀ {rs : List Addr} {es : List Edge}, rs.length = es.length → (∀ (i : Nat) (r : Addr) (e : Edge), rs[i]? = some r → es[i]? = some e → H r = some (.lst [.int e.1, .int e.2])) →
    DpAll K H (rs.map V.ref) (es.map fun e => .list [.int e.1, .int e.2])
  | [], [], _, _ => .nil
  | [], _ :: _, h, _ => by simp at h
  | _ :: _, [], h, _ => by simp at h
  | r :: rs, e :: es, hl, h => .cons (.lst (SqL.of (h 0 r e rfl rfl)) (.cons (.int _) (.cons (.int _) .nil))) (dp_pairsAll (by simpa using hl) fun i a b h1 h2 => h (i + 1) a b (by simpa using h1) (by simpa using h2))
theorem dp_dE {K : PySem.W.Frag} {H : Hp} {p : Addr} {es : List Edge} (h : Pairs H p es) : Dp K H (.ref p) (dE es) := by
  obtain ⟨rs, h1, h2, h3⟩ := h
  exact .lst (SqL.of h1) (dp_pairsAll h2 h3)

/-! ### the program's promises, as the law asks them -/
@[irreducible] def spBeside : Sp := fun vs H Q _ => ∃ (q : Addr) (n : Nat) (p : Int) (es : List Edge), vs = [.int n, .ref q, .int p] ∧ 1 ≤ n ∧ n ≤ 12 ∧ 1 ≤ p ∧ p ≤ n ∧ Pairs H q es ∧ Simp n es ∧ es.length ≤ 200 ∧
  ∀ r H', Same H H' → H r = none → H' r = some (.lst ((besideM n es p).map V.int)) → Q (.ref r) H'
theorem call_beside {q : Addr} {n : Nat} {p : Int} {es : List Edge} {H : Hp} {Q : VK} {E : XK} (h1 : 1 ≤ n) (h2 : n ≤ 12) (h3 : 1 ≤ p) (h4 : p ≤ n) (hq : Pairs H q es) (hS : Simp n es) (hl : es.length ≤ 200)
    (fin : ∀ r H', Same H H' → H r = none → H' r = some (.lst ((besideM n es p).map V.int)) → Q (.ref r) H') : spBeside [.int n, .ref q, .int p] H Q E := by
  unfold spBeside
  exact ⟨q, n, p, es, rfl, h1, h2, h3, h4, hq, hS, hl, fin⟩
/-- a def of the text that may be called by its parameters' names alone -/
structure KCal (P : Program) (w : World) (K : PySem.W.Frag) (mg : Str → Option Value) (base : Heap) (x : Str) (k : Nat) (ps ks : List Str) (g : List Value → List Value → List Value) (gV : List V → List V → List V) (sp : Sp) : Prop where
  ex : ∃ (f : Addr) (fd : FuncData), FnOk P w K mg base CX0 k f fd ps sp ∧ mg x = some (.ref f) ∧ PySem.W.keepIn K (.ref f) = true ∧ KBinds K fd ps ks g gV
theorem pe_kcal {X : Cx} {x : Str} {p pos : Pos} {kws : List Keyword} {tk : TA} {k j : Nat} {ps ks : List Str} {g : List Value → List Value → List Value} {gV : List V → List V → List V} {sp : Sp}
    (C : KCal X.prog X.w X.K X.mg X.base x k ps ks g gV sp) (hr : Room j X.A) (hkj : k ≤ j) (hg : Gl X x) (hkw : PK X kws tk)
    (hall : (backToKw pos (keywordEach kws X.env)).all (·.1.isSome) = true := by rfl) (hks : (backToKw pos (keywordEach kws X.env)).filterMap (·.1) = ks := by rfl)
    (hdb : (x == ("__debug__" : Str)) = false := by decide)
    (hpl : ((backTo pos (starEach [] X.env)).any (·.1) || (backToKw pos (keywordEach kws X.env)).any (·.1.isNone)) = false := by rfl) :
    PE X (.Call (.Name x p) [] kws pos) (tCallK sp gV E0 tNil tk) := by
  obtain ⟨f, fd, F, hm, hk, hb⟩ := C.ex
  exact pe_callK0 F (hr.mono hkj) hg hm hk hb pass0 hkw hall hks hdb hpl
def g3 {α : Type} : List α → List α → List α := fun us ws => match us, ws with
  | [], [a, b, c] => [c, b, a]
  | _, _ => []
theorem Pairs.same {H H' : Hp} {p : Addr} {es : List Edge} (h : Pairs H p es) (s : Same H H') : Pairs H' p es := by
  obtain ⟨rs, a, b, c⟩ := h
  exact ⟨rs, s _ _ a, b, fun i r e x y => s _ _ (c i r e x y)⟩
theorem Dp.dok_two {K : PySem.W.Frag} {H : Hp} {t a b : Addr} {d : PyData} (ht : H t = some (.lst [.ref a, .ref b])) (ha : Dp K H (.ref a) d) (hb : Dp K H (.ref b) d) : Dp K H (.ref t) (.list [d, d]) :=
  .lst (SqL.of ht) (.cons ha (.cons hb .nil))
theorem dok_two {n b : Nat} {d : PyData} (h : DOk n b d) : DOk (n + 1) (2 + 2 * (b + 2)) (.list [d, d]) := by
  refine dok_list (xs := [d, d]) (fun x hx => ?_)
  simp only [List.mem_cons, List.not_mem_nil, or_false] at hx
  rcases hx with rfl | rfl <;> exact h
end
/-! piece FG -/
section
/-! ### folds and their maps, in general -/
section
variable {adj : Int → Int → Prop}
def StepOk (adj : Int → Int → Prop) (S : Int → Prop) (p q : Int) : Prop := S p ∧ S q ∧ p ≠ q ∧ ∀ z, S z → adj p z → adj q z
inductive Run (adj : Int → Int → Prop) : (Int → Prop) → List Edge → (Int → Prop) → Prop where
  | nil (S : Int → Prop) : Run adj S [] S
  | cons {S S' : Int → Prop} {p q : Int} {l : List Edge} (h : StepOk adj S p q) (r : Run adj (fun x => S x ∧ x ≠ p) l S') : Run adj S ((p, q) :: l) S'
def mapR : List Edge → Int → Int
  | [], x => x
  | e :: l, x => mapR l (if x = e.1 then e.2 else x)
def Stiff (adj : Int → Int → Prop) (S : Int → Prop) : Prop := ∀ p q, ¬ StepOk adj S p q
theorem mapR_in {S S' : Int → Prop} {l : List Edge} (r : Run adj S l S') : ∀ {x : Int}, S x → S' (mapR l x) := by
  induction r with
  | nil S => exact fun h => h
  | @cons S S' p q l h r ih =>
    intro x hx
    unfold mapR
    apply ih
    by_cases e : x = p
    · simp only [e, if_true]
      exact ⟨h.2.1, h.2.2.1.symm⟩
    · simp only [e, if_false]
      exact ⟨hx, e⟩
theorem run_sub {S S' : Int → Prop} {l : List Edge} (r : Run adj S l S') : ∀ {x : Int}, S' x → S x ∧ ∀ e ∈ l, x ≠ e.1 := by
  induction r with
  | nil S => exact fun h => ⟨h, fun _ h => nomatch h⟩
  | @cons S S' p q l h r ih =>
    intro x hx
    obtain ⟨⟨h1, h2⟩, h3⟩ := ih hx
    refine ⟨h1, fun e he => ?_⟩
    rcases List.mem_cons.mp he with rfl | he
    · exact h2
    · exact h3 e he
theorem mapR_off : ∀ {l : List Edge} {x : Int}, (∀ e ∈ l, x ≠ e.1) → mapR l x = x
  | [], _, _ => rfl
  | e :: l, x, h => by
    unfold mapR
    rw [if_neg (h e (List.mem_cons_self ..))]
    exact mapR_off fun u hu => h u (List.mem_cons_of_mem _ hu)
theorem mapR_fix {S S' : Int → Prop} {l : List Edge} (r : Run adj S l S') {x : Int} (h : S' x) : mapR l x = x := mapR_off (run_sub r h).2
theorem mapR_hom (sy : ∀ x y, adj x y → adj y x) {S S' : Int → Prop} {l : List Edge} (r : Run adj S l S') : ∀ {x y : Int}, S x → S y → adj x y → adj (mapR l x) (mapR l y) := by
  induction r with
  | nil S => exact fun _ _ h => h
  | @cons S S' p q l h r ih =>
    intro x y hx hy ha
    obtain ⟨hp, hq, hne, hn⟩ := h
    unfold mapR
    apply ih
    · by_cases e : x = p
      · simp only [e, if_true]; exact ⟨hq, hne.symm⟩
      · simp only [e, if_false]; exact ⟨hx, e⟩
    · by_cases e : y = p
      · simp only [e, if_true]; exact ⟨hq, hne.symm⟩
      · simp only [e, if_false]; exact ⟨hy, e⟩
    · by_cases e1 : x = p
      · subst e1
        by_cases e2 : y = x
        · subst e2
          simp only [if_true]
          exact hn q hq (sy _ _ (hn y hp ha))
        · simp only [e2, if_true, if_false]
          exact hn y hy ha
      · by_cases e2 : y = p
        · subst e2
          simp only [e1, if_true, if_false]
          exact sy _ _ (hn x hx (sy _ _ ha))
        · simp only [e1, e2, if_false]
          exact ha
/-- whoever stands so that the map of full folds leads each back does so behind further folds -/
theorem led_back (rf : ∀ x, adj x x) (sy : ∀ x y, adj x y → adj y x) {S E : Int → Prop} {l : List Edge} (r : Run adj S l E) (st : Stiff adj E)
    {T T' : Int → Prop} {m : List Edge} (rm : Run adj T m T') : (∀ x, T x → S x) → ∀ {s : Int → Int}, (∀ x, E x → T (s x)) → (∀ x y, E x → E y → adj x y → adj (s x) (s y)) → (∀ x, E x → mapR l (s x) = x) →
      ∀ x, E x → mapR l (mapR m (s x)) = x := by
  induction rm with
  | nil T => exact fun _ s _ _ h => h
  | @cons T T' p q m h rm ih =>
    intro hTS s hin hom hb x hx
    obtain ⟨hp, hq, hne, hn⟩ := h
    show mapR l (mapR m (if s x = p then q else s x)) = x
    refine ih (s := fun x => if s x = p then q else s x) (fun x hx => hTS x hx.1) ?_ ?_ ?_ x hx
    · intro x hx
      by_cases e : s x = p
      · simp only [e, if_true]; exact ⟨hq, hne.symm⟩
      · simp only [e, if_false]; exact ⟨hin x hx, e⟩
    · intro x y hx hy ha
      have ha := hom x y hx hy ha
      by_cases e1 : s x = p
      · by_cases e2 : s y = p
        · simp only [e1, e2, if_true]; exact rf q
        · simp only [e1, e2, if_true, if_false]
          rw [e1] at ha
          exact hn _ (hin y hy) ha
      · by_cases e2 : s y = p
        · simp only [e1, e2, if_true, if_false]
          rw [e2] at ha
          exact sy _ _ (hn _ (hin x hx) (sy _ _ ha))
        · simp only [e1, e2, if_false]; exact ha
    · intro x hx
      by_cases e : s x = p
      · simp only [e, if_true]
        -- what is beside x in the end is beside its new goal
        apply Classical.byContradiction
        intro hxy
        refine st x (mapR l q) ⟨hx, mapR_in r (hTS q hq), fun e => hxy e.symm, ?_⟩
        intro z hz hxz
        have h1 := hom x z hx hz hxz
        rw [e] at h1
        have h2 := hn _ (hin z hz) h1
        have h3 := mapR_hom sy r (hTS q hq) (hTS _ (hin z hz)) h2
        rw [hb z hz] at h3
        exact h3
      · simp only [e, if_false]
        exact hb x hx
theorem back (rf : ∀ x, adj x x) (sy : ∀ x y, adj x y → adj y x) {S E E' : Int → Prop} {l m : List Edge} (r : Run adj S l E) (st : Stiff adj E) (rm : Run adj S m E') {x : Int} (hx : E x) : mapR l (mapR m x) = x :=
  led_back rf sy r st rm (fun _ h => h) (s := fun x => x) (fun x hx => (run_sub r hx).1) (fun _ _ _ _ h => h) (fun x hx => mapR_fix r hx) x hx
theorem alike_iff (rf : ∀ x, adj x x) (sy : ∀ x y, adj x y → adj y x) {S E E' : Int → Prop} {l m : List Edge} (r : Run adj S l E) (st : Stiff adj E) (rm : Run adj S m E') {x y : Int} (hx : E x) (hy : E y) :
    adj (mapR m x) (mapR m y) ↔ adj x y := by
  constructor
  · intro h
    have h2 := mapR_hom sy r (run_sub rm (mapR_in rm (run_sub r hx).1)).1 (run_sub rm (mapR_in rm (run_sub r hy).1)).1 h
    rwa [back rf sy r st rm hx, back rf sy r st rm hy] at h2
  · exact fun h => mapR_hom sy rm (run_sub r hx).1 (run_sub r hy).1 h
end
/-! ### the same over lists of lines -/
theorem mem_mates {g m : Int} {es : List Edge} : m ∈ mates g es ↔ (g, m) ∈ es ∨ (m, g) ∈ es := by
  unfold mates
  rw [List.mem_filterMap]
  constructor
  · rintro ⟨⟨a, b⟩, he, hf⟩
    simp only at hf
    split at hf
    · rename_i hc
      have hf := Option.some.inj hf
      rcases hc with hc | hc
      · left
        rw [show (g, m) = (a, b) by rw [Prod.mk.injEq]; omega]
        exact he
      · right
        rw [show (m, g) = (a, b) by rw [Prod.mk.injEq]; omega]
        exact he
    · cases hf
  · rintro (h | h)
    · exact ⟨_, h, by simp only [true_or, if_true]; congr 1; omega⟩
    · exact ⟨_, h, by simp only [or_true, if_true]; congr 1; omega⟩
def Adj (es : List Edge) (a b : Int) : Prop := b ∈ a :: mates a es
instance (es : List Edge) (a b : Int) : Decidable (Adj es a b) := by unfold Adj; exact inferInstance
theorem adj_refl (es : List Edge) (a : Int) : Adj es a a := List.mem_cons_self ..
theorem adj_symm {es : List Edge} (a b : Int) (h : Adj es a b) : Adj es b a := by
  unfold Adj at h ⊢
  rcases List.mem_cons.mp h with e | h
  · subst e; exact List.mem_cons_self ..
  · exact List.mem_cons_of_mem _ (mem_mates.mpr ((mem_mates.mp h).symm))
/-- what a place can be folded onto, in the order of the law's own list -/
def ontoM (es : List Edge) (left : List Int) (p : Int) : List Int :=
  let some := (p :: mates p es).filter fun m => decide (m ∈ left)
  some.filter fun m => decide (m ≠ p ∧ (some.filter fun o => !decide (o ∈ m :: mates m es)) = [])
theorem ontoM_mem {es : List Edge} {left : List Int} {p q : Int} (hp : p ∈ left) : q ∈ ontoM es left p ↔ StepOk (Adj es) (· ∈ left) p q := by
  unfold ontoM StepOk
  simp only [List.mem_filter, decide_eq_true_eq, List.filter_eq_nil_iff, Bool.not_eq_true', decide_eq_false_iff_not]
  constructor
  · rintro ⟨⟨h1, h2⟩, h3, h4⟩
    refine ⟨hp, h2, fun e => h3 e.symm, fun z hz ha => ?_⟩
    exact Decidable.not_not.mp (h4 z ⟨ha, hz⟩)
  · rintro ⟨_, h2, h3, h4⟩
    refine ⟨⟨adj_symm _ _ (h4 p hp (adj_refl es p)), h2⟩, fun e => h3 e.symm, fun z hz => ?_⟩
    exact fun hh => hh (h4 z hz.2 hz.1)
def foldableM (es : List Edge) (left : List Int) : List Int := left.filter fun p => decide (ontoM es left p ≠ [])
def without (left : List Int) (p : Int) : List Int := left.filter fun m => decide (m ≠ p)
theorem without_mem {left : List Int} {p x : Int} : x ∈ without left p ↔ x ∈ left ∧ x ≠ p := by
  unfold without
  rw [List.mem_filter, decide_eq_true_eq]
theorem without_lt {left : List Int} {p : Int} (h : left.Pairwise (· < ·)) : (without left p).Pairwise (· < ·) := List.Pairwise.filter _ h
/-- folds by lists: what is left is told too -/
inductive RunL (es : List Edge) : List Int → List Edge → List Int → Prop where
  | nil (left : List Int) : RunL es left [] left
  | cons {left left' : List Int} {p q : Int} {l : List Edge} (hp : p ∈ left) (hq : q ∈ ontoM es left p) (r : RunL es (without left p) l left') : RunL es left ((p, q) :: l) left'
theorem RunL.run {es : List Edge} {left left' : List Int} {l : List Edge} (r : RunL es left l left') : Run (Adj es) (· ∈ left) l (· ∈ left') := by
  induction r with
  | nil left => exact .nil _
  | @cons left left' p q l hp hq r ih =>
    refine .cons ((ontoM_mem hp).mp hq) ?_
    have e : (fun x => x ∈ left ∧ x ≠ p) = (· ∈ without left p) := by
      funext x
      exact propext without_mem.symm
    rw [e]
    exact ih
theorem RunL.snoc {es : List Edge} {left left' : List Int} {l : List Edge} (r : RunL es left l left') {p q : Int} (hp : p ∈ left') (hq : q ∈ ontoM es left' p) : RunL es left (l ++ [(p, q)]) (without left' p) := by
  induction r with
  | nil left => exact .cons hp hq (.nil _)
  | cons hp' hq' r ih => exact .cons hp' hq' (ih hp hq)
theorem RunL.length {es : List Edge} {left left' : List Int} {l : List Edge} (r : RunL es left l left') (nd : left.Nodup) : left'.length + l.length = left.length ∧ left'.Nodup := by
  induction r with
  | nil left => exact ⟨rfl, nd⟩
  | @cons left left' p q l hp hq r ih =>
    have h1 : (without left p).length + 1 = left.length := by
      have h2 : without left p = left.erase p := by
        unfold without
        rw [List.Nodup.erase_eq_filter nd]
        congr 1
        funext x
        by_cases e : x = p <;> simp [e]
      rw [h2, List.length_erase_of_mem hp]
      have : 0 < left.length := List.length_pos_of_mem hp
      omega
    obtain ⟨h3, h4⟩ := ih (nd.filter _)
    rw [List.length_cons]
    exact ⟨by omega, h4⟩
theorem RunL.pos {es : List Edge} {left left' : List Int} {l : List Edge} (r : RunL es left l left') (h : left ≠ []) : left' ≠ [] := by
  induction r with
  | nil left => exact h
  | @cons left left' p q l hp hq r ih =>
    apply ih
    have := (ontoM_mem hp).mp hq
    intro e
    have hm : q ∈ without left p := without_mem.mpr ⟨this.2.1, this.2.2.1.symm⟩
    rw [e] at hm
    cases hm
theorem stiff_of {es : List Edge} {left : List Int} (h : foldableM es left = []) : Stiff (Adj es) (· ∈ left) := by
  intro p q hs
  have hm : p ∈ foldableM es left := by
    unfold foldableM
    rw [List.mem_filter, decide_eq_true_eq]
    refine ⟨hs.1, fun e => ?_⟩
    have := (ontoM_mem hs.1).mpr hs
    rw [e] at this
    cases this
  rw [h] at hm
  cases hm
theorem RunL.sub {es : List Edge} {left left' : List Int} {l : List Edge} (r : RunL es left l left') : ∀ x ∈ left', x ∈ left := fun _ hx => (run_sub r.run hx).1
theorem RunL.lt {es : List Edge} {left left' : List Int} {l : List Edge} (r : RunL es left l left') (h : left.Pairwise (· < ·)) : left'.Pairwise (· < ·) := by
  induction r with
  | nil left => exact h
  | cons hp hq r ih => exact ih (without_lt h)
/-- the map, by places -/
def whereL (n : Nat) (ps : List Edge) : List Int := (List.range (n + 1)).map fun (i : Nat) => mapR ps (i : Int)
theorem whereL_length (n : Nat) (ps : List Edge) : (whereL n ps).length = n + 1 := by simp [whereL]
theorem whereL_get {n : Nat} {ps : List Edge} {i : Nat} (h : i ≤ n) : (whereL n ps)[i]? = some (mapR ps (i : Int)) := by
  unfold whereL
  rw [List.getElem?_map, List.getElem?_range (by omega)]
  rfl
theorem whereL_set {n : Nat} {ps : List Edge} {p q : Nat} (hp : p ≤ n) : (whereL n ps).set p (mapR ps (q : Int)) = whereL n (((p : Int), (q : Int)) :: ps) := by
  apply List.ext_getElem?
  intro i
  rw [List.getElem?_set]
  by_cases hi : i ≤ n
  · rw [whereL_get hi, whereL_get hi, whereL_length]
    by_cases e : p = i
    · subst e
      rw [if_pos rfl, if_pos (by omega)]
      simp [mapR]
    · rw [if_neg e]
      simp only [mapR]
      rw [if_neg (by omega)]
  · rw [if_neg (by omega), List.getElem?_eq_none (by rw [whereL_length]; omega), List.getElem?_eq_none (by rw [whereL_length]; omega)]
/-- the least of a list of numbers -/
def minL : List Int → Int
  | [] => 0
  | x :: r => r.foldl min x
/-- the folds of an order, each onto the least place then -/
def leastM (es : List Edge) : List Int → List Int → List Edge
  | _, [] => []
  | left, p :: r => (p, minL (ontoM es left p)) :: leastM es (without left p) r
theorem foldl_min_mem : ∀ (l : List Int) (a : Int), l.foldl min a ∈ a :: l
  | [], a => List.mem_cons_self ..
  | b :: l, a => by
    rw [List.foldl_cons]
    have h := foldl_min_mem l (min a b)
    rcases List.mem_cons.mp h with h | h
    · rw [h]
      by_cases e : a ≤ b
      · rw [Int.min_eq_left e]; exact List.mem_cons_self ..
      · rw [Int.min_eq_right (by omega)]; exact List.mem_cons_of_mem _ (List.mem_cons_self ..)
    · exact List.mem_cons_of_mem _ (List.mem_cons_of_mem _ h)
theorem foldl_min_le : ∀ (l : List Int) (a : Int), ∀ x ∈ a :: l, l.foldl min a ≤ x
  | [], a, x, h => by simp at h; subst h; exact Int.le_refl _
  | b :: l, a, x, h => by
    rw [List.foldl_cons]
    have h1 := foldl_min_le l (min a b) (min a b) (List.mem_cons_self ..)
    have h2 := Int.min_le_left a b
    have h3 := Int.min_le_right a b
    rcases List.mem_cons.mp h with rfl | h
    · omega
    · rcases List.mem_cons.mp h with rfl | h
      · omega
      · exact foldl_min_le l (min a b) x (List.mem_cons_of_mem _ h)
theorem minL_mem {l : List Int} (h : l ≠ []) : minL l ∈ l := by
  cases l with
  | nil => exact absurd rfl h
  | cons a l => exact foldl_min_mem l a
theorem minL_le {l : List Int} {x : Int} (h : x ∈ l) : minL l ≤ x := by
  cases l with
  | nil => cases h
  | cons a l => exact foldl_min_le l a x h
theorem RunL.least {es : List Edge} {left left' : List Int} {l : List Edge} (r : RunL es left l left') : RunL es left (leastM es left (l.map (·.1))) left' := by
  induction r with
  | nil left => exact .nil _
  | @cons left left' p q l hp hq r ih => exact .cons hp (minL_mem fun e => by rw [e] at hq; cases hq) ih
theorem leastM_fst (es : List Edge) : ∀ (o left : List Int), (leastM es left o).map (·.1) = o
  | [], _ => rfl
  | p :: o, left => by
    unfold leastM
    rw [List.map_cons, leastM_fst es o]
theorem RunL.take {es : List Edge} {left left' : List Int} {l : List Edge} (r : RunL es left l left') : ∀ k, ∃ left2, RunL es left (l.take k) left2 := by
  induction r with
  | nil left => exact fun k => ⟨left, by rw [List.take_nil]; exact .nil _⟩
  | @cons left left' p q l hp hq r ih =>
    intro k
    cases k with
    | zero => exact ⟨left, .nil _⟩
    | succ k =>
      obtain ⟨l2, h⟩ := ih k
      exact ⟨l2, by rw [List.take_succ_cons]; exact .cons hp hq h⟩
end
/-! piece LC -/
section
/-! ### a comprehension that filters and tells -/
theorem lc_gen {K : PySem.W.Frag} {a : Addr} {α : Type} {inj : α → V} {xs : List α} {i : Nat} {tt : TT} {te : TE} {vs : List Nat} {σ : Sl} {H1 : Hp} {D : Addr} {Qd : Hp → Prop} (f : α → Bool) (e : α → V)
    (hl : SqL K H1 a (xs.map inj)) (nD : H1 D = none) (hn : xs.length ≤ 10000) (hw : ∀ v, wipe ((wipe σ vs).set i (some v)) vs = wipe σ vs)
    (ht : ∀ x ∈ xs, ∀ H2, Same H1 H2 → ∀ R : Bool → Hp → Prop, (∀ H3, Same H2 H3 → R (f x) H3) → tt ((wipe σ vs).set i (some (inj x))) H2 R)
    (he : ∀ x ∈ xs, f x = true → ∀ H2, Same H1 H2 → ∀ R : V → Hp → Prop, (∀ H3, Same H2 H3 → R (e x) H3) → te ((wipe σ vs).set i (some (inj x))) H2 R)
    (hd : ∀ H2, Same H1 H2 → H2 D = some (.lst ((xs.filter f).map e)) → Qd H2) :
    ∃ W : Nat → Nat → Hp → Prop, (∃ m, W 0 m (upd H1 D (.lst []))) ∧ ∀ i' m H, W i' m H →
      ((Itl K a).stop i' H ∧ Qd H) ∨ ((Itl K a).go i' H ∧ ∃ Nx : Hp → Prop, (∀ H', Nx H' → ∃ m', m' < m ∧ W (i' + 1) m' H') ∧ ∀ x H', (Itl K a).yld i' H x H' → gName i x (wipe σ vs) H' fun σ2 H2 => wipe σ2 vs = wipe σ vs ∧ tt σ2 H2 fun b H3 =>
        if b = true then te σ2 H3 fun y H4 => ∃ acc, H4 D = some (.lst acc) ∧ acc.length < sizeLine ∧ Nx (upd H4 D (.lst (acc ++ [y]))) else Nx H3) := by
  refine lc_list (K := K) (xs := xs.map inj) (fun j H2 => Same H1 H2 ∧ H2 D = some (.lst (((xs.take j).filter f).map e))) ⟨same_upd (Same.refl _) nD, upd_same⟩ ?_ ?_ ?_
  · rintro j H2 _ ⟨sm, _⟩
    exact sm.seq hl
  · rintro j x H2 hx ⟨sm, hD⟩
    rw [List.getElem?_map] at hx
    cases hv : xs[j]? with
    | none => rw [hv] at hx; cases hx
    | some y =>
      rw [hv] at hx
      cases hx
      have hm := List.mem_of_getElem? hv
      have htk : xs.take (j + 1) = xs.take j ++ [y] := by rw [List.take_add_one, hv]; rfl
      refine ⟨hw _, ht y hm H2 sm _ fun H3 sm3 => ?_⟩
      cases hf : f y with
      | false =>
        refine ifF rfl ⟨sm.trans sm3, ?_⟩
        rw [htk, List.filter_append, List.filter_cons, hf]
        simpa using sm3 _ _ hD
      | true =>
        refine ifT rfl (he y hm hf H3 (sm.trans sm3) _ fun H4 sm4 => ?_)
        refine ⟨_, sm4 _ _ (sm3 _ _ hD), ?_, same_upd ((sm.trans sm3).trans sm4) nD, ?_⟩
        · rw [List.length_map]
          exact Nat.lt_of_le_of_lt (Nat.le_trans (List.length_filter_le ..) (Nat.le_trans (by rw [List.length_take]; exact Nat.min_le_right _ _) hn)) (by decide)
        · rw [upd_same, htk, List.filter_append, List.filter_cons, hf, List.map_append]
          simp
  · rintro H2 ⟨sm, hD⟩
    rw [List.length_map, List.take_length] at hD
    exact hd H2 sm hD
/-- the same where the thing itself is told -/
theorem lc_filt {K : PySem.W.Frag} {a : Addr} {xs : List Int} {i : Nat} {tt : TT} {vs : List Nat} {σ : Sl} {H1 : Hp} {D : Addr} {Qd : Hp → Prop} (f : Int → Bool)
    (hl : SqL K H1 a (xs.map V.int)) (nD : H1 D = none) (hn : xs.length ≤ 10000) (hi : i < σ.length) (hwl : (wipe σ vs).length = σ.length) (hw : ∀ v, wipe ((wipe σ vs).set i (some v)) vs = wipe σ vs)
    (ht : ∀ x ∈ xs, ∀ H2, Same H1 H2 → ∀ R : Bool → Hp → Prop, (∀ H3, Same H2 H3 → R (f x) H3) → tt ((wipe σ vs).set i (some (.int x))) H2 R)
    (hd : ∀ H2, Same H1 H2 → H2 D = some (.lst ((xs.filter f).map V.int)) → Qd H2) :
    ∃ W : Nat → Nat → Hp → Prop, (∃ m, W 0 m (upd H1 D (.lst []))) ∧ ∀ i' m H, W i' m H →
      ((Itl K a).stop i' H ∧ Qd H) ∨ ((Itl K a).go i' H ∧ ∃ Nx : Hp → Prop, (∀ H', Nx H' → ∃ m', m' < m ∧ W (i' + 1) m' H') ∧ ∀ x H', (Itl K a).yld i' H x H' → gName i x (wipe σ vs) H' fun σ2 H2 => wipe σ2 vs = wipe σ vs ∧ tt σ2 H2 fun b H3 =>
        if b = true then tVar i σ2 H3 fun y H4 => ∃ acc, H4 D = some (.lst acc) ∧ acc.length < sizeLine ∧ Nx (upd H4 D (.lst (acc ++ [y]))) else Nx H3) :=
  lc_gen (inj := V.int) f V.int hl nD hn hw ht (fun x _ _ H2 _ R hR => ⟨_, by rw [List.getElem?_set_self (by rw [hwl]; exact hi)], hR H2 (Same.refl _)⟩) hd
end
/-! piece D8m -/
section
/-! ### pairs as tuples -/
structure TsAt (H : Hp) (D : Addr) (rs : List Addr) (es : List Edge) : Prop where
  hD : H D = some (.lst (rs.map V.ref))
  len : rs.length = es.length
  at_ : ∀ (i : Nat) (r : Addr) (e : Edge), rs[i]? = some r → es[i]? = some e → H r = some (.tup [.int e.1, .int e.2])
theorem TsAt.mem {H : Hp} {D : Addr} {rs : List Addr} {es : List Edge} (h : TsAt H D rs es) {r : Addr} (hr : r ∈ rs) : ∃ e ∈ es, H r = some (.tup [.int e.1, .int e.2]) := by
  obtain ⟨i, hi⟩ := List.getElem?_of_mem hr
  have hl : i < es.length := by rw [← h.len]; exact (List.getElem?_eq_some_iff.mp hi).1
  exact ⟨es[i], List.getElem_mem hl, h.at_ i r _ hi (List.getElem?_eq_getElem hl)⟩
theorem TsAt.ne {H : Hp} {D : Addr} {rs : List Addr} {es : List Edge} (h : TsAt H D rs es) {r : Addr} (hr : r ∈ rs) : r ≠ D := by
  obtain ⟨e, _, he⟩ := h.mem hr
  exact ne_of he h.hD (by intro q; cases q)
theorem TsAt.nil {H : Hp} {D : Addr} (h : H D = some (.lst [])) : TsAt H D [] [] := ⟨h, rfl, fun i r e h _ => by simp at h⟩
theorem TsAt.same {H H' : Hp} {D : Addr} {rs : List Addr} {es : List Edge} (h : TsAt H D rs es) (s : Same H H') : TsAt H' D rs es :=
  ⟨s _ _ h.hD, h.len, fun i r e a b => s _ _ (h.at_ i r e a b)⟩
theorem TsAt.push {H : Hp} {D r : Addr} {rs : List Addr} {es : List Edge} (h : TsAt H D rs es) (nr : H r = none) (e : Edge) :
    TsAt (upd (upd H r (.tup [.int e.1, .int e.2])) D (.lst (rs.map V.ref ++ [V.ref r]))) D (rs ++ [r]) (es ++ [e]) := by
  have hDr : D ≠ r := ne_of_none h.hD nr
  refine ⟨?_, ?_, ?_⟩
  · rw [upd_same, List.map_append]
    rfl
  · rw [List.length_append, List.length_append, h.len]
    rfl
  · intro i a u ha hu
    by_cases hi : i < rs.length
    · rw [List.getElem?_append_left hi] at ha
      rw [List.getElem?_append_left (by rw [← h.len]; exact hi)] at hu
      rw [upd_ne (h.ne (List.mem_of_getElem? ha)), upd_ne (ne_of_none (h.at_ i a u ha hu) nr)]
      exact h.at_ i a u ha hu
    · rw [List.getElem?_append_right (by omega)] at ha
      rw [List.getElem?_append_right (by rw [← h.len]; omega), ← h.len] at hu
      have e0 : i - rs.length = 0 := by
        have := (List.getElem?_eq_some_iff.mp ha).1
        simp at this
        omega
      rw [e0] at ha hu
      simp at ha hu
      subst ha hu
      rw [upd_ne hDr.symm, upd_same]
theorem TsAt.cat {H : Hp} {D D2 p : Addr} {rs rs2 : List Addr} {es es2 : List Edge} (h : TsAt H D rs es) (h2 : TsAt H D2 rs2 es2) (np : H p = none) :
    TsAt (upd H p (.lst (rs.map V.ref ++ rs2.map V.ref))) p (rs ++ rs2) (es ++ es2) := by
  refine ⟨by rw [upd_same, List.map_append], by rw [List.length_append, List.length_append, h.len, h2.len], ?_⟩
  intro i a u ha hu
  by_cases hi : i < rs.length
  · rw [List.getElem?_append_left hi] at ha
    rw [List.getElem?_append_left (by rw [← h.len]; exact hi)] at hu
    rw [upd_ne (ne_of_none (h.at_ i a u ha hu) np)]
    exact h.at_ i a u ha hu
  · rw [List.getElem?_append_right (by omega)] at ha
    rw [List.getElem?_append_right (by rw [← h.len]; omega), ← h.len] at hu
    rw [upd_ne (ne_of_none (h2.at_ _ a u ha hu) np)]
    exact h2.at_ _ a u ha hu

theorem for_enum {K : PySem.W.Frag} {a : Addr} {xs : List V} {g : TG} {tb : TS} {D : Ends} {σ : Sl} {H : Hp} (Pv : Nat → Sl → Hp → Prop) (h0 : Pv 0 σ H) (hl : ∀ i σ H, i ≤ xs.length → Pv i σ H → SqL K H a xs)
    (hs : ∀ (i : Nat) x T σ H, xs[i]? = some x → Pv i σ H → H T = none → g (.ref T) σ (upd H T (.tup [.int (i : Nat), x])) fun σ2 H2 => tb { D with nx := Pv (i + 1), ct := Pv (i + 1), bk := D.nx } σ2 H2)
    (hd : ∀ σ H, Pv xs.length σ H → D.nx σ H) :
    ∃ W : Nat → Nat → Sl → Hp → Prop, (∃ m, W 0 m σ H) ∧ ∀ i m σ H, W i m σ H →
      ((Ite K a).stop i H ∧ D.nx σ H) ∨ ((Ite K a).go i H ∧ ∃ N : Sl → Hp → Prop, (∀ σ' H', N σ' H' → ∃ m', m' < m ∧ W (i + 1) m' σ' H') ∧
        ∀ x H', (Ite K a).yld i H x H' → g x σ H' fun σ2 H2 => tb { D with nx := N, ct := N, bk := D.nx } σ2 H2) := by
  refine ⟨fun i m σ H => m = xs.length - i ∧ i ≤ xs.length ∧ Pv i σ H, ⟨xs.length, by simp, Nat.zero_le _, h0⟩, ?_⟩
  rintro i m σ H ⟨rfl, hi, p⟩
  have q := hl i σ H hi p
  by_cases hlt : i < xs.length
  · refine Or.inr ⟨⟨xs, xs[i], q, List.getElem?_eq_getElem hlt⟩, Pv (i + 1), fun σ' H' p' => ⟨xs.length - (i + 1), by omega, rfl, hlt, p'⟩, ?_⟩
    rintro x H' ⟨T, y, rfl, nT, rfl, hx⟩
    exact hs i y T σ H (hx xs q) p nT
  · obtain rfl : i = xs.length := by omega
    exact Or.inl ⟨⟨xs, q, Nat.le_refl _⟩, hd σ H p⟩
theorem inV_ints (x : Int) : ∀ t : List Int, inV (.int x) (t.map V.int) = decide (x ∈ t)
  | [] => rfl
  | a :: t => by
    have h := inV_ints x t
    unfold inV at h ⊢
    rw [List.map_cons, List.any_cons, h]
    by_cases hx : a = x
    · subst hx; simp [eqV]
    · have : ¬ x = a := fun e => hx e.symm
      simp [eqV, hx, this]
theorem flat_ints : ∀ t : List Int, (t.map V.int).all flatV = true
  | [] => rfl
  | _ :: t => by rw [List.map_cons, List.all_cons, flat_ints t]; rfl
/-! ### the product, told place by place -/
def partsM (n m : Nat) : List Edge := (List.range n).flatMap fun (a : Nat) => (List.range m).map fun (b : Nat) => ((a : Int) + 1, (b : Int) + 1)
def joinM (es fs : List Edge) (ps : List Edge) (i j : Nat) : Option Edge :=
  match ps[i]?, ps[j]? with
  | some x, some y => if i < j ∧ y.1 ∈ x.1 :: mates x.1 es ∧ y.2 ∈ x.2 :: mates x.2 fs then some ((i : Int) + 1, (j : Int) + 1) else none
  | _, _ => none
def prodM (n : Nat) (es : List Edge) (m : Nat) (fs : List Edge) : List Edge :=
  (List.range (partsM n m).length).flatMap fun i => (List.range (partsM n m).length).filterMap fun j => joinM es fs (partsM n m) i j
theorem partsM_length (n m : Nat) : (partsM n m).length = n * m := by
  unfold partsM
  induction n with
  | zero => simp
  | succ n ih =>
    rw [List.range_succ, List.flatMap_append, List.length_append, ih, Nat.succ_mul]
    simp
theorem partsM_rng {n m : Nat} {e : Edge} (h : e ∈ partsM n m) : 1 ≤ e.1 ∧ e.1 ≤ n ∧ 1 ≤ e.2 ∧ e.2 ≤ m := by
  unfold partsM at h
  obtain ⟨a, ha, h2⟩ := List.mem_flatMap.mp h
  obtain ⟨b, hb, rfl⟩ := List.mem_map.mp h2
  have := List.mem_range.mp ha
  have := List.mem_range.mp hb
  simp only
  omega
theorem range_flat {α : Type} (f : Nat → List α) (i : Nat) : (List.range (i + 1)).flatMap f = (List.range i).flatMap f ++ f i := by
  rw [List.range_succ, List.flatMap_append]
  simp
theorem range_fm {α : Type} (f : Nat → Option α) (i : Nat) : (List.range (i + 1)).filterMap f = (List.range i).filterMap f ++ (f i).toList := by
  rw [List.range_succ, List.filterMap_append]
  cases h : f i <;> simp [List.filterMap_cons, h]
end
/-! piece NB -/
section
/-! ### lots as numbers: the bits -/
def nb0 (n : Nat) : List Nat := 0 :: (List.range n).map fun i => 2 ^ (i + 1)
def addB (t : List Nat) (e : Edge) : List Nat := (t.modify e.1.toNat (· ||| 2 ^ e.2.toNat)).modify e.2.toNat (· ||| 2 ^ e.1.toNat)
def nearB (n : Nat) (es : List Edge) : List Nat := es.foldl addB (nb0 n)
theorem addB_length (t : List Nat) (e : Edge) : (addB t e).length = t.length := by
  unfold addB
  rw [List.length_modify, List.length_modify]
theorem foldl_addB_length : ∀ (es : List Edge) (t : List Nat), (es.foldl addB t).length = t.length
  | [], _ => rfl
  | e :: es, t => by rw [List.foldl_cons, foldl_addB_length es, addB_length]
theorem nb0_length (n : Nat) : (nb0 n).length = n + 1 := by simp [nb0]
theorem nearB_length (n : Nat) (es : List Edge) : (nearB n es).length = n + 1 := by
  unfold nearB
  rw [foldl_addB_length, nb0_length]
theorem addB_swap (t : List Nat) {a b : Int} (h : a.toNat ≠ b.toNat) : addB t (a, b) = addB t (b, a) := by
  unfold addB
  apply List.ext_getElem?
  intro i
  simp only [List.getElem?_modify]
  by_cases h1 : a.toNat = i <;> by_cases h2 : b.toNat = i
  · omega
  · cases t[i]? <;> simp [h1, h2]
  · cases t[i]? <;> simp [h1, h2]
  · cases t[i]? <;> simp [h1, h2]
/-- the bits of the entry at p -/
theorem addB_bit {t : List Nat} {e : Edge} {p : Nat} {v : Nat} (h1 : 1 ≤ e.1) (h2 : 1 ≤ e.2) (hne : e.1 ≠ e.2) (h : t[p]? = some v) :
    ∃ u, (addB t e)[p]? = some u ∧ ∀ k : Nat, u.testBit k = (v.testBit k || decide ((e.1 = p ∧ e.2 = k) ∨ (e.2 = p ∧ e.1 = k))) := by
  unfold addB
  simp only [List.getElem?_modify, h]
  by_cases a1 : e.1.toNat = p <;> by_cases a2 : e.2.toNat = p
  · omega
  · refine ⟨v ||| 2 ^ e.2.toNat, by simp [a1, a2], fun k => ?_⟩
    rw [Nat.testBit_or, Nat.testBit_two_pow]
    congr 1
    apply decide_eq_decide.mpr
    omega
  · refine ⟨v ||| 2 ^ e.1.toNat, by simp [a1, a2], fun k => ?_⟩
    rw [Nat.testBit_or, Nat.testBit_two_pow]
    congr 1
    apply decide_eq_decide.mpr
    omega
  · refine ⟨v, by simp [a1, a2], fun k => ?_⟩
    have : decide ((e.1 = p ∧ e.2 = k) ∨ (e.2 = p ∧ e.1 = k)) = false := by
      apply decide_eq_false
      omega
    rw [this, Bool.or_false]
theorem foldl_addB_bit {p : Nat} : ∀ (es : List Edge) (t : List Nat) (v : Nat), (∀ e ∈ es, 1 ≤ e.1 ∧ 1 ≤ e.2 ∧ e.1 ≠ e.2) → t[p]? = some v →
    ∃ u, (es.foldl addB t)[p]? = some u ∧ ∀ k : Nat, u.testBit k = (v.testBit k || decide ((k : Int) ∈ mates p es))
  | [], t, v, _, h => ⟨v, h, fun k => by simp [mates]⟩
  | e :: es, t, v, hr, h => by
    have he := hr e (List.mem_cons_self ..)
    obtain ⟨u1, h1, b1⟩ := addB_bit he.1 he.2.1 he.2.2 h
    obtain ⟨u, h2, b2⟩ := foldl_addB_bit es (addB t e) u1 (fun x hx => hr x (List.mem_cons_of_mem _ hx)) h1
    refine ⟨u, h2, fun k => ?_⟩
    rw [b2, b1, Bool.or_assoc]
    congr 1
    rw [← Bool.decide_or]
    apply decide_eq_decide.mpr
    unfold mates
    rw [List.filterMap_cons]
    by_cases hc : e.1 = (p : Int) ∨ e.2 = (p : Int)
    · rw [if_pos hc]
      simp only [List.mem_cons]
      constructor
      · rintro (h | h)
        · left; omega
        · exact .inr h
      · rintro (h | h)
        · left; omega
        · exact .inr h
    · rw [if_neg hc]
      simp only
      constructor
      · rintro (h | h)
        · exact absurd (by omega) hc
        · exact h
      · exact .inr
theorem nearB_bit {n : Nat} {es : List Edge} (hr : ∀ e ∈ es, 1 ≤ e.1 ∧ 1 ≤ e.2 ∧ e.1 ≠ e.2) {p : Nat} (h1 : 1 ≤ p) (h2 : p ≤ n) :
    ∃ u, (nearB n es)[p]? = some u ∧ ∀ k : Nat, u.testBit k = decide ((k : Int) ∈ (p : Int) :: mates p es) := by
  have h0 : (nb0 n)[p]? = some (2 ^ p) := by
    unfold nb0
    cases p with
    | zero => omega
    | succ q =>
      rw [List.getElem?_cons_succ, List.getElem?_map, List.getElem?_range (by omega)]
      rfl
  obtain ⟨u, h3, h4⟩ := foldl_addB_bit es (nb0 n) _ hr h0
  refine ⟨u, h3, fun k => ?_⟩
  rw [h4, Nat.testBit_two_pow, ← Bool.decide_or]
  apply decide_eq_decide.mpr
  rw [List.mem_cons]
  constructor
  · rintro (h | h)
    · left; omega
    · exact .inr h
  · rintro (h | h)
    · left; omega
    · exact .inr h
theorem nearB_zero {n : Nat} {es : List Edge} (hr : ∀ e ∈ es, 1 ≤ e.1 ∧ 1 ≤ e.2 ∧ e.1 ≠ e.2) : (nearB n es)[0]? = some 0 := by
  obtain ⟨u, h3, h4⟩ := foldl_addB_bit (p := 0) es (nb0 n) 0 hr rfl
  have : u = 0 := by
    apply Nat.eq_of_testBit_eq
    intro k
    rw [h4, Nat.zero_testBit, Bool.false_or]
    apply decide_eq_false
    intro h
    obtain ⟨e, he, hf⟩ := List.mem_filterMap.mp h
    have := hr e he
    split at hf
    · omega
    · cases hf
  subst this
  exact h3
theorem and_pow_zero {v k : Nat} (h : v.testBit k = false) : v &&& 2 ^ k = 0 := by
  apply Nat.eq_of_testBit_eq
  intro i
  rw [Nat.testBit_and, Nat.testBit_two_pow, Nat.zero_testBit]
  by_cases e : k = i
  · subst e; rw [h]; rfl
  · simp [e]
/-- a line that no earlier one joins: its bit is not there yet -/
theorem fresh_bit {n : Nat} {es : List Edge} {a b : Nat} (hr : ∀ e ∈ es, 1 ≤ e.1 ∧ 1 ≤ e.2 ∧ e.1 ≠ e.2) (ha : 1 ≤ a) (han : a ≤ n) (hab : a ≠ b)
    (hf : ∀ e ∈ es, Apart e ((a : Int), (b : Int))) : ∃ u, (nearB n es)[a]? = some u ∧ u &&& 2 ^ b = 0 := by
  obtain ⟨u, h1, h2⟩ := nearB_bit hr ha han
  refine ⟨u, h1, and_pow_zero ?_⟩
  rw [h2]
  apply decide_eq_false
  rw [List.mem_cons]
  rintro (h | h)
  · omega
  · obtain ⟨e, he, hx⟩ := List.mem_filterMap.mp h
    have q := hf e he
    have q1 := q.1
    have q2 := q.2
    obtain ⟨e1, e2⟩ := e
    simp only at hx
    split at hx
    · rename_i hc
      have hx := Option.some.inj hx
      rcases hc with hc | hc
      · exact q1 (by rw [Prod.mk.injEq]; exact ⟨hc, by omega⟩)
      · exact q2 (by rw [Prod.mk.injEq]; exact ⟨by omega, hc⟩)
    · cases hx
/-! ### the places of a lot -/
def bitLen (v : Nat) : Nat := if v = 0 then 0 else v.log2 + 1
theorem bit_lt {v k : Nat} (h : v.testBit k = true) : k < bitLen v := by
  unfold bitLen
  by_cases e : v = 0
  · subst e; simp at h
  · rw [if_neg e]
    have h1 := Nat.ge_two_pow_of_testBit h
    have h2 := (Nat.le_log2 e).mpr h1
    omega
def membersM (v : Nat) : List Int := ((List.range (bitLen v - 1)).map fun (i : Nat) => (i : Int) + 1).filter fun x => v.testBit x.toNat
theorem membersM_lt (v : Nat) : (membersM v).Pairwise (· < ·) := by
  unfold membersM
  apply List.Pairwise.filter
  rw [List.pairwise_map]
  exact List.pairwise_lt_range.imp fun h => by omega
theorem membersM_mem (v : Nat) (x : Int) : x ∈ membersM v ↔ 1 ≤ x ∧ v.testBit x.toNat = true := by
  unfold membersM
  rw [List.mem_filter]
  constructor
  · rintro ⟨h1, h2⟩
    obtain ⟨i, hi, rfl⟩ := List.mem_map.mp h1
    exact ⟨by omega, h2⟩
  · rintro ⟨h1, h2⟩
    have := bit_lt h2
    exact ⟨List.mem_map.mpr ⟨(x - 1).toNat, List.mem_range.mpr (by omega), by omega⟩, h2⟩
theorem membersM_near {n : Nat} {es : List Edge} (h : Simp n es) {p : Nat} (h1 : 1 ≤ p) (h2 : p ≤ n) :
    ∃ u, (nearB n es)[p]? = some u ∧ membersM u = besideM n es p := by
  obtain ⟨u, hu, hb⟩ := nearB_bit (n := n) (es := es) (fun e he => by have := h.rng e he; omega) h1 h2
  refine ⟨u, hu, lt_unique (membersM_lt u) (besideM_lt n es p) fun x => ?_⟩
  rw [membersM_mem, besideM_mem h (by omega) (by omega)]
  constructor
  · rintro ⟨h3, h4⟩
    rw [hb] at h4
    have := of_decide_eq_true h4
    rwa [show ((x.toNat : Nat) : Int) = x by omega] at this
  · intro h3
    have : 1 ≤ x := by
      rcases List.mem_cons.mp h3 with e | e
      · omega
      · exact (mates_rng h x e).1
    refine ⟨this, ?_⟩
    rw [hb]
    apply decide_eq_true
    rwa [show ((x.toNat : Nat) : Int) = x by omega]
theorem nearB_members {n : Nat} {es : List Edge} (h : Simp n es) : (nearB n es).map membersM = [] :: (List.range n).map fun (i : Nat) => besideM n es ((i : Int) + 1) := by
  apply List.ext_getElem?
  intro i
  rw [List.getElem?_map]
  by_cases h0 : i = 0
  · subst h0
    rw [nearB_zero (fun e he => by have := h.rng e he; omega)]
    rfl
  · obtain ⟨j, rfl⟩ : ∃ j, i = j + 1 := ⟨i - 1, by omega⟩
    by_cases hi : j < n
    · obtain ⟨u, hu, hm⟩ := membersM_near h (p := j + 1) (by omega) (by omega)
      rw [hu, List.getElem?_cons_succ, List.getElem?_map, List.getElem?_range hi]
      simp only [Option.map_some]
      rw [hm]
      rfl
    · rw [List.getElem?_eq_none (by rw [nearB_length]; omega), List.getElem?_eq_none (by simp; omega)]
      rfl
theorem nearB_small {n : Nat} {es : List Edge} (h : Simp n es) {p u : Nat} (hu : (nearB n es)[p]? = some u) : u < 2 ^ (n + 1) := by
  apply Nat.lt_pow_two_of_testBit
  intro k hk
  have hp : p < n + 1 := by
    have := (List.getElem?_eq_some_iff.mp hu).1
    rwa [nearB_length] at this
  by_cases h0 : p = 0
  · subst h0
    rw [nearB_zero (fun e he => by have := h.rng e he; omega)] at hu
    cases hu
    exact Nat.zero_testBit _
  · obtain ⟨v, hv, hb⟩ := nearB_bit (n := n) (es := es) (fun e he => by have := h.rng e he; omega) (p := p) (by omega) (by omega)
    rw [hu] at hv
    cases hv
    rw [hb]
    apply decide_eq_false
    intro hm
    rcases List.mem_cons.mp hm with e | e
    · omega
    · have := mates_rng h _ e
      omega
end
/-! piece LT -/
section
/-! ### lots and what can be folded -/
def LotIs (v : Nat) (left : List Int) : Prop := ∀ k : Nat, v.testBit k = decide ((k : Int) ∈ left)
/-- one of those onto which a place can be folded, by bits -/
def Good (es : List Edge) (n v p j : Nat) : Prop := ∃ u m, (nearB n es)[j]? = some u ∧ (nearB n es)[p]? = some m ∧ u &&& (m &&& v) = (m &&& v) ∧ j ≠ p ∧ v.testBit j = true
theorem and_sub {u m : Nat} : u &&& m = m ↔ ∀ k, m.testBit k = true → u.testBit k = true := by
  constructor
  · intro h k hk
    have := congrArg (fun x => x.testBit k) h
    simp only [Nat.testBit_and, hk, Bool.and_true] at this
    exact this
  · intro h
    apply Nat.eq_of_testBit_eq
    intro k
    rw [Nat.testBit_and]
    cases hm : m.testBit k with
    | false => simp
    | true => rw [h k hm]; rfl
theorem good_iff {es : List Edge} {n v p j : Nat} {left : List Int} (hS : Simp n es) (hv : LotIs v left) (hI : ∀ x ∈ left, 1 ≤ x ∧ x ≤ n) (hp : (p : Int) ∈ left) (hj : j ≤ n) :
    Good es n v p j ↔ (j : Int) ∈ ontoM es left p := by
  have hr : ∀ e ∈ es, 1 ≤ e.1 ∧ 1 ≤ e.2 ∧ e.1 ≠ e.2 := fun e he => by have := hS.rng e he; omega
  have hpr := hI _ hp
  obtain ⟨m, hm, bm⟩ := nearB_bit hr (p := p) (n := n) (by omega) (by omega)
  rw [ontoM_mem hp]
  constructor
  · rintro ⟨u, m2, hu, hm2, hs, hne, hb⟩
    rw [hm] at hm2
    cases hm2
    rw [hv] at hb
    have hjl := of_decide_eq_true hb
    have hjr := hI _ hjl
    obtain ⟨u2, hu2, bu⟩ := nearB_bit hr (p := j) (n := n) (by omega) (by omega)
    rw [hu] at hu2
    cases hu2
    refine ⟨hp, hjl, fun e => hne (by omega), fun z hz ha => ?_⟩
    have hzr := hI z hz
    have h1 := and_sub.mp hs z.toNat (by rw [Nat.testBit_and, bm, hv, show ((z.toNat : Nat) : Int) = z by omega, decide_eq_true hz, Bool.and_true]; exact decide_eq_true ha)
    rw [bu, show ((z.toNat : Nat) : Int) = z by omega] at h1
    exact of_decide_eq_true h1
  · rintro ⟨_, hjl, hne, hn⟩
    have hjr := hI _ hjl
    obtain ⟨u, hu, bu⟩ := nearB_bit hr (p := j) (n := n) (by omega) (by omega)
    refine ⟨u, m, hu, hm, and_sub.mpr fun k hk => ?_, fun e => hne (by omega), ?_⟩
    · rw [Nat.testBit_and, bm, hv, Bool.and_eq_true, decide_eq_true_eq, decide_eq_true_eq] at hk
      rw [bu]
      exact decide_eq_true (hn _ hk.2 hk.1)
    · rw [hv]
      exact decide_eq_true hjl
/-- the least place onto which a place can be folded, 0 if none -/
def ftM (es : List Edge) (left : List Int) (p : Int) : Int := if p ∈ left then minL (ontoM es left p) else 0
theorem ftM_none {es : List Edge} {left : List Int} {p : Int} (h : ∀ q, q ∉ ontoM es left p) : ftM es left p = 0 := by
  unfold ftM
  split
  · have : ontoM es left p = [] := List.eq_nil_iff_forall_not_mem.mpr h
    rw [this]; rfl
  · rfl
theorem ftM_some {es : List Edge} {left : List Int} {p q : Int} (hp : p ∈ left) (hq : q ∈ ontoM es left p) (h : ∀ x ∈ ontoM es left p, q ≤ x) : ftM es left p = q := by
  unfold ftM
  rw [if_pos hp]
  have h1 := minL_le hq
  have h2 := h _ (minL_mem fun e => by rw [e] at hq; cases hq)
  omega
theorem ftM_zero {es : List Edge} {left : List Int} {p : Int} (hI : ∀ x ∈ left, 1 ≤ x) (hp : p ∈ left) : ftM es left p = 0 ↔ ontoM es left p = [] := by
  unfold ftM
  rw [if_pos hp]
  constructor
  · intro h
    apply Classical.byContradiction
    intro hne
    have := minL_mem hne
    have h2 := ((ontoM_mem hp).mp this).2.1
    have := hI _ h2
    omega
  · intro h; rw [h]; rfl
theorem xor_pow {v p : Nat} {left : List Int} (hv : LotIs v left) (hp : (p : Int) ∈ left) : LotIs (v ^^^ 2 ^ p) (without left p) := by
  intro k
  rw [Nat.testBit_xor, hv, Nat.testBit_two_pow]
  by_cases e : p = k
  · subst e
    rw [decide_eq_true hp, decide_eq_true rfl]
    symm
    apply decide_eq_false
    intro h
    exact (without_mem.mp h).2 rfl
  · rw [decide_eq_false e, Bool.xor_false]
    apply decide_eq_decide.mpr
    rw [without_mem]
    constructor
    · exact fun h => ⟨h, fun h2 => e (by omega)⟩
    · exact fun h => h.1
theorem whole_is (n : Nat) : LotIs (2 ^ (n + 1) - 2) ((List.range n).map fun (i : Nat) => (i : Int) + 1) := by
  intro k
  have e : (2 ^ (n + 1) - 2) = (2 ^ n - 1) * 2 := by
    rw [Nat.pow_succ, Nat.sub_mul]
  have hb : ((2 ^ n - 1) * 2).testBit k = (decide (1 ≤ k) && decide (k - 1 < n)) := by
    have h2 : (2 ^ n - 1) * 2 = (2 ^ n - 1) <<< 1 := by rw [Nat.shiftLeft_eq, Nat.pow_one]
    rw [h2, Nat.testBit_shiftLeft, Nat.testBit_two_pow_sub_one]
  rw [e, hb, ← Bool.decide_and]
  apply decide_eq_decide.mpr
  constructor
  · intro h
    exact List.mem_map.mpr ⟨k - 1, List.mem_range.mpr h.2, by omega⟩
  · intro h
    obtain ⟨i, hi, he⟩ := List.mem_map.mp h
    have := List.mem_range.mp hi
    omega
theorem members_lot {v : Nat} {left : List Int} (hv : LotIs v left) (hl : left.Pairwise (· < ·)) (hI : ∀ x ∈ left, 1 ≤ x) : membersM v = left := by
  refine lt_unique (membersM_lt v) hl fun x => ?_
  rw [membersM_mem, hv, decide_eq_true_eq]
  constructor
  · rintro ⟨h1, h2⟩
    rwa [show ((x.toNat : Nat) : Int) = x by omega] at h2
  · intro h
    have := hI x h
    exact ⟨this, by rwa [show ((x.toNat : Nat) : Int) = x by omega]⟩
theorem lot_small {v n : Nat} {left : List Int} (hv : LotIs v left) (hI : ∀ x ∈ left, x ≤ n) : v < 2 ^ (n + 1) := by
  apply Nat.lt_pow_two_of_testBit
  intro k hk
  rw [hv]
  apply decide_eq_false
  intro h
  have := hI _ h
  omega
def allM (n : Nat) : List Int := (List.range n).map fun (i : Nat) => (i : Int) + 1
theorem allM_mem {n : Nat} {x : Int} : x ∈ allM n ↔ 1 ≤ x ∧ x ≤ n := by
  unfold allM
  constructor
  · intro h
    obtain ⟨i, hi, rfl⟩ := List.mem_map.mp h
    have := List.mem_range.mp hi
    omega
  · intro h
    exact List.mem_map.mpr ⟨(x - 1).toNat, List.mem_range.mpr (by omega), by omega⟩
theorem allM_lt (n : Nat) : (allM n).Pairwise (· < ·) := by
  unfold allM
  rw [List.pairwise_map]
  exact List.pairwise_lt_range.imp fun h => by omega
end
/-! piece PSF -/
section
structure PsF (H0 H : Hp) (D : Addr) (rs : List Addr) (es : List Edge) : Prop where
  ps : PsAt H D rs es
  nd : rs.Nodup
  fr : ∀ r ∈ rs, H0 r = none
theorem PsF.push {H0 H : Hp} {D r : Addr} {rs : List Addr} {es : List Edge} (h : PsF H0 H D rs es) (nr : H r = none) (n0 : H0 r = none) (e : Edge) :
    PsF H0 (upd (upd H r (.lst [.int e.1, .int e.2])) D (.lst (rs.map V.ref ++ [V.ref r]))) D (rs ++ [r]) (es ++ [e]) := by
  refine ⟨h.ps.push nr e, ?_, ?_⟩
  · rw [List.nodup_append]
    refine ⟨h.nd, by simp, ?_⟩
    intro a ha b hb
    simp at hb
    subst hb
    rintro rfl
    obtain ⟨e, _, he⟩ := h.ps.mem ha
    rw [nr] at he
    cases he
  · intro a ha
    rcases List.mem_append.mp ha with ha | ha
    · exact h.fr a ha
    · simp at ha
      subst ha
      exact n0
/-- one such list behind another one, in its place -/
theorem PsF.ext {H0 H H2 : Hp} {L D : Addr} {rs rs2 : List Addr} {es es2 : List Edge} (h : PsF H0 H L rs es) (s : Same H H2) (h2 : PsF H H2 D rs2 es2) (h0 : Same H0 H) (nL : H0 L = none) :
    PsF H0 (upd H2 L (.lst (rs.map V.ref ++ rs2.map V.ref))) L (rs ++ rs2) (es ++ es2) := by
  have k1 : ∀ r ∈ rs2, r ≠ L := fun r hr e => by
    have := h2.fr r hr
    rw [e, h.ps.hD] at this
    cases this
  have k2 : ∀ r ∈ rs, r ≠ L := fun r hr => h.ps.ne hr
  refine ⟨⟨by rw [upd_same, List.map_append], by rw [List.length_append, List.length_append, h.ps.len, h2.ps.len], ?_⟩, ?_, ?_⟩
  · intro i a u ha hu
    by_cases hi : i < rs.length
    · rw [List.getElem?_append_left hi] at ha
      rw [List.getElem?_append_left (by rw [← h.ps.len]; exact hi)] at hu
      rw [upd_ne (k2 a (List.mem_of_getElem? ha))]
      exact s _ _ (h.ps.at_ i a u ha hu)
    · rw [List.getElem?_append_right (by omega)] at ha
      rw [List.getElem?_append_right (by rw [← h.ps.len]; omega), ← h.ps.len] at hu
      rw [upd_ne (k1 a (List.mem_of_getElem? ha))]
      exact h2.ps.at_ _ a u ha hu
  · rw [List.nodup_append]
    refine ⟨h.nd, h2.nd, ?_⟩
    intro a ha b hb e
    subst e
    obtain ⟨e, _, he⟩ := h.ps.mem ha
    rw [h2.fr a hb] at he
    cases he
  · intro a ha
    rcases List.mem_append.mp ha with ha | ha
    · exact h.fr a ha
    · exact h0.free (h2.fr a ha)
end
/-! piece IN -/
section
variable {P : Program} {w : World} {K : PySem.W.Frag} {mg : Str → Option Value} {base : Heap}
/-! ### the law's onto, foldable -/
def iL (xs : List Int) : HO := .lst (xs.map V.int)
structure InNet (n : Nat) (left : List Int) : Prop where
  lt : left.Pairwise (· < ·)
  rng : ∀ x ∈ left, 1 ≤ x ∧ x ≤ n
theorem dp_dI' {K : PySem.W.Frag} {H : Hp} {p : Addr} {xs : List Int} (h : SqL K H p (xs.map V.int)) : Dp K H (.ref p) (.list (xs.map PyData.int)) := .lst h (dp_ints xs)
theorem shaped_ints (xs : List Int) : SeqAt.shaped (.list (xs.map PyData.int)) = true := by
  have h : ∀ ys : List Int, PyData.canLayAll0 (ys.map PyData.int) = true ∧ PyData.depthAll (ys.map PyData.int) ≤ 0 := fun ys => by
    induction ys with
    | nil => exact ⟨rfl, Nat.le_refl _⟩
    | cons y r ih =>
      rw [List.map_cons]
      refine ⟨?_, ?_⟩
      · unfold PyData.canLayAll0; rw [ih.1]; rfl
      · unfold PyData.depthAll; exact Nat.max_le.mpr ⟨Nat.le_refl _, ih.2⟩
  unfold SeqAt.shaped PyData.canLay0 PyData.depth
  rw [(h xs).1, decide_eq_true (by have := (h xs).2; omega)]
  rfl
variable {P : Program} {w : World} {K : PySem.W.Frag} {mg : Str → Option Value} {base : Heap}
theorem Lists.same {H H' : Hp} {p : Addr} {ts : List (List Int)} (h : Lists H p ts) (s : Same H H') : Lists H' p ts := by
  obtain ⟨rs, a, b, c, e⟩ := h
  exact ⟨rs, s _ _ a, b, c, fun i r t x y => s _ _ (e i r t x y)⟩
theorem Lists.but {H H' : Hp} {d p : Addr} {k : Int} {ts : List (List Int)} (h : Lists H p ts) (s : SameBut d H H') (hd : Dr H d k) : Lists H' p ts := by
  obtain ⟨rs, a, b, c, e⟩ := h
  exact ⟨rs, s _ _ (hd.ne_refs a) a, b, c, fun i r t x y => s _ _ (hd.ne_ints (e i r t x y)) (e i r t x y)⟩
theorem PsF.but {H0 H H' : Hp} {d D : Addr} {k : Int} {rs : List Addr} {es : List Edge} (h : PsF H0 H D rs es) (s : SameBut d H H') (hd : Dr H d k) : PsF H0 H' D rs es := ⟨h.ps.but s hd, h.nd, h.fr⟩
theorem PsF.same {H0 H H' : Hp} {D : Addr} {rs : List Addr} {es : List Edge} (h : PsF H0 H D rs es) (s : Same H H') : PsF H0 H' D rs es := ⟨h.ps.same s, h.nd, h.fr⟩
theorem Dr.trk {H : Hp} {d p : Addr} {k : Int} (h : Dr H d k) (np : H p = Option.none) : p ≠ d := by
  obtain ⟨a, b, e, _⟩ := h
  exact (ne_of_none e np).symm
theorem SameBut.fr0 {d : Addr} {H H' : Hp} (s : SameBut d H H') {p : Addr} (np : H' p = Option.none) (hd : p ≠ d) : H p = Option.none := by
  cases e : H p with
  | none => rfl
  | some o => rw [s p o hd e] at np; cases np
theorem InNet.len {n : Nat} {left : List Int} (h : InNet n left) : left.length ≤ n := nodup_le n left (h.lt.imp fun h => by omega) h.rng
theorem InNet.without {n : Nat} {left : List Int} (h : InNet n left) (p : Int) : InNet n (without left p) := ⟨without_lt h.lt, fun x hx => h.rng x (without_mem.mp hx).1⟩
theorem InNet.run {n : Nat} {es : List Edge} {left left' : List Int} {l : List Edge} (h : InNet n left) (r : RunL es left l left') : InNet n left' := ⟨r.lt h.lt, fun x hx => h.rng x (r.sub x hx)⟩
theorem inNet_all (n : Nat) : InNet n (allM n) := ⟨allM_lt n, fun x hx => allM_mem.mp hx⟩
theorem onto_sub {es : List Edge} {left : List Int} {p : Int} : ∀ x ∈ ontoM es left p, x ∈ left := fun x hx => by
  unfold ontoM at hx
  exact of_decide_eq_true (List.mem_filter.mp (List.mem_filter.mp hx).1).2
theorem RunL.rng {n : Nat} {es : List Edge} {left left' : List Int} {l : List Edge} (r : RunL es left l left') (h : InNet n left) : ∀ e ∈ l, 1 ≤ e.1 ∧ e.1 ≤ n ∧ 1 ≤ e.2 ∧ e.2 ≤ n := by
  induction r with
  | nil left => exact fun e h => nomatch h
  | @cons left left' p q l hp hq r ih =>
    intro e he
    rcases List.mem_cons.mp he with rfl | he
    · have h1 := h.rng p hp
      have h2 := h.rng q (onto_sub q hq)
      exact ⟨h1.1, h1.2, h2.1, h2.2⟩
    · exact ih (h.without p) e he
end
/-! piece AM -/
section
/-! ### what fold_around does, as a function -/
def stepA (es : List Edge) (s : List Int × List Edge) (x : Int) : List Int × List Edge :=
  if ontoM es s.1 x = [] then s else (without s.1 x, s.2 ++ [(x, minL (ontoM es s.1 x))])
def passA (es : List Edge) (hs : List Int) (s : List Int × List Edge) : List Int × List Edge := (s.1.filter fun x => decide (x ∉ hs)).foldl (stepA es) s
def iterA (n : Nat) (es : List Edge) (hs : List Int) : Nat → List Int × List Edge
  | 0 => (allM n, [])
  | k + 1 => passA es hs (iterA n es hs k)
def aroundA (n : Nat) (es : List Edge) (hs : List Int) : List Int × List Edge := iterA n es hs 20
theorem iterA_stays {n : Nat} {es : List Edge} {hs : List Int} {k : Nat} (h : passA es hs (iterA n es hs k) = iterA n es hs k) : ∀ j, iterA n es hs (k + j) = iterA n es hs k
  | 0 => rfl
  | j + 1 => by
    show passA es hs (iterA n es hs (k + j)) = _
    rw [iterA_stays h j, h]
theorem aroundA_is {n : Nat} {es : List Edge} {hs : List Int} {k : Nat} (hk : k ≤ 20) (h : passA es hs (iterA n es hs k) = iterA n es hs k) : aroundA n es hs = iterA n es hs k := by
  have := iterA_stays h (20 - k)
  rwa [show k + (20 - k) = 20 by omega] at this
theorem all_len {n : Nat} : (allM n).length = n := by simp [allM]
theorem RunL.len12 {n : Nat} {es ps : List Edge} {left : List Int} (r : RunL es (allM n) ps left) : left.length + ps.length = n := by
  have := (r.length ((allM_lt n).imp fun h => by omega)).1
  rwa [all_len] at this
end
/-! piece SL -/
section
/-! ### sorted of pairs that are lists -/
def leE (p q : Edge) : Prop := p.1 < q.1 ∨ (p.1 = q.1 ∧ p.2 ≤ q.2)
theorem leE_iff (p q : Edge) : [p.1, p.2] ≤ [q.1, q.2] ↔ leE p q := by
  unfold leE
  rw [List.cons_le_cons_iff, List.cons_le_cons_iff]
  constructor
  · rintro (h | ⟨h1, h2 | ⟨h2, _⟩⟩)
    · exact .inl h
    · exact .inr ⟨h1, by omega⟩
    · exact .inr ⟨h1, by omega⟩
  · rintro (h | ⟨h1, h2⟩)
    · exact .inl h
    · by_cases e : p.2 = q.2
      · exact .inr ⟨h1, .inr ⟨e, List.le_refl _⟩⟩
      · exact .inr ⟨h1, .inl (by omega)⟩
def rSortedL (K : PySem.W.Frag) : List V → Hp → VK → Prop := fun vs H Q => ∃ (a : Addr) (rs : List Addr) (ps : List Edge), vs = [V.ref a] ∧ PsAt H a rs ps ∧ rs.length ≤ 1000 ∧
  ∀ (p : Addr) (rs' : List Addr) (ps' : List Edge), H p = none → ps'.Perm ps → ps'.Pairwise leE → PsAt (upd H p (.lst (rs'.map V.ref))) p rs' ps' → Q (.ref p) (upd H p (.lst (rs'.map V.ref)))
theorem each_of {α β : Type} {R : α → β → Prop} : ∀ {as : List α} {bs : List β}, as.length = bs.length → (∀ (i : Nat) (a : α) (b : β), as[i]? = some a → bs[i]? = some b → R a b) → PySem.W.EachIs R as bs
  | [], [], _, _ => .nil
  | [], _ :: _, h, _ => by simp at h
  | _ :: _, [], h, _ => by simp at h
  | a :: as, b :: bs, h, f => .cons (f 0 a b rfl rfl) (each_of (by simpa using h) fun i x y hx hy => f (i + 1) x y (by simpa using hx) (by simpa using hy))
theorem vals_refs : ∀ {rs : List Addr} {us : List Value}, Vals (rs.map V.ref) us → us = rs.map Value.ref
  | [], us, r => by rw [List.map_nil] at r; cases r; rfl
  | t :: ts, us, r => by
    rw [List.map_cons] at r
    cases r with
    | cons h q => cases h; rw [List.map_cons, ← vals_refs q]
theorem refs_vals : ∀ rs : List Addr, Vals (rs.map V.ref) (rs.map Value.ref)
  | [] => .nil
  | _ :: ts => .cons rfl (refs_vals ts)
theorem each_refs : ∀ {out : List Value} {bs : List (Addr × Edge)}, PySem.W.EachIs (fun (v : Value) (b : Addr × Edge) => v = .ref b.1) out bs → out = (bs.map (·.1)).map Value.ref
  | _, _, .nil => rfl
  | _, _, .cons h t => by rw [h, each_refs t]; rfl
section
variable {X : Cx}
theorem cr_sortedL (hu : X.A.units + 64 < cLine) : CallR X (.builtin "sorted") (rSortedL X.K) := by
  intro pins s σ H vs us Q I r h
  obtain ⟨a, rs, ps, rfl, hP, hlen, q⟩ := h
  obtain ⟨its, rv, hl, hz⟩ := I.list (SqL.of hP.hD)
  rw [Vals.ref1 r]
  have ei := vals_refs rv
  let bs : List (Addr × Edge) := rs.zip ps
  have hbl : bs.length = rs.length := by simp [bs, hP.len]
  let enc : Addr × Edge → PyData := fun b => .list ([b.2.1, b.2.2].map .int)
  have hb1 : bs.map (·.1) = rs := by simp [bs, List.map_fst_zip, hP.len]
  have hb2 : bs.map (·.2) = ps := by simp [bs, List.map_snd_zip, hP.len]
  have hget : ∀ b ∈ bs, H b.1 = some (.lst [.int b.2.1, .int b.2.2]) := fun b hb => by
    obtain ⟨i, hi⟩ := List.getElem?_of_mem hb
    have h1 : rs[i]? = some b.1 := by rw [← hb1, List.getElem?_map, hi]; rfl
    have h2 : ps[i]? = some b.2 := by rw [← hb2, List.getElem?_map, hi]; rfl
    exact hP.at_ i b.1 b.2 h1 h2
  have e : PySem.W.EachIs (fun (v : Value) (b : Addr × Edge) => v = .ref b.1) its bs := each_of (by rw [hbl, ei, List.length_map]) fun i v b hv hb => by
    rw [ei, List.getElem?_map] at hv
    have h1 : rs[i]? = some b.1 := by rw [← hb1, List.getElem?_map, hb]; rfl
    rw [h1] at hv
    exact (Option.some.inj hv).symm
  have er : PySem.W.EachIs (fun (v : Value) (b : Addr × Edge) => ∃ as, Reads s.heap v (enc b) as) its bs := each_of (by rw [hbl, ei, List.length_map]) fun i v b hv hb => by
    rw [ei, List.getElem?_map] at hv
    have h1 : rs[i]? = some b.1 := by rw [← hb1, List.getElem?_map, hb]; rfl
    rw [h1] at hv
    have hv := (Option.some.inj hv).symm
    exact Dp.reads I (enc b) (.ref b.1) v (.lst (SqL.of (hget b (List.mem_of_getElem? hb))) (.cons (.int _) (.cons (.int _) .nil))) hv
  refine PySem.W.sorted_data (enc := enc) hl.isList e er (PySem.W.AllAlike.of fun b b' => rfl) (PySem.W.Sortable.others fun b => ⟨(fun z => nomatch z), (fun xs z => nomatch z)⟩) (by rw [hbl]; exact Nat.le_trans hlen (by decide)) (fun b _ => by
    have : (enc b).depth ≤ 1 := by exact Nat.le_of_eq rfl
    omega) fun out h1 h2 => ?_
  rw [show PySem.W.dataLe false enc = fun p q => decide ([p.2.1, p.2.2] ≤ [q.2.1, q.2.2]) from PySem.W.dataLe_rows (fun b : Addr × Edge => [b.2.1, b.2.2])] at h2
  generalize hbs : bs.mergeSort (fun p q => decide ([p.2.1, p.2.2] ≤ [q.2.1, q.2.2])) = bs' at h2
  have hperm : bs'.Perm bs := by rw [← hbs]; exact List.mergeSort_perm _ _
  have hsort : bs'.Pairwise (fun p q => leE p.2 q.2) := by
    rw [← hbs]
    refine (List.pairwise_mergeSort (fun a b c h1 h2 => ?_) (fun a b => ?_) bs).imp fun h => (leE_iff _ _).mp (of_decide_eq_true h)
    · exact decide_eq_true ((leE_iff _ _).mpr (by
        have a1 := (leE_iff _ _).mp (of_decide_eq_true h1)
        have a2 := (leE_iff _ _).mp (of_decide_eq_true h2)
        unfold leE at *
        omega))
    · by_cases h : leE a.2 b.2
      · rw [decide_eq_true ((leE_iff _ _).mpr h)]; rfl
      · rw [decide_eq_true ((leE_iff b.2 a.2).mpr (by unfold leE at *; omega))]; simp
  have eo := each_refs h2
  obtain ⟨ep, he'⟩ := PyProof.Rows.sortedAll_at s.heap its out.toArray
  have hn : H (s.heap.objs.size + 1) = none := I.hok.fresh (Nat.le_succ _)
  have hlo : ((bs'.map (·.1)).map V.ref).length ≤ sizeLine := by
    rw [List.length_map, List.length_map, hperm.length_eq, hbl]
    exact Nat.le_trans hlen (by decide)
  have rvo : Vals ((bs'.map (·.1)).map V.ref) out := by rw [eo]; exact refs_vals _
  refine ⟨.ref _, upd H (s.heap.objs.size + 1) (.lst ((bs'.map (·.1)).map V.ref)), I.laid (t' := s.toks) (fun _ _ => PyProof.Rows.sortedAll_old) (Nat.le_succ _) ⟨hlo, out, ep, rvo, he'⟩, rfl, ?_⟩
  refine q _ (bs'.map (·.1)) (bs'.map (·.2)) hn ?_ (List.pairwise_map.mpr hsort) ⟨upd_same, by rw [List.length_map, List.length_map], ?_⟩
  · rw [← hb2]
    exact hperm.map _
  · intro i r e hr he
    rw [List.getElem?_map] at hr he
    cases hb : bs'[i]? with
    | none => rw [hb] at hr; cases hr
    | some b =>
      rw [hb] at hr he
      cases hr
      cases he
      have := hget b (hperm.mem_iff.mp (List.mem_of_getElem? hb))
      rw [upd_ne (ne_of_none this hn)]
      exact this
theorem cr_sortedLK {K : PySem.W.Frag} (_ : KMark K) (h : X.K = K) (hu : X.A.units + 64 < cLine) : CallR X (.builtin "sorted") (rSortedL K) := h ▸ cr_sortedL hu
end
theorem leE_uniq : ∀ {l m : List Edge}, l.Pairwise leE → m.Pairwise leE → l.Perm m → l = m
  | [], m, _, _, h => (List.Perm.eq_nil h.symm).symm
  | a :: l, [], _, _, h => by have := h.length_eq; simp at this
  | a :: l, b :: m, hl, hm, h => by
    have h1 : leE a b := by
      rcases List.mem_cons.mp (h.mem_iff.mpr (List.mem_cons_self (a := b) (l := m))) with e | hb
      · rw [e]; unfold leE; omega
      · exact List.rel_of_pairwise_cons hl hb
    have h2 : leE b a := by
      rcases List.mem_cons.mp (h.mem_iff.mp (List.mem_cons_self (a := a) (l := l))) with e | hb
      · rw [e]; unfold leE; omega
      · exact List.rel_of_pairwise_cons hm hb
    have e : a = b := by
      unfold leE at h1 h2
      obtain ⟨a1, a2⟩ := a
      obtain ⟨b1, b2⟩ := b
      simp only at h1 h2
      rw [Prod.mk.injEq]
      omega
    subst e
    rw [leE_uniq (List.pairwise_cons.mp hl).2 (List.pairwise_cons.mp hm).2 h.cons_inv]
end
/-! piece CN -/
section
section
variable {X : Cx} {K : PySem.W.Frag} {o a : Expr} {apos cpos : Pos} {to : TE} {t : TA}
theorem pe_cntK (_ : KMark K) (h : X.K = K) (ho : PE X o to) (ha : PA X [a] t) (hbase : attributeBase o "count" X.env (eval o X.env) = eval o X.env := by rfl)
    (hfew : ((backTo cpos (starEach [a] X.env)).all (fun x => !x.1) && (backToKw cpos (keywordEach [] X.env)).all (fun x => x.1.isSome)
      && decide (([a] : List Expr).length + ([] : List Keyword).length + (if ([] : List Keyword).isEmpty then 0 else 1) < 30)) = true := by rfl)
    (hline : (apos.endLine == cpos.line) = true := by rfl) (hs : starEach [a] X.env = (false, eval a X.env) :: starEach [] X.env := by rfl) (hplain : (backTo cpos (starEach [] X.env)).any (·.1) = false := by rfl) :
    PE X (.Call (.Attribute o "count" apos) [a] [] cpos) (tBM K "list" (rCnt K) to t) :=
  h ▸ pe_bm PySem.F.plainAttrs_list PySem.F.slot_list_count PySem.F.type_list_count mt_cnt ho ha hbase hfew hline hs hplain
end
theorem cr_sortedB {X : Cx} {K : PySem.W.Frag} (hKM : KMark K) (h : X.K = K) (hu : X.A.units + 64 < cLine) : CallR X (.builtin "sorted") (fun xs H Q => rSorted K xs H Q ∨ rSortedL K xs H Q) := by
  intro pins s σ H xs us Q I r q
  rcases q with q | q
  · exact cr_sortedK hKM h pins s σ H xs us Q I r q
  · exact cr_sortedLK hKM h hu pins s σ H xs us Q I r q
end
/-! piece CG -/
section
/-- a def of the text whose run has no repr under way -/
structure CalG (P : Program) (w : World) (K : PySem.W.Frag) (mg : Str → Option Value) (base : Heap) (x : Str) (k : Nat) (ps : List Str) (sp : Sp) : Prop where
  ex : ∃ (f : Addr) (fd : FuncData), FnG P w K mg base CX0 k f fd ps sp ∧ mg x = some (.ref f) ∧ PySem.W.keepIn K (.ref f) = true ∧ Binds K fd ps []
section
variable {X : Cx} {x : Str} {p pos : Pos} {e : Expr} {es : List Expr} {t : TA} {k j : Nat} {ps : List Str} {sp : Sp}
theorem pe_calG (C : CalG X.prog X.w X.K X.mg X.base x k ps sp) (hr : Room j X.A) (hkj : k ≤ j) (hgd : X.A.guards = some []) (hg : Gl X x) (ha : PA X (e :: es) t)
    (hdb : (x == ("__debug__" : Str)) = false := by decide)
    (he : starEach (e :: es) X.env = (false, eval e X.env) :: starEach es X.env := by rfl)
    (hpl : (backTo pos (starEach es X.env)).any (·.1) = false := by rfl) :
    PE X (.Call (.Name x p) (e :: es) [] pos) (tCall sp [] E0 t) := by
  obtain ⟨f, fd, F, hm, hk, hb⟩ := C.ex
  exact Fo.pe_callG F (hr.mono hkj) hgd hg hm hk hb .nil pass0 ha hdb he hpl
end
def g4 {α : Type} : List α → List α → List α := fun us ws => match us, ws with
  | [], [a, b, c, d] => [d, c, b, a]
  | _, _ => []
end
/-! piece BX -/
section
theorem bXor (a b : Nat) : Builtin.bitXor (a : Int) (b : Int) = ((a ^^^ b : Nat) : Int) := by
  have h1 := PyProof.Rows.nat_or_add_and (a ^^^ b) (a &&& b)
  have h2 : (a ^^^ b) ||| (a &&& b) = a ||| b := by
    apply Nat.eq_of_testBit_eq
    intro k
    simp only [Nat.testBit_or, Nat.testBit_xor, Nat.testBit_and]
    cases a.testBit k <;> cases b.testBit k <;> rfl
  have h3 : (a ^^^ b) &&& (a &&& b) = 0 := by
    apply Nat.eq_of_testBit_eq
    intro k
    simp only [Nat.testBit_xor, Nat.testBit_and, Nat.zero_testBit]
    cases a.testBit k <;> cases b.testBit k <;> rfl
  rw [h2, h3] at h1
  show Builtin.bitOr (a : Int) (b : Int) - Builtin.bitAnd (a : Int) (b : Int) = _
  rw [bOr, bAnd]
  omega
end
/-! piece CA -/
section
theorem Simp.pos {n : Int} {es : List Edge} (h : Simp n es) : ∀ e ∈ es, 1 ≤ e.1 ∧ 1 ≤ e.2 ∧ e.1 ≠ e.2 := fun e he => by
  have := h.rng e he
  omega
theorem near_lot' {n : Nat} {es : List Edge} (hS : Simp n es) {p : Nat} (h1 : 1 ≤ p) (h2 : p ≤ n) : ∃ u, (nearB n es)[p]? = some u ∧ (∀ k : Nat, u.testBit k = decide (Adj es (p : Int) k)) ∧ LotIs u (besideM n es p) := by
  obtain ⟨u, hu, hb⟩ := nearB_bit hS.pos h1 h2
  refine ⟨u, hu, hb, fun k => ?_⟩
  rw [hb]
  apply decide_eq_decide.mpr
  exact (besideM_mem hS (by omega) (by omega) _).symm
theorem lot_and {v u : Nat} {a b : List Int} (hv : LotIs v a) (hu : LotIs u b) : LotIs (v &&& u) (a.filter fun x => decide (x ∈ b)) := fun k => by
  rw [Nat.testBit_and, hv, hu, ← Bool.decide_and]
  apply decide_eq_decide.mpr
  rw [List.mem_filter, decide_eq_true_eq]
theorem LotIs.congr {v : Nat} {a b : List Int} (h : LotIs v a) (e : ∀ x, x ∈ a ↔ x ∈ b) : LotIs v b := fun k => by
  rw [h]
  exact decide_eq_decide.mpr (e _)
/-! ### one who seeks and one who flees -/
/-- whether the seeker surely catches within k turns -/
def wB (n : Nat) (es : List Edge) : Nat → Int → Int → Bool
  | 0, h, t => decide (h = t)
  | k + 1, h, t => (besideM n es h).any fun g => decide (g = t) || (besideM n es t).all fun s => wB n es k g s
/-- where the seeker may go so as to catch at once, or surely in k turns behind any answer -/
def trB (n : Nat) (es : List Edge) (k : Nat) (t g : Int) : Bool := decide (g = t) || (besideM n es t).all fun s => wB n es k g s
theorem wB_succ (n : Nat) (es : List Edge) (k : Nat) (h t : Int) : wB n es (k + 1) h t = (besideM n es h).any (trB n es k t) := rfl
theorem wB_iff {n : Nat} {es : List Edge} {k : Nat} {h t : Int} : wB n es (k + 1) h t = true ↔ ∃ g ∈ besideM n es h, g = t ∨ ∀ s ∈ besideM n es t, wB n es k g s = true := by
  rw [wB_succ, List.any_eq_true]
  constructor
  · rintro ⟨g, hg, h⟩
    unfold trB at h
    rw [Bool.or_eq_true, decide_eq_true_eq, List.all_eq_true] at h
    exact ⟨g, hg, h⟩
  · rintro ⟨g, hg, h⟩
    refine ⟨g, hg, ?_⟩
    unfold trB
    rw [Bool.or_eq_true, decide_eq_true_eq, List.all_eq_true]
    exact h
theorem trB_iff {n : Nat} {es : List Edge} {k : Nat} {t g : Int} : trB n es k t g = true ↔ g = t ∨ ∀ s ∈ besideM n es t, wB n es k g s = true := by
  unfold trB
  rw [Bool.or_eq_true, decide_eq_true_eq, List.all_eq_true]
theorem beside_self {n : Nat} {es : List Edge} (hS : Simp n es) {h : Int} (h1 : 1 ≤ h) (h2 : h ≤ n) : h ∈ besideM n es h := (besideM_mem hS h1 h2 h).mpr (List.mem_cons_self ..)
theorem wB_mono {n : Nat} {es : List Edge} (hS : Simp n es) : ∀ (k : Nat) {h t : Int}, 1 ≤ h → h ≤ n → 1 ≤ t → t ≤ n → wB n es k h t = true → wB n es (k + 1) h t = true
  | 0, h, t, h1, h2, _, _, e => wB_iff.mpr ⟨h, beside_self hS h1 h2, .inl (of_decide_eq_true e)⟩
  | k + 1, h, t, h1, h2, t1, t2, e => by
    obtain ⟨g, hg, hc⟩ := wB_iff.mp e
    refine wB_iff.mpr ⟨g, hg, ?_⟩
    rcases hc with hc | hc
    · exact .inl hc
    · refine .inr fun s hs => ?_
      have gr := besideM_rng hg
      have sr := besideM_rng hs
      exact wB_mono hS k gr.1 gr.2 sr.1 sr.2 (hc s hs)
theorem wB_le {n : Nat} {es : List Edge} (hS : Simp n es) {h t : Int} (h1 : 1 ≤ h) (h2 : h ≤ n) (t1 : 1 ≤ t) (t2 : t ≤ n) {j k : Nat} (hjk : j ≤ k) (e : wB n es j h t = true) : wB n es k h t = true := by
  induction hjk with
  | refl => exact e
  | step _ ih => exact wB_mono hS _ h1 h2 t1 t2 ih
/-- the same from all places: then for ever -/
def Still (n : Nat) (es : List Edge) (k : Nat) : Prop := ∀ h t : Int, 1 ≤ h → h ≤ n → 1 ≤ t → t ≤ n → wB n es (k + 1) h t = wB n es k h t
theorem Still.next {n : Nat} {es : List Edge} {k : Nat} (s : Still n es k) : Still n es (k + 1) := fun h t h1 h2 t1 t2 => by
  rw [Bool.eq_iff_iff, wB_iff, wB_iff]
  have e : ∀ g ∈ besideM n es h, ((∀ x ∈ besideM n es t, wB n es (k + 1) g x = true) ↔ ∀ x ∈ besideM n es t, wB n es k g x = true) := fun g hg => by
    have gr := besideM_rng hg
    constructor
    · intro a x hx
      have xr := besideM_rng hx
      rw [← s g x gr.1 gr.2 xr.1 xr.2]
      exact a x hx
    · intro a x hx
      have xr := besideM_rng hx
      rw [s g x gr.1 gr.2 xr.1 xr.2]
      exact a x hx
  constructor
  · rintro ⟨g, hg, hc⟩
    exact ⟨g, hg, hc.imp id (e g hg).mp⟩
  · rintro ⟨g, hg, hc⟩
    exact ⟨g, hg, hc.imp id (e g hg).mpr⟩
theorem Still.all {n : Nat} {es : List Edge} {k j : Nat} (s : Still n es k) (hkj : k ≤ j) : Still n es j := by
  induction hkj with
  | refl => exact s
  | step _ ih => exact ih.next
theorem Still.eq {n : Nat} {es : List Edge} {k j : Nat} (s : Still n es k) (hkj : k ≤ j) {h t : Int} (h1 : 1 ≤ h) (h2 : h ≤ n) (t1 : 1 ≤ t) (t2 : t ≤ n) : wB n es j h t = wB n es k h t := by
  induction hkj with
  | refl => rfl
  | step hle ih => rw [s.all hle h t h1 h2 t1 t2]; exact ih
/-- the pairs from which it catches within k turns -/
def pairsW (n : Nat) (es : List Edge) (k : Nat) : List (Int × Int) := ((allM n).flatMap fun h => (allM n).map fun t => (h, t)).filter fun p => wB n es k p.1 p.2
theorem all_pairs_len (n : Nat) : ((allM n).flatMap fun h => (allM n).map fun t => (h, t)).length = n * n := by
  have h : ∀ l : List Int, (l.flatMap fun h => (allM n).map fun t => (h, t)).length = l.length * n := fun l => by
    induction l with
    | nil => simp
    | cons a l ih => rw [List.flatMap_cons, List.length_append, ih, List.length_map, all_len, List.length_cons, Nat.succ_mul, Nat.add_comm]
  rw [h, all_len]
theorem all_pairs_mem {n : Nat} {p : Int × Int} : p ∈ ((allM n).flatMap fun h => (allM n).map fun t => (h, t)) ↔ (1 ≤ p.1 ∧ p.1 ≤ n) ∧ 1 ≤ p.2 ∧ p.2 ≤ n := by
  rw [List.mem_flatMap]
  constructor
  · rintro ⟨h, hh, hp⟩
    obtain ⟨t, ht, rfl⟩ := List.mem_map.mp hp
    exact ⟨allM_mem.mp hh, allM_mem.mp ht⟩
  · rintro ⟨h1, h2⟩
    exact ⟨p.1, allM_mem.mpr h1, List.mem_map.mpr ⟨p.2, allM_mem.mpr h2, rfl⟩⟩
theorem filter_lt {α : Type} (p q : α → Bool) : ∀ (l : List α), (∀ x ∈ l, p x = true → q x = true) → (∃ x ∈ l, q x = true ∧ p x = false) → (l.filter p).length < (l.filter q).length
  | [], _, h => by obtain ⟨x, hx, _⟩ := h; cases hx
  | a :: l, hm, he => by
    have le : ∀ l : List α, (∀ x ∈ l, p x = true → q x = true) → (l.filter p).length ≤ (l.filter q).length := fun l => by
      induction l with
      | nil => exact fun _ => Nat.le_refl _
      | cons b m ih =>
        intro h
        have h2 := ih fun x hx => h x (List.mem_cons_of_mem _ hx)
        have h3 := h b (List.mem_cons_self ..)
        rw [List.filter_cons, List.filter_cons]
        by_cases hp : p b = true
        · rw [if_pos hp, if_pos (h3 hp), List.length_cons, List.length_cons]; omega
        · rw [if_neg hp]
          split
          · rw [List.length_cons]; omega
          · exact h2
    have hl := le l fun x hx => hm x (List.mem_cons_of_mem _ hx)
    obtain ⟨x, hx, hq, hpx⟩ := he
    rw [List.filter_cons, List.filter_cons]
    rcases List.mem_cons.mp hx with rfl | hx
    · rw [if_neg (by rw [hpx]; exact Bool.false_ne_true), if_pos hq, List.length_cons]
      omega
    · have ih := filter_lt p q l (fun y hy => hm y (List.mem_cons_of_mem _ hy)) ⟨x, hx, hq, hpx⟩
      by_cases hp : p a = true
      · rw [if_pos hp, if_pos (hm a (List.mem_cons_self ..) hp), List.length_cons, List.length_cons]; omega
      · rw [if_neg hp]
        split
        · rw [List.length_cons]; omega
        · exact ih
theorem pairs_lt {n : Nat} {es : List Edge} (hS : Simp n es) {k : Nat} (h : ¬ Still n es k) : (pairsW n es k).length < (pairsW n es (k + 1)).length := by
  unfold pairsW
  refine filter_lt _ _ _ (fun p hp e => ?_) ?_
  · have := all_pairs_mem.mp hp
    exact wB_mono hS k this.1.1 this.1.2 this.2.1 this.2.2 e
  · apply Classical.byContradiction
    intro hno
    apply h
    intro a t h1 h2 t1 t2
    cases e1 : wB n es k a t with
    | true => exact wB_mono hS k h1 h2 t1 t2 e1
    | false =>
      cases e2 : wB n es (k + 1) a t with
      | false => rfl
      | true => exact absurd ⟨(a, t), all_pairs_mem.mpr ⟨⟨h1, h2⟩, t1, t2⟩, e2, e1⟩ hno
theorem steps_le {n : Nat} {es : List Edge} (hS : Simp n es) : ∀ k, (∀ j, j < k → ¬ Still n es j) → k ≤ (pairsW n es k).length
  | 0, _ => Nat.zero_le _
  | k + 1, h => by
    have h1 := steps_le hS k fun j hj => h j (by omega)
    have h2 := pairs_lt hS (h k (Nat.lt_succ_self k))
    omega
theorem pairs_le (n : Nat) (es : List Edge) (k : Nat) : (pairsW n es k).length ≤ n * n := by
  unfold pairsW
  exact Nat.le_trans (List.length_filter_le ..) (by rw [all_pairs_len]; exact Nat.le_refl _)
theorem steps_bound {n : Nat} {es : List Edge} (hS : Simp n es) {k : Nat} (h : ∀ j, j < k → ¬ Still n es j) : k ≤ n * n := Nat.le_trans (steps_le hS k h) (pairs_le n es k)
theorem still_last {n : Nat} {es : List Edge} (hS : Simp n es) : Still n es (n * n) := by
  apply Classical.byContradiction
  intro hno
  have h : ∀ j, j < n * n + 1 → ¬ Still n es j := fun j hj s => hno (s.all (by omega))
  have := steps_bound hS h
  omega
/-! the program's lists of lots -/
def commonM (lots : List Nat) (ps : List Int) : Nat := ps.foldl (fun a p => a &&& lots.getD p.toNat 0) (lots.getD (ps.headD 0).toNat 0)
def sameM (n : Nat) : List Nat := 0 :: (List.range n).map fun i => 2 ^ (i + 1)
def trapsM (n : Nat) (es : List Edge) (sure : List Nat) : List Nat := 0 :: (List.range n).map fun (i : Nat) => 2 ^ (i + 1) ||| commonM sure (besideM n es ((i : Int) + 1))
def besideL (n : Nat) (es : List Edge) (ps : List Int) : Nat := ps.foldl (fun b p => b ||| (nearB n es).getD p.toNat 0) 0
def aheadM (n : Nat) (es : List Edge) (traps : List Nat) : List Nat := traps.map fun lot => besideL n es (membersM lot)
def sureM (n : Nat) (es : List Edge) : Nat → List Nat
  | 0 => sameM n
  | k + 1 => aheadM n es (trapsM n es (sureM n es k))
theorem and_fold (lots : List Nat) (k : Nat) : ∀ (ps : List Int) (a : Nat), (ps.foldl (fun a p => a &&& lots.getD p.toNat 0) a).testBit k = (a.testBit k && ps.all fun p => (lots.getD p.toNat 0).testBit k)
  | [], a => by simp
  | p :: ps, a => by rw [List.foldl_cons, and_fold lots k ps, Nat.testBit_and, List.all_cons, Bool.and_assoc]
theorem common_bit (lots : List Nat) {ps : List Int} (h : ps ≠ []) (k : Nat) : (commonM lots ps).testBit k = ps.all fun p => (lots.getD p.toNat 0).testBit k := by
  unfold commonM
  rw [and_fold]
  cases ps with
  | nil => exact absurd rfl h
  | cons p l =>
    show ((lots.getD p.toNat 0).testBit k && (p :: l).all _) = _
    rw [List.all_cons, ← Bool.and_assoc, Bool.and_self]
theorem or_fold (n : Nat) (es : List Edge) (k : Nat) : ∀ (ps : List Int) (a : Nat), (ps.foldl (fun b p => b ||| (nearB n es).getD p.toNat 0) a).testBit k = (a.testBit k || ps.any fun p => ((nearB n es).getD p.toNat 0).testBit k)
  | [], a => by simp
  | p :: ps, a => by rw [List.foldl_cons, or_fold n es k ps, Nat.testBit_or, List.any_cons, Bool.or_assoc]
theorem same_len (n : Nat) : (sameM n).length = n + 1 := by simp [sameM]
theorem traps_len (n : Nat) (es : List Edge) (l : List Nat) : (trapsM n es l).length = n + 1 := by simp [trapsM]
theorem sure_len (n : Nat) (es : List Edge) : ∀ k, (sureM n es k).length = n + 1
  | 0 => same_len n
  | k + 1 => by show (aheadM n es _).length = _; unfold aheadM; rw [List.length_map, traps_len]
theorem getD_row {f : Nat → Nat} {n : Nat} {t : Int} (h1 : 1 ≤ t) (h2 : t ≤ n) : (0 :: (List.range n).map f).getD t.toNat 0 = f (t.toNat - 1) := by
  rw [List.getD_eq_getElem?_getD, show t.toNat = (t.toNat - 1) + 1 by omega, List.getElem?_cons_succ, List.getElem?_map, List.getElem?_range (by omega)]
  rfl
theorem beside_ne {n : Nat} {es : List Edge} (hS : Simp n es) {h : Int} (h1 : 1 ≤ h) (h2 : h ≤ n) : besideM n es h ≠ [] := fun e => by
  have := beside_self hS h1 h2
  rw [e] at this
  cases this
/-- the lots of `sure` and of `traps` -/
theorem sure_is {n : Nat} {es : List Edge} (hS : Simp n es) : ∀ (k : Nat) {t : Int}, 1 ≤ t → t ≤ n → LotIs ((sureM n es k).getD t.toNat 0) ((allM n).filter fun h => wB n es k h t)
  | 0, t, t1, t2 => fun j => by
    show ((sameM n).getD t.toNat 0).testBit j = _
    unfold sameM
    rw [getD_row t1 t2, show t.toNat - 1 + 1 = t.toNat by omega, Nat.testBit_two_pow]
    apply decide_eq_decide.mpr
    rw [List.mem_filter, allM_mem]
    show _ ↔ _ ∧ decide ((j : Int) = t) = true
    rw [decide_eq_true_eq]
    omega
  | k + 1, t, t1, t2 => by
    have ht : LotIs ((trapsM n es (sureM n es k)).getD t.toNat 0) ((allM n).filter (trB n es k t)) := fun j => by
      unfold trapsM
      rw [getD_row t1 t2, show t.toNat - 1 + 1 = t.toNat by omega, show ((t.toNat - 1 : Nat) : Int) + 1 = t by omega, Nat.testBit_or, Nat.testBit_two_pow, common_bit _ (beside_ne hS t1 t2)]
      rw [Bool.eq_iff_iff, Bool.or_eq_true, decide_eq_true_eq, decide_eq_true_eq, List.all_eq_true, List.mem_filter, allM_mem, trB_iff]
      constructor
      · rintro (e | e)
        · exact ⟨by omega, .inl (by omega)⟩
        · have h0 := e t (beside_self hS t1 t2)
          rw [sure_is hS k t1 t2, decide_eq_true_eq, List.mem_filter, allM_mem] at h0
          refine ⟨h0.1, .inr fun s hs => ?_⟩
          have sr := besideM_rng hs
          have h2 := e s hs
          rw [sure_is hS k sr.1 sr.2, decide_eq_true_eq, List.mem_filter] at h2
          exact h2.2
      · rintro ⟨hr, e | e⟩
        · exact .inl (by omega)
        · refine .inr fun s hs => ?_
          have sr := besideM_rng hs
          rw [sure_is hS k sr.1 sr.2, decide_eq_true_eq, List.mem_filter, allM_mem]
          exact ⟨hr, e s hs⟩
    have hm := members_lot ht (List.Pairwise.filter _ (allM_lt n)) fun x hx => (allM_mem.mp (List.mem_filter.mp hx).1).1
    intro j
    show ((aheadM n es (trapsM n es (sureM n es k))).getD t.toNat 0).testBit j = _
    unfold aheadM
    have hl : t.toNat < (trapsM n es (sureM n es k)).length := by rw [traps_len]; omega
    rw [List.getD_eq_getElem?_getD, List.getElem?_map, List.getElem?_eq_getElem hl]
    show (besideL n es (membersM ((trapsM n es (sureM n es k))[t.toNat]))).testBit j = _
    rw [List.getD_eq_getElem?_getD, List.getElem?_eq_getElem hl] at hm
    rw [show membersM ((trapsM n es (sureM n es k))[t.toNat]) = _ from hm]
    unfold besideL
    rw [or_fold, Nat.zero_testBit, Bool.false_or, Bool.eq_iff_iff, List.any_eq_true, decide_eq_true_eq, List.mem_filter, allM_mem, wB_succ, List.any_eq_true]
    constructor
    · rintro ⟨g, hg, hb⟩
      obtain ⟨h1, h2⟩ := List.mem_filter.mp hg
      have gr := allM_mem.mp h1
      obtain ⟨u, hu, hub, hul⟩ := near_lot' hS (p := g.toNat) (by omega) (by omega)
      rw [List.getD_eq_getElem?_getD, hu] at hb
      have hb : u.testBit j = true := hb
      rw [hub, decide_eq_true_eq, show ((g.toNat : Nat) : Int) = g by omega] at hb
      have hj : 1 ≤ (j : Int) ∧ (j : Int) ≤ n := by
        have := (besideM_mem hS gr.1 gr.2 (j : Int)).mpr hb
        exact besideM_rng this
      exact ⟨hj, g, (besideM_mem hS hj.1 hj.2 g).mpr (adj_symm _ _ hb), h2⟩
    · rintro ⟨hj, g, hg, h2⟩
      have gr := besideM_rng hg
      refine ⟨g, List.mem_filter.mpr ⟨allM_mem.mpr gr, h2⟩, ?_⟩
      obtain ⟨u, hu, hub, hul⟩ := near_lot' hS (p := g.toNat) (by omega) (by omega)
      rw [List.getD_eq_getElem?_getD, hu]
      show u.testBit j = true
      rw [hub, decide_eq_true_eq, show ((g.toNat : Nat) : Int) = g by omega]
      exact adj_symm _ _ ((besideM_mem hS hj.1 hj.2 g).mp hg)
end
/-! piece CB -/
section
/-! ### who catches from everywhere -/
section
variable {adj : Int → Int → Prop}
inductive Cw (adj : Int → Int → Prop) (S : Int → Prop) : Int → Int → Prop where
  | take {h t : Int} (a : S h) (b : S t) (c : adj h t) : Cw adj S h t
  | go {h t g : Int} (a : S h) (b : S t) (c : S g) (d : adj h g) (e : ∀ s, S s → adj t s → Cw adj S g s) : Cw adj S h t
theorem cw_lift (rf : ∀ x, adj x x) (sy : ∀ x y, adj x y → adj y x) {S : Int → Prop} {p q : Int} (st : StepOk adj S p q) {h t' : Int} (c : Cw adj (fun x => S x ∧ x ≠ p) h t') :
    ∀ t, S t → (if t = p then q else t) = t' → Cw adj S h t := by
  obtain ⟨sp, sq, hne, hn⟩ := st
  induction c with
  | @take h t' a b c =>
    intro t ht e
    by_cases hp : t = p
    · rw [if_pos hp] at e
      subst hp e
      exact .go a.1 ht sq c fun s hs ha => .take sq hs (hn s hs ha)
    · rw [if_neg hp] at e
      subst e
      exact .take a.1 ht c
  | @go h t' g a b c d e ih =>
    intro t ht er
    refine .go a.1 ht c.1 d fun s hs ha => ?_
    have hat : adj t' (if s = p then q else s) := by
      rw [← er]
      by_cases h1 : t = p
      · rw [if_pos h1]
        rw [h1] at ha
        by_cases h2 : s = p
        · rw [if_pos h2]; exact rf q
        · rw [if_neg h2]; exact hn s hs ha
      · rw [if_neg h1]
        by_cases h2 : s = p
        · rw [if_pos h2]
          rw [h2] at ha
          exact sy _ _ (hn t ht (sy _ _ ha))
        · rw [if_neg h2]; exact ha
    refine ih (if s = p then q else s) ?_ hat s hs rfl
    by_cases h2 : s = p
    · rw [if_pos h2]; exact ⟨sq, fun e => hne e.symm⟩
    · rw [if_neg h2]; exact ⟨hs, h2⟩
theorem cw_more (rf : ∀ x, adj x x) (sy : ∀ x y, adj x y → adj y x) {S : Int → Prop} {p q : Int} (st : StepOk adj S p q) (all : ∀ h t, (S h ∧ h ≠ p) → (S t ∧ t ≠ p) → Cw adj (fun x => S x ∧ x ≠ p) h t) : ∀ h t, S h → S t → Cw adj S h t := by
  have st0 := st
  obtain ⟨sp, sq, hne, hn⟩ := st
  have hr : ∀ t, S t → S (if t = p then q else t) ∧ (if t = p then q else t) ≠ p := fun t ht => by
    by_cases h : t = p
    · rw [if_pos h]; exact ⟨sq, fun e => hne e.symm⟩
    · rw [if_neg h]; exact ⟨ht, h⟩
  intro h t hh ht
  by_cases hp : h = p
  · subst hp
    exact .go hh ht sq (sy _ _ (hn _ hh (rf _))) fun s hs _ => cw_lift rf sy st0 (all q _ ⟨sq, fun e => hne e.symm⟩ (hr s hs)) s hs rfl
  · exact cw_lift rf sy st0 (all h _ ⟨hh, hp⟩ (hr t ht)) t ht rfl
/-- if one place is left at last -/
theorem cw_all (rf : ∀ x, adj x x) (sy : ∀ x y, adj x y → adj y x) {S E : Int → Prop} {l : List Edge} (r : Run adj S l E) {c : Int} (one : ∀ x, E x → x = c) : ∀ h t, S h → S t → Cw adj S h t := by
  induction r with
  | nil T =>
    intro h t hh ht
    rw [one h hh, one t ht]
    exact .take (one h hh ▸ hh) (one h hh ▸ hh) (rf c)
  | cons h r ih => exact cw_more rf sy h fun a b ha hb => ih one a b ha hb
/-- one who flees on an end is not caught -/
theorem cw_near (sy : ∀ x y, adj x y → adj y x) {S E : Int → Prop} {l : List Edge} (r : Run adj S l E) (st : Stiff adj E) {h t : Int} (c : Cw adj S h t) : E t → adj (mapR l h) t := by
  induction c with
  | take a b c =>
    intro ht
    have := mapR_hom sy r a b c
    rwa [mapR_fix r ht] at this
  | @go h t g a b c d e ih =>
    intro ht
    apply Classical.byContradiction
    intro hno
    have hmg : adj (mapR l h) (mapR l g) := mapR_hom sy r a c d
    refine st t (mapR l g) ⟨ht, mapR_in r c, fun e => hno (e ▸ hmg), fun z hz ha => ih z (run_sub r hz).1 ha hz⟩
theorem cw_not (rf : ∀ x, adj x x) (sy : ∀ x y, adj x y → adj y x) {S E : Int → Prop} {l : List Edge} (r : Run adj S l E) (st : Stiff adj E) {a b : Int} (ha : E a) (hb : E b) (hab : a ≠ b) {h : Int} (hh : S h) : ∃ t, S t ∧ ¬ Cw adj S h t := by
  obtain ⟨t0, ht0, hne⟩ : ∃ t0, E t0 ∧ t0 ≠ mapR l h := by
    by_cases e : a = mapR l h
    · exact ⟨b, hb, fun e2 => hab (e.trans e2.symm)⟩
    · exact ⟨a, ha, e⟩
  apply Classical.byContradiction
  intro hno
  refine st t0 (mapR l h) ⟨ht0, mapR_in r hh, hne, fun z hz _ => ?_⟩
  apply Classical.byContradiction
  intro hz2
  exact hno ⟨z, (run_sub r hz).1, fun c => hz2 (cw_near sy r st c hz)⟩
end
/-! ### in numbers of turns -/
theorem cw_wB {n : Nat} {es : List Edge} (hS : Simp n es) {h t : Int} (c : Cw (Adj es) (fun x => 1 ≤ x ∧ x ≤ n) h t) : wB n es (n * n) h t = true := by
  induction c with
  | @take h t a b c =>
    rw [← still_last hS h t a.1 a.2 b.1 b.2]
    exact wB_iff.mpr ⟨t, (besideM_mem hS a.1 a.2 t).mpr c, .inl rfl⟩
  | @go h t g a b c d e ih =>
    rw [← still_last hS h t a.1 a.2 b.1 b.2]
    refine wB_iff.mpr ⟨g, (besideM_mem hS a.1 a.2 g).mpr d, .inr fun s hs => ?_⟩
    exact ih s (besideM_rng hs) ((besideM_mem hS b.1 b.2 s).mp hs)
theorem wB_cw {n : Nat} {es : List Edge} (hS : Simp n es) : ∀ (k : Nat) {h t : Int}, (1 ≤ h ∧ h ≤ n) → (1 ≤ t ∧ t ≤ n) → wB n es k h t = true → Cw (Adj es) (fun x => 1 ≤ x ∧ x ≤ n) h t
  | 0, h, t, hh, ht, e => .take hh ht (by rw [of_decide_eq_true e]; exact adj_refl es t)
  | k + 1, h, t, hh, ht, e => by
    obtain ⟨g, hg, hc⟩ := wB_iff.mp e
    have gr := besideM_rng hg
    have ha := (besideM_mem hS hh.1 hh.2 g).mp hg
    rcases hc with rfl | hc
    · exact .take hh ht ha
    · exact .go hh ht gr ha fun s hs hts => wB_cw hS k gr hs (hc s ((besideM_mem hS ht.1 ht.2 s).mpr hts))
theorem run_all {n : Nat} {es ps : List Edge} {left : List Int} (r : RunL es (allM n) ps left) : Run (Adj es) (fun x => 1 ≤ x ∧ x ≤ (n : Int)) ps (· ∈ left) := by
  have h := r.run
  have e : (fun x => x ∈ allM n) = fun x => 1 ≤ x ∧ x ≤ (n : Int) := funext fun x => propext allM_mem
  rwa [e] at h
/-- all are caught, if one place is left; otherwise there is one for each start who isn't -/
theorem catch_one {n : Nat} {es ps : List Edge} {left : List Int} (hS : Simp n es) (r : RunL es (allM n) ps left) (h1 : left.length = 1) {h t : Int} (hh : 1 ≤ h ∧ h ≤ n) (ht : 1 ≤ t ∧ t ≤ n) : wB n es (n * n) h t = true := by
  match left, h1 with
  | [c], _ => exact cw_wB hS (cw_all (adj_refl _) adj_symm (run_all r) (c := c) (fun x hx => List.mem_singleton.mp hx) h t hh ht)
theorem catch_not {n : Nat} {es ps : List Edge} {left : List Int} (hS : Simp n es) (r : RunL es (allM n) ps left) (st : foldableM es left = []) (h2 : 2 ≤ left.length) (nd : left.Nodup) {h : Int} (hh : 1 ≤ h ∧ h ≤ n) : ∃ t, (1 ≤ t ∧ t ≤ (n : Int)) ∧ ∀ k, wB n es k h t = false := by
  have e0 : left[0]? = some left[0] := List.getElem?_eq_getElem (by omega)
  have e1 : left[1]? = some left[1] := List.getElem?_eq_getElem (by omega)
  have hne : left[0] ≠ left[1] := fun e => by
    rw [← e] at e1
    have := nd_ix nd e0 e1
    omega
  obtain ⟨t, ht, hc⟩ := cw_not (adj_refl _) adj_symm (run_all r) (stiff_of st) (List.getElem_mem (by omega : 0 < left.length)) (List.getElem_mem (by omega : 1 < left.length)) hne hh
  refine ⟨t, ht, fun k => ?_⟩
  cases e : wB n es k h t with
  | false => rfl
  | true => exact absurd (wB_cw hS k hh ht e) hc
end
/-! piece LO -/
section
/-! ### orders: what is left behind -/
def leftA (left : List Int) (o : List Int) : List Int := o.foldl without left
theorem RunL.left {es : List Edge} {left left' : List Int} {l : List Edge} (r : RunL es left l left') : left' = leftA left (l.map (·.1)) := by
  induction r with
  | nil left => rfl
  | cons hp hq r ih => exact ih
theorem leftA_snoc (left o : List Int) (p : Int) : leftA left (o ++ [p]) = without (leftA left o) p := by
  unfold leftA
  rw [List.foldl_append]
  rfl
theorem leastM_snoc (es : List Edge) (p : Int) : ∀ (o left : List Int), leastM es left (o ++ [p]) = leastM es left o ++ [(p, minL (ontoM es (leftA left o) p))]
  | [], left => rfl
  | a :: o, left => by
    show (a, minL (ontoM es left a)) :: leastM es (without left a) (o ++ [p]) = _
    rw [leastM_snoc es p o]
    rfl
theorem RunL.step {es : List Edge} {left left' : List Int} {l : List Edge} (r : RunL es left l left') : ∀ (i : Nat) (e : Edge), l[i]? = some e →
    RunL es left (l.take i) (leftA left ((l.take i).map (·.1))) ∧ e.1 ∈ leftA left ((l.take i).map (·.1)) ∧ e.2 ∈ ontoM es (leftA left ((l.take i).map (·.1))) e.1 := by
  induction r with
  | nil left => exact fun i e h => by simp at h
  | @cons left left' p q l hp hq r ih =>
    intro i e h
    cases i with
    | zero =>
      simp at h
      subst h
      exact ⟨.nil _, hp, hq⟩
    | succ i =>
      obtain ⟨h1, h2, h3⟩ := ih i e (by simpa using h)
      exact ⟨.cons hp hq h1, h2, h3⟩
theorem leastM_length (es : List Edge) (o left : List Int) : (leastM es left o).length = o.length := by
  have h := congrArg List.length (leastM_fst es o left)
  rwa [List.length_map] at h
end
/-! piece FH -/
section
/-! ### folds that keep some places, and walks whose shadow stays -/
section
variable {adj : Int → Int → Prop}
def StiffH (adj : Int → Int → Prop) (S H : Int → Prop) : Prop := ∀ p q, ¬ H p → ¬ StepOk adj S p q
theorem stiffH_of {S H : Int → Prop} (h : Stiff adj S) : StiffH adj S H := fun p q _ => h p q
/-- like led_back, where some places are never folded -/
theorem led_back_held (rf : ∀ x, adj x x) (sy : ∀ x y, adj x y → adj y x) {S E : Int → Prop} {l : List Edge} (r : Run adj S l E) {Hd : Int → Prop} (st : StiffH adj E Hd) (hE : ∀ x, Hd x → E x)
    {T T' : Int → Prop} {m : List Edge} (rm : Run adj T m T') (hT : ∀ x, Hd x → T' x) : (∀ x, T x → S x) → ∀ {s : Int → Int}, (∀ x, E x → T (s x)) → (∀ x y, E x → E y → adj x y → adj (s x) (s y)) → (∀ x, E x → mapR l (s x) = x) → (∀ x, Hd x → s x = x) →
      ∀ x, E x → mapR l (mapR m (s x)) = x := by
  induction rm with
  | nil T => exact fun _ s _ _ h _ => h
  | @cons T T' p q m h rm ih =>
    intro hTS s hin hom hb hfx x hx
    obtain ⟨hp, hq, hne, hn⟩ := h
    have hpH : ¬ Hd p := fun hh => (run_sub rm (hT p hh)).1.2 rfl
    show mapR l (mapR m (if s x = p then q else s x)) = x
    refine ih hT (s := fun x => if s x = p then q else s x) (fun x hx => hTS x hx.1) ?_ ?_ ?_ ?_ x hx
    · intro x hx
      by_cases e : s x = p
      · simp only [e, if_true]; exact ⟨hq, hne.symm⟩
      · simp only [e, if_false]; exact ⟨hin x hx, e⟩
    · intro x y hx hy ha
      have ha := hom x y hx hy ha
      by_cases e1 : s x = p
      · by_cases e2 : s y = p
        · simp only [e1, e2, if_true]; exact rf q
        · simp only [e1, e2, if_true, if_false]
          rw [e1] at ha
          exact hn _ (hin y hy) ha
      · by_cases e2 : s y = p
        · simp only [e1, e2, if_true, if_false]
          rw [e2] at ha
          exact sy _ _ (hn _ (hin x hx) (sy _ _ ha))
        · simp only [e1, e2, if_false]; exact ha
    · intro x hx
      by_cases e : s x = p
      · simp only [e, if_true]
        apply Classical.byContradiction
        intro hxy
        have hxH : ¬ Hd x := fun hh => by
          rw [hfx x hh] at e
          exact hpH (e ▸ hh)
        refine st x (mapR l q) hxH ⟨hx, mapR_in r (hTS q hq), fun e => hxy e.symm, ?_⟩
        intro z hz hxz
        have h1 := hom x z hx hz hxz
        rw [e] at h1
        have h2 := hn _ (hin z hz) h1
        have h3 := mapR_hom sy r (hTS q hq) (hTS _ (hin z hz)) h2
        rw [hb z hz] at h3
        exact h3
      · simp only [e, if_false]
        exact hb x hx
    · intro x hh
      have hxp : x ≠ p := fun e => hpH (e ▸ hh)
      simp only [hfx x hh, hxp, if_false]
/-- if some order leaves just a lot, all that is left where the lot is kept is the lot -/
theorem held_is (rf : ∀ x, adj x x) (sy : ∀ x y, adj x y → adj y x) {S E Hd : Int → Prop} {l m : List Edge} (r : Run adj S l E) (st : StiffH adj E Hd) (hE : ∀ x, Hd x → E x) (rm : Run adj S m Hd) {x : Int} (hx : E x) : Hd x := by
  have h := led_back_held rf sy r st hE rm (fun _ h => h) (fun _ h => h) (s := fun x => x) (fun x hx => (run_sub r hx).1) (fun _ _ _ _ h => h) (fun x hx => mapR_fix r hx) (fun _ _ => rfl) x hx
  have h2 := mapR_in rm (run_sub r hx).1
  rw [mapR_fix r (hE _ h2)] at h
  exact h ▸ h2
/-- who steps so that those beside it in the end stay beside it is led back as before -/
theorem shadow_step (sy : ∀ x y, adj x y → adj y x) {S E : Int → Prop} {l : List Edge} (r : Run adj S l E) (st : Stiff adj E) {s : Int → Int} (hin : ∀ x, E x → S (s x)) (hb : ∀ x, E x → mapR l (s x) = x)
    {i t : Int} (hi : E i) (ht : S t) (h : ∀ z, E z → adj i z → adj t (s z)) : mapR l t = i := by
  apply Classical.byContradiction
  intro hne
  refine st i (mapR l t) ⟨hi, mapR_in r ht, fun e => hne e.symm, fun z hz ha => ?_⟩
  have h1 := mapR_hom sy r ht (hin z hz) (h z hz ha)
  rwa [hb z hz] at h1
end
end
/-! piece CC -/
section
/-! ### lists of lots, and numbers of turns -/
theorem traps_is {n : Nat} {es : List Edge} (hS : Simp n es) (k : Nat) {t : Int} (t1 : 1 ≤ t) (t2 : t ≤ n) : LotIs ((trapsM n es (sureM n es k)).getD t.toNat 0) ((allM n).filter (trB n es k t)) := fun j => by
  unfold trapsM
  rw [getD_row t1 t2, show t.toNat - 1 + 1 = t.toNat by omega, show ((t.toNat - 1 : Nat) : Int) + 1 = t by omega, Nat.testBit_or, Nat.testBit_two_pow, common_bit _ (beside_ne hS t1 t2)]
  rw [Bool.eq_iff_iff, Bool.or_eq_true, decide_eq_true_eq, decide_eq_true_eq, List.all_eq_true, List.mem_filter, allM_mem, trB_iff]
  constructor
  · rintro (e | e)
    · exact ⟨by omega, .inl (by omega)⟩
    · have h0 := e t (beside_self hS t1 t2)
      rw [sure_is hS k t1 t2, decide_eq_true_eq, List.mem_filter, allM_mem] at h0
      refine ⟨h0.1, .inr fun s hs => ?_⟩
      have sr := besideM_rng hs
      have h2 := e s hs
      rw [sure_is hS k sr.1 sr.2, decide_eq_true_eq, List.mem_filter] at h2
      exact h2.2
  · rintro ⟨hr, e | e⟩
    · exact .inl (by omega)
    · refine .inr fun s hs => ?_
      have sr := besideM_rng hs
      rw [sure_is hS k sr.1 sr.2, decide_eq_true_eq, List.mem_filter, allM_mem]
      exact ⟨hr, e s hs⟩
theorem sure_bit {n : Nat} {es : List Edge} (hS : Simp n es) (k : Nat) {h t : Int} (h1 : 1 ≤ h) (h2 : h ≤ n) (t1 : 1 ≤ t) (t2 : t ≤ n) : ((sureM n es k).getD t.toNat 0).testBit h.toNat = wB n es k h t := by
  rw [sure_is hS k t1 t2, Bool.eq_iff_iff, decide_eq_true_eq, List.mem_filter, allM_mem, show ((h.toNat : Nat) : Int) = h by omega]
  exact ⟨fun a => a.2, fun a => ⟨⟨h1, h2⟩, a⟩⟩
theorem members_zero : membersM 0 = [] := rfl
theorem sure_zero (n : Nat) (es : List Edge) : ∀ k, (sureM n es k)[0]? = some 0
  | 0 => rfl
  | k + 1 => by
    show (aheadM n es (trapsM n es (sureM n es k)))[0]? = some 0
    unfold aheadM trapsM
    rw [List.map_cons, List.getElem?_cons_zero, members_zero]
    rfl
theorem sure_eq {n : Nat} {es : List Edge} (hS : Simp n es) {k : Nat} : sureM n es (k + 1) = sureM n es k ↔ Still n es k := by
  constructor
  · intro e h t h1 h2 t1 t2
    rw [← sure_bit hS (k + 1) h1 h2 t1 t2, e, sure_bit hS k h1 h2 t1 t2]
  · intro s
    apply List.ext_getElem?
    intro i
    by_cases h0 : i = 0
    · rw [h0, sure_zero, sure_zero]
    by_cases hi : i ≤ n
    · have e1 : (sureM n es (k + 1))[i]? = some ((sureM n es (k + 1)).getD ((i : Int)).toNat 0) := by
        rw [List.getD_eq_getElem?_getD, show ((i : Int)).toNat = i by omega, List.getElem?_eq_getElem (by rw [sure_len]; omega)]
        rfl
      have e2 : (sureM n es k)[i]? = some ((sureM n es k).getD ((i : Int)).toNat 0) := by
        rw [List.getD_eq_getElem?_getD, show ((i : Int)).toNat = i by omega, List.getElem?_eq_getElem (by rw [sure_len]; omega)]
        rfl
      rw [e1, e2]
      congr 1
      apply Nat.eq_of_testBit_eq
      intro j
      rw [sure_is hS (k + 1) (t := (i : Int)) (by omega) (by omega), sure_is hS k (t := (i : Int)) (by omega) (by omega)]
      apply decide_eq_decide.mpr
      rw [List.mem_filter, List.mem_filter, allM_mem]
      constructor
      · rintro ⟨a, b⟩
        exact ⟨a, by rw [← s j i a.1 a.2 (by omega) (by omega)]; exact b⟩
      · rintro ⟨a, b⟩
        exact ⟨a, by rw [s j i a.1 a.2 (by omega) (by omega)]; exact b⟩
    · rw [List.getElem?_eq_none (by rw [sure_len]; omega), List.getElem?_eq_none (by rw [sure_len]; omega)]
theorem traps_bits {n : Nat} {es : List Edge} (hS : Simp n es) (k : Nat) : ∀ l ∈ trapsM n es (sureM n es k), ∀ j : Nat, l.testBit j = true → 1 ≤ j ∧ j ≤ n := fun l hl j hj => by
  obtain ⟨i, hi⟩ := List.getElem?_of_mem hl
  have hlt : i < n + 1 := by
    have := (List.getElem?_eq_some_iff.mp hi).1
    rwa [traps_len] at this
  by_cases h0 : i = 0
  · subst h0
    have : (trapsM n es (sureM n es k))[0]? = some 0 := rfl
    rw [this] at hi
    cases hi
    rw [Nat.zero_testBit] at hj
    cases hj
  · have e := traps_is hS k (t := (i : Int)) (by omega) (by omega) j
    rw [List.getD_eq_getElem?_getD, show ((i : Int)).toNat = i by omega, hi] at e
    rw [show (some l).getD 0 = l from rfl, hj] at e
    have := allM_mem.mp (List.mem_filter.mp (of_decide_eq_true e.symm)).1
    omega
/-- where to go now -/
def goalsM (n : Nat) (es : List Edge) (k : Nat) (h t : Int) : List Int := ((allM n).filter (trB n es k t)).filter fun x => decide (x ∈ besideM n es h)
theorem goals_mem {n : Nat} {es : List Edge} {k : Nat} {h t g : Int} : g ∈ goalsM n es k h t ↔ g ∈ besideM n es h ∧ trB n es k t g = true := by
  unfold goalsM
  rw [List.mem_filter, List.mem_filter, decide_eq_true_eq, allM_mem]
  constructor
  · rintro ⟨⟨_, b⟩, c⟩; exact ⟨c, b⟩
  · rintro ⟨c, b⟩; exact ⟨⟨besideM_rng c, b⟩, c⟩
theorem goals_none {n : Nat} {es : List Edge} {k : Nat} {h t : Int} : goalsM n es k h t = [] ↔ wB n es (k + 1) h t = false := by
  rw [wB_succ]
  constructor
  · intro e
    rw [List.any_eq_false]
    intro g hg hc
    have : g ∈ goalsM n es k h t := goals_mem.mpr ⟨hg, hc⟩
    rw [e] at this
    cases this
  · intro e
    rw [List.any_eq_false] at e
    apply List.eq_nil_iff_forall_not_mem.mpr
    intro g hg
    have := goals_mem.mp hg
    exact e g this.1 this.2
theorem goals_members {n : Nat} {es : List Edge} (hS : Simp n es) {k : Nat} {h t : Int} (h1 : 1 ≤ h) (h2 : h ≤ n) (t1 : 1 ≤ t) (t2 : t ≤ n) : membersM ((trapsM n es (sureM n es k)).getD t.toNat 0 &&& (nearB n es).getD h.toNat 0) = goalsM n es k h t := by
  obtain ⟨u, hu, hub, hul⟩ := near_lot' hS (p := h.toNat) (by omega) (by omega)
  have e : (nearB n es).getD h.toNat 0 = u := by rw [List.getD_eq_getElem?_getD, hu]; rfl
  rw [e]
  have hl := lot_and (traps_is hS k t1 t2) hul
  rw [show ((h.toNat : Nat) : Int) = h by omega] at hl
  refine members_lot hl (List.Pairwise.filter _ (List.Pairwise.filter _ (allM_lt n))) fun x hx => ?_
  exact (allM_mem.mp (List.mem_filter.mp (List.mem_filter.mp hx).1).1).1
end
/-! piece RV -/
section
def cReprV (K : PySem.W.Frag) : List V → Hp → VK → Prop := fun xs H Q => (xs = [.non] ∧ Q (.str "None") H) ∨ cRepr K xs H Q
theorem call_reprVK {X : Cx} {K : PySem.W.Frag} (_ : KMark K) (h : X.K = K) (hgd : X.A.guards = some []) (hu : X.A.units + 64 < cLine) : CallR X (.builtin "repr") (cReprV K) := by
  subst h
  intro pins s σ H xs us Q I r h
  rcases h with ⟨rfl, q⟩ | h
  · obtain ⟨u, rfl, ru⟩ := vals1 r
    cases ru
    exact PySem.P.repr_of_none ⟨.str _, H, I.tok _, ⟨_, rfl⟩, q⟩
  · exact call_reprD hgd hu pins s σ H xs us Q I r h
def g2 {α : Type} : List α → List α → List α := fun us ws => match us, ws with
  | [], [a, b] => [b, a]
  | _, _ => []
def g4k {α : Type} : List α → List α → List α := fun us ws => match us, ws with
  | [], [a, b, c, d] => [d, c, b, a]
  | _, _ => []
def g6 {α : Type} : List α → List α → List α := fun us ws => match us, ws with
  | [], [a, b, c, d, e, f] => [f, e, d, c, b, a]
  | _, _ => []
end
/-! piece D11 -/
section
theorem call_isiK' {X : Cx} {K : PySem.W.Frag} (_ : KMark K) (h : X.K = K) : CallR X (.builtin "isinstance") (rIsi K) := h ▸ call_isi
local macro_rules | `(tactic| wtm_at "fo v") => `(tactic| first
  | ((with_reducible show PE _ (.Name (Str.ofString "int") _) _); exact pe_bltn (v := .ty "int") (by rfl) (by assumption) (by decide +kernel) rfl)
  | ((with_reducible show PE _ (.Name (Str.ofString "list") _) _); exact pe_bltn (v := .ty "list") (by rfl) (by assumption) (by decide +kernel) rfl)
  | ((with_reducible show PE _ (.Name (Str.ofString "MOST_PLACES") _) _); exact pe_glob (v := .int 12) (by rfl) (by assumption) ⟨_, rfl⟩)
  | fail "no")
local macro_rules | `(tactic| wtm_at "fo e") => `(tactic| first
  | ((with_reducible show PE _ (.BoolOp .And [_] _) _); apply pe_one; wtm_at "fo e")
  | ((with_reducible show PE _ (.BoolOp .And _ _) _); apply pe_and; (· wtm_at "fo e"); (· wtm_at "fo e"))
  | ((with_reducible show PE _ (.Compare _ [.IsNot] [.Constant (.bool true) _ _] _) _); refine' pe_cmpR op_notT ?ka ?kb (nomark _); (case ka => wtm_at "fo e"); (case kb => wtm_at "fo e"))
  | ((with_reducible show PE _ (.Compare _ [.LtE, .LtE] _ _) _); refine' pe_chain op_le op_le ?ka ?kb ?kc; (case ka => wtm_at "fo e"); (case kb => wtm_at "fo e"); (case kc => wtm_at "fo e"))
  | ((with_reducible show PE _ (.Call (.Name (Str.ofString "isinstance") _) _ _ _) _); refine' pe_callB (call_isiK' (by assumption) (by exact rfl)) (by rfl) (by assumption) (by decide +kernel) ?ka; (case ka => wtm_at "fo a"))
  | ((with_reducible show PE _ (.Call (.Attribute _ (Str.ofString "bit_length") _) [] [] _) _); refine' pe_bits ?ka; (case ka => wtm_at "fo e"))
  | fail "no")
local macro_rules | `(tactic| wtm_at "fo t") => `(tactic| first
  | ((with_reducible show PT _ (.Compare _ [.IsNot] [.Constant (.bool true) _ _] _) _); refine' pt_cmpR op_notT ?ka ?kb (nomark _); (case ka => wtm_at "fo e"); (case kb => wtm_at "fo e"))
  | ((with_reducible show PT _ (.Compare _ [.Lt, .Lt, .LtE] _ _) _); refine' pt_chain3 op_lt op_lt op_le ?ka ?kb ?kc ?kd; (case ka => wtm_at "fo e"); (case kb => wtm_at "fo e"); (case kc => wtm_at "fo e"); (case kd => wtm_at "fo e"))
  | fail "no")
local macro_rules | `(tactic| wtm_at "fo s") => `(tactic| first
  | ((with_reducible show PS _ (.Raise _ _ _) _); exact ps_never)
  | ((with_reducible show PS _ (.Continue _) _); exact ps_continue)
  | ((with_reducible show PS _ (.AugAssign (.Subscript _ _ _) .BitOr _ _) _); refine' ps_augS ?ka ?kb get_list ?kc ip_or set_list; (case ka => wtm_at "fo e"); (case kb => wtm_at "fo e"); (case kc => wtm_at "fo e"))
  | ((with_reducible show PS _ (.Assign [.Tuple _ _ _] (.Name _ _) _) _); refine' ps_asg ?ka ?kb; (case ka => wtm_at "fo e"); (case kb => wtm_at "fo g"))
  | fail "no")
variable {P : Program} {w : World} {K : PySem.W.Frag} {mg : Str → Option Value} {base : Heap}
/-! ### is_place, members -/
@[irreducible] def spIsPlace : Sp := fun vs H Q _ => ∃ i n : Int, vs = [.int i, .int n] ∧ Q (.bl (decide (1 ≤ i ∧ i ≤ n))) H
theorem call_isplace {i n : Int} {H : Hp} {Q : VK} {E : XK} (q : Q (.bl (decide (1 ≤ i ∧ i ≤ n))) H) : spIsPlace [.int i, .int n] H Q E := by
  unfold spIsPlace
  exact ⟨i, n, rfl, q⟩
set_option maxHeartbeats 2000000 in
theorem ok_isplace {f : Addr} {fd : FuncData} (F : Fun K "is_place" "is_place" s_is_place f fd) (mi : mg "isinstance" = none) (mt : mg "int" = none) :
    FnOk P w K mg base CX0 1 f fd ["place", "places"] spIsPlace := by
  refine F.ok sc_is_place (fun vs H Q E h => ?_) (fun cdv A outer s H vs Q E hr h => ?_)
  · unfold spIsPlace at h
    obtain ⟨i, n, rfl, _⟩ := h
    rfl
  · have nd := sc_is_place.nd
    have hS := sc_is_place
    have hKM : KMark K := ⟨⟩
    refine' mk_body ?body ?rd
    case body =>
      show PSs _ [_] _
      wtm_at "fo ss"
    case rd =>
     unfold spIsPlace at h
     obtain ⟨i, n, rfl, q⟩ := h
     wtm_at "fo r"
     refine ⟨.int i, .ty "int", _, _, true, rfl, .ty "int", .base (.int i), kit_ty (by decide +kernel), ?_⟩
     refine ⟨_, rfl, ?_⟩
     refine ifT rfl ?_
     refine ⟨_, rfl, rfl, _, rfl, ifT rfl ?_⟩
     refine ⟨_, rfl, _, _, rfl, rfl, _, rfl, ?_⟩
     by_cases h1 : 1 ≤ i
     · refine ifT (decide_eq_true h1) ?_
       refine ⟨_, rfl, _, _, rfl, rfl, ?_⟩
       rw [show decide (1 ≤ i ∧ i ≤ n) = decide (i ≤ n) by simp [h1]] at q
       exact q
     · refine ifF (decide_eq_false h1) ?_
       rw [show decide (1 ≤ i ∧ i ≤ n) = false by simp [h1]] at q
       exact q

@[irreducible] def spMembers : Sp := fun vs H Q _ => ∃ v : Nat, vs = [.int v] ∧ v < 2 ^ 20 ∧ ∀ p H', Same H H' → H p = none → H' p = some (.lst ((membersM v).map V.int)) → Q (.ref p) H'
theorem call_members {v : Nat} {H : Hp} {Q : VK} {E : XK} (hv : v < 2 ^ 20) (q : ∀ p H', Same H H' → H p = none → H' p = some (.lst ((membersM v).map V.int)) → Q (.ref p) H') : spMembers [.int v] H Q E := by
  unfold spMembers
  exact ⟨v, rfl, hv, q⟩
theorem bitLen_eq (v : Nat) : Builtin.Int.intBits (v : Int) = bitLen v := by
  unfold Builtin.Int.intBits bitLen
  by_cases h : v = 0
  · subst h; rfl
  · rw [if_neg h, if_neg (by simp; omega)]
    rfl
theorem bitLen_le {v k : Nat} (h : v < 2 ^ k) : bitLen v ≤ k := by
  unfold bitLen
  by_cases e : v = 0
  · rw [if_pos e]; omega
  · rw [if_neg e]
    have := (Nat.log2_lt e).mpr h
    omega
set_option maxHeartbeats 2000000 in
theorem ok_members {f : Addr} {fd : FuncData} (F : Fun K "members" "members" s_members f fd) (mr : mg "range" = none) :
    FnOk P w K mg base CX0 1 f fd ["lot"] spMembers := by
  refine F.ok sc_members (fun vs H Q E h => ?_) (fun cdv A outer s H vs Q E hr h => ?_)
  · unfold spMembers at h
    obtain ⟨v, rfl, _⟩ := h
    rfl
  · have nd := sc_members.nd
    have hS := sc_members
    have hKM : KMark K := ⟨⟩
    refine' mk_body ?body ?rd
    case body =>
      show PSs _ [_] _
      wtm_at "fo ss"
    case rd =>
     unfold spMembers at h
     obtain ⟨v, rfl, hv, q⟩ := h
     wtm_at "fo r"
     rw [bitLen_eq]
     have hb := bitLen_le hv
     refine ⟨1, (bitLen v : Int), rfl, ⟨by decide, by decide, by omega, by omega⟩, fun D nD => ?_⟩
     have hN : ((bitLen v : Int) - 1).toNat = bitLen v - 1 := by omega
     refine lc_range (fun i H1 => i ≤ bitLen v - 1 ∧ H1 = upd H D (.lst ((((List.range i).map fun (i : Nat) => (i : Int) + 1).filter fun x => v.testBit x.toNat).map V.int))) ⟨Nat.zero_le _, rfl⟩ ?_ ?_
     · rintro i H1 hi ⟨hi2, rfl⟩
       rw [hN] at hi
       refine ⟨rfl, ?_⟩
       wtm_at "fo r"
       rw [show (1 + (i : Int)).toNat = i + 1 by omega, bit_test]
       have hlen : ((((List.range i).map fun (i : Nat) => (i : Int) + 1).filter fun x => v.testBit x.toNat).map V.int).length ≤ i := by
         rw [List.length_map]
         exact Nat.le_trans (List.length_filter_le ..) (by simp)
       have hr1 : ((List.range (i + 1)).map fun (i : Nat) => (i : Int) + 1).filter (fun x => v.testBit x.toNat) = ((List.range i).map fun (i : Nat) => (i : Int) + 1).filter (fun x => v.testBit x.toNat) ++ (if v.testBit (i + 1) then [(i : Int) + 1] else []) := by
         rw [List.range_succ, List.map_append, List.filter_append]
         congr 1
         show List.filter _ [(i : Int) + 1] = _
         rw [List.filter_cons, show ((i : Int) + 1).toNat = i + 1 by omega]
         rfl
       rw [hr1]
       cases hb1 : v.testBit (i + 1) with
       | true =>
         refine ifT rfl ⟨_, rfl, _, upd_same, Nat.lt_of_le_of_lt (m := 20) (by omega) (by decide), by omega, ?_⟩
         rw [upd_upd, if_pos rfl, List.map_append, show (1 + (i : Int)) = (i : Int) + 1 by omega]
         rfl
       | false =>
         refine ifF rfl ⟨by omega, ?_⟩
         rw [if_neg (by decide), List.append_nil]
     · rintro H1 ⟨_, rfl⟩
       rw [hN]
       exact q D _ (same_upd (Same.refl _) nD) nD upd_same
end
/-! piece DN -/
section
theorem take_apart {es : List Edge} (h : es.Pairwise Apart) {i : Nat} (hi : i < es.length) : ∀ e ∈ es.take i, Apart e es[i] := by
  intro e he
  obtain ⟨j, hj⟩ := List.getElem?_of_mem he
  rw [List.getElem?_take] at hj
  split at hj
  · rename_i hji
    have hjl : j < es.length := by omega
    rw [List.getElem?_eq_getElem hjl] at hj
    cases hj
    exact List.pairwise_iff_getElem.mp h j i hjl hi hji
  · cases hj
theorem at_nb {t : List Nat} {p u : Nat} (h : t[p]? = some u) : atI (t.map fun (v : Nat) => V.int v) (p : Int) = some (.int u) :=
  at_of (j := p) rfl (by rw [List.getElem?_map, h]; rfl)
theorem get_nb {t : List Nat} {p u : Nat} (h : t[p]? = some u) : (t.map fun (v : Nat) => V.int v)[p]? = some (.int u) := by
  rw [List.getElem?_map, h]
  rfl
theorem get_nb2 {t : List Nat} {p q u : Nat} {x : V} (hq : q ≠ p) (h : t[p]? = some u) : ((t.map fun (v : Nat) => V.int v).set q x)[p]? = some (.int u) := by
  rw [List.getElem?_set_ne hq, get_nb h]
theorem at_pw {n p : Nat} (h : p ≤ n) : atI ((List.range (n + 1)).map fun (k : Nat) => V.int ((2 ^ k : Nat) : Int)) (p : Int) = some (.int ((2 ^ p : Nat) : Int)) :=
  at_of (j := p) rfl (by rw [List.getElem?_map, List.getElem?_range (by omega)]; rfl)
theorem ix_n {n j : Nat} (h : j < n) : ixN n (j : Int) = some j := by
  unfold ixN
  rw [if_pos (Int.natCast_nonneg j), if_pos (by omega)]
  rfl
theorem set_addB {t : List Nat} {a b u w : Nat} (hu : t[a]? = some u) (hw : t[b]? = some w) (hne : a ≠ b) :
    (((t.map fun (v : Nat) => V.int v).set a (.int (Builtin.bitOr u (2 ^ b : Nat)))).set b (.int (Builtin.bitOr w (2 ^ a : Nat)))) = (addB t ((a : Int), (b : Int))).map fun (v : Nat) => V.int v := by
  rw [bOr, bOr]
  have ha := (List.getElem?_eq_some_iff.mp hu).1
  have hb := (List.getElem?_eq_some_iff.mp hw).1
  apply List.ext_getElem?
  intro i
  unfold addB
  rw [List.getElem?_map, List.getElem?_modify, List.getElem?_modify, List.getElem?_set, List.getElem?_set, List.getElem?_map]
  simp only [List.length_set, List.length_map, Int.toNat_natCast]
  by_cases h1 : b = i
  · subst h1
    simp [hb, hne, (List.getElem?_eq_some_iff.mp hw).2]
  · by_cases h2 : a = i
    · subst h2
      simp [ha, h1, (List.getElem?_eq_some_iff.mp hu).2]
    · simp [h1, h2]
variable {P : Program} {w : World} {K : PySem.W.Frag} {mg : Str → Option Value} {base : Heap}
/-! ### read_net, where all is right -/
def nLst (t : List Nat) : HO := .lst (t.map fun (v : Nat) => V.int v)
end
/-! tactics TAC2 -/
local macro_rules | `(tactic| wtm_at "fo v") => `(tactic| first
  | ((with_reducible show PE _ (.Name (Str.ofString "int") _) _); exact pe_bltn (v := .ty "int") (by rfl) (by assumption) (by decide +kernel) rfl)
  | ((with_reducible show PE _ (.Name (Str.ofString "list") _) _); exact pe_bltn (v := .ty "list") (by rfl) (by assumption) (by decide +kernel) rfl)
  | ((with_reducible show PE _ (.Name (Str.ofString "MOST_PLACES") _) _); exact pe_glob (v := .int 12) (by rfl) (by assumption) ⟨_, rfl⟩)
  | fail "no")
local macro_rules | `(tactic| wtm_at "fo e") => `(tactic| first
  | ((with_reducible show PE _ (.BoolOp .And [_] _) _); apply pe_one; wtm_at "fo e")
  | ((with_reducible show PE _ (.BoolOp .And _ _) _); apply pe_and; (· wtm_at "fo e"); (· wtm_at "fo e"))
  | ((with_reducible show PE _ (.Compare _ [.IsNot] [.Constant (.bool true) _ _] _) _); refine' pe_cmpR op_notT ?ka ?kb (nomark _); (case ka => wtm_at "fo e"); (case kb => wtm_at "fo e"))
  | ((with_reducible show PE _ (.Compare _ [.LtE, .LtE] _ _) _); refine' pe_chain op_le op_le ?ka ?kb ?kc; (case ka => wtm_at "fo e"); (case kb => wtm_at "fo e"); (case kc => wtm_at "fo e"))
  | ((with_reducible show PE _ (.Call (.Name (Str.ofString "isinstance") _) _ _ _) _); refine' pe_callB (call_isiK' (by assumption) (by exact rfl)) (by rfl) (by assumption) (by decide +kernel) ?ka; (case ka => wtm_at "fo a"))
  | ((with_reducible show PE _ (.Call (.Attribute _ (Str.ofString "bit_length") _) [] [] _) _); refine' pe_bits ?ka; (case ka => wtm_at "fo e"))
  | fail "no")
local macro_rules | `(tactic| wtm_at "fo t") => `(tactic| first
  | ((with_reducible show PT _ (.Compare _ [.IsNot] [.Constant (.bool true) _ _] _) _); refine' pt_cmpR op_notT ?ka ?kb (nomark _); (case ka => wtm_at "fo e"); (case kb => wtm_at "fo e"))
  | ((with_reducible show PT _ (.Compare _ [.Lt, .Lt, .LtE] _ _) _); refine' pt_chain3 op_lt op_lt op_le ?ka ?kb ?kc ?kd; (case ka => wtm_at "fo e"); (case kb => wtm_at "fo e"); (case kc => wtm_at "fo e"); (case kd => wtm_at "fo e"))
  | fail "no")
local macro_rules | `(tactic| wtm_at "fo s") => `(tactic| first
  | ((with_reducible show PS _ (.Raise _ _ _) _); exact ps_never)
  | ((with_reducible show PS _ (.Continue _) _); exact ps_continue)
  | ((with_reducible show PS _ (.AugAssign (.Subscript _ _ _) .BitOr _ _) _); refine' ps_augS ?ka ?kb get_list ?kc ip_or set_list; (case ka => wtm_at "fo e"); (case kb => wtm_at "fo e"); (case kc => wtm_at "fo e"))
  | ((with_reducible show PS _ (.Assign [.Tuple _ _ _] (.Name _ _) _) _); refine' ps_asg ?ka ?kb; (case ka => wtm_at "fo e"); (case kb => wtm_at "fo g"))
  | fail "no")
/-! piece D12 -/
section
variable {P : Program} {w : World} {K : PySem.W.Frag} {mg : Str → Option Value} {base : Heap}
theorem ref_at {qs : List Addr} {i : Nat} {x : V} (h : (qs.map V.ref)[i]? = some x) : ∃ r, qs[i]? = some r ∧ x = V.ref r := by
  rw [List.getElem?_map] at h
  cases hq : qs[i]? with
  | none => rw [hq] at h; cases h
  | some r => rw [hq] at h; exact ⟨r, rfl, (Option.some.inj h).symm⟩
theorem int_at {ns : List Int} {i : Nat} {x : V} (h : (ns.map V.int)[i]? = some x) : ∃ r, ns[i]? = some r ∧ x = V.int r := by
  rw [List.getElem?_map] at h
  cases hq : ns[i]? with
  | none => rw [hq] at h; cases h
  | some r => rw [hq] at h; exact ⟨r, rfl, (Option.some.inj h).symm⟩
@[irreducible] def spRead : Sp := fun vs H Q _ => ∃ (q : Addr) (n : Nat) (es : List Edge), vs = [.int n, .ref q] ∧ 1 ≤ n ∧ n ≤ 12 ∧ Pairs H q es ∧ Simp n es ∧ es.length ≤ 200 ∧
  ∀ r H', Same H H' → H r = none → H' r = some (nLst (nearB n es)) → Q (.ref r) H'
theorem call_read {q : Addr} {n : Nat} {es : List Edge} {H : Hp} {Q : VK} {E : XK} (h1 : 1 ≤ n) (h2 : n ≤ 12) (hq : Pairs H q es) (hS : Simp n es) (hl : es.length ≤ 200)
    (fin : ∀ r H', Same H H' → H r = none → H' r = some (nLst (nearB n es)) → Q (.ref r) H') : spRead [.int n, .ref q] H Q E := by
  unfold spRead
  exact ⟨q, n, es, rfl, h1, h2, hq, hS, hl, fin⟩
set_option maxHeartbeats 4000000 in
theorem ok_read {f : Addr} {fd : FuncData} (F : Fun K "read_net" "read_net" s_read_net f fd) (mi : mg "isinstance" = none) (mt : mg "int" = none) (ml : mg "list" = none) (mr : mg "range" = none) (me : mg "enumerate" = none) (mn : mg "len" = none)
    {tk : Tok} (mP : mg "MOST_PLACES" = some (.int 12 tk)) (C : Cal P w K mg base "is_place" 1 ["place", "places"] spIsPlace) :
    FnOk P w K mg base CX0 2 f fd ["places", "lines"] spRead := by
  refine F.ok sc_read_net (fun vs H Q E h => ?_) (fun cdv A outer s H vs Q E hr h => ?_)
  · unfold spRead at h
    obtain ⟨q, n, es, rfl, _⟩ := h
    rfl
  · have nd := sc_read_net.nd
    have hS := sc_read_net
    have hKM : KMark K := ⟨⟩
    refine' mk_body ?body ?rd
    case body =>
      show PSs _ [_, _, _, _, _, _] _
      wtm_at "fo ss"
    case rd =>
     unfold spRead at h
     obtain ⟨q, n, es, rfl, h1, h2, hq, hSi, hl, fin⟩ := h
     wtm_at "fo r"
     refine call_isplace ⟨_, rfl, ?_⟩
     refine ifF (by rw [decide_eq_true (by omega)]; rfl) ?_
     obtain ⟨rs, hD, hrl, hat⟩ := hq
     wtm_at "fo r"
     refine ⟨.ref q, .ty "list", _, _, true, rfl, .ty "list", .base (.lst hD), kit_ty (by decide +kernel), ?_⟩
     wtm_at "fo r"
     refine fun D nD => ?_
     have hN : (((n : Int) + 1)).toNat = n + 1 := by omega
     refine lc_range (fun i H1 => i ≤ n + 1 ∧ H1 = upd H D (.lst ((List.range i).map fun (k : Nat) => V.int ((2 ^ k : Nat) : Int)))) ⟨Nat.zero_le _, rfl⟩ ?_ ?_
     · rintro i H1 hi ⟨hi2, rfl⟩
       rw [hN] at hi
       refine ⟨rfl, ?_⟩
       wtm_at "fo r"
       have hlen : ((List.range i).map fun (k : Nat) => V.int ((2 ^ k : Nat) : Int)).length = i := by simp
       refine ⟨_, upd_same, by rw [hlen]; exact Nat.lt_of_le_of_lt (m := 20) (by omega) (by decide), by omega, ?_⟩
       rw [upd_upd, List.range_succ, List.map_append]
       have ev : V.int (1 * 2 ^ (0 + (i : Int)).toNat) = V.int ((2 ^ i : Nat) : Int) := by
         rw [show (0 + (i : Int)).toNat = i by omega, Int.one_mul, Int.natCast_pow]
         rfl
       show upd H D (HO.lst (_ ++ [V.int (1 * 2 ^ (0 + (i : Int)).toNat)])) = _
       rw [ev]
       rfl
     · rintro H1 ⟨_, rfl⟩
       rw [hN]
       wtm_at "fo r"
       rename_i p np
       have sm1 : Same H (upd H D (.lst ((List.range (n + 1)).map fun (k : Nat) => V.int ((2 ^ k : Nat) : Int)))) := same_upd (Same.refl _) nD
       have hD1 : (upd H D (.lst ((List.range (n + 1)).map fun (k : Nat) => V.int ((2 ^ k : Nat) : Int)))) D = some (.lst ((List.range (n + 1)).map fun (k : Nat) => V.int ((2 ^ k : Nat) : Int))) := upd_same
       generalize upd H D (.lst ((List.range (n + 1)).map fun (k : Nat) => V.int ((2 ^ k : Nat) : Int))) = H1 at *
       have sm2 : Same H (upd H1 p (.lst [.int 0])) := same_upd sm1 (sm1.free np)
       have hp2 : (upd H1 p (.lst [.int 0])) p = some (.lst [.int 0]) := upd_same
       have hD2 : (upd H1 p (.lst [.int 0])) D = some (.lst ((List.range (n + 1)).map fun (k : Nat) => V.int ((2 ^ k : Nat) : Int))) := (upd_ne (ne_of_none hD1 np)).trans hD1
       generalize upd H1 p (.lst [.int 0]) = H2 at *
       refine ⟨D, _, rfl, SqL.of hD2, fun c nc => ?_⟩
       rw [cut_1]
       have sm3 : Same H2 (upd H2 c (.lst (((List.range (n + 1)).map fun (k : Nat) => V.int ((2 ^ k : Nat) : Int)).drop 1))) := same_upd (Same.refl _) nc
       have hc3 : (upd H2 c (.lst (((List.range (n + 1)).map fun (k : Nat) => V.int ((2 ^ k : Nat) : Int)).drop 1))) c = some (.lst (((List.range (n + 1)).map fun (k : Nat) => V.int ((2 ^ k : Nat) : Int)).drop 1)) := upd_same
       generalize upd H2 c (.lst (((List.range (n + 1)).map fun (k : Nat) => V.int ((2 ^ k : Nat) : Int)).drop 1)) = H3 at *
       refine Or.inr ⟨p, c, _, _, rfl, rfl, sm3 _ _ hp2, hc3, ?_, fun r nr => ?_⟩
       · rw [List.length_drop, List.length_map, List.length_range]
         exact Nat.le_trans (m := 20) (by simp; omega) (by decide)
       have e0 : [V.int 0] ++ ((List.range (n + 1)).map fun (k : Nat) => V.int ((2 ^ k : Nat) : Int)).drop 1 = (nearB n []).map fun (v : Nat) => V.int v := by
         show _ = (nb0 n).map _
         unfold nb0
         rw [List.range_succ_eq_map, List.map_cons, List.drop_succ_cons, List.drop_zero, List.map_map, List.map_cons, List.map_map]
         rfl
       rw [e0]
       have sm03 : Same H H3 := sm2.trans sm3
       have sm4 : Same H (upd H3 r (.lst ((nearB n []).map fun (v : Nat) => V.int v))) := same_upd sm03 (sm03.free nr)
       have hD4 : (upd H3 r (.lst ((nearB n []).map fun (v : Nat) => V.int v))) D = some (.lst ((List.range (n + 1)).map fun (k : Nat) => V.int ((2 ^ k : Nat) : Int))) := (upd_ne (ne_of_none (sm3 _ _ hD2) nr)).trans (sm3 _ _ hD2)
       have hr4 : (upd H3 r (.lst ((nearB n []).map fun (v : Nat) => V.int v))) r = some (nLst (nearB n [])) := upd_same
       have nr0 : H r = none := sm03.free nr
       have hDr0 : D ≠ r := ne_of_none (sm3 _ _ hD2) nr
       generalize upd H3 r (.lst ((nearB n []).map fun (v : Nat) => V.int v)) = H4 at *
       refine ⟨_, rfl, q, rs.map V.ref, rfl, SqL.of (sm4 _ _ hD), ?_⟩
       refine for_enum (K := K) (xs := rs.map V.ref) (fun i σ H5 => ∃ y5 y6 y7 y8, σ = [some (.int n), some (.ref q), some (.ref D), none, some (.ref r), y5, y6, y7, y8] ∧ Same H H5 ∧
         H5 D = some (.lst ((List.range (n + 1)).map fun (k : Nat) => V.int ((2 ^ k : Nat) : Int))) ∧ H5 r = some (nLst (nearB n (es.take i)))) ?_ ?_ ?_ ?_
       · exact ⟨none, none, none, none, rfl, sm4, hD4, hr4⟩
       · rintro i σ H5 _ ⟨y5, y6, y7, y8, rfl, sm5, hD5, hr5⟩
         exact SqL.of (sm5 _ _ hD)
       · rintro i x T σ H5 hx ⟨y5, y6, y7, y8, rfl, sm5, hD5, hr5⟩ nT
         obtain ⟨ri, hri, rfl⟩ := ref_at hx
         have hi : i < es.length := by rw [← hrl]; exact (List.getElem?_eq_some_iff.mp hri).1
         have hei : es[i]? = some es[i] := List.getElem?_eq_getElem hi
         have hti := hat i ri _ hri hei
         have hrg := hSi.rng _ (List.getElem_mem hi)
         have hap : ∀ e ∈ es.take i, Apart e es[i] := take_apart hSi.ap hi
         have htk : es.take (i + 1) = es.take i ++ [es[i]] := by rw [List.take_add_one, hei]; rfl
         have hpos : ∀ e ∈ es.take i, 1 ≤ e.1 ∧ 1 ≤ e.2 ∧ e.1 ≠ e.2 := fun e he => by
           have := hSi.rng e (List.mem_of_mem_take he)
           omega
         generalize hee : es[i] = e at *
         obtain ⟨a, b⟩ := e
         simp only at hti hrg
         obtain ⟨a, rfl⟩ : ∃ k : Nat, a = (k : Int) := ⟨a.toNat, by omega⟩
         obtain ⟨b, rfl⟩ : ∃ k : Nat, b = (k : Int) := ⟨b.toNat, by omega⟩
         have sm6 : Same H (upd H5 T (.tup [.int (i : Nat), .ref ri])) := same_upd sm5 (sm5.free nT)
         have hD6 : (upd H5 T (.tup [.int (i : Nat), .ref ri])) D = _ := (upd_ne (ne_of_none hD5 nT)).trans hD5
         have hnr6 : (upd H5 T (.tup [.int (i : Nat), .ref ri])) r = _ := (upd_ne (ne_of_none hr5 nT)).trans hr5
         refine Or.inl ⟨T, [.int (i : Nat), .ref ri], rfl, SqT.of upd_same, rfl, .int (i : Nat), [.ref ri], rfl, .ref ri, [], rfl, rfl, ?_⟩
         generalize upd H5 T (.tup [.int (i : Nat), .ref ri]) = H6 at *
         have hti6 := sm6 _ _ hti
         wtm_at "fo r"
         refine ⟨.ref ri, .ty "list", _, _, true, rfl, .ty "list", .base (.lst hti6), kit_ty (by decide +kernel), ?_⟩
         refine ⟨true, rfl, ifT rfl ?_⟩
         refine ⟨_, rfl, ri, _, rfl, Or.inl (SqL.of hti6), Or.inl ⟨rfl, _, rfl, ifT (by rfl) ?_⟩⟩
         refine ⟨_, rfl, Or.inr ⟨ri, [.int a, .int b], rfl, SqL.of hti6, rfl, .int a, [.int b], rfl, .int b, [], rfl, rfl, ?_⟩⟩
         refine ⟨_, rfl, .int a, .ty "int", _, _, true, rfl, .ty "int", .base (.int a), kit_ty (by decide +kernel), true, rfl, ifT rfl ?_⟩
         refine ⟨_, rfl, .int b, .ty "int", _, _, true, rfl, .ty "int", .base (.int b), kit_ty (by decide +kernel), true, rfl, ifT rfl ?_⟩
         refine ⟨_, rfl, _, rfl, _, _, rfl, rfl, _, rfl, ?_⟩
         refine ite2 (fun hc => ?_) (fun hc => ?_)
         · refine ⟨_, rfl, Or.inr ⟨ri, [.int a, .int b], rfl, SqL.of hti6, rfl, .int a, [.int b], rfl, .int b, [], rfl, rfl, ?_⟩⟩
           have hba := of_decide_eq_true hc
           have hfr : ∀ e ∈ es.take i, Apart e ((b : Nat), (a : Nat)) := fun e he => ⟨fun h => (hap e he).2 (by rw [h]), fun h => (hap e he).1 (by rw [h])⟩
           have hfr2 : ∀ e ∈ es.take i, Apart e ((a : Nat), (b : Nat)) := fun e he => ⟨fun h => (hfr e he).2 (by rw [h]), fun h => (hfr e he).1 (by rw [h])⟩
           obtain ⟨u, hu, hu0⟩ := fresh_bit (n := n) hpos (a := b) (b := a) (by omega) (by omega) (by omega) hfr
           obtain ⟨u2, hu2, _⟩ := fresh_bit (n := n) hpos (a := a) (b := b) (by omega) (by omega) (by omega) hfr2
           refine ⟨_, rfl, rfl, _, rfl, ifT rfl ?_⟩
           refine ⟨_, rfl, _, _, rfl, rfl, _, rfl, ifT (decide_eq_true (by omega)) ?_⟩
           refine ⟨_, rfl, _, _, rfl, rfl, _, rfl, ifT (decide_eq_true (by omega)) ?_⟩
           refine ⟨_, rfl, _, _, rfl, rfl, _, rfl, ifT (decide_eq_true (by omega)) ?_⟩
           refine ⟨_, rfl, _, rfl, Or.inl ⟨r, _, (b : Nat), _, rfl, rfl, SqL.of hnr6, at_nb hu, ?_⟩⟩
           refine ⟨_, rfl, _, rfl, Or.inl ⟨D, _, (a : Nat), _, rfl, rfl, SqL.of hD6, at_pw (by omega), ?_⟩⟩
           refine ⟨_, _, rfl, rfl, _, rfl, ifT (by rw [bAnd, hu0]; rfl) ?_⟩
           refine ⟨_, rfl, _, rfl, r, _, _, b, _, rfl, rfl, hnr6, by omega, by omega, get_nb hu, ?_⟩
           refine ⟨_, rfl, _, rfl, Or.inl ⟨D, _, (a : Nat), _, rfl, rfl, SqL.of hD6, at_pw (by omega), ?_⟩⟩
           refine ⟨_, _, rfl, rfl, r, _, _, b, rfl, rfl, hnr6, ix_n (by rw [List.length_map]; exact (List.getElem?_eq_some_iff.mp hu).1), ?_⟩
           have hDr : D ≠ r := hDr0
           have hr7 : (upd H6 r (.lst (((nearB n (es.take i)).map fun (v : Nat) => V.int v).set b (.int (Builtin.bitOr u (2 ^ a : Nat)))))) r = some (.lst (((nearB n (es.take i)).map fun (v : Nat) => V.int v).set b (.int (Builtin.bitOr u (2 ^ a : Nat))))) := upd_same
           have hD7 : (upd H6 r (.lst (((nearB n (es.take i)).map fun (v : Nat) => V.int v).set b (.int (Builtin.bitOr u (2 ^ a : Nat)))))) D = some (.lst ((List.range (n + 1)).map fun (k : Nat) => V.int ((2 ^ k : Nat) : Int))) := (upd_ne hDr).trans hD6
           refine ⟨_, rfl, _, rfl, r, _, _, a, _, rfl, rfl, hr7, by omega, by omega, get_nb2 (by omega) hu2, ?_⟩
           refine ⟨_, rfl, _, rfl, Or.inl ⟨D, _, (b : Nat), _, rfl, rfl, SqL.of hD7, at_pw (by omega), ?_⟩⟩
           refine ⟨_, _, rfl, rfl, r, _, _, a, rfl, rfl, hr7, ix_n (by rw [List.length_set, List.length_map]; exact (List.getElem?_eq_some_iff.mp hu2).1), ?_⟩
           refine ⟨_, _, _, _, rfl, same_upd (same_upd sm6 nr0) nr0, ?_, ?_⟩
           · rw [upd_ne hDr]
             exact hD7
           · rw [upd_same, set_addB hu hu2 (by omega), htk]
             unfold nearB nLst
             rw [List.foldl_append]
             rw [addB_swap _ (by show ((b : Int)).toNat ≠ ((a : Int)).toNat; omega)]; rfl

         · skip
           have hba : ¬ ((b : Int) < a) := fun h => hc (decide_eq_true h)
           have hfr : ∀ e ∈ es.take i, Apart e ((a : Nat), (b : Nat)) := hap
           have hfr2 : ∀ e ∈ es.take i, Apart e ((b : Nat), (a : Nat)) := fun e he => ⟨fun h => (hfr e he).2 (by rw [h]), fun h => (hfr e he).1 (by rw [h])⟩
           obtain ⟨u, hu, hu0⟩ := fresh_bit (n := n) hpos (a := a) (b := b) (by omega) (by omega) (by omega) hfr
           obtain ⟨u2, hu2, _⟩ := fresh_bit (n := n) hpos (a := b) (b := a) (by omega) (by omega) (by omega) hfr2
           refine ⟨_, rfl, rfl, _, rfl, ifT rfl ?_⟩
           refine ⟨_, rfl, _, _, rfl, rfl, _, rfl, ifT (decide_eq_true (by omega)) ?_⟩
           refine ⟨_, rfl, _, _, rfl, rfl, _, rfl, ifT (decide_eq_true (by omega)) ?_⟩
           refine ⟨_, rfl, _, _, rfl, rfl, _, rfl, ifT (decide_eq_true (by omega)) ?_⟩
           refine ⟨_, rfl, _, rfl, Or.inl ⟨r, _, (a : Nat), _, rfl, rfl, SqL.of hnr6, at_nb hu, ?_⟩⟩
           refine ⟨_, rfl, _, rfl, Or.inl ⟨D, _, (b : Nat), _, rfl, rfl, SqL.of hD6, at_pw (by omega), ?_⟩⟩
           refine ⟨_, _, rfl, rfl, _, rfl, ifT (by rw [bAnd, hu0]; rfl) ?_⟩
           refine ⟨_, rfl, _, rfl, r, _, _, a, _, rfl, rfl, hnr6, by omega, by omega, get_nb hu, ?_⟩
           refine ⟨_, rfl, _, rfl, Or.inl ⟨D, _, (b : Nat), _, rfl, rfl, SqL.of hD6, at_pw (by omega), ?_⟩⟩
           refine ⟨_, _, rfl, rfl, r, _, _, a, rfl, rfl, hnr6, ix_n (by rw [List.length_map]; exact (List.getElem?_eq_some_iff.mp hu).1), ?_⟩
           have hDr : D ≠ r := hDr0
           have hr7 : (upd H6 r (.lst (((nearB n (es.take i)).map fun (v : Nat) => V.int v).set a (.int (Builtin.bitOr u (2 ^ b : Nat)))))) r = some (.lst (((nearB n (es.take i)).map fun (v : Nat) => V.int v).set a (.int (Builtin.bitOr u (2 ^ b : Nat))))) := upd_same
           have hD7 : (upd H6 r (.lst (((nearB n (es.take i)).map fun (v : Nat) => V.int v).set a (.int (Builtin.bitOr u (2 ^ b : Nat)))))) D = some (.lst ((List.range (n + 1)).map fun (k : Nat) => V.int ((2 ^ k : Nat) : Int))) := (upd_ne hDr).trans hD6
           refine ⟨_, rfl, _, rfl, r, _, _, b, _, rfl, rfl, hr7, by omega, by omega, get_nb2 (by omega) hu2, ?_⟩
           refine ⟨_, rfl, _, rfl, Or.inl ⟨D, _, (a : Nat), _, rfl, rfl, SqL.of hD7, at_pw (by omega), ?_⟩⟩
           refine ⟨_, _, rfl, rfl, r, _, _, b, rfl, rfl, hr7, ix_n (by rw [List.length_set, List.length_map]; exact (List.getElem?_eq_some_iff.mp hu2).1), ?_⟩
           refine ⟨_, _, _, _, rfl, same_upd (same_upd sm6 nr0) nr0, ?_, ?_⟩
           · rw [upd_ne hDr]
             exact hD7
           · rw [upd_same, set_addB hu hu2 (by omega), htk]
             unfold nearB nLst
             rw [List.foldl_append]
             rfl

       · rintro σ H5 ⟨y5, y6, y7, y8, rfl, sm5, hD5, hr5⟩
         refine ⟨_, rfl, ?_⟩
         rw [List.length_map, hrl, List.take_length] at hr5
         exact fin r H5 sm5 nr0 hr5
end
/-! tactics TAC3 -/
local macro_rules | `(tactic| wtm_at "fo lc") => `(tactic| (refine' pe_lcN (by assumption) (by exact rfl) (by exact rfl) (by wtm_at "fo own") (by kernel_rfl!) rfl ?ki ?kg ?kt ?ke; (case ki => wtm_at "fo i"); (case kg => (intro _ _ _ _ _; wtm_at "fo g")); (case kt => (intro _ _ _ _ _; wtm_at "fo ts")); (case ke => (intro _ _ _ _ _; wtm_at "fo e"))))
local macro_rules | `(tactic| wtm_at "fo s") => `(tactic| ((with_reducible show PS _ (.Assign [.Tuple _ _ _] (.Call _ _ _ _) _) _); refine' ps_asg ?ka ?kb; (case ka => wtm_at "fo e"); (case kb => wtm_at "fo g")))
local macro_rules | `(tactic| wtm_at "fo cmp") => `(tactic| ((with_reducible show PE _ (.Compare _ [.In] _ _) _); refine' pe_cmpR (op_inK (by assumption) (by exact rfl)) ?ka ?kb rfl; (case ka => wtm_at "fo e"); (case kb => wtm_at "fo e")))
local macro_rules | `(tactic| wtm_at "fo call") => `(tactic| ((with_reducible show PE _ (.Call (.Name (Str.ofString "list") _) [.Call (.Name (Str.ofString "range") _) [_] _ _] _ _) _); refine' pe_listRg rfl (by rfl) (by assumption) (prg_1 (by rfl) (by assumption) ?ka); (case ka => wtm_at "fo e")))
local macro_rules | `(tactic| wtm_at "fo call") => `(tactic| ((with_reducible show PE _ (.Call (.Name (Str.ofString "min") _) [_] _ _) _); refine' pe_callB (call_minK (by assumption) (by exact rfl) rfl) (by rfl) (by assumption) (by decide +kernel) ?ka; (case ka => wtm_at "fo a")))
local macro_rules | `(tactic| wtm_at "fo i") => `(tactic| ((with_reducible show PI _ _ (.Call (.Name (Str.ofString "reversed") _) [_] _ _) _); refine' pi_reversed (by rfl) (by assumption) ?ka; (case ka => wtm_at "fo a")))
local macro_rules | `(tactic| wtm_at "fo s") => `(tactic| ((with_reducible show PS _ (.AugAssign (.Name _ _) .BitXor _ _) _); first | (refine' ps_aug (i := 2) (by assumption) rfl (by first | exact Or.inl rfl | exact Or.inr rfl) ?ka ip_xor; (case ka => wtm_at "fo e")) | fail "no"))
local macro_rules | `(tactic| wtm_at "fo call") => `(tactic| (refine' pe_calG (by assumption) (by assumption) (by decide) (by assumption) (by rfl) ?ka; (case ka => wtm_at "fo a")))
local macro_rules | `(tactic| wtm_at "fo meth") => `(tactic| ((with_reducible show PE _ (.Call (.Attribute _ (Str.ofString "count") _) _ _ _) _); refine' pe_cntK (by assumption) (by exact rfl) ?ka ?kb; (case ka => wtm_at "fo e"); (case kb => wtm_at "fo a")))
local macro_rules | `(tactic| wtm_at "fo call") => `(tactic| ((with_reducible show PE _ (.Call (.Name (Str.ofString "sorted") _) [_] _ _) _); refine' pe_callB (cr_sortedB (by assumption) (by exact rfl) (Room.units (by assumption))) (by rfl) (by assumption) (by decide +kernel) ?ka; (case ka => wtm_at "fo a")))
local macro_rules | `(tactic| wtm_at "fo v") => `(tactic| first
  | exact pv 16
  | exact pv 17
  | exact pv 18
  | exact pv 19
  | fail "no")
local macro_rules | `(tactic| wtm_at "fo own") => `(tactic| first
  | ((show _ = [16]); kernel_rfl!)
  | ((show _ = [17]); kernel_rfl!)
  | ((show _ = [18]); kernel_rfl!)
  | ((show _ = [19]); kernel_rfl!)
  | ((show _ = [15, 16]); kernel_rfl!)
  | ((show _ = [16, 17]); kernel_rfl!)
  | ((show _ = [17, 18]); kernel_rfl!)
  | ((show _ = [18, 19]); kernel_rfl!)
  | fail "no")
local macro_rules | `(tactic| wtm_at "fo set") => `(tactic| first
  | (refine' ps_set (i := 14) (by assumption) rfl (by first | exact Or.inl rfl | exact Or.inr rfl) ?ka; (case ka => wtm_at "fo e"))
  | (refine' ps_set (i := 15) (by assumption) rfl (by first | exact Or.inl rfl | exact Or.inr rfl) ?ka; (case ka => wtm_at "fo e"))
  | (refine' ps_set (i := 16) (by assumption) rfl (by first | exact Or.inl rfl | exact Or.inr rfl) ?ka; (case ka => wtm_at "fo e"))
  | (refine' ps_set (i := 17) (by assumption) rfl (by first | exact Or.inl rfl | exact Or.inr rfl) ?ka; (case ka => wtm_at "fo e"))
  | (refine' ps_set (i := 18) (by assumption) rfl (by first | exact Or.inl rfl | exact Or.inr rfl) ?ka; (case ka => wtm_at "fo e"))
  | (refine' ps_set (i := 19) (by assumption) rfl (by first | exact Or.inl rfl | exact Or.inr rfl) ?ka; (case ka => wtm_at "fo e"))
  | fail "no")
local macro_rules | `(tactic| wtm_at "fo setlc") => `(tactic| first
  | (refine' ps_setLcO (i := 16) (by assumption) (by exact rfl) (by exact rfl) (by wtm_at "fo own") (by decide +kernel) rfl rfl rfl (sw_true rfl rfl rfl (by decide +kernel)) ?ki ?kg ?kt ?ke; (case ki => wtm_at "fo i"); (case kg => (intro _ _ _ _ _; wtm_at "fo g")); (case kt => (intro _ _ _ _ _; wtm_at "fo ts")); (case ke => (intro _ _ _ _ _; wtm_at "fo e")))
  | (refine' ps_setLcO (i := 17) (by assumption) (by exact rfl) (by exact rfl) (by wtm_at "fo own") (by decide +kernel) rfl rfl rfl (sw_true rfl rfl rfl (by decide +kernel)) ?ki ?kg ?kt ?ke; (case ki => wtm_at "fo i"); (case kg => (intro _ _ _ _ _; wtm_at "fo g")); (case kt => (intro _ _ _ _ _; wtm_at "fo ts")); (case ke => (intro _ _ _ _ _; wtm_at "fo e")))
  | (refine' ps_setLcO (i := 18) (by assumption) (by exact rfl) (by exact rfl) (by wtm_at "fo own") (by decide +kernel) rfl rfl rfl (sw_true rfl rfl rfl (by decide +kernel)) ?ki ?kg ?kt ?ke; (case ki => wtm_at "fo i"); (case kg => (intro _ _ _ _ _; wtm_at "fo g")); (case kt => (intro _ _ _ _ _; wtm_at "fo ts")); (case ke => (intro _ _ _ _ _; wtm_at "fo e")))
  | (refine' ps_setLcO (i := 19) (by assumption) (by exact rfl) (by exact rfl) (by wtm_at "fo own") (by decide +kernel) rfl rfl rfl (sw_true rfl rfl rfl (by decide +kernel)) ?ki ?kg ?kt ?ke; (case ki => wtm_at "fo i"); (case kg => (intro _ _ _ _ _; wtm_at "fo g")); (case kt => (intro _ _ _ _ _; wtm_at "fo ts")); (case ke => (intro _ _ _ _ _; wtm_at "fo e")))
  | fail "no")
local macro_rules | `(tactic| wtm_at "fo gn") => `(tactic| first
  | exact pg_name (i := 16) (by assumption) rfl (by first | exact Or.inl rfl | exact Or.inr rfl)
  | exact pg_name (i := 17) (by assumption) rfl (by first | exact Or.inl rfl | exact Or.inr rfl)
  | exact pg_name (i := 18) (by assumption) rfl (by first | exact Or.inl rfl | exact Or.inr rfl)
  | exact pg_name (i := 19) (by assumption) rfl (by first | exact Or.inl rfl | exact Or.inr rfl)
  | fail "no")
local macro_rules | `(tactic| wtm_at "fo s") => `(tactic| ((with_reducible show PS _ (.Assign [.Tuple _ _ _] (.Tuple _ _ _) _) _); refine' ps_asg ?ka ?kb; (case ka => wtm_at "fo e"); (case kb => wtm_at "fo g")))
/-! piece E6a -/
section
variable {P : Program} {w : World} {K : PySem.W.Frag} {mg : Str → Option Value} {base : Heap}
theorem for_rev {K : PySem.W.Frag} {a : Addr} {xs : List V} {g : TG} {tb : TS} {D : Ends} {σ : Sl} {H : Hp} (Pv : Nat → Sl → Hp → Prop) (h0 : Pv 0 σ H) (hl : ∀ i σ H, i ≤ xs.length → Pv i σ H → SqL K H a xs)
    (hs : ∀ (i : Nat) x σ H, i < xs.length → xs[xs.length - 1 - i]? = some x → Pv i σ H → g x σ H fun σ2 H2 => tb { D with nx := Pv (i + 1), ct := Pv (i + 1), bk := D.nx } σ2 H2)
    (hd : ∀ σ H, Pv xs.length σ H → D.nx σ H) :
    ∃ W : Nat → Nat → Sl → Hp → Prop, (∃ m, W 0 m σ H) ∧ ∀ i m σ H, W i m σ H →
      ((Itv K a xs.length).stop i H ∧ D.nx σ H) ∨ ((Itv K a xs.length).go i H ∧ ∃ N : Sl → Hp → Prop, (∀ σ' H', N σ' H' → ∃ m', m' < m ∧ W (i + 1) m' σ' H') ∧
        ∀ x H', (Itv K a xs.length).yld i H x H' → g x σ H' fun σ2 H2 => tb { D with nx := N, ct := N, bk := D.nx } σ2 H2) := by
  refine ⟨fun i m σ H => m = xs.length - i ∧ i ≤ xs.length ∧ Pv i σ H, ⟨xs.length, by simp, Nat.zero_le _, h0⟩, ?_⟩
  rintro i m σ H ⟨rfl, hi, p⟩
  have q := hl i σ H hi p
  by_cases hlt : i < xs.length
  · have hg : xs[xs.length - 1 - i]? = some (xs[xs.length - 1 - i]'(by omega)) := List.getElem?_eq_getElem _
    refine Or.inr ⟨⟨hlt, xs, _, q, hg⟩, Pv (i + 1), fun σ' H' p' => ⟨xs.length - (i + 1), by omega, rfl, hlt, p'⟩, ?_⟩
    rintro x H' ⟨rfl, hx⟩
    exact hs i x σ _ hlt (hx xs q) p
  · obtain rfl : i = xs.length := by omega
    exact Or.inl ⟨Nat.le_refl _, hd σ H p⟩
/-! ### whole_lot, first_target -/
@[irreducible] def spWhole : Sp := fun vs H Q _ => ∃ (r : Addr) (xs : List V) (n : Nat), vs = [.ref r] ∧ H r = some (.lst xs) ∧ xs.length = n + 1 ∧ n ≤ 100 ∧ Q (.int ((2 ^ (n + 1) - 2 : Nat) : Int)) H
theorem call_whole {r : Addr} {xs : List V} {n : Nat} {H : Hp} {Q : VK} {E : XK} (hr : H r = some (.lst xs)) (hl : xs.length = n + 1) (hn : n ≤ 100) (q : Q (.int ((2 ^ (n + 1) - 2 : Nat) : Int)) H) : spWhole [.ref r] H Q E := by
  unfold spWhole
  exact ⟨r, xs, n, rfl, hr, hl, hn, q⟩
set_option maxHeartbeats 2000000 in
theorem ok_whole {f : Addr} {fd : FuncData} (F : Fun K "whole_lot" "whole_lot" s_whole_lot f fd) (mn : mg "len" = none) : FnOk P w K mg base CX0 1 f fd ["near"] spWhole := by
  refine F.ok sc_whole_lot (fun vs H Q E h => ?_) (fun cdv A outer s H vs Q E hr h => ?_)
  · unfold spWhole at h
    obtain ⟨r, xs, n, rfl, _⟩ := h
    rfl
  · have nd := sc_whole_lot.nd
    have hS := sc_whole_lot
    have hKM : KMark K := ⟨⟩
    refine' mk_body ?body ?rd
    case body =>
      show PSs _ [_] _
      wtm_at "fo ss"
    case rd =>
     unfold spWhole at h
     obtain ⟨r, xs, n, rfl, hr0, hl, hn, q⟩ := h
     refine ⟨_, rfl, r, _, rfl, Or.inl (SqL.of hr0), _, _, rfl, rfl, ⟨by omega, by omega, by decide⟩, _, _, rfl, rfl, ?_⟩
     have e : V.int (1 * 2 ^ ((xs.length : Int)).toNat - 2) = V.int ((2 ^ (n + 1) - 2 : Nat) : Int) := by
       rw [hl, Int.one_mul, Int.toNat_natCast]
       have h2 : (2 : Nat) ≤ 2 ^ (n + 1) := by
         rw [Nat.pow_succ]
         have := Nat.one_le_two_pow (n := n)
         omega
       rw [Int.natCast_sub h2, Int.natCast_pow]
       rfl
     show Q (V.int (1 * 2 ^ ((xs.length : Int)).toNat - 2)) H
     rw [e]
     exact q
@[irreducible] def spFirst : Sp := fun vs H Q _ => ∃ (r : Addr) (n v p : Nat) (es : List Edge) (left : List Int), vs = [.ref r, .int v, .int p] ∧ n ≤ 12 ∧ Simp n es ∧ H r = some (nLst (nearB n es)) ∧ LotIs v left ∧ InNet n left ∧ 1 ≤ p ∧ p ≤ n ∧ ∀ H', Same H H' → Q (.int (ftM es left p)) H'
theorem call_first {r : Addr} {n v p : Nat} {es : List Edge} {left : List Int} {H : Hp} {Q : VK} {E : XK} (hn : n ≤ 12) (hS : Simp n es) (hr : H r = some (nLst (nearB n es))) (hv : LotIs v left) (hI : InNet n left) (h1 : 1 ≤ p) (h2 : p ≤ n)
    (q : ∀ H', Same H H' → Q (.int (ftM es left p)) H') : spFirst [.ref r, .int v, .int p] H Q E := by
  unfold spFirst
  exact ⟨r, n, v, p, es, left, rfl, hn, hS, hr, hv, hI, h1, h2, q⟩
set_option maxHeartbeats 4000000 in
theorem ok_first {f : Addr} {fd : FuncData} (F : Fun K "first_target" "first_target" s_first_target f fd) (me : mg "enumerate" = none) : FnOk P w K mg base CX0 1 f fd ["near", "lot", "place"] spFirst := by
  refine F.ok sc_first_target (fun vs H Q E h => ?_) (fun cdv A outer s H vs Q E hr h => ?_)
  · unfold spFirst at h
    obtain ⟨r, n, v, p, es, left, rfl, _⟩ := h
    rfl
  · have nd := sc_first_target.nd
    have hS := sc_first_target
    have hKM : KMark K := ⟨⟩
    refine' mk_body ?body ?rd
    case body =>
      show PSs _ [_, _, _, _] _
      wtm_at "fo ss"
    case rd =>
     unfold spFirst at h
     obtain ⟨r, n, v, p, es, left, rfl, hn, hSi, hr0, hv, hI, h1, h2, fin⟩ := h
     wtm_at "fo r"
     rw [show ((p : Int)).toNat = p by omega, bit_test, hv]
     by_cases hp : (p : Int) ∈ left
     · refine ifF (by rw [decide_eq_true hp]; rfl) ?_
       have hrE : ∀ e ∈ es, 1 ≤ e.1 ∧ 1 ≤ e.2 ∧ e.1 ≠ e.2 := fun e he => by have := hSi.rng e he; omega
       obtain ⟨m, hm, bm⟩ := nearB_bit hrE (p := p) (n := n) (by omega) (by omega)
       refine ⟨_, rfl, _, rfl, Or.inl ⟨r, _, (p : Nat), _, rfl, rfl, SqL.of hr0, at_nb hm, ?_⟩⟩
       refine ⟨_, rfl, _, _, rfl, rfl, ?_⟩
       refine ⟨_, rfl, r, _, rfl, SqL.of hr0, ?_⟩
       refine for_enum (K := K) (xs := (nearB n es).map fun (v : Nat) => V.int v) (fun i σ H3 => ∃ y4 y5, σ = [some (.ref r), some (.int v), some (.int p), some (.int (Builtin.bitAnd (m : Int) (v : Int))), y4, y5] ∧ Same H H3 ∧ ∀ j, j < i → ¬ Good es n v p j) ?_ ?_ ?_ ?_
       · exact ⟨none, none, rfl, Same.refl _, fun j h => by omega⟩
       · rintro i σ H3 _ ⟨y4, y5, rfl, sm, _⟩
         exact SqL.of (sm _ _ hr0)
       · rintro i x T σ H3 hx ⟨y4, y5, rfl, sm, hng⟩ nT
         rw [List.getElem?_map] at hx
         cases hu : (nearB n es)[i]? with
         | none => rw [hu] at hx; cases hx
         | some u =>
           rw [hu] at hx
           cases hx
           have hi : i ≤ n := by
             have := (List.getElem?_eq_some_iff.mp hu).1
             rw [nearB_length] at this
             omega
           have smT : Same H (upd H3 T (.tup [.int (i : Nat), .int u])) := same_upd sm (sm.free nT)
           refine Or.inl ⟨T, [.int (i : Nat), .int u], rfl, SqT.of upd_same, rfl, .int (i : Nat), [.int u], rfl, .int u, [], rfl, rfl, ?_⟩
           generalize upd H3 T (.tup [.int (i : Nat), .int u]) = H4 at *
           have hno : ∀ h : ¬ Good es n v p i, ∀ j, j < i + 1 → ¬ Good es n v p j := fun h j hj => by
             by_cases e : j = i
             · rw [e]; exact h
             · exact hng j (by omega)
           refine ⟨_, rfl, _, rfl, _, _, rfl, rfl, _, rfl, Or.inl ⟨rfl, _, rfl, ?_⟩⟩
           refine ite2 (fun hc => ?_) (fun hc => ?_)
           · have hc1 : u &&& (m &&& v) = m &&& v := by
               have := of_decide_eq_true hc
               simp only [bAnd] at this
               injection this with this
               exact Int.ofNat.inj this
             refine ⟨_, rfl, _, rfl, Or.inl ⟨rfl, _, rfl, ?_⟩⟩
             refine ite2 (fun hc2 => ?_) (fun hc2 => ?_)
             · have hc2 : i ≠ p := fun e => by
                 subst e
                 simp at hc2
               refine ⟨_, rfl, _, rfl, _, _, rfl, rfl, by omega, _, _, rfl, rfl, _, rfl, ?_⟩
               rw [show ((i : Int)).toNat = i by omega, bit_test]
               refine ite2 (fun hc3 => ?_) (fun hc3 => ?_)
               · have hg : Good es n v p i := ⟨u, m, hu, hm, hc1, hc2, hc3⟩
                 refine ⟨_, rfl, ?_⟩
                 have hmem := (good_iff hSi hv hI.rng hp hi).mp hg
                 have hft : ftM es left p = (i : Int) := ftM_some hp hmem fun x hx => by
                   apply Classical.byContradiction
                   intro hlt
                   have hxr := hI.rng x (onto_sub x hx)
                   refine hng x.toNat (by omega) ((good_iff hSi hv hI.rng hp (by omega)).mpr ?_)
                   rwa [show ((x.toNat : Nat) : Int) = x by omega]
                 have := fin H4 smT
                 rw [hft] at this
                 exact this
               · refine ⟨_, _, rfl, smT, hno ?_⟩
                 rintro ⟨_, _, _, _, _, _, hb⟩
                 exact hc3 hb
             · have hc2 : i = p := by
                 apply Classical.byContradiction
                 intro e
                 exact hc2 (by simp; omega)
               refine ifF rfl ⟨_, _, rfl, smT, hno ?_⟩
               rintro ⟨_, _, _, _, _, h, _⟩
               exact h hc2
           · refine ifF rfl ⟨_, _, rfl, smT, hno ?_⟩
             rintro ⟨u2, m2, hu2, hm2, h, _, _⟩
             rw [hu] at hu2
             rw [hm] at hm2
             cases hu2
             cases hm2
             exact hc (by simp only [bAnd]; rw [h]; simp)
       · rintro σ H3 ⟨y4, y5, rfl, sm, hng⟩
         rw [List.length_map, nearB_length] at hng
         have hft : ftM es left p = 0 := ftM_none fun x hx => by
           have hxr := hI.rng x (onto_sub x hx)
           refine hng x.toNat (by omega) ((good_iff hSi hv hI.rng hp (by omega)).mpr ?_)
           rwa [show ((x.toNat : Nat) : Int) = x by omega]
         have := fin H3 sm
         rw [hft] at this
         exact this
     · refine ifT (by rw [decide_eq_false hp]; rfl) ?_
       have := fin H (Same.refl _)
       rw [show ftM es left p = 0 by unfold ftM; rw [if_neg hp]] at this
       exact this
end
/-! tactics TAC4 -/
local macro_rules | `(tactic| wtm_at "fo e") => `(tactic| first
  | ((with_reducible show PE _ (.UnaryOp .Invert _ _) _); apply pe_un un_inv; wtm_at "fo e")
  | ((with_reducible show PE _ (.BoolOp .Or [_] _) _); apply pe_one; wtm_at "fo e")
  | ((with_reducible show PE _ (.BoolOp .Or _ _) _); apply pe_or; (· wtm_at "fo e"); (· wtm_at "fo e"))
  | ((with_reducible show PE _ (.BinOp _ .Mult _ _) _); apply pe_op opMulB <;> wtm_at "fo e")
  | ((with_reducible show PE _ (.BinOp _ .BitOr _ _) _); apply pe_op op_or <;> wtm_at "fo e")
  | ((with_reducible show PE _ (.Compare _ [.Is] [.Constant .none _ _] _) _); refine' pe_cmpR op_isN ?ka ?kb (nomark _); (case ka => wtm_at "fo e"); (case kb => wtm_at "fo e"))
  | fail "no")
local macro_rules | `(tactic| wtm_at "fo t") => `(tactic| first
  | ((with_reducible show PT _ (.Compare _ [.Is] [.Constant .none _ _] _) _); refine' pt_cmpR op_isN ?ka ?kb (nomark _); (case ka => wtm_at "fo e"); (case kb => wtm_at "fo e"))
  | ((with_reducible show PT _ (.Compare _ [.IsNot] [.Constant .none _ _] _) _); refine' pt_cmpR op_notN ?ka ?kb (nomark _); (case ka => wtm_at "fo e"); (case kb => wtm_at "fo e"))
  | fail "no")
local macro_rules | `(tactic| wtm_at "fo i") => `(tactic| first
  | ((with_reducible show PI _ _ (.Call (.Name (Str.ofString "enumerate") _) [_, _] [] _) _); refine' pi_enumC (by assumption) (by exact rfl) (by rfl) (by assumption) ?ka; (case ka => wtm_at "fo a"))
  | ((with_reducible show PI _ _ (.Call (.Name (Str.ofString "enumerate") _) [_] [_] _) _); refine' pi_enumS (by assumption) (by exact rfl) (by rfl) (by assumption) ?ka ?kb; (case ka => wtm_at "fo a"); (case kb => wtm_at "fo k"))
  | fail "no")
local macro_rules | `(tactic| wtm_at "fo own") => `(tactic| first
  | ((show _ = [2, 4]); kernel_rfl!)
  | ((show _ = [4, 2]); kernel_rfl!)
  | fail "no")
local macro_rules | `(tactic| wtm_at "fo v") => `(tactic| ((with_reducible show PE _ (.Name (Str.ofString "tuple") _) _); exact pe_bltn (v := .ty "tuple") (by rfl) (by assumption) (by decide +kernel) rfl))
/-! piece TO -/
section
variable {P : Program} {w : World} {K : PySem.W.Frag} {mg : Str → Option Value} {base : Heap}
/-! ### the law's onto -/
@[irreducible] def spOnto : Sp := fun vs H Q _ => ∃ (q l : Addr) (n : Nat) (es : List Edge) (left : List Int) (p : Int), vs = [.ref q, .ref l, .int p] ∧ n ≤ 12 ∧ Simp n es ∧ Lists H q (nearM n es) ∧ H l = some (iL left) ∧ InNet n left ∧ p ∈ left ∧
  ∀ r gs H', Same H H' → H r = none → H' r = some (iL gs) → (∀ x, x ∈ gs ↔ x ∈ ontoM es left p) → gs.length ≤ 12 → Q (.ref r) H'
theorem call_onto {q l : Addr} {n : Nat} {es : List Edge} {left : List Int} {p : Int} {H : Hp} {Q : VK} {E : XK} (hn : n ≤ 12) (hS : Simp n es) (hq : Lists H q (nearM n es)) (hl : H l = some (iL left)) (hI : InNet n left) (hp : p ∈ left)
    (fin : ∀ r gs H', Same H H' → H r = none → H' r = some (iL gs) → (∀ x, x ∈ gs ↔ x ∈ ontoM es left p) → gs.length ≤ 12 → Q (.ref r) H') : spOnto [.ref q, .ref l, .int p] H Q E := by
  unfold spOnto
  exact ⟨q, l, n, es, left, p, rfl, hn, hS, hq, hl, hI, hp, fin⟩
def ontoS (es : List Edge) (left : List Int) (p : Int) : List Int :=
  let some := (p :: mates p es).filter fun m => decide (m ∈ left)
  left.filter fun m => decide (m ≠ p ∧ (some.filter fun o => !decide (o ∈ m :: mates m es)) = [])
theorem ontoS_mem {es : List Edge} {left : List Int} {p q : Int} (hp : p ∈ left) : q ∈ ontoS es left p ↔ q ∈ ontoM es left p := by
  rw [ontoM_mem hp]
  unfold ontoS StepOk
  simp only [List.mem_filter, decide_eq_true_eq, List.filter_eq_nil_iff, Bool.not_eq_true', decide_eq_false_iff_not]
  constructor
  · rintro ⟨h2, h3, h4⟩
    refine ⟨hp, h2, fun e => h3 e.symm, fun z hz ha => ?_⟩
    exact Decidable.not_not.mp (h4 z ⟨ha, hz⟩)
  · rintro ⟨_, h2, h3, h4⟩
    refine ⟨h2, fun e => h3 e.symm, fun z hz => ?_⟩
    exact fun hh => hh (h4 z hz.2 hz.1)
set_option maxHeartbeats 4000000 in
theorem ok_onto {f : Addr} {fd : FuncData} (F : Fun K "_law_onto" "_law_onto" s_law_onto f fd) :
    FnOk P w K mg base CX0 1 f fd ["_law_near_here", "_law_stay", "_law_spot"] spOnto := by
  refine F.ok sc_law_onto (fun vs H Q E h => ?_) (fun cdv A outer s H vs Q E hr h => ?_)
  · unfold spOnto at h
    obtain ⟨q, l, n, es, left, p, rfl, _⟩ := h
    rfl
  · have nd := sc_law_onto.nd
    have hS := sc_law_onto
    have hKM : KMark K := ⟨⟩
    refine' mk_body ?body ?rd
    case body =>
      show PSs _ [_, _] _
      wtm_at "fo ss"
    case rd =>
     unfold spOnto at h
     obtain ⟨q, l, n, es, left, p, rfl, hn, hSi, hq, hl, hI, hp, fin⟩ := h
     wtm_at "fo r"
     obtain ⟨rs, hD, hnd, hrl, hat⟩ := hq
     have hpr := hI.rng p hp
     obtain ⟨pn, rfl⟩ : ∃ k : Nat, p = (k : Int) := ⟨p.toNat, by omega⟩
     have hrow : ∀ (m : Nat), 1 ≤ m → m ≤ n → ∃ r, rs[m]? = some r ∧ H r = some (iL ((m : Int) :: mates (m : Int) es)) := fun m h1 h2 => by
       have hg := near_get hSi h1 h2
       have hl1 : m < rs.length := by rw [hrl]; exact (List.getElem?_eq_some_iff.mp hg).1
       exact ⟨rs[m], List.getElem?_eq_getElem hl1, hat _ _ _ (List.getElem?_eq_getElem hl1) hg⟩
     have hsz : ∀ (m : Nat), 1 ≤ m → ((m : Int) :: mates (m : Int) es).length ≤ 100 := fun m _ => by
       have := nodup_le 12 (mates (m : Int) es) (mates_nodup hSi) (fun x hx => by have := mates_rng hSi x hx; omega)
       rw [List.length_cons]
       omega
     have hll : left.length ≤ 12 := nodup_le 12 left (hI.lt.imp fun h => by omega) (fun x hx => by have := hI.rng x hx; omega)
     obtain ⟨rp, hrp, hrpl⟩ := hrow pn (by omega) (by omega)
     refine Or.inl ⟨q, _, (pn : Int), .ref rp, rfl, rfl, SqL.of hD, at_of (j := pn) (by omega) (by rw [List.getElem?_map, hrp]; rfl), ?_⟩
     refine ⟨rp, rfl, ⟨_, SqL.of hrpl⟩, fun D nD => ?_⟩
     refine lc_filt (K := K) (xs := (pn : Int) :: mates (pn : Int) es) (fun m => decide (m ∈ left)) (SqL.of hrpl) nD (Nat.le_trans (hsz pn (by omega)) (by decide)) (Nat.le_of_ble_eq_true rfl) rfl (fun _ => rfl) ?_ ?_
     · intro x hx H2 sm2 R hR
       refine ⟨_, rfl, _, rfl, l, _, rfl, Or.inl (SqL.of (sm2 _ _ hl)), rfl, flat_ints _, _, rfl, ?_⟩
       show R (inV (.int x) (left.map V.int)) H2
       rw [inV_ints]
       exact hR H2 (Same.refl _)
     · intro H2 sm2 hD2
       generalize hso : ((pn : Int) :: mates (pn : Int) es).filter (fun m => decide (m ∈ left)) = some at *
       have hsl : some.length ≤ 100 := by
         rw [← hso]
         exact Nat.le_trans (List.length_filter_le ..) (hsz pn (by omega))
       refine ⟨_, rfl, l, rfl, ⟨_, SqL.of (sm2 _ _ hl)⟩, fun D2 nD2 => ?_⟩
       refine lc_filt (K := K) (xs := left) (fun m => decide (m ≠ (pn : Int) ∧ (some.filter fun o => !decide (o ∈ m :: mates m es)) = [])) (SqL.of (sm2 _ _ hl)) nD2 (Nat.le_trans hll (by decide)) (Nat.le_of_ble_eq_true rfl) rfl (fun _ => rfl) ?_ ?_
       · intro x hx H3 sm3 R hR
         have hxr := hI.rng x hx
         obtain ⟨m, rfl⟩ : ∃ k : Nat, x = (k : Int) := ⟨x.toNat, by omega⟩
         refine ⟨_, rfl, _, rfl, Or.inl ⟨rfl, _, rfl, ?_⟩⟩
         refine ite2 (fun hc => ?_) (fun hc => ?_)
         · have hc : (m : Int) ≠ (pn : Int) := by
             intro e
             rw [e] at hc
             simp at hc
           obtain ⟨rm, hrm, hrml⟩ := hrow m (by omega) (by omega)
           refine ⟨_, rfl, D, rfl, ⟨_, SqL.of (sm3 _ _ hD2)⟩, fun D3 nD3 => ?_⟩
           refine lc_filt (K := K) (xs := some) (fun o => !decide (o ∈ (m : Int) :: mates (m : Int) es)) (SqL.of (sm3 _ _ hD2)) nD3 (Nat.le_trans hsl (by decide)) (Nat.le_of_ble_eq_true rfl) rfl (fun _ => rfl) ?_ ?_
           · intro o ho H4 sm4 R2 hR2
             have s4 := (sm2.trans sm3).trans sm4
             refine ⟨_, rfl, _, rfl, _, rfl, Or.inl ⟨q, _, (m : Int), .ref rm, rfl, rfl, SqL.of (s4 _ _ hD), at_of (j := m) (by omega) (by rw [List.getElem?_map, hrm]; rfl), rm, _, rfl, Or.inl (SqL.of (s4 _ _ hrml)), rfl, flat_ints _, _, rfl, ?_⟩⟩
             show R2 (!inV (.int o) (((m : Int) :: mates (m : Int) es).map V.int)) H4
             rw [inV_ints]
             exact hR2 H4 (Same.refl _)
           · intro H4 sm4 hD4
             generalize hfl : (some.filter fun o => !decide (o ∈ (m : Int) :: mates (m : Int) es)) = fl at *
             wtm_at "fo r"
             rename_i e ne
             have hD5 := (upd_ne (o := HO.lst []) (ne_of_none hD4 ne)).trans hD4
             refine Or.inr ⟨.list (fl.map PyData.int), .list [], dp_dI' (SqL.of hD5), .lst (SqL.of upd_same) .nil, shaped_ints fl, rfl, _, rfl, ?_⟩
             rw [eqv_list_nil]
             have hRR := hR (upd H4 e (.lst [])) (sm4.trans (same_upd (Same.refl _) ne))
             rw [show decide ((m : Int) ≠ (pn : Int) ∧ fl = []) = (fl.map PyData.int).isEmpty by cases fl <;> simp [hc]] at hRR
             exact hRR
         · have hc : (m : Int) = (pn : Int) := by
             apply Classical.byContradiction
             intro e
             exact hc (by simpa using e)
           have hRR := hR H3 (Same.refl _)
           rw [decide_eq_false (fun h => h.1 hc)] at hRR
           exact hRR
       · intro H3 sm3 hD3
         have e : left.filter (fun m => decide (m ≠ (pn : Int) ∧ (some.filter fun o => !decide (o ∈ m :: mates m es)) = [])) = ontoS es left (pn : Int) := by
           unfold ontoS
           rw [hso]
         rw [e] at hD3
         refine fin D2 (ontoS es left (pn : Int)) H3 (sm2.trans sm3) (sm2.free nD2) hD3 (fun x => ontoS_mem hp) ?_
         unfold ontoS
         exact Nat.le_trans (List.length_filter_le ..) hll
end
/-! piece TF -/
section
local macro_rules | `(tactic| wtm_at "fo s") => `(tactic| first
  | ((with_reducible show PS _ (.Assign [.Name (Str.ofString "_law_stay") _] (.ListComp _ [_] _ _) _) _); refine' ps_set (i := 3) (by assumption) rfl (Or.inr rfl) ?ka; (case ka => wtm_at "fo lc"))
  | ((with_reducible show PS _ (.Assign [.Name (Str.ofString "_law_some") _] (.ListComp _ [_] _ _) _) _); refine' ps_setLcO (i := 5) (by assumption) (by exact rfl) (by exact rfl) (by wtm_at "fo own") (by decide +kernel) rfl rfl rfl (sw_true rfl rfl rfl (by decide +kernel)) ?ki ?kg ?kt ?ke; (case ki => wtm_at "fo i"); (case kg => (intro _ _ _ _ _; wtm_at "fo g")); (case kt => (intro _ _ _ _ _; wtm_at "fo ts")); (case ke => (intro _ _ _ _ _; wtm_at "fo e")))
  | fail "no")
variable {P : Program} {w : World} {K : PySem.W.Frag} {mg : Str → Option Value} {base : Heap}
theorem rgV_all (n : Nat) : rgV 1 ((n : Int) + 1) = (allM n).map V.int := by
  unfold rgV allM
  rw [List.map_map, show ((n : Int) + 1 - 1).toNat = n by omega]
  apply List.map_congr_left
  intro i _
  show V.int (1 + (i : Int)) = V.int ((i : Int) + 1)
  rw [Int.add_comm]
theorem ints_ne_refs {left : List Int} {rs : List Addr} {x : Int} (h : x ∈ left) : iL left ≠ .lst (rs.map V.ref) := by
  intro e
  unfold iL at e
  injection e with e
  cases left with
  | nil => cases h
  | cons a l => cases rs with
    | nil => simp at e
    | cons b r => simp at e
theorem Dr.ne_tup {H : Hp} {d r : Addr} {k : Int} {xs : List V} (h : Dr H d k) (hr : H r = some (.tup xs)) : r ≠ d := by
  obtain ⟨a, b, hd, _⟩ := h
  exact ne_of hr hd (by intro e; cases e)
theorem TsAt.but {H H' : Hp} {d D : Addr} {k : Int} {rs : List Addr} {es : List Edge} (h : TsAt H D rs es) (s : SameBut d H H') (hd : Dr H d k) : TsAt H' D rs es :=
  ⟨s _ _ (hd.ne_refs h.hD) h.hD, h.len, fun i r e a b => s _ _ (hd.ne_tup (h.at_ i r e a b)) (h.at_ i r e a b)⟩
/-! ### drawn full folds -/
@[irreducible] def spLFull : Sp := fun vs H Q _ => ∃ (d q : Addr) (k : Int) (n : Nat) (es : List Edge), vs = [.ref d, .ref q, .int n] ∧ Dr H d k ∧ k ≤ 900000 ∧ 1 ≤ n ∧ n ≤ 12 ∧ Simp n es ∧ Lists H q (nearM n es) ∧
  ∀ p a b rs ps left H' k', SameBut d H H' → H p = none → H a = none → H b = none → H' p = some (.tup [.ref a, .ref b]) → TsAt H' a rs ps → H' b = some (iL left) → RunL es (allM n) ps left → foldableM es left = [] →
    Dr H' d k' → k' ≤ k + 100 → Q (.ref p) H'
theorem call_lfull {d q : Addr} {k : Int} {n : Nat} {es : List Edge} {H : Hp} {Q : VK} {E : XK} (hd : Dr H d k) (hk : k ≤ 900000) (h1 : 1 ≤ n) (hn : n ≤ 12) (hS : Simp n es) (hq : Lists H q (nearM n es))
    (fin : ∀ p a b rs ps left H' k', SameBut d H H' → H p = none → H a = none → H b = none → H' p = some (.tup [.ref a, .ref b]) → TsAt H' a rs ps → H' b = some (iL left) → RunL es (allM n) ps left → foldableM es left = [] →
      Dr H' d k' → k' ≤ k + 100 → Q (.ref p) H') : spLFull [.ref d, .ref q, .int n] H Q E := by
  unfold spLFull
  exact ⟨d, q, k, n, es, rfl, hd, hk, h1, hn, hS, hq, fin⟩
set_option maxHeartbeats 4000000 in
theorem ok_lfull {f : Addr} {fd : FuncData} (F : Fun K "_law_full" "_law_full" s_law_full f fd) (mr : mg "range" = none) (ml : mg "list" = none) (mi : mg "int" = none) (mn : mg "len" = none)
    (C1 : Cal P w K mg base "_law_next" 1 ["_law_draws_here"] spNext) (C2 : Cal P w K mg base "_law_onto" 1 ["_law_near_here", "_law_stay", "_law_spot"] spOnto) :
    FnOk P w K mg base CX0 2 f fd ["_law_draws_here", "_law_near_here", "_law_size"] spLFull := by
  refine F.ok sc_law_full (fun vs H Q E h => ?_) (fun cdv A outer s H vs Q E hr h => ?_)
  · unfold spLFull at h
    obtain ⟨d, q, k, n, es, rfl, _⟩ := h
    rfl
  · have nd := sc_law_full.nd
    have hS := sc_law_full
    have hKM : KMark K := ⟨⟩
    refine' mk_body ?body ?rd
    case body =>
      show PSs _ [_, _, _, _, _] _
      wtm_at "fo ss"
    case rd =>
     unfold spLFull at h
     obtain ⟨d, q, k, n, es, rfl, hd, hk, h1, hn, hSi, hq, fin⟩ := h
     wtm_at "fo r"
     intro l nl
     rw [rgV_all n]
     have nld : l ≠ d := hd.trk nl
     have sb1 : SameBut d H (upd H l (.lst ((allM n).map V.int))) := (SameBut.refl d H).new nl
     have hl1 : (upd H l (.lst ((allM n).map V.int))) l = some (iL (allM n)) := upd_same
     have hd1 : Dr (upd H l (.lst ((allM n).map V.int))) d k := hd.same (same_upd (Same.refl _) nl)
     refine ⟨(Nat.le_of_ble_eq_true rfl : _ ≤ sizeLine), fun t nt => ?_⟩
     have nt0 : H t = none := sb1.none hd1 nt
     have smt : Same (upd H l (.lst ((allM n).map V.int))) (upd (upd H l (.lst ((allM n).map V.int))) t (.lst [])) := same_upd (Same.refl _) nt
     have ht2 : (upd (upd H l (.lst ((allM n).map V.int))) t (.lst [])) t = some (.lst []) := upd_same
     have hl2 := smt _ _ hl1
     have hd2 := hd1.same smt
     have sb2 := sb1.trans (Same.but d smt)
     generalize upd (upd H l (.lst ((allM n).map V.int))) t (.lst []) = H2 at *
     have hq2 := hq.but sb2 hd
     refine ⟨_, rfl, l, rfl, ⟨_, SqL.of hl2⟩, fun D nD => ?_⟩
     refine lc_filt (K := K) (xs := allM n) (fun p => decide (ontoM es (allM n) p ≠ [])) (SqL.of hl2) nD (by rw [all_len]; omega) (Nat.le_of_ble_eq_true rfl) rfl (fun _ => rfl) ?_ ?_
     · intro x hx H3 sm3 R hR
       refine ⟨_, rfl, _, rfl, _, rfl, ?_⟩
       refine call_onto hn hSi (hq2.same sm3) (sm3 _ _ hl2) (inNet_all n) hx (fun r gs H4 sm4 nr hr4 hgs hgl => ?_)
       wtm_at "fo r"
       rename_i e ne
       have hr5 := (upd_ne (o := HO.lst []) (ne_of_none hr4 ne)).trans hr4
       refine Or.inr ⟨.list (gs.map PyData.int), .list [], dp_dI' (SqL.of hr5), .lst (SqL.of upd_same) .nil, shaped_ints _, rfl, _, rfl, ?_⟩
       rw [eqv_list_nil]
       have hRR := hR (upd H4 e (.lst [])) (sm4.trans (same_upd (Same.refl _) ne))
       have hgn : gs = [] ↔ ontoM es (allM n) x = [] := by
         rw [List.eq_nil_iff_forall_not_mem, List.eq_nil_iff_forall_not_mem]
         exact forall_congr' fun y => not_congr (hgs y)
       rw [show decide (ontoM es (allM n) x ≠ []) = !(gs.map PyData.int).isEmpty by
         cases gs with
         | nil => simp [hgn.mp rfl]
         | cons a b => simp [show ontoM es (allM n) x ≠ [] from fun e => nomatch hgn.mpr e]] at hRR
       exact hRR
     intro H3 sm3 hD3
     have hd3 := hd2.same sm3
     have sb3 := sb2.trans (Same.but d sm3)
     have nD0 : H D = none := sb2.none hd2 nD
     have hl3 := sm3 _ _ hl2
     have ht3 := sm3 _ _ ht2
     let W : Nat → Sl → Hp → Prop := fun m σ H4 => ∃ (l t s : Addr) (y6 y7 : Option V) (rs : List Addr) (ps : List Edge) (left : List Int) (k' : Int), σ = [some (.ref d), some (.ref q), some (.int n), some (.ref l), some (.ref t), some (.ref s), y6, y7, none] ∧ m = left.length ∧ SameBut d H H4 ∧ H l = none ∧ H t = none ∧ H4 l = some (iL left) ∧
       TsAt H4 t rs ps ∧ H4 s = some (iL (foldableM es left)) ∧ RunL es (allM n) ps left ∧ Dr H4 d k' ∧ k' ≤ k + 2 * ps.length
     refine ⟨W, ⟨_, l, t, D, none, none, [], [], allM n, k, rfl, rfl, sb3, nl, nt0, hl3, TsAt.nil ht3, hD3, .nil _, hd3, by omega⟩, fun m σ H4 hW => ?_⟩
     obtain ⟨l, t, so, y6, y7, rs, ps, left, k1, rfl, rfl, sb4, nl, nt, hl4, hT4, hs4, hR, hd4, hk4⟩ := hW
     have hI := (inNet_all n).run hR
     have hl12 := hR.len12
     have hfl : (foldableM es left).length ≤ 12 := by
       unfold foldableM
       exact Nat.le_trans (List.length_filter_le ..) (Nat.le_trans hI.len hn)
     refine ⟨_, rfl, (Nat.le_of_ble_eq_true rfl : _ ≤ sizeLine), fun e ne => ?_⟩
     have smE : Same H4 (upd H4 e (.lst [])) := same_upd (Same.refl _) ne
     have hs5 := smE _ _ hs4
     refine Or.inr ⟨.list ((foldableM es left).map PyData.int), .list [], dp_dI' (SqL.of hs5), .lst (SqL.of upd_same) .nil, shaped_ints _, rfl, _, rfl, ?_⟩
     rw [eqv_list_nil]
     have hd5 := hd4.same smE
     have sb5 := sb4.trans (Same.but d smE)
     have hl5 := smE _ _ hl4
     have hT5 := hT4.same smE
     generalize upd H4 e (.lst []) = H5 at *
     by_cases hnil : foldableM es left = []
     · refine ifF (by rw [hnil]; rfl) ?_
       refine ⟨_, rfl, _, rfl, (Nat.le_of_ble_eq_true rfl : _ ≤ sizeLine), fun p np => ?_⟩
       have smp : Same H5 (upd H5 p (.tup [.ref t, .ref l])) := same_upd (Same.refl _) np
       exact fin p t l rs ps left _ k1 (sb5.trans (Same.but d smp)) (sb5.none hd5 np) nt nl upd_same (hT5.same smp) (smp _ _ hl5) hR hnil (hd5.same smp) (by omega)
     refine ifT (by cases hfo : foldableM es left with | nil => exact absurd hfo hnil | cons a b => rfl) ?_
     refine ⟨fun σ' H' => ∃ m', m' < left.length ∧ W m' σ' H', fun _ _ h => h, ?_⟩
     generalize hfr : foldableM es left = fr at *
     have hpos : (0 : Int) < ((fr.map V.int).length : Int) := by
       rw [List.length_map]
       have := List.length_pos_iff.mpr hnil
       omega
     wtm_at "fo r"
     refine call_next hd5 (by omega) (fun z H7 hz sb7 hd7 => ?_)
     have hs7 := sb7 _ _ (hd5.ne_ints hs5) hs5
     have hl7 := sb7 _ _ (hd5.ne_ints hl5) hl5
     have hT7 := hT5.but sb7 hd5
     have sb07 := sb5.trans sb7
     have hq7 := hq.but sb07 hd
     wtm_at "fo r"
     obtain ⟨j, hj, ej⟩ := mod_ix (n := z) (len := fr.length) (by rw [List.length_map] at hpos; omega)
     have hy : fr[j]? = some fr[j] := List.getElem?_eq_getElem hj
     have hym := List.getElem_mem hj
     generalize fr[j] = p at *
     refine Or.inl ⟨so, _, z % ((fr.map V.int).length : Int), .int p, rfl, rfl, SqL.of hs7, at_of (j := j) (by rw [List.length_map]; omega) (by rw [List.getElem?_map, hy]; rfl), ?_⟩
     rw [← hfr] at hym
     have hpf := List.mem_filter.mp hym
     have hpo := of_decide_eq_true hpf.2
     wtm_at "fo r"
     refine call_onto hn hSi hq7 hl7 hI hpf.1 (fun o gs H8 sm8 no ho8 hgs hgl => ?_)
     have hgne : gs ≠ [] := fun e => by
       apply hpo
       rw [List.eq_nil_iff_forall_not_mem]
       intro x hx
       have := (hgs x).mpr hx
       rw [e] at this
       cases this
     have hopos : (0 : Int) < ((gs.map V.int).length : Int) := by
       rw [List.length_map]
       have := List.length_pos_iff.mpr hgne
       omega
     have hd8 := hd7.same sm8
     have hT8 := hT7.same sm8
     have hl8 := sm8 _ _ hl7
     have sb08 := sb07.trans (Same.but d sm8)
     wtm_at "fo r"
     refine ⟨.inl ⟨rfl, _, SqL.of hT8.hD⟩, ?_⟩
     wtm_at "fo r"
     refine call_next hd8 (by omega) (fun z2 H9 hz2 sb9 hd9 => ?_)
     have ho9 := sb9 _ _ (hd8.ne_ints ho8) ho8
     have hl9 := sb9 _ _ (hd8.ne_ints hl8) hl8
     have hT9 := hT8.but sb9 hd8
     have sb09 := sb08.trans sb9
     wtm_at "fo r"
     obtain ⟨j2, hj2, ej2⟩ := mod_ix (n := z2) (len := gs.length) (by rw [List.length_map] at hopos; omega)
     have hy2 : gs[j2]? = some gs[j2] := List.getElem?_eq_getElem hj2
     have hqm := List.getElem_mem hj2
     generalize gs[j2] = g at *
     refine Or.inl ⟨o, _, z2 % ((gs.map V.int).length : Int), .int g, rfl, rfl, SqL.of ho9, at_of (j := j2) (by rw [List.length_map]; omega) (by rw [List.getElem?_map, hy2]; rfl), ?_⟩
     refine ⟨(Nat.le_of_ble_eq_true rfl : _ ≤ sizeLine), fun c nc => ?_⟩
     have htc : t ≠ c := ne_of_none hT9.hD nc
     have hPl : (rs.map V.ref).length < sizeLine := by
       rw [List.length_map, hT9.len]
       exact Nat.lt_of_le_of_lt (m := 20) (by omega) (by decide)
     refine ⟨t, _, _, rfl, rfl, (upd_ne htc).trans hT9.hD, hPl, ?_⟩
     have hT10 := hT9.push nc (p, g)
     have hlt : l ≠ t := ne_of hl9 hT9.hD (ints_ne_refs hpf.1)
     have htd : t ≠ d := hd9.ne_refs hT9.hD
     have hl10 : (upd (upd H9 c (.tup [.int p, .int g])) t (.lst (rs.map V.ref ++ [V.ref c]))) l = some (iL left) := by
       rw [upd_ne hlt]
       exact (upd_ne (ne_of_none hl9 nc)).trans hl9
     have hd10 : Dr (upd (upd H9 c (.tup [.int p, .int g])) t (.lst (rs.map V.ref ++ [V.ref c]))) d (k1 + 1 + 1) := by
       obtain ⟨a, b, e, h0⟩ := hd9
       exact ⟨a, b, by rw [upd_ne htd.symm]; exact (upd_ne (ne_of_none e nc)).trans e, h0⟩
     have sb10 : SameBut d H (upd (upd H9 c (.tup [.int p, .int g])) t (.lst (rs.map V.ref ++ [V.ref c]))) := (sb09.new (sb09.none hd9 nc)).new nt
     generalize upd (upd H9 c (.tup [.int p, .int g])) t (.lst (rs.map V.ref ++ [V.ref c])) = H10 at *
     refine ⟨_, rfl, l, rfl, ⟨_, SqL.of hl10⟩, fun L2 nL2 => ?_⟩
     refine lc_filt (K := K) (xs := left) (fun m => decide (m ≠ p)) (SqL.of hl10) nL2 (Nat.le_trans hI.len (by omega)) (Nat.le_of_ble_eq_true rfl) rfl (fun _ => rfl) ?_ ?_
     · intro x hx H11 sm11 R hR
       refine ⟨_, rfl, _, rfl, Or.inl ⟨rfl, _, rfl, ?_⟩⟩
       have hRR := hR H11 (Same.refl _)
       rw [show decide (x ≠ p) = !decide (V.int x = V.int p) by simp] at hRR
       exact hRR
     intro H11 sm11 hL11
     have hL11 : H11 L2 = some (iL (without left p)) := hL11
     have hR11 := hR.snoc hpf.1 ((hgs g).mp hqm)
     have hI11 := (inNet_all n).run hR11
     have hl11 := hR11.len12
     have sb11 := sb10.trans (Same.but d sm11)
     have hd11 := hd10.same sm11
     have hq11 := hq.but sb11 hd
     have hT11 := hT10.same sm11
     have nL0 : H L2 = none := sb10.none hd10 nL2
     have hwl : (without left p).length < left.length := by
       rw [List.length_append, List.length_singleton] at hl11
       omega
     generalize without left p = left2 at *
     refine ⟨_, rfl, L2, rfl, ⟨_, SqL.of hL11⟩, fun S2 nS2 => ?_⟩
     refine lc_filt (K := K) (xs := left2) (fun p => decide (ontoM es left2 p ≠ [])) (SqL.of hL11) nS2 (Nat.le_trans hI11.len (by omega)) (Nat.le_of_ble_eq_true rfl) rfl (fun _ => rfl) ?_ ?_
     · intro x hx H3 sm3 R hR
       refine ⟨_, rfl, _, rfl, _, rfl, ?_⟩
       refine call_onto hn hSi (hq11.same sm3) (sm3 _ _ hL11) hI11 hx (fun r gs H4 sm4 nr hr4 hgs hgl => ?_)
       wtm_at "fo r"
       rename_i e ne
       have hr5 := (upd_ne (o := HO.lst []) (ne_of_none hr4 ne)).trans hr4
       refine Or.inr ⟨.list (gs.map PyData.int), .list [], dp_dI' (SqL.of hr5), .lst (SqL.of upd_same) .nil, shaped_ints _, rfl, _, rfl, ?_⟩
       rw [eqv_list_nil]
       have hRR := hR (upd H4 e (.lst [])) (sm4.trans (same_upd (Same.refl _) ne))
       have hgn : gs = [] ↔ ontoM es left2 x = [] := by
         rw [List.eq_nil_iff_forall_not_mem, List.eq_nil_iff_forall_not_mem]
         exact forall_congr' fun y => not_congr (hgs y)
       rw [show decide (ontoM es left2 x ≠ []) = !(gs.map PyData.int).isEmpty by
         cases gs with
         | nil => simp [hgn.mp rfl]
         | cons a b => simp [show ontoM es left2 x ≠ [] from fun e => nomatch hgn.mpr e]] at hRR
       exact hRR
     intro H12 sm12 hS12
     refine ⟨left2.length, hwl, L2, t, S2, some (.int p), some (.ref o), rs ++ [c], ps ++ [(p, g)], left2, k1 + 1 + 1, rfl, rfl, sb11.trans (Same.but d sm12), nL0, nt, sm12 _ _ hL11, hT11.same sm12, hS12, hR11, hd11.same sm12, ?_⟩
     rw [List.length_append, List.length_singleton]
     omega
end
/-! piece XM -/
section
theorem zip_of {H : Hp} {D : Addr} {rs : List Addr} {ps : List Edge} (h : TsAt H D rs ps) : (∀ x ∈ rs.zip ps, H x.1 = some (.tup [.int x.2.1, .int x.2.2]) ∧ x.2 ∈ ps) ∧ (rs.zip ps).map (fun x => V.ref x.1) = rs.map V.ref ∧ (rs.zip ps).map (fun x => x.2) = ps := by
  refine ⟨fun x hx => ?_, ?_, ?_⟩
  · obtain ⟨i, hi⟩ := List.getElem?_of_mem hx
    rw [List.getElem?_zip_eq_some] at hi
    exact ⟨h.at_ i _ _ hi.1 hi.2, List.mem_of_getElem? hi.2⟩
  · rw [show (fun x : Addr × Edge => V.ref x.1) = V.ref ∘ Prod.fst from rfl, ← List.map_map, List.map_fst_zip (by rw [h.len]; exact Nat.le_refl _)]
  · exact List.map_snd_zip (by rw [h.len]; exact Nat.le_refl _)
theorem eqv_ints_dec : ∀ xs ys : List Int, PyData.eqv (.list (xs.map .int)) (.list (ys.map .int)) = decide (xs = ys) := fun xs ys => by
  have h : ∀ xs ys : List Int, PyData.eqvAll (xs.map .int) (ys.map .int) = decide (xs = ys) := fun xs => by
    induction xs with
    | nil => intro ys; cases ys <;> simp [PyData.eqvAll]
    | cons x r ih =>
      intro ys
      cases ys with
      | nil => simp [PyData.eqvAll]
      | cons y q =>
        rw [List.map_cons, List.map_cons, PyData.eqvAll, ih]
        by_cases e : x = y
        · by_cases e2 : r = q <;> simp [PyData.eqv, e, e2]
        · simp [PyData.eqv, e]
  rw [PyData.eqv, h]
end
/-! piece NTm -/
section
def mkSig {X : Cx} {b : List Stmt} {t : TS} (h : PSs X b t) : PSigma fun t => PSs X b t := ⟨t, h⟩
/-! ### drawn nets: what may be appended -/
def ltN (a b : Edge) : Prop := a.2 < b.2 ∨ (a.2 = b.2 ∧ a.1 < b.1)
theorem simp_asc2 {n : Int} {l : List Edge} (hr : ∀ e ∈ l, 1 ≤ e.1 ∧ e.1 < e.2 ∧ e.2 ≤ n) (hp : l.Pairwise ltN) : Simp n l := by
  refine ⟨fun e he => by have := hr e he; omega, hp.imp_of_mem fun {a b} ha hb hab => ?_⟩
  have h1 := hr a ha
  have h2 := hr b hb
  unfold ltN at hab
  refine ⟨fun e => ?_, fun e => ?_⟩
  · subst e; omega
  · have e1 := congrArg Prod.fst e
    have e2 := congrArg Prod.snd e
    simp only at e1 e2
    omega
theorem simp_more {n a b : Int} {l : List Edge} (h : Simp n l) (hr : ∀ e ∈ l, e.1 < e.2) (h1 : 1 ≤ a) (h2 : a < b) (h3 : b ≤ n) (hn : (a, b) ∉ l) : Simp n (l ++ [(a, b)]) := by
  refine ⟨fun e he => ?_, ?_⟩
  · rcases List.mem_append.mp he with he | he
    · exact h.rng e he
    · rw [List.mem_singleton.mp he]
      simp only
      omega
  · rw [List.pairwise_append]
    refine ⟨h.ap, List.pairwise_singleton _ _, fun x hx y hy => ?_⟩
    rw [List.mem_singleton.mp hy]
    refine ⟨fun e => hn (e ▸ hx), fun e => ?_⟩
    have := hr x hx
    rw [e] at this
    simp only at this
    omega
theorem any_pair (a b : Int) : ∀ es : List Edge, ((es.map fun e => PyData.list [.int e.1, .int e.2]).any fun z => PyData.eqv z (.list [.int a, .int b])) = decide ((a, b) ∈ es)
  | [] => rfl
  | e :: es => by
    rw [List.map_cons, List.any_cons, any_pair a b es]
    have h : PyData.eqv (.list [.int e.1, .int e.2]) (.list [.int a, .int b]) = decide ((a, b) = e) := by
      have := eqv_ints_dec [e.1, e.2] [a, b]
      rw [show ([e.1, e.2].map PyData.int) = [.int e.1, .int e.2] from rfl, show ([a, b].map PyData.int) = [.int a, .int b] from rfl] at this
      rw [this]
      apply decide_eq_decide.mpr
      obtain ⟨e1, e2⟩ := e
      simp only [List.cons.injEq, and_true, Prod.mk.injEq]
      omega
    rw [h, ← Bool.decide_or]
    apply decide_eq_decide.mpr
    rw [List.mem_cons]
theorem ite_tt' {c : Bool} {A B : Prop} (h : A) (h2 : B) : if c = true then A else B := by
  cases c
  · exact ifF rfl h2
  · exact ifT rfl h
theorem bl_at (c0 c1 c2 c3 : Bool) {j : Int} (h0 : 0 ≤ j) (h1 : j < 4) : ∃ c, atI [V.bl c0, V.bl c1, V.bl c2, V.bl c3] j = some (.bl c) := by
  have : j = 0 ∨ j = 1 ∨ j = 2 ∨ j = 3 := by omega
  rcases this with e | e | e | e <;> rw [e] <;> exact ⟨_, rfl⟩
theorem shaped_pair {a b : Int} (h1 : a.natAbs < 1000) (h2 : b.natAbs < 1000) : SeqAt.shaped (.list [.int a, .int b]) = true := (dok_pair h1 h2).shaped (by decide)
theorem shaped_dE {es : List Edge} (h : ∀ e ∈ es, e.1.natAbs < 1000 ∧ e.2.natAbs < 1000) : SeqAt.shaped (dE es) = true := (dok_dE h).shaped (by decide)
theorem dp_two {K : PySem.W.Frag} {H : Hp} {p : Addr} {a b : Int} (h : H p = some (.lst [.int a, .int b])) : Dp K H (.ref p) (.list [.int a, .int b]) := .lst (SqL.of h) (.cons (.int _) (.cons (.int _) .nil))
theorem pe_mono {X : Cx} {e : Expr} {te te' : TE} (h : PE X e te) (m : ∀ σ H Q, te' σ H Q → te σ H Q) : PE X e te' := ⟨fun pins s σ H Q I q => h.run pins s σ H Q I (m σ H Q q)⟩
/-- [a, b] in pairs or [b, a] in pairs: a truth, whichever -/
def tKnown : TE := fun σ H Q => ∃ (a b : Int) (p : Addr) (es : List Edge), σ[7]? = some (some (.int a)) ∧ σ[6]? = some (some (.int b)) ∧ σ[4]? = some (some (.ref p)) ∧ Pairs H p es ∧ a.natAbs < 1000 ∧ b.natAbs < 1000 ∧ (∀ e ∈ es, e.1.natAbs < 1000 ∧ e.2.natAbs < 1000) ∧ ∀ k H', Same H H' → Q (.bl k) H'
theorem known_mono (K : PySem.W.Frag) : ∀ σ H Q, tKnown σ H Q → tOrV (tOp (rInD K) (tLst (tCons (tVar 7) (tCons (tVar 6) tNil))) (tVar 4)) (tOp (rInD K) (tLst (tCons (tVar 6) (tCons (tVar 7) tNil))) (tVar 4)) σ H Q := by
  rintro σ H Q ⟨a, b, p, es, h7, h6, h4, hP, ha, hb, hes, hQ⟩
  refine ⟨_, h7, _, h6, (Nat.le_of_ble_eq_true rfl : _ ≤ sizeLine), fun c1 nc1 => ?_⟩
  have sm1 : Same H (upd H c1 (.lst [.int a, .int b])) := same_upd (Same.refl _) nc1
  refine ⟨_, h4, .list [.int a, .int b], _, dp_two upd_same, dp_dE (hP.same sm1), shaped_pair ha hb, shaped_dE hes, _, rfl, ?_⟩
  refine ite_tt' (hQ _ _ sm1) ?_
  refine ⟨_, h6, _, h7, (Nat.le_of_ble_eq_true rfl : _ ≤ sizeLine), fun c2 nc2 => ?_⟩
  have sm2 : Same (upd H c1 (.lst [.int a, .int b])) (upd (upd H c1 (.lst [.int a, .int b])) c2 (.lst [.int b, .int a])) := same_upd (Same.refl _) nc2
  exact ⟨_, h4, .list [.int b, .int a], _, dp_two upd_same, dp_dE ((hP.same sm1).same sm2), shaped_pair hb ha, shaped_dE hes, hQ _ _ (sm1.trans sm2)⟩
def tMaybe : TE := fun σ H Q => ∃ (a b c : Int) (k : Bool), σ[7]? = some (some (.int a)) ∧ σ[6]? = some (some (.int b)) ∧ σ[9]? = some (some (.bl k)) ∧ σ[8]? = some (some (.int c)) ∧ ∀ k, Q (.bl k) H
theorem maybe_mono (K : PySem.W.Frag) : ∀ σ H Q, tMaybe σ H Q → tOrV (tOp (rEqB K) (tVar 7) (tVar 6)) (tAndV (tVar 9) (tOp (rEqB K) (tOp (rI (fun _ j => 0 < j) fun i j => .int (i % j)) (tVar 8) (tC (.int 2))) (tC (.int 0)))) σ H Q := by
  rintro σ H Q ⟨a, b, c, k, h7, h6, h9, h8, hQ⟩
  refine ⟨_, h7, _, h6, Or.inl ⟨rfl, _, rfl, ite_tt' (hQ _) ?_⟩⟩
  refine ⟨_, h9, k, rfl, ?_⟩
  cases k
  · exact ifF rfl (hQ _)
  · exact ifT rfl ⟨_, h8, _, _, rfl, rfl, (show (0 : Int) < 2 by decide), Or.inl ⟨rfl, hQ _⟩⟩
theorem ps_mono {X : Cx} {st : Stmt} {ts ts' : TS} (h : PS X st ts) (m : ∀ D σ H, ts' D σ H → ts D σ H) : PS X st ts' := ⟨fun pins s σ H D I q => h.run pins s σ H D I (m D σ H q)⟩
/-- perhaps one line more, from 1 to the greatest place -/
def tMore : TS := fun D σ H => ∃ (d pp : Addr) (n : Nat) (kind k : Int) (es : List Edge) (rs : List Addr) (H2 : Hp), σ[0]? = some (some (.ref d)) ∧ σ[2]? = some (some (.int n)) ∧ σ[3]? = some (some (.int kind)) ∧ σ[4]? = some (some (.ref pp)) ∧
  PsF H2 H pp rs es ∧ Simp n es ∧ (∀ e ∈ es, e.1 < e.2) ∧ n ≤ 12 ∧ es.length ≤ 190 ∧ SameBut d H2 H ∧ H2 pp = none ∧ Dr H d k ∧ k ≤ 900000 ∧
  ∀ H' rs' es' k', PsF H2 H' pp rs' es' → Simp n es' → es'.length ≤ es.length + 1 → SameBut d H2 H' → Dr H' d k' → k' ≤ k + 1 → D.nx σ H'
theorem more_mono (K K' : PySem.W.Frag) : ∀ D σ H, tMore D σ H → tIfS (tAnd (tTest (tOp (rEqB K) (tVar 3) (tC (.int 0)))) (tAnd (tTest (tOp (rI0 fun i j => .bl (decide (j < i))) (tVar 2) (tC (.int 2))))
    (tAnd (tTest (tOp (rNotInD K) (tLst (tCons (tC (.int 1)) (tCons (tVar 2) tNil))) (tVar 4))) (tTest (tOp (rEqB K) (tOp (rI (fun _ j => 0 < j) fun i j => .int (i % j)) (tCB cInt (tCons (tCall spNext [] E0 (tCons (tVar 0) tNil)) tNil)) (tC (.int 2))) (tC (.int 0)))))))
    (tDrop (tBM K' "list" rAppend (tVar 4) (tCons (tLst (tCons (tC (.int 1)) (tCons (tVar 2) tNil))) tNil))) tNext D σ H := by
  rintro D σ H ⟨d, pp, n, kind, k, es, rs, H2, h0, h2, h3, h4, hP, hS, hlt, hn, hl, sb, npp, hd, hk, fin⟩
  have hno : ∀ H', Same H H' → D.nx σ H' := fun H' sm => fin H' rs es k (hP.same sm) hS (by omega) (sb.trans (Same.but d sm)) (hd.same sm) (by omega)
  refine ⟨_, h3, Or.inl ⟨rfl, _, rfl, ?_⟩⟩
  refine ite2 (fun _ => ?_) (fun _ => ifF rfl (hno H (Same.refl _)))
  refine ⟨_, h2, _, _, rfl, rfl, _, rfl, ?_⟩
  refine ite2 (fun hc2 => ?_) (fun _ => ifF rfl (hno H (Same.refl _)))
  have hc2 := of_decide_eq_true hc2
  refine ⟨_, h2, (Nat.le_of_ble_eq_true rfl : _ ≤ sizeLine), fun c1 nc1 => ?_⟩
  have sm1 : Same H (upd H c1 (.lst [.int 1, .int n])) := same_upd (Same.refl _) nc1
  have hsm : ∀ e ∈ es, e.1.natAbs < 1000 ∧ e.2.natAbs < 1000 := fun e he => by
    have := hS.rng e he
    omega
  refine ⟨_, h4, .list [.int 1, .int n], _, dp_two upd_same, dp_dE (hP.same sm1).ps.pairs, shaped_pair (by decide) (by omega), shaped_dE hsm, _, rfl, ?_⟩
  rw [any_pair]
  by_cases hin : ((1 : Int), (n : Int)) ∈ es
  · rw [decide_eq_true hin]
    exact ifF rfl (ifF rfl (hno _ sm1))
  rw [decide_eq_false hin]
  refine ifT rfl ?_
  have hP1 := hP.same sm1
  have hd1 := hd.same sm1
  have sb1 := sb.trans (Same.but d sm1)
  generalize upd H c1 (.lst [.int 1, .int n]) = H1 at *
  refine ⟨_, h0, ?_⟩
  refine call_next hd1 (by omega) (fun z H3 hz sb3 hd3 => ?_)
  have hP3 := hP1.but sb3 hd1
  have sb13 := sb1.trans sb3
  refine Or.inl ⟨_, rfl, _, _, rfl, rfl, (show (0 : Int) < 2 by decide), Or.inl ⟨rfl, _, rfl, ?_⟩⟩
  refine ite2 (fun _ => ?_) (fun _ => fin H3 rs es (k + 1) hP3 hS (by omega) sb13 hd3 (by omega))
  refine ⟨_, h4, .inl ⟨rfl, _, SqL.of hP3.ps.hD⟩, ?_⟩
  refine ⟨_, h2, (Nat.le_of_ble_eq_true rfl : _ ≤ sizeLine), fun c5 nc5 => ?_⟩
  have hpc : pp ≠ c5 := ne_of_none hP3.ps.hD nc5
  have hppd : pp ≠ d := hd3.ne_refs hP3.ps.hD
  have hc5d : c5 ≠ d := hd3.trk nc5
  refine ⟨pp, _, _, rfl, rfl, (upd_ne hpc).trans hP3.ps.hD, ?_, ?_⟩
  · rw [List.length_map, hP3.ps.len]
    exact Nat.lt_of_le_of_lt (m := 1000) (by omega) (by decide)
  refine fin _ (rs ++ [c5]) (es ++ [(1, (n : Int))]) (k + 1) (hP3.push nc5 (sb13.none hd3 nc5) (1, (n : Int))) (simp_more hS hlt (by omega) (by omega) (Int.le_refl _) hin) ?_ ((sb13.new (sb13.none hd3 nc5)).new npp) ?_ (by omega)
  · rw [List.length_append, List.length_singleton]
    exact Nat.le_refl _
  · obtain ⟨a, b, e, h0⟩ := hd3
    exact ⟨a, b, by rw [upd_ne hppd.symm, upd_ne hc5d.symm]; exact e, h0⟩
end
/-! piece PA -/
section
local macro_rules | `(tactic| wtm_at "fo e") => `(tactic| ((with_reducible show PE _ (.UnaryOp .Invert _ _) _); apply pe_un un_inv; wtm_at "fo e"))
/-! ### fold_around -/
theorem sub_and : ∀ (k v h : Nat), (v - (v &&& h)).testBit k = (v.testBit k && !h.testBit k)
  | 0, v, h => by
    have h1 := Nat.and_mod_two_eq_one (a := v) (b := h)
    have h2 : v &&& h ≤ v := Nat.and_le_left
    rw [Nat.testBit_zero, Nat.testBit_zero, Nat.testBit_zero, ← decide_not, ← Bool.decide_and]
    apply decide_eq_decide.mpr
    generalize v &&& h = m at *
    omega
  | k + 1, v, h => by
    have h1 := Nat.and_mod_two_eq_one (a := v) (b := h)
    have h2 : v &&& h ≤ v := Nat.and_le_left
    have h3 : (v &&& h) / 2 = v / 2 &&& h / 2 := Nat.and_div_two
    have h4 : (v - (v &&& h)) / 2 = v / 2 - (v / 2 &&& h / 2) := by
      rw [← h3]
      clear h3
      generalize v &&& h = m at *
      omega
    rw [Nat.testBit_succ, Nat.testBit_succ, Nat.testBit_succ, h4]
    exact sub_and k (v / 2) (h / 2)
theorem and_not_lot {v h : Nat} {left hs : List Int} (hv : LotIs v left) (hh : LotIs h hs) : ∃ u : Nat, Builtin.bitAnd (v : Int) (Builtin.bitNot (h : Int)) = (u : Int) ∧ LotIs u (left.filter fun x => decide (x ∉ hs)) := by
  have h1 : v &&& h ≤ v := Nat.and_le_left
  refine ⟨v - (v &&& h), ?_, fun k => ?_⟩
  · have e1 : Builtin.bitNot (h : Int) = -(h : Int) - 1 := rfl
    have e2 : Builtin.bitNot (Builtin.bitNot (h : Int)) = (h : Int) := by show -(-(h : Int) - 1) - 1 = (h : Int); omega
    unfold Builtin.bitAnd
    rw [decide_eq_true (Int.natCast_nonneg v), decide_eq_false (show ¬ (0 ≤ Builtin.bitNot (h : Int)) by rw [e1]; omega)]
    show (v : Int) - (((v : Int).toNat &&& (Builtin.bitNot (Builtin.bitNot (h : Int))).toNat : Nat) : Int) = _
    rw [e2, Int.toNat_natCast, Int.toNat_natCast]
    omega
  · rw [sub_and, hv, hh, ← decide_not, ← Bool.decide_and]
    apply decide_eq_decide.mpr
    rw [List.mem_filter, decide_eq_true_eq]
@[irreducible] def spAround : Sp := fun vs H Q _ => ∃ (r : Addr) (n h : Nat) (es : List Edge) (hs : List Int), vs = [.ref r, .int h] ∧ n ≤ 12 ∧ Simp n es ∧ H r = some (nLst (nearB n es)) ∧ LotIs h hs ∧
  ∀ p q rs (v : Nat) ps left H', aroundA n es hs = (left, ps) → Same H H' → H p = none → H q = none → H' p = some (.tup [.int v, .ref q]) → TsAt H' q rs ps → LotIs v left → RunL es (allM n) ps left → (∀ e ∈ ps, e.1 ∉ hs) → (∀ x ∈ left, x ∉ hs → ontoM es left x = []) → Q (.ref p) H'
theorem call_around {r : Addr} {n h : Nat} {es : List Edge} {hs : List Int} {H : Hp} {Q : VK} {E : XK} (hn : n ≤ 12) (hS : Simp n es) (hr : H r = some (nLst (nearB n es))) (hh : LotIs h hs)
    (fin : ∀ p q rs (v : Nat) ps left H', aroundA n es hs = (left, ps) → Same H H' → H p = none → H q = none → H' p = some (.tup [.int v, .ref q]) → TsAt H' q rs ps → LotIs v left → RunL es (allM n) ps left → (∀ e ∈ ps, e.1 ∉ hs) → (∀ x ∈ left, x ∉ hs → ontoM es left x = []) → Q (.ref p) H') : spAround [.ref r, .int h] H Q E := by
  unfold spAround
  exact ⟨r, n, h, es, hs, rfl, hn, hS, hr, hh, fin⟩
variable {P : Program} {w : World} {K : PySem.W.Frag} {mg : Str → Option Value} {base : Heap}
set_option maxHeartbeats 4000000 in
theorem ok_around {f : Addr} {fd : FuncData} (F : Fun K "fold_around" "fold_around" s_fold_around f fd)
    (C1 : Cal P w K mg base "whole_lot" 1 ["near"] spWhole) (C2 : Cal P w K mg base "first_target" 1 ["near", "lot", "place"] spFirst) (C3 : Cal P w K mg base "members" 1 ["lot"] spMembers) :
    FnOk P w K mg base CX0 2 f fd ["near", "held"] spAround := by
  refine F.ok sc_fold_around (fun vs H Q E h => ?_) (fun cdv A outer s H vs Q E hr h => ?_)
  · unfold spAround at h
    obtain ⟨r, n, h, es, hs, rfl, _⟩ := h
    rfl
  · have nd := sc_fold_around.nd
    have hS := sc_fold_around
    have hKM : KMark K := ⟨⟩
    refine' mk_body ?body ?rd
    case body =>
      show PSs _ [_, _, _, _, _] _
      wtm_at "fo ss"
    case rd =>
     unfold spAround at h
     obtain ⟨r, n, h, es, hs, rfl, hn, hSi, hr0, hh, fin⟩ := h
     have hrl : ((nearB n es).map fun (v : Nat) => V.int v).length = n + 1 := by rw [List.length_map, nearB_length]
     refine ⟨_, rfl, ?_⟩
     refine call_whole hr0 hrl (by omega) ?_
     refine ⟨(Nat.le_of_ble_eq_true rfl : _ ≤ sizeLine), fun q nq => ?_⟩
     have sm1 : Same H (upd H q (.lst [])) := same_upd (Same.refl _) nq
     have hq1 : (upd H q (.lst [])) q = some (.lst []) := upd_same
     generalize upd H q (.lst []) = H1 at *
     let W : Nat → Sl → Hp → Prop := fun m σ H2 => ∃ (v : Nat) (left : List Int) (ps : List Edge) (rs : List Addr) (b : Bool) (y5 y6 : Option V), σ = [some (.ref r), some (.int h), some (.int v), some (.ref q), some (.bl b), y5, y6] ∧ m = left.length + (if b then 1 else 0) ∧ Same H H2 ∧ LotIs v left ∧ TsAt H2 q rs ps ∧ RunL es (allM n) ps left ∧ (∀ e ∈ ps, e.1 ∉ hs) ∧ (b = false → ∀ x ∈ left, x ∉ hs → ontoM es left x = []) ∧ ∃ k, iterA n es hs k = (left, ps) ∧ k + left.length ≤ n ∧ (b = false → passA es hs (left, ps) = (left, ps))
     refine ⟨W, ⟨_, _, allM n, [], [], true, none, none, rfl, rfl, sm1, whole_is n, TsAt.nil hq1, .nil _, (fun e he => nomatch he), (fun hh => nomatch hh), 0, rfl, by simp [allM], (fun hh => nomatch hh)⟩, fun m σ H2 hW => ?_⟩
     obtain ⟨v, left, ps, rs, b, y5, y6, rfl, rfl, sm2, hv, hT, hR, hke, hst, kk, hkk, hkl, hpf⟩ := hW
     have hI : InNet n left := (inNet_all n).run hR
     refine ⟨_, rfl, b, rfl, ?_⟩
     cases b with
     | false =>
       refine ifF rfl ?_
       refine ⟨_, rfl, _, rfl, (Nat.le_of_ble_eq_true rfl : _ ≤ sizeLine), fun t nt => ?_⟩
       have smt : Same H2 (upd H2 t (.tup [.int v, .ref q])) := same_upd (Same.refl _) nt
       exact fin t q rs v ps left _ (by rw [aroundA_is (k := kk) (by omega) (by rw [hkk]; exact hpf rfl), hkk]) (sm2.trans smt) (sm2.free nt) nq upd_same (hT.same smt) hv hR hke (hst rfl)
     | true =>
       refine ifT rfl ?_
       refine ⟨fun σ' H' => ∃ m', m' < left.length + 1 ∧ W m' σ' H', fun _ _ h => h, ?_⟩
       obtain ⟨u, hu, hul⟩ := and_not_lot hv hh
       refine ⟨_, rfl, _, rfl, _, rfl, _, _, rfl, rfl, ?_⟩
       have hmm : ∀ Q E, spMembers [.int (u : Int)] H2 Q E → spMembers [.int (Builtin.bitAnd (v : Int) (Builtin.bitNot (h : Int)))] H2 Q E := fun _ _ hx => by rw [hu]; exact hx
       refine hmm _ _ ?_
       generalize hxs : (left.filter fun x => decide (x ∉ hs)) = xs at *
       have hxl : xs.Pairwise (· < ·) := by rw [← hxs]; exact List.Pairwise.filter _ hI.lt
       have hxm : ∀ x ∈ xs, x ∈ left ∧ x ∉ hs := fun x hx => by
         rw [← hxs] at hx
         obtain ⟨h1, h2⟩ := List.mem_filter.mp hx
         exact ⟨h1, of_decide_eq_true h2⟩
       refine call_members (Nat.lt_of_lt_of_le (lot_small hul fun x hx => (hI.rng x (hxm x hx).1).2) (Nat.pow_le_pow_right (by decide) (by omega))) (fun p H3 sm3 np hp => ?_)
       rw [members_lot hul hxl fun x hx => (hI.rng x (hxm x hx).1).1] at hp
       have hqp : q ≠ p := ne_of_none hT.hD np
       refine ⟨p, rfl, ⟨_, SqL.of hp⟩, ?_⟩
       refine for_list (K := K) (xs := xs.map V.int) (fun i σ H4 => ∃ (v2 : Nat) (left2 : List Int) (ps2 : List Edge) (rs2 : List Addr) (b2 : Bool) (y5 y6 : Option V), σ = [some (.ref r), some (.int h), some (.int v2), some (.ref q), some (.bl b2), y5, y6] ∧ Same H H4 ∧ H4 p = some (iL xs) ∧ LotIs v2 left2 ∧ TsAt H4 q rs2 ps2 ∧ RunL es (allM n) ps2 left2 ∧ (∀ e ∈ ps2, e.1 ∉ hs) ∧
         (xs.take i).foldl (stepA es) (left, ps) = (left2, ps2) ∧ (b2 = false → (left2 = left ∧ ps2 = ps) ∧ ∀ k x, k < i → xs[k]? = some x → ontoM es left x = []) ∧ (b2 = true → left2.length < left.length) ∧ (∀ k x, i ≤ k → xs[k]? = some x → x ∈ left2)) ?_ ?_ ?_ ?_
       · exact ⟨v, left, ps, rs, false, y5, y6, rfl, sm2.trans sm3, hp, hv, hT.same sm3, hR, hke, rfl, fun _ => ⟨⟨rfl, rfl⟩, fun k x hk => absurd hk (Nat.not_lt_zero k)⟩, (fun e => nomatch e), fun k x _ hx => (hxm x (List.mem_of_getElem? hx)).1⟩
       · rintro i σ H4 _ ⟨v2, left2, ps2, rs2, b2, y5, y6, rfl, sm, hp4, _⟩
         exact SqL.of hp4
       · rintro i x σ H4 hx ⟨v2, left2, ps2, rs2, b2, y5, y6, rfl, sm4, hp4, hv2, hT4, hR4, hke4, hfd, hf4, ht4, hm4⟩
         have htk : (xs.take (i + 1)).foldl (stepA es) (left, ps) = stepA es (left2, ps2) ((xs[i]?).getD 0) := by
           rw [List.take_add_one, List.foldl_append, hfd]
           cases hq : xs[i]? with
           | none => rw [List.getElem?_map, hq] at hx; cases hx
           | some r => rfl
         obtain ⟨z, hz, rfl⟩ : ∃ z, xs[i]? = some z ∧ x = V.int z := by
           rw [List.getElem?_map] at hx
           cases hq : xs[i]? with
           | none => rw [hq] at hx; cases hx
           | some r => rw [hq] at hx; exact ⟨r, rfl, (Option.some.inj hx).symm⟩
         have hI2 : InNet n left2 := (inNet_all n).run hR4
         have hz2 := hm4 i z (Nat.le_refl i) hz
         have hzr := hI2.rng z hz2
         have hzh := (hxm z (List.mem_of_getElem? hz)).2
         have hl4 := (hR4.length ((allM_lt n).imp fun h => by omega)).1
         rw [show (allM n).length = n by simp [allM]] at hl4
         obtain ⟨z, rfl⟩ : ∃ k : Nat, z = (k : Int) := ⟨z.toNat, by omega⟩
         refine ⟨_, rfl, _, rfl, _, rfl, ?_⟩
         refine call_first hn hSi (sm4 _ _ hr0) hv2 hI2 (by omega) (by omega) (fun H5 sm5 => ?_)
         have s5 := sm4.trans sm5
         have hT5 := hT4.same sm5
         have hp5 := sm5 _ _ hp4
         refine ⟨_, rfl, _, rfl, ?_⟩
         have hzero := ftM_zero (es := es) (fun x hx => (hI2.rng x hx).1) hz2
         by_cases h0 : ftM es left2 (z : Int) = 0
         · refine ifF (by rw [h0]; rfl) ?_
           refine ⟨v2, left2, ps2, rs2, b2, _, _, rfl, s5, hp5, hv2, hT5, hR4, hke4, ?_, fun e => ?_, ht4, fun k x hk => hm4 k x (by omega)⟩
           · rw [htk, hz]
             show stepA es (left2, ps2) (z : Int) = _
             unfold stepA
             rw [if_pos (hzero.mp h0)]
           obtain ⟨e1, e2⟩ := hf4 e
           refine ⟨e1, fun k x hk hx2 => ?_⟩
           by_cases hki : k = i
           · rw [hki, hz] at hx2
             cases hx2
             rw [← e1.1]
             exact hzero.mp h0
           · exact e2 k x (by omega) hx2
         · refine ifT (by simp [h0]) ?_
           have hft : ftM es left2 (z : Int) = minL (ontoM es left2 (z : Int)) := by unfold ftM; rw [if_pos hz2]
           have hgo : ftM es left2 (z : Int) ∈ ontoM es left2 (z : Int) := by
             rw [hft]
             exact minL_mem fun e => h0 (hzero.mpr e)
           have hst2 : stepA es (left2, ps2) (z : Int) = (without left2 z, ps2 ++ [((z : Int), ftM es left2 (z : Int))]) := by
             unfold stepA
             rw [if_neg (fun e => h0 (hzero.mpr e)), ← hft]
           generalize ftM es left2 (z : Int) = g at *
           refine ⟨_, rfl, .inl ⟨rfl, _, SqL.of hT5.hD⟩, ?_⟩
           refine ⟨_, rfl, _, rfl, (Nat.le_of_ble_eq_true rfl : _ ≤ sizeLine), fun c nc => ?_⟩
           have hqc : q ≠ c := ne_of_none hT5.hD nc
           have hpc : p ≠ c := ne_of_none hp5 nc
           refine ⟨q, _, _, rfl, rfl, (upd_ne hqc).trans hT5.hD, ?_, ?_⟩
           · rw [List.length_map, hT5.len]
             exact Nat.lt_of_le_of_lt (m := 20) (by omega) (by decide)
           have hT6 := hT5.push nc ((z : Int), g)
           have hR6 := hR4.snoc hz2 hgo
           have hl6 := (hR6.length ((allM_lt n).imp fun h => by omega)).1
           rw [show (allM n).length = n by simp [allM], List.length_append, List.length_singleton] at hl6
           refine ⟨_, rfl, _, rfl, _, _, rfl, rfl, ⟨by omega, by omega, by decide⟩, _, _, rfl, rfl, ?_⟩
           refine ⟨v2 ^^^ 2 ^ z, without left2 z, ps2 ++ [((z : Int), g)], rs2 ++ [c], true, some (.int z), some (.int g), ?_, same_upd (same_upd s5 (s5.free nc)) nq, ?_, xor_pow hv2 hz2, hT6, hR6, ?_, ?_, (fun e => nomatch e), fun _ => ?_, fun k x hk hx => ?_⟩
           · have e : Builtin.bitXor (v2 : Int) (1 * 2 ^ ((z : Int)).toNat) = ((v2 ^^^ 2 ^ z : Nat) : Int) := by
               rw [← bXor, Int.one_mul, Int.toNat_natCast, Int.natCast_pow]
               rfl
             show [some (V.ref r), some (V.int h), some (V.int (Builtin.bitXor (v2 : Int) (1 * 2 ^ ((z : Int)).toNat))), some (V.ref q), some (V.bl true), some (V.int z), some (V.int g)] = _
             rw [e]
           · exact (upd_ne hqp.symm).trans ((upd_ne hpc).trans hp5)
           · intro e he
             rcases List.mem_append.mp he with he | he
             · exact hke4 e he
             · rw [List.mem_singleton.mp he]
               exact hzh
           · rw [htk, hz]
             exact hst2
           · have : left2.length ≤ left.length := by
               cases b2 with
               | false => rw [(hf4 rfl).1.1]; exact Nat.le_refl _
               | true => exact Nat.le_of_lt (ht4 rfl)
             omega
           · refine without_mem.mpr ⟨hm4 k x (by omega) hx, fun e => ?_⟩
             rw [e] at hx
             have := nd_ix (hxl.imp fun h => by omega : xs.Nodup) hx hz
             omega
       · rintro σ H4 ⟨v2, left2, ps2, rs2, b2, y5, y6, rfl, sm4, hp4, hv2, hT4, hR4, hke4, hfd, hf4, ht4, hm4⟩
         rw [List.length_map, List.take_length] at hfd
         have hpp : passA es hs (left, ps) = (left2, ps2) := by unfold passA; rw [hxs]; exact hfd
         refine ⟨left2.length + (if b2 then 1 else 0), ?_, v2, left2, ps2, rs2, b2, y5, y6, rfl, rfl, sm4, hv2, hT4, hR4, hke4, fun e x hx hxh => ?_, ?_⟩
         · cases b2 with
           | false => rw [(hf4 rfl).1.1]; exact Nat.lt_succ_self _
           | true =>
             have := ht4 rfl
             simp only [if_true]
             omega
         · obtain ⟨e1, e2⟩ := hf4 e
           rw [e1.1] at hx ⊢
           obtain ⟨k, hk⟩ := List.getElem?_of_mem (show x ∈ xs by rw [← hxs]; exact List.mem_filter.mpr ⟨hx, decide_eq_true hxh⟩)
           exact e2 k x (by rw [List.length_map]; exact (List.getElem?_eq_some_iff.mp hk).1) hk
         · cases b2 with
           | false =>
             obtain ⟨e1, e2⟩ := (hf4 rfl).1
             subst e1
             subst e2
             exact ⟨kk, hkk, hkl, fun _ => hpp⟩
           | true =>
             have := ht4 rfl
             exact ⟨kk + 1, by show passA es hs (iterA n es hs kk) = _; rw [hkk]; exact hpp, by omega, (fun e => nomatch e)⟩
end
/-! piece PB -/
section
variable {P : Program} {w : World} {K : PySem.W.Frag} {mg : Str → Option Value} {base : Heap}
theorem lot_nil : LotIs 0 [] := fun k => by simp
/-- a comprehension over pairs, tuples, that filters and tells -/
theorem lc_ts {K : PySem.W.Frag} {q : Addr} {rs : List Addr} {ps : List Edge} {i j : Nat} {tt : TT} {te : TE} {vs : List Nat} {σ : Sl} {H1 : Hp} {D : Addr} {Qd : Hp → Prop} (f : Edge → Bool) (e : Edge → V)
    (hT : TsAt H1 q rs ps) (nD : H1 D = none) (hn : ps.length ≤ 10000) (hw : ∀ u v, wipe (((wipe σ vs).set i (some u)).set j (some v)) vs = wipe σ vs)
    (ht : ∀ x ∈ ps, ∀ H2, Same H1 H2 → ∀ R : Bool → Hp → Prop, (∀ H3, Same H2 H3 → R (f x) H3) → tt (((wipe σ vs).set i (some (.int x.1))).set j (some (.int x.2))) H2 R)
    (he : ∀ x ∈ ps, f x = true → ∀ H2, Same H1 H2 → ∀ R : V → Hp → Prop, (∀ H3, Same H2 H3 → R (e x) H3) → te (((wipe σ vs).set i (some (.int x.1))).set j (some (.int x.2))) H2 R)
    (hd : ∀ H2, Same H1 H2 → H2 D = some (.lst ((ps.filter f).map e)) → Qd H2) :
    ∃ W : Nat → Nat → Hp → Prop, (∃ m, W 0 m (upd H1 D (.lst []))) ∧ ∀ i' m H, W i' m H →
      ((Itl K q).stop i' H ∧ Qd H) ∨ ((Itl K q).go i' H ∧ ∃ Nx : Hp → Prop, (∀ H', Nx H' → ∃ m', m' < m ∧ W (i' + 1) m' H') ∧ ∀ x H', (Itl K q).yld i' H x H' → gOr (gTup K 2 (gCons (gName i) (gCons (gName j) gNil))) (gUnl K 2 (gCons (gName i) (gCons (gName j) gNil))) x (wipe σ vs) H' fun σ2 H2 => wipe σ2 vs = wipe σ vs ∧ tt σ2 H2 fun b H3 =>
        if b = true then te σ2 H3 fun y H4 => ∃ acc, H4 D = some (.lst acc) ∧ acc.length < sizeLine ∧ Nx (upd H4 D (.lst (acc ++ [y]))) else Nx H3) := by
  refine lc_list (K := K) (xs := rs.map V.ref) (fun k H2 => Same H1 H2 ∧ H2 D = some (.lst (((ps.take k).filter f).map e))) ⟨same_upd (Same.refl _) nD, upd_same⟩ ?_ ?_ ?_
  · rintro k H2 _ ⟨sm, _⟩
    exact SqL.of (sm _ _ hT.hD)
  · rintro k x H2 hx ⟨sm, hD⟩
    rw [List.getElem?_map] at hx
    cases hc : rs[k]? with
    | none => rw [hc] at hx; cases hx
    | some c =>
      rw [hc] at hx
      cases hx
      have hkl : k < ps.length := by rw [← hT.len]; exact (List.getElem?_eq_some_iff.mp hc).1
      have hv : ps[k]? = some ps[k] := List.getElem?_eq_getElem hkl
      have hce := sm _ _ (hT.at_ _ _ _ hc hv)
      have hm := List.getElem_mem hkl
      have htk : ps.take (k + 1) = ps.take k ++ [ps[k]] := by rw [List.take_add_one, hv]; rfl
      generalize ps[k] = y at *
      refine Or.inl ⟨c, [.int y.1, .int y.2], rfl, SqT.of hce, rfl, .int y.1, [.int y.2], rfl, .int y.2, [], rfl, rfl, ?_⟩
      refine ⟨hw _ _, ht y hm H2 sm _ fun H3 sm3 => ?_⟩
      cases hf : f y with
      | false =>
        refine ifF rfl ⟨sm.trans sm3, ?_⟩
        rw [htk, List.filter_append, List.filter_cons, hf]
        simpa using sm3 _ _ hD
      | true =>
        refine ifT rfl (he y hm hf H3 (sm.trans sm3) _ fun H4 sm4 => ?_)
        refine ⟨_, sm4 _ _ (sm3 _ _ hD), ?_, same_upd ((sm.trans sm3).trans sm4) nD, ?_⟩
        · rw [List.length_map]
          exact Nat.lt_of_le_of_lt (Nat.le_trans (List.length_filter_le ..) (Nat.le_trans (by rw [List.length_take]; exact Nat.min_le_right _ _) hn)) (by decide)
        · rw [upd_same, htk, List.filter_append, List.filter_cons, hf, List.map_append]
          simp
  · rintro H2 ⟨sm, hD⟩
    rw [List.length_map, hT.len, List.take_length] at hD
    exact hd H2 sm hD
/-! ### _order_around, full_order, end_size, all_lead -/
@[irreducible] def spOA : Sp := fun vs H Q _ => ∃ (r : Addr) (n h : Nat) (es : List Edge) (hs : List Int), vs = [.ref r, .int h] ∧ n ≤ 12 ∧ Simp n es ∧ H r = some (nLst (nearB n es)) ∧ LotIs h hs ∧
  ∀ p ps left H', aroundA n es hs = (left, ps) → Same H H' → H p = none → H' p = some (iL (ps.map (·.1))) → RunL es (allM n) ps left → (∀ e ∈ ps, e.1 ∉ hs) → (∀ x ∈ left, x ∉ hs → ontoM es left x = []) → Q (.ref p) H'
theorem call_oa {r : Addr} {n h : Nat} {es : List Edge} {hs : List Int} {H : Hp} {Q : VK} {E : XK} (hn : n ≤ 12) (hS : Simp n es) (hr : H r = some (nLst (nearB n es))) (hh : LotIs h hs)
    (fin : ∀ p ps left H', aroundA n es hs = (left, ps) → Same H H' → H p = none → H' p = some (iL (ps.map (·.1))) → RunL es (allM n) ps left → (∀ e ∈ ps, e.1 ∉ hs) → (∀ x ∈ left, x ∉ hs → ontoM es left x = []) → Q (.ref p) H') : spOA [.ref r, .int h] H Q E := by
  unfold spOA
  exact ⟨r, n, h, es, hs, rfl, hn, hS, hr, hh, fin⟩
set_option maxHeartbeats 4000000 in
theorem ok_oa {f : Addr} {fd : FuncData} (F : Fun K "_order_around" "_order_around" s_order_around f fd) (C : Cal P w K mg base "fold_around" 2 ["near", "held"] spAround) :
    FnOk P w K mg base CX0 3 f fd ["near", "held"] spOA := by
  refine F.ok sc_order_around (fun vs H Q E h => ?_) (fun cdv A outer s H vs Q E hr h => ?_)
  · unfold spOA at h
    obtain ⟨r, n, h, es, hs, rfl, _⟩ := h
    rfl
  · have nd := sc_order_around.nd
    have hS := sc_order_around
    have hKM : KMark K := ⟨⟩
    refine' mk_body ?body ?rd
    case body =>
      show PSs _ [_, _] _
      wtm_at "fo ss"
    case rd =>
     unfold spOA at h
     obtain ⟨r, n, h, es, hs, rfl, hn, hSi, hr0, hh, fin⟩ := h
     wtm_at "fo r"
     refine call_around hn hSi hr0 hh (fun p q rs v ps left H1 hA sm1 np nq hp hT hv hR hke hst => ?_)
     refine Or.inl ⟨p, [.int v, .ref q], rfl, SqT.of hp, rfl, .int v, [.ref q], rfl, .ref q, [], rfl, rfl, ?_⟩
     refine ⟨_, rfl, q, rfl, ⟨_, SqL.of hT.hD⟩, fun D nD => ?_⟩
     have hl := hR.len12
     refine lc_ts (fun _ => true) (fun e => V.int e.1) hT nD (by omega) (fun _ _ => rfl) (fun x _ H2 _ R hR => hR H2 (Same.refl _)) (fun x _ _ H2 _ R hR => ⟨_, rfl, hR H2 (Same.refl _)⟩) ?_
     intro H2 sm2 hD2
     rw [List.filter_eq_self.mpr (fun _ _ => rfl)] at hD2
     refine fin D ps left H2 hA (sm1.trans sm2) (sm1.free nD) ?_ hR hke hst
     rw [hD2]
     unfold iL
     rw [List.map_map]
     rfl
/-! what is left at last -/
structure EndOf (n : Nat) (es ps : List Edge) (left : List Int) : Prop where
  is : aroundA n es [] = (left, ps)
  run : RunL es (allM n) ps left
  st : foldableM es left = []
theorem EndOf.of {n : Nat} {es ps : List Edge} {left : List Int} (hA : aroundA n es [] = (left, ps)) (hR : RunL es (allM n) ps left) (hst : ∀ x ∈ left, x ∉ ([] : List Int) → ontoM es left x = []) : EndOf n es ps left := by
  refine ⟨hA, hR, ?_⟩
  unfold foldableM
  rw [List.filter_eq_nil_iff]
  intro x hx
  simp [hst x hx (by simp)]
@[irreducible] def spFull : Sp := fun vs H Q _ => ∃ (q : Addr) (n : Nat) (es : List Edge), vs = [.int n, .ref q] ∧ 1 ≤ n ∧ n ≤ 12 ∧ Pairs H q es ∧ Simp n es ∧ es.length ≤ 200 ∧
  ∀ p ps left H', EndOf n es ps left → Same H H' → H p = none → H' p = some (iL (ps.map (·.1))) → Q (.ref p) H'
theorem call_full {q : Addr} {n : Nat} {es : List Edge} {H : Hp} {Q : VK} {E : XK} (h1 : 1 ≤ n) (hn : n ≤ 12) (hq : Pairs H q es) (hS : Simp n es) (hl : es.length ≤ 200)
    (fin : ∀ p ps left H', EndOf n es ps left → Same H H' → H p = none → H' p = some (iL (ps.map (·.1))) → Q (.ref p) H') : spFull [.int n, .ref q] H Q E := by
  unfold spFull
  exact ⟨q, n, es, rfl, h1, hn, hq, hS, hl, fin⟩
set_option maxHeartbeats 4000000 in
theorem ok_full {f : Addr} {fd : FuncData} (F : Fun K "full_order" "full_order" s_full_order f fd) (C : Cal P w K mg base "read_net" 2 ["places", "lines"] spRead) (C2 : Cal P w K mg base "_order_around" 3 ["near", "held"] spOA) :
    FnOk P w K mg base CX0 4 f fd ["places", "lines"] spFull := by
  refine F.ok sc_full_order (fun vs H Q E h => ?_) (fun cdv A outer s H vs Q E hr h => ?_)
  · unfold spFull at h
    obtain ⟨q, n, es, rfl, _⟩ := h
    rfl
  · have nd := sc_full_order.nd
    have hS := sc_full_order
    have hKM : KMark K := ⟨⟩
    refine' mk_body ?body ?rd
    case body =>
      show PSs _ [_] _
      wtm_at "fo ss"
    case rd =>
     unfold spFull at h
     obtain ⟨q, n, es, rfl, h1, hn, hq, hSi, hl, fin⟩ := h
     wtm_at "fo r"
     refine call_read h1 hn hq hSi hl (fun r H1 sm1 nr hr1 => ?_)
     exact call_oa hn hSi hr1 lot_nil (fun p ps left H2 hA sm2 np hp hR hke hst => fin p ps left H2 (.of hA hR hst) (sm1.trans sm2) (sm1.free np) hp)
@[irreducible] def spSize : Sp := fun vs H Q _ => ∃ (q : Addr) (n : Nat) (es : List Edge), vs = [.int n, .ref q] ∧ 1 ≤ n ∧ n ≤ 12 ∧ Pairs H q es ∧ Simp n es ∧ es.length ≤ 200 ∧
  ∀ ps left H', EndOf n es ps left → Same H H' → Q (.int (left.length : Nat)) H'
theorem call_size {q : Addr} {n : Nat} {es : List Edge} {H : Hp} {Q : VK} {E : XK} (h1 : 1 ≤ n) (hn : n ≤ 12) (hq : Pairs H q es) (hS : Simp n es) (hl : es.length ≤ 200)
    (fin : ∀ ps left H', EndOf n es ps left → Same H H' → Q (.int (left.length : Nat)) H') : spSize [.int n, .ref q] H Q E := by
  unfold spSize
  exact ⟨q, n, es, rfl, h1, hn, hq, hS, hl, fin⟩
set_option maxHeartbeats 4000000 in
theorem ok_size {f : Addr} {fd : FuncData} (F : Fun K "end_size" "end_size" s_end_size f fd) (mn : mg "len" = none) (C : Cal P w K mg base "full_order" 4 ["places", "lines"] spFull) :
    FnOk P w K mg base CX0 5 f fd ["places", "lines"] spSize := by
  refine F.ok sc_end_size (fun vs H Q E h => ?_) (fun cdv A outer s H vs Q E hr h => ?_)
  · unfold spSize at h
    obtain ⟨q, n, es, rfl, _⟩ := h
    rfl
  · have nd := sc_end_size.nd
    have hS := sc_end_size
    have hKM : KMark K := ⟨⟩
    refine' mk_body ?body ?rd
    case body =>
      show PSs _ [_] _
      wtm_at "fo ss"
    case rd =>
     unfold spSize at h
     obtain ⟨q, n, es, rfl, h1, hn, hq, hSi, hl, fin⟩ := h
     wtm_at "fo r"
     refine call_full h1 hn hq hSi hl (fun p ps left H1 hE sm1 np hp => ?_)
     refine ⟨p, _, rfl, Or.inl (SqL.of hp), _, _, rfl, rfl, ?_⟩
     have hl2 := hE.run.len12
     have e : ((n : Int) - (((ps.map (·.1)).map V.int).length : Nat)) = ((left.length : Nat) : Int) := by rw [List.length_map, List.length_map]; omega
     show Q (.int ((n : Int) - (((ps.map (·.1)).map V.int).length : Nat))) H1
     rw [e]
     exact fin ps left H1 hE sm1
@[irreducible] def spAllLead : Sp := fun vs H Q _ => ∃ (q : Addr) (n : Nat) (es : List Edge), vs = [.int n, .ref q] ∧ 1 ≤ n ∧ n ≤ 12 ∧ Pairs H q es ∧ Simp n es ∧ es.length ≤ 200 ∧
  ∀ ps left H', EndOf n es ps left → Same H H' → Q (.bl (decide (left.length = 1))) H'
theorem call_alllead {q : Addr} {n : Nat} {es : List Edge} {H : Hp} {Q : VK} {E : XK} (h1 : 1 ≤ n) (hn : n ≤ 12) (hq : Pairs H q es) (hS : Simp n es) (hl : es.length ≤ 200)
    (fin : ∀ ps left H', EndOf n es ps left → Same H H' → Q (.bl (decide (left.length = 1))) H') : spAllLead [.int n, .ref q] H Q E := by
  unfold spAllLead
  exact ⟨q, n, es, rfl, h1, hn, hq, hS, hl, fin⟩
set_option maxHeartbeats 4000000 in
theorem ok_alllead {f : Addr} {fd : FuncData} (F : Fun K "all_lead" "all_lead" s_all_lead f fd) (C : Cal P w K mg base "end_size" 5 ["places", "lines"] spSize) :
    FnOk P w K mg base CX0 6 f fd ["places", "lines"] spAllLead := by
  refine F.ok sc_all_lead (fun vs H Q E h => ?_) (fun cdv A outer s H vs Q E hr h => ?_)
  · unfold spAllLead at h
    obtain ⟨q, n, es, rfl, _⟩ := h
    rfl
  · have nd := sc_all_lead.nd
    have hS := sc_all_lead
    have hKM : KMark K := ⟨⟩
    refine' mk_body ?body ?rd
    case body =>
      show PSs _ [_] _
      wtm_at "fo ss"
    case rd =>
     unfold spAllLead at h
     obtain ⟨q, n, es, rfl, h1, hn, hq, hSi, hl, fin⟩ := h
     wtm_at "fo r"
     refine call_size h1 hn hq hSi hl (fun ps left H1 hE sm1 => ?_)
     refine Or.inl ⟨rfl, ?_⟩
     have e : decide (V.int ((left.length : Nat) : Int) = V.int 1) = decide (left.length = 1) := by
       apply decide_eq_decide.mpr
       constructor
       · intro h; injection h with h; omega
       · intro h; rw [h]; rfl
     rw [e]
     exact fin ps left H1 hE sm1
end
/-! piece PFm -/
section
/-! ### rows of numbers in a list -/
structure RwAt (H : Hp) (D : Addr) (rs : List Addr) (ts : List (List Int)) : Prop where
  hD : H D = some (.lst (rs.map V.ref))
  len : rs.length = ts.length
  at_ : ∀ (i : Nat) (r : Addr) (t : List Int), rs[i]? = some r → ts[i]? = some t → H r = some (iL t)
theorem RwAt.mem {H : Hp} {D : Addr} {rs : List Addr} {ts : List (List Int)} (h : RwAt H D rs ts) {r : Addr} (hr : r ∈ rs) : ∃ t ∈ ts, H r = some (iL t) := by
  obtain ⟨i, hi⟩ := List.getElem?_of_mem hr
  have hl : i < ts.length := by rw [← h.len]; exact (List.getElem?_eq_some_iff.mp hi).1
  exact ⟨ts[i], List.getElem_mem hl, h.at_ i r _ hi (List.getElem?_eq_getElem hl)⟩
theorem iL_ne_refs {t : List Int} {rs : List Addr} (h : t ≠ [] ∨ rs ≠ []) : iL t ≠ .lst (rs.map V.ref) := by
  intro e
  unfold iL at e
  injection e with e
  cases t with
  | nil => cases rs with
    | nil => rcases h with h | h <;> exact h rfl
    | cons b r => simp at e
  | cons a l => cases rs with
    | nil => simp at e
    | cons b r => simp at e
theorem RwAt.nil {H : Hp} {D : Addr} (h : H D = some (.lst [])) : RwAt H D [] [] := ⟨h, rfl, fun i r t h _ => by simp at h⟩
theorem RwAt.same {H H' : Hp} {D : Addr} {rs : List Addr} {ts : List (List Int)} (h : RwAt H D rs ts) (s : Same H H') : RwAt H' D rs ts :=
  ⟨s _ _ h.hD, h.len, fun i r t a b => s _ _ (h.at_ i r t a b)⟩
/-- one more row, that is not the list itself -/
theorem RwAt.push {H : Hp} {D r : Addr} {rs : List Addr} {ts : List (List Int)} {t : List Int} (h : RwAt H D rs ts) (hr : H r = some (iL t)) (hrD : r ≠ D) (hnD : D ∉ rs) :
    RwAt (upd H D (.lst (rs.map V.ref ++ [V.ref r]))) D (rs ++ [r]) (ts ++ [t]) := by
  refine ⟨?_, ?_, ?_⟩
  · rw [upd_same, List.map_append]
    rfl
  · rw [List.length_append, List.length_append, h.len]
    rfl
  · intro i a u ha hu
    by_cases hi : i < rs.length
    · rw [List.getElem?_append_left hi] at ha
      rw [List.getElem?_append_left (by rw [← h.len]; exact hi)] at hu
      rw [upd_ne (fun e => hnD (by rw [← e]; exact List.mem_of_getElem? ha))]
      exact h.at_ i a u ha hu
    · rw [List.getElem?_append_right (by omega)] at ha
      rw [List.getElem?_append_right (by rw [← h.len]; omega), ← h.len] at hu
      have e0 : i - rs.length = 0 := by
        have := (List.getElem?_eq_some_iff.mp ha).1
        simp at this
        omega
      rw [e0] at ha hu
      simp at ha hu
      subst ha hu
      rw [upd_ne hrD]
      exact hr
/-- a comprehension of new rows, with a test -/
theorem lc_rows {K : PySem.W.Frag} {a : Addr} {α : Type} {inj : α → V} {xs : List α} {i : Nat} {tt : TT} {te : TE} {vs : List Nat} {σ : Sl} {H1 : Hp} {D : Addr} {Qd : Hp → Prop} (f : α → Prop) (e : α → List Int)
    (hl : SqL K H1 a (xs.map inj)) (nD : H1 D = none) (hn : xs.length ≤ 10000) (hw : ∀ v, wipe ((wipe σ vs).set i (some v)) vs = wipe σ vs)
    (ht : ∀ x ∈ xs, ∀ H2, Same H1 H2 → ∀ R : Bool → Hp → Prop, (∀ b H3, Same H2 H3 → (b = true ↔ f x) → R b H3) → tt ((wipe σ vs).set i (some (inj x))) H2 R)
    (he : ∀ x ∈ xs, f x → ∀ H2, Same H1 H2 → ∀ R : V → Hp → Prop, (∀ H3 r, Same H2 H3 → H2 r = none → H3 r = some (iL (e x)) → R (.ref r) H3) → te ((wipe σ vs).set i (some (inj x))) H2 R)
    (hd : ∀ (H2 : Hp) (rs : List Addr) (ys : List α), Same H1 H2 → RwAt H2 D rs (ys.map e) → (∀ r ∈ rs, H1 r = none) → D ∉ rs → (∀ x, x ∈ ys ↔ x ∈ xs ∧ f x) → ys.Sublist xs → Qd H2) :
    ∃ W : Nat → Nat → Hp → Prop, (∃ m, W 0 m (upd H1 D (.lst []))) ∧ ∀ i' m H, W i' m H →
      ((Itl K a).stop i' H ∧ Qd H) ∨ ((Itl K a).go i' H ∧ ∃ Nx : Hp → Prop, (∀ H', Nx H' → ∃ m', m' < m ∧ W (i' + 1) m' H') ∧ ∀ x H', (Itl K a).yld i' H x H' → gName i x (wipe σ vs) H' fun σ2 H2 => wipe σ2 vs = wipe σ vs ∧ tt σ2 H2 fun b H3 =>
        if b = true then te σ2 H3 fun y H4 => ∃ acc, H4 D = some (.lst acc) ∧ acc.length < sizeLine ∧ Nx (upd H4 D (.lst (acc ++ [y]))) else Nx H3) := by
  refine lc_list (K := K) (xs := xs.map inj) (fun j H2 => Same H1 H2 ∧ ∃ (rs : List Addr) (ys : List α), RwAt H2 D rs (ys.map e) ∧ (∀ r ∈ rs, H1 r = none) ∧ D ∉ rs ∧ (∀ x, x ∈ ys ↔ x ∈ xs.take j ∧ f x) ∧ ys.Sublist (xs.take j)) ⟨same_upd (Same.refl _) nD, [], [], RwAt.nil upd_same, (fun _ h => nomatch h), (fun h => nomatch h), (fun x => by simp), List.Sublist.refl _⟩ ?_ ?_ ?_
  · rintro j H2 _ ⟨sm, _⟩
    exact sm.seq hl
  · rintro j x H2 hx ⟨sm, rs, ys, hP, hfr, hnD, hys, hsb⟩
    rw [List.getElem?_map] at hx
    cases hv : xs[j]? with
    | none => rw [hv] at hx; cases hx
    | some y =>
      rw [hv] at hx
      cases hx
      have hm := List.mem_of_getElem? hv
      have htk : xs.take (j + 1) = xs.take j ++ [y] := by rw [List.take_add_one, hv]; rfl
      have hyl : ys.length ≤ xs.length := Nat.le_trans hsb.length_le (by rw [List.length_take]; exact Nat.min_le_right _ _)
      refine ⟨hw _, ht y hm H2 sm _ fun b H3 sm3 hb => ?_⟩
      cases b with
      | false =>
        have hf : ¬ f y := fun h => nomatch hb.mpr h
        refine ifF rfl ⟨sm.trans sm3, rs, ys, hP.same sm3, hfr, hnD, fun x => ?_, ?_⟩
        · rw [hys, htk, List.mem_append, List.mem_singleton]
          constructor
          · exact fun h => ⟨.inl h.1, h.2⟩
          · rintro ⟨h | h, h2⟩
            · exact ⟨h, h2⟩
            · exact absurd (h ▸ h2) hf
        · rw [htk]
          exact hsb.trans (List.sublist_append_left _ _)
      | true =>
        have hf : f y := hb.mp rfl
        refine ifT rfl (he y hm hf H3 (sm.trans sm3) _ fun H4 r sm4 nr hr => ?_)
        have hP4 := (hP.same sm3).same sm4
        have s3 := sm.trans sm3
        have hrD : r ≠ D := fun h => by
          have := (hP.same sm3).hD
          rw [← h, nr] at this
          cases this
        refine ⟨_, hP4.hD, ?_, same_upd (s3.trans sm4) nD, rs ++ [r], ys ++ [y], ?_, ?_, ?_, fun x => ?_, ?_⟩
        · rw [List.length_map, hP4.len, List.length_map]
          exact Nat.lt_of_le_of_lt (Nat.le_trans hyl hn) (by decide)
        · rw [List.map_append]
          exact hP4.push hr hrD hnD
        · intro c hc
          rcases List.mem_append.mp hc with hc | hc
          · exact hfr c hc
          · rw [List.mem_singleton.mp hc]
            exact s3.free nr
        · intro hc
          rcases List.mem_append.mp hc with hc | hc
          · exact hnD hc
          · exact hrD (List.mem_singleton.mp hc).symm
        · rw [List.mem_append, List.mem_singleton, hys, htk, List.mem_append, List.mem_singleton]
          constructor
          · rintro (h | h)
            · exact ⟨.inl h.1, h.2⟩
            · exact ⟨.inr h, h ▸ hf⟩
          · rintro ⟨h | h, h2⟩
            · exact .inl ⟨h, h2⟩
            · exact .inr h
        · rw [htk]
          exact hsb.append (List.Sublist.refl _)
  · rintro H2 ⟨sm, rs, ys, hP, hfr, hnD, hys, hsb⟩
    rw [List.length_map, List.take_length] at hys hsb
    exact hd H2 rs ys sm hP hfr hnD hys hsb
end
/-! piece PQa -/
section
local macro_rules | `(tactic| wtm_at "fo s") => `(tactic| ((with_reducible show PS _ (.AugAssign (.Name _ _) .BitAnd _ _) _); refine' ps_aug (i := 2) (by assumption) rfl (by first | exact Or.inl rfl | exact Or.inr rfl) ?ka ip_and; (case ka => wtm_at "fo e")))
local macro_rules | `(tactic| wtm_at "fo s") => `(tactic| ((with_reducible show PS _ (.AugAssign (.Name _ _) .BitOr _ _) _); refine' ps_aug (i := 4) (by assumption) rfl (by first | exact Or.inl rfl | exact Or.inr rfl) ?ka ip_or; (case ka => wtm_at "fo e")))
variable {P : Program} {w : World} {K : PySem.W.Frag} {mg : Str → Option Value} {base : Heap}
/-! ### check_place, _read_both -/
@[irreducible] def spCPl : Sp := fun vs H Q _ => ∃ (r : Addr) (xs : List V) (n : Nat) (p : Int), vs = [.ref r, .int p] ∧ H r = some (.lst xs) ∧ xs.length = n + 1 ∧ 1 ≤ p ∧ p ≤ n ∧ Q .non H
theorem call_cpl {r : Addr} {xs : List V} {n : Nat} {p : Int} {H : Hp} {Q : VK} {E : XK} (hr : H r = some (.lst xs)) (hl : xs.length = n + 1) (h1 : 1 ≤ p) (h2 : p ≤ n) (q : Q .non H) : spCPl [.ref r, .int p] H Q E := by
  unfold spCPl
  exact ⟨r, xs, n, p, rfl, hr, hl, h1, h2, q⟩
set_option maxHeartbeats 4000000 in
theorem ok_cpl {f : Addr} {fd : FuncData} (F : Fun K "check_place" "check_place" s_check_place f fd) (mn : mg "len" = none) (C : Cal P w K mg base "is_place" 1 ["place", "places"] spIsPlace) :
    FnOk P w K mg base CX0 2 f fd ["near", "place"] spCPl := by
  refine F.ok sc_check_place (fun vs H Q E h => ?_) (fun cdv A outer s H vs Q E hr h => ?_)
  · unfold spCPl at h
    obtain ⟨r, xs, n, p, rfl, _⟩ := h
    rfl
  · have nd := sc_check_place.nd
    have hS := sc_check_place
    have hKM : KMark K := ⟨⟩
    refine' mk_body ?body ?rd
    case body =>
      show PSs _ [_] _
      wtm_at "fo ss"
    case rd =>
     unfold spCPl at h
     obtain ⟨r, xs, n, p, rfl, h0, hl, h1, h2, fin⟩ := h
     refine ⟨_, rfl, _, rfl, r, _, rfl, Or.inl (SqL.of h0), _, _, rfl, rfl, ?_⟩
     refine call_isplace ⟨_, rfl, ?_⟩
     refine ifF (by rw [decide_eq_true (by rw [hl]; omega)]; rfl) ?_
     exact fin
@[irreducible] def spBoth : Sp := fun vs H Q _ => ∃ (q : Addr) (n : Nat) (h t : Int) (es : List Edge), vs = [.int n, .ref q, .int h, .int t] ∧ 1 ≤ n ∧ n ≤ 12 ∧ Pairs H q es ∧ Simp n es ∧ es.length ≤ 200 ∧ (1 ≤ h ∧ h ≤ n) ∧ (1 ≤ t ∧ t ≤ n) ∧
  ∀ r H', Same H H' → H r = none → H' r = some (nLst (nearB n es)) → Q (.ref r) H'
theorem call_both {q : Addr} {n : Nat} {h t : Int} {es : List Edge} {H : Hp} {Q : VK} {E : XK} (b1 : 1 ≤ n) (b2 : n ≤ 12) (b3 : Pairs H q es) (b4 : Simp n es) (b5 : es.length ≤ 200) (hh : 1 ≤ h ∧ h ≤ n) (ht : 1 ≤ t ∧ t ≤ n)
    (fin : ∀ r H', Same H H' → H r = none → H' r = some (nLst (nearB n es)) → Q (.ref r) H') : spBoth [.int n, .ref q, .int h, .int t] H Q E := by
  unfold spBoth
  exact ⟨q, n, h, t, es, rfl, b1, b2, b3, b4, b5, hh, ht, fin⟩
set_option maxHeartbeats 4000000 in
theorem ok_both {f : Addr} {fd : FuncData} (F : Fun K "_read_both" "_read_both" s_read_both f fd) (C : Cal P w K mg base "read_net" 2 ["places", "lines"] spRead) (C2 : Cal P w K mg base "check_place" 2 ["near", "place"] spCPl) :
    FnOk P w K mg base CX0 3 f fd ["places", "lines", "seeker", "fleer"] spBoth := by
  refine F.ok sc_read_both (fun vs H Q E h => ?_) (fun cdv A outer s H vs Q E hr h => ?_)
  · unfold spBoth at h
    obtain ⟨q, n, h, t, es, rfl, _⟩ := h
    rfl
  · have nd := sc_read_both.nd
    have hS := sc_read_both
    have hKM : KMark K := ⟨⟩
    refine' mk_body ?body ?rd
    case body =>
      show PSs _ [_, _, _, _] _
      wtm_at "fo ss"
    case rd =>
     unfold spBoth at h
     obtain ⟨q, n, h, t, es, rfl, b1, b2, b3, b4, b5, hh, ht, fin⟩ := h
     wtm_at "fo r"
     refine call_read b1 b2 b3 b4 b5 (fun r H1 sm1 nr hr => ?_)
     have hrl : ((nearB n es).map fun (v : Nat) => V.int v).length = n + 1 := by rw [List.length_map, nearB_length]
     wtm_at "fo r"
     refine call_cpl hr hrl hh.1 hh.2 ?_
     wtm_at "fo r"
     refine call_cpl hr hrl ht.1 ht.2 ?_
     exact ⟨_, rfl, fin r H1 sm1 nr hr⟩
/-! ### _same_places -/
@[irreducible] def spSameP : Sp := fun vs H Q _ => ∃ (r : Addr) (xs : List V) (n : Nat), vs = [.ref r] ∧ H r = some (.lst xs) ∧ xs.length = n + 1 ∧ n ≤ 12 ∧ ∀ p H', Same H H' → H p = none → H' p = some (nLst (sameM n)) → Q (.ref p) H'
theorem call_samep {r : Addr} {xs : List V} {n : Nat} {H : Hp} {Q : VK} {E : XK} (hr : H r = some (.lst xs)) (hl : xs.length = n + 1) (hn : n ≤ 12)
    (fin : ∀ p H', Same H H' → H p = none → H' p = some (nLst (sameM n)) → Q (.ref p) H') : spSameP [.ref r] H Q E := by
  unfold spSameP
  exact ⟨r, xs, n, rfl, hr, hl, hn, fin⟩
theorem pow_int (k : Nat) : (1 : Int) * 2 ^ ((1 : Int) + (k : Int)).toNat = ((2 ^ (k + 1) : Nat) : Int) := by
  rw [Int.one_mul, show ((1 : Int) + (k : Int)).toNat = k + 1 by omega, Int.natCast_pow]
  rfl
set_option maxHeartbeats 4000000 in
theorem ok_samep {f : Addr} {fd : FuncData} (F : Fun K "_same_places" "_same_places" s_same_places f fd) (mr : mg "range" = none) (mn : mg "len" = none) :
    FnOk P w K mg base CX0 1 f fd ["near"] spSameP := by
  refine F.ok sc_same_places (fun vs H Q E h => ?_) (fun cdv A outer s H vs Q E hr h => ?_)
  · unfold spSameP at h
    obtain ⟨r, xs, n, rfl, _⟩ := h
    rfl
  · have nd := sc_same_places.nd
    have hS := sc_same_places
    have hKM : KMark K := ⟨⟩
    refine' mk_body ?body ?rd
    case body =>
      show PSs _ [_] _
      wtm_at "fo ss"
    case rd =>
     unfold spSameP at h
     obtain ⟨r, xs, n, rfl, h0, hl, hn, fin⟩ := h
     refine ⟨(Nat.le_of_ble_eq_true rfl : _ ≤ sizeLine), fun c nc => ?_⟩
     have smc : Same H (upd H c (.lst [.int 0])) := same_upd (Same.refl _) nc
     have hc : (upd H c (.lst [.int 0])) c = some (.lst [.int 0]) := upd_same
     generalize upd H c (.lst [.int 0]) = H1 at *
     refine ⟨_, rfl, r, _, rfl, Or.inl (SqL.of (smc _ _ h0)), _, _, rfl, ⟨by decide, by decide, by omega, by omega⟩, fun D nD => ?_⟩
     have hN : ((xs.length : Int) - 1).toNat = n := by omega
     refine lc_range (lo := 1) (n := ((xs.length : Int) - 1).toNat) (fun i H2 => Same H1 H2 ∧ H2 D = some (nLst ((List.range i).map fun i => 2 ^ (i + 1)))) ?_ ?_ ?_
     · exact ⟨same_upd (Same.refl _) nD, upd_same⟩
     · rintro i H2 hi ⟨sm2, hD⟩
       rw [hN] at hi
       refine ⟨rfl, _, rfl, _, _, rfl, rfl, ⟨by omega, by omega, by decide⟩, ?_⟩
       refine ⟨_, hD, ?_, same_upd sm2 nD, ?_⟩
       · rw [List.length_map, List.length_map, List.length_range]
         exact Nat.lt_of_lt_of_le (m := 20) (by omega) (by decide)
       · rw [upd_same, List.range_succ]
         unfold nLst
         rw [List.map_append, List.map_append]
         show some (HO.lst (_ ++ [V.int (1 * 2 ^ ((1 : Int) + (i : Int)).toNat)])) = _
         rw [pow_int]
         rfl
     · rintro H2 ⟨sm2, hD⟩
       rw [hN] at hD
       refine Or.inr ⟨c, D, _, _, rfl, rfl, sm2 _ _ hc, hD, ?_, fun p np => ?_⟩
       · rw [List.length_map, List.length_map, List.length_range]
         exact Nat.le_trans (m := 20) (by show 1 + n ≤ 20; omega) (by decide)
       · refine fin p _ (smc.trans (sm2.trans (same_upd (Same.refl _) np))) (smc.free (sm2.free np)) ?_
         rw [upd_same]
         rfl
/-! ### _common -/
@[irreducible] def spCommon : Sp := fun vs H Q _ => ∃ (r q : Addr) (n : Nat) (ls : List Nat) (ps : List Int), vs = [.ref r, .ref q] ∧ H r = some (nLst ls) ∧ ls.length = n + 1 ∧ H q = some (iL ps) ∧ ps ≠ [] ∧ (∀ p ∈ ps, 1 ≤ p ∧ p ≤ n) ∧ Q (.int (commonM ls ps : Nat)) H
theorem call_common {r q : Addr} {n : Nat} {ls : List Nat} {ps : List Int} {H : Hp} {Q : VK} {E : XK} (hr : H r = some (nLst ls)) (hl : ls.length = n + 1) (hq : H q = some (iL ps)) (h0 : ps ≠ []) (hp : ∀ p ∈ ps, 1 ≤ p ∧ p ≤ n) (fin : Q (.int (commonM ls ps : Nat)) H) : spCommon [.ref r, .ref q] H Q E := by
  unfold spCommon
  exact ⟨r, q, n, ls, ps, rfl, hr, hl, hq, h0, hp, fin⟩
set_option maxHeartbeats 4000000 in
theorem ok_common {f : Addr} {fd : FuncData} (F : Fun K "_common" "_common" s_common f fd) :
    FnOk P w K mg base CX0 1 f fd ["lots", "places"] spCommon := by
  refine F.ok sc_common (fun vs H Q E h => ?_) (fun cdv A outer s H vs Q E hr h => ?_)
  · unfold spCommon at h
    obtain ⟨r, q, n, ls, ps, rfl, _⟩ := h
    rfl
  · have nd := sc_common.nd
    have hS := sc_common
    have hKM : KMark K := ⟨⟩
    refine' mk_body ?body ?rd
    case body =>
      show PSs _ [_, _, _] _
      wtm_at "fo ss"
    case rd =>
     unfold spCommon at h
     obtain ⟨r, q, n, ls, ps, rfl, h0, hl, hq, hne, hp, fin⟩ := h
     have hget : ∀ p : Int, 1 ≤ p → p ≤ n → (ls.map fun (v : Nat) => V.int v)[p.toNat]? = some (.int (ls.getD p.toNat 0 : Nat)) := fun p h1 h2 => by
       rw [List.getElem?_map, List.getD_eq_getElem?_getD, List.getElem?_eq_getElem (by omega)]
       rfl
     obtain ⟨p0, l0, rfl⟩ : ∃ p0 l0, ps = p0 :: l0 := by
       cases ps with
       | nil => exact absurd rfl hne
       | cons a b => exact ⟨a, b, rfl⟩
     have hp0 := hp p0 (List.mem_cons_self ..)
     refine ⟨_, rfl, _, rfl, Or.inl ⟨q, _, 0, .int p0, rfl, rfl, SqL.of hq, at_of (j := 0) rfl rfl, ?_⟩⟩
     refine Or.inl ⟨r, _, p0, .int (ls.getD p0.toNat 0 : Nat), rfl, rfl, SqL.of h0, at_of (j := p0.toNat) (by omega) (hget p0 hp0.1 hp0.2), ?_⟩
     refine ⟨_, rfl, q, rfl, ⟨_, SqL.of hq⟩, ?_⟩
     refine for_list (K := K) (xs := (p0 :: l0).map V.int) (fun i σ H3 => ∃ (y : Option V), σ = [some (.ref r), some (.ref q), some (.int (((p0 :: l0).take i).foldl (fun a p => a &&& ls.getD p.toNat 0) (ls.getD p0.toNat 0) : Nat)), y] ∧ H3 = H) ?_ ?_ ?_ ?_
     · exact ⟨none, rfl, rfl⟩
     · rintro i σ H3 _ ⟨y, rfl, rfl⟩
       exact SqL.of hq
     · rintro i x σ H3 hx ⟨y, rfl, rfl⟩
       obtain ⟨p, hpx, rfl⟩ := int_at hx
       have hpr := hp p (List.mem_of_getElem? hpx)
       have htk : (p0 :: l0).take (i + 1) = (p0 :: l0).take i ++ [p] := by rw [List.take_add_one, hpx]; rfl
       refine ⟨_, rfl, _, rfl, _, rfl, Or.inl ⟨r, _, p, .int (ls.getD p.toNat 0 : Nat), rfl, rfl, SqL.of h0, at_of (j := p.toNat) (by omega) (hget p hpr.1 hpr.2), _, _, rfl, rfl, ?_⟩⟩
       refine ⟨some (.int p), ?_, rfl⟩
       rw [htk, List.foldl_append]
       generalize ((p0 :: l0).take i).foldl (fun a p => a &&& ls.getD p.toNat 0) (ls.getD p0.toNat 0) = u at *
       show [some (V.ref r), some (V.ref q), some (V.int (Builtin.bitAnd (u : Int) ((ls.getD p.toNat 0 : Nat) : Int))), some (V.int p)] = _
       rw [bAnd]
       rfl
     · rintro σ H3 ⟨y, rfl, rfl⟩
       rw [List.length_map, List.take_length]
       exact ⟨_, rfl, fin⟩
end
/-! piece PQb -/
section
local macro_rules | `(tactic| wtm_at "fo s") => `(tactic| ((with_reducible show PS _ (.AugAssign (.Name _ _) .BitOr _ _) _); refine' ps_aug (i := 4) (by assumption) rfl (by first | exact Or.inl rfl | exact Or.inr rfl) ?ka ip_or; (case ka => wtm_at "fo e")))
/-- the rows of where one may go from each place -/
def AnsAt (H : Hp) (a : Addr) (n : Nat) (es : List Edge) : Prop := ∃ rs : List Addr, H a = some (.lst (rs.map V.ref)) ∧ rs.length = n + 1 ∧ ∀ p : Nat, 1 ≤ p → p ≤ n → ∃ r, rs[p]? = some r ∧ H r = some (iL (besideM n es (p : Int)))
theorem AnsAt.same {H H' : Hp} {a : Addr} {n : Nat} {es : List Edge} (h : AnsAt H a n es) (s : Same H H') : AnsAt H' a n es := by
  obtain ⟨rs, h1, h2, h3⟩ := h
  refine ⟨rs, s _ _ h1, h2, fun p a b => ?_⟩
  obtain ⟨r, x, y⟩ := h3 p a b
  exact ⟨r, x, s _ _ y⟩
variable {P : Program} {w : World} {K : PySem.W.Frag} {mg : Str → Option Value} {base : Heap}
/-! ### _traps -/
@[irreducible] def spTraps : Sp := fun vs H Q _ => ∃ (a s : Addr) (n : Nat) (es : List Edge) (ls : List Nat), vs = [.ref a, .ref s] ∧ n ≤ 12 ∧ Simp n es ∧ AnsAt H a n es ∧ H s = some (nLst ls) ∧ ls.length = n + 1 ∧ ∀ p H', Same H H' → H p = none → H' p = some (nLst (trapsM n es ls)) → Q (.ref p) H'
theorem call_traps {a s : Addr} {n : Nat} {es : List Edge} {ls : List Nat} {H : Hp} {Q : VK} {E : XK} (hn : n ≤ 12) (hS : Simp n es) (ha : AnsAt H a n es) (hs : H s = some (nLst ls)) (hl : ls.length = n + 1)
    (fin : ∀ p H', Same H H' → H p = none → H' p = some (nLst (trapsM n es ls)) → Q (.ref p) H') : spTraps [.ref a, .ref s] H Q E := by
  unfold spTraps
  exact ⟨a, s, n, es, ls, rfl, hn, hS, ha, hs, hl, fin⟩
set_option maxHeartbeats 4000000 in
theorem ok_traps {f : Addr} {fd : FuncData} (F : Fun K "_traps" "_traps" s_traps f fd) (mr : mg "range" = none) (mn : mg "len" = none) (C : Cal P w K mg base "_common" 1 ["lots", "places"] spCommon) :
    FnOk P w K mg base CX0 2 f fd ["answers", "sure"] spTraps := by
  refine F.ok sc_traps (fun vs H Q E h => ?_) (fun cdv A outer s H vs Q E hr h => ?_)
  · unfold spTraps at h
    obtain ⟨a, s, n, es, ls, rfl, _⟩ := h
    rfl
  · have nd := sc_traps.nd
    have hS := sc_traps
    have hKM : KMark K := ⟨⟩
    refine' mk_body ?body ?rd
    case body =>
      show PSs _ [_] _
      wtm_at "fo ss"
    case rd =>
     unfold spTraps at h
     obtain ⟨a, s, n, es, ls, rfl, hn, hSe, ha, hs, hl, fin⟩ := h
     refine ⟨(Nat.le_of_ble_eq_true rfl : _ ≤ sizeLine), fun c nc => ?_⟩
     have smc : Same H (upd H c (.lst [.int 0])) := same_upd (Same.refl _) nc
     have hc : (upd H c (.lst [.int 0])) c = some (.lst [.int 0]) := upd_same
     have ha1 := ha.same smc
     have hs1 := smc _ _ hs
     generalize upd H c (.lst [.int 0]) = H1 at *
     obtain ⟨rs, h1, h2, h3⟩ := ha1
     refine ⟨_, rfl, a, _, rfl, Or.inl (SqL.of h1), _, _, rfl, ⟨by decide, by decide, by rw [List.length_map]; omega, by rw [List.length_map]; omega⟩, fun D nD => ?_⟩
     have hN : (((rs.map V.ref).length : Int) - 1).toNat = n := by rw [List.length_map]; omega
     refine lc_range (lo := 1) (n := (((rs.map V.ref).length : Int) - 1).toNat) (fun i H2 => Same H1 H2 ∧ H2 D = some (nLst ((List.range i).map fun (i : Nat) => 2 ^ (i + 1) ||| commonM ls (besideM n es ((i : Int) + 1))))) ?_ ?_ ?_
     · exact ⟨same_upd (Same.refl _) nD, upd_same⟩
     · rintro i H2 hi ⟨sm2, hD⟩
       rw [hN] at hi
       obtain ⟨r, hr1, hr2⟩ := h3 (i + 1) (by omega) (by omega)
       refine ⟨rfl, _, rfl, _, _, rfl, rfl, ⟨by omega, by omega, by decide⟩, ?_⟩
       refine ⟨_, rfl, _, rfl, _, rfl, Or.inl ⟨a, _, 1 + (i : Int), .ref r, rfl, rfl, SqL.of (sm2 _ _ h1), at_of (j := i + 1) (by omega) (by rw [List.getElem?_map, hr1]; rfl), ?_⟩⟩
       refine call_common (sm2 _ _ hs1) hl (sm2 _ _ hr2) (beside_ne hSe (by omega) (by omega)) (fun p hp => besideM_rng hp) ?_
       refine ⟨_, _, rfl, rfl, ?_⟩
       refine ⟨_, hD, ?_, same_upd sm2 nD, ?_⟩
       · rw [List.length_map, List.length_map, List.length_range]
         exact Nat.lt_of_lt_of_le (m := 20) (by omega) (by decide)
       · rw [upd_same, List.range_succ]
         unfold nLst
         rw [List.map_append, List.map_append]
         show some (HO.lst (_ ++ [V.int (Builtin.bitOr (1 * 2 ^ ((1 : Int) + (i : Int)).toNat) ((commonM ls (besideM n es ((i + 1 : Nat) : Int)) : Nat) : Int))])) = _
         rw [pow_int, bOr]
         rfl
     · rintro H2 ⟨sm2, hD⟩
       rw [hN] at hD
       refine Or.inr ⟨c, D, _, _, rfl, rfl, sm2 _ _ hc, hD, ?_, fun p np => ?_⟩
       · rw [List.length_map, List.length_map, List.length_range]
         exact Nat.le_trans (m := 20) (by show 1 + n ≤ 20; omega) (by decide)
       · refine fin p _ (smc.trans (sm2.trans (same_upd (Same.refl _) np))) (smc.free (sm2.free np)) ?_
         rw [upd_same]
         rfl
/-! ### _one_turn_ahead -/
@[irreducible] def spAhead : Sp := fun vs H Q _ => ∃ (r q : Addr) (n : Nat) (es : List Edge) (ls : List Nat), vs = [.ref r, .ref q] ∧ n ≤ 12 ∧ Simp n es ∧ H r = some (nLst (nearB n es)) ∧ H q = some (nLst ls) ∧ ls.length = n + 1 ∧ (∀ l ∈ ls, ∀ k : Nat, l.testBit k = true → 1 ≤ k ∧ k ≤ n) ∧ ∀ p H', Same H H' → H p = none → H' p = some (nLst (aheadM n es ls)) → Q (.ref p) H'
theorem call_ahead {r q : Addr} {n : Nat} {es : List Edge} {ls : List Nat} {H : Hp} {Q : VK} {E : XK} (hn : n ≤ 12) (hS : Simp n es) (hr : H r = some (nLst (nearB n es))) (hq : H q = some (nLst ls)) (hl : ls.length = n + 1) (hb : ∀ l ∈ ls, ∀ k : Nat, l.testBit k = true → 1 ≤ k ∧ k ≤ n)
    (fin : ∀ p H', Same H H' → H p = none → H' p = some (nLst (aheadM n es ls)) → Q (.ref p) H') : spAhead [.ref r, .ref q] H Q E := by
  unfold spAhead
  exact ⟨r, q, n, es, ls, rfl, hn, hS, hr, hq, hl, hb, fin⟩
theorem lot_of_bits {n l : Nat} (hb : ∀ k : Nat, l.testBit k = true → 1 ≤ k ∧ k ≤ n) : LotIs l ((allM n).filter fun x => l.testBit x.toNat) := fun k => by
  rw [Bool.eq_iff_iff, decide_eq_true_eq, List.mem_filter, allM_mem]
  constructor
  · intro h
    have := hb k h
    exact ⟨by omega, h⟩
  · rintro ⟨_, h⟩
    exact h
set_option maxHeartbeats 4000000 in
theorem ok_ahead {f : Addr} {fd : FuncData} (F : Fun K "_one_turn_ahead" "_one_turn_ahead" s_one_turn_ahead f fd) (C : Cal P w K mg base "members" 1 ["lot"] spMembers) :
    FnOk P w K mg base CX0 2 f fd ["near", "traps"] spAhead := by
  refine F.ok sc_one_turn_ahead (fun vs H Q E h => ?_) (fun cdv A outer s H vs Q E hr h => ?_)
  · unfold spAhead at h
    obtain ⟨r, q, n, es, ls, rfl, _⟩ := h
    rfl
  · have nd := sc_one_turn_ahead.nd
    have hS := sc_one_turn_ahead
    have hKM : KMark K := ⟨⟩
    refine' mk_body ?body ?rd
    case body =>
      show PSs _ [_, _, _] _
      wtm_at "fo ss"
    case rd =>
     unfold spAhead at h
     obtain ⟨r, q, n, es, ls, rfl, hn, hSe, hr0, hq, hl, hb, fin⟩ := h
     refine ⟨(Nat.le_of_ble_eq_true rfl : _ ≤ sizeLine), fun D nD => ?_⟩
     have smD : Same H (upd H D (.lst [])) := same_upd (Same.refl _) nD
     have hD0 : (upd H D (.lst [])) D = some (nLst []) := upd_same
     generalize upd H D (.lst []) = H1 at *
     refine ⟨_, rfl, q, rfl, ⟨_, SqL.of (smD _ _ hq)⟩, ?_⟩
     refine for_list (K := K) (xs := ls.map fun (v : Nat) => V.int v) (fun i σ H3 => ∃ (y3 y4 y5 : Option V), σ = [some (.ref r), some (.ref q), some (.ref D), y3, y4, y5] ∧ Same H H3 ∧ H3 D = some (nLst ((ls.take i).map fun lot => besideL n es (membersM lot)))) ?_ ?_ ?_ ?_
     · exact ⟨none, none, none, rfl, smD, hD0⟩
     · rintro i σ H3 _ ⟨y3, y4, y5, rfl, sm3, _⟩
       exact SqL.of (sm3 _ _ hq)
     · rintro i x σ H3 hx ⟨y3, y4, y5, rfl, sm3, hD3⟩
       rw [List.getElem?_map] at hx
       cases hli : ls[i]? with
       | none => rw [hli] at hx; cases hx
       | some lot =>
       rw [hli] at hx
       cases hx
       have hil : i < ls.length := (List.getElem?_eq_some_iff.mp hli).1
       have hlb := hb lot (List.mem_of_getElem? hli)
       have htk : ls.take (i + 1) = ls.take i ++ [lot] := by rw [List.take_add_one, hli]; rfl
       have hlot := lot_of_bits hlb
       have hv13 : lot < 2 ^ 20 := Nat.lt_of_lt_of_le (lot_small hlot fun x hx => (allM_mem.mp (List.mem_filter.mp hx).1).2) (Nat.pow_le_pow_right (by decide) (by omega))
       have hmr : ∀ x ∈ membersM lot, 1 ≤ x ∧ x ≤ n := fun x hx => by
         rw [membersM_mem] at hx
         have := hlb _ hx.2
         omega
       refine ⟨_, rfl, ?_⟩
       refine call_members hv13 (fun p6 H6 sm6 np6 hp6 => ?_)
       refine ⟨p6, rfl, ⟨_, SqL.of hp6⟩, ?_⟩
       refine for_list (K := K) (xs := (membersM lot).map V.int) (fun j σ H7 => ∃ (y5 : Option V), σ = [some (.ref r), some (.ref q), some (.ref D), some (.int (lot : Nat)), some (.int (((membersM lot).take j).foldl (fun b p => b ||| (nearB n es).getD p.toNat 0) 0 : Nat)), y5] ∧ H7 = H6) ?_ ?_ ?_ ?_
       · exact ⟨y5, rfl, rfl⟩
       · rintro j σ H7 _ ⟨y5, rfl, rfl⟩
         exact SqL.of hp6
       · rintro j x σ H7 hx2 ⟨y5, rfl, rfl⟩
         obtain ⟨z, hz, rfl⟩ := int_at hx2
         have hzr := hmr z (List.mem_of_getElem? hz)
         have hmk : (membersM lot).take (j + 1) = (membersM lot).take j ++ [z] := by rw [List.take_add_one, hz]; rfl
         have hg : ((nearB n es).map fun (v : Nat) => V.int v)[z.toNat]? = some (.int ((nearB n es).getD z.toNat 0 : Nat)) := by
           rw [List.getElem?_map, List.getD_eq_getElem?_getD, List.getElem?_eq_getElem (by rw [nearB_length]; omega)]
           rfl
         refine ⟨_, rfl, _, rfl, _, rfl, Or.inl ⟨r, _, z, .int ((nearB n es).getD z.toNat 0 : Nat), rfl, rfl, SqL.of (sm6 _ _ (sm3 _ _ hr0)), at_of (j := z.toNat) (by omega) hg, _, _, rfl, rfl, ?_⟩⟩
         refine ⟨some (.int z), ?_, rfl⟩
         rw [hmk, List.foldl_append]
         generalize ((membersM lot).take j).foldl (fun b p => b ||| (nearB n es).getD p.toNat 0) 0 = u at *
         show [some (V.ref r), some (V.ref q), some (V.ref D), some (V.int (lot : Nat)), some (V.int (Builtin.bitOr (u : Int) (((nearB n es).getD z.toNat 0 : Nat) : Int))), some (V.int z)] = _
         rw [bOr]
         rfl
       · rintro σ H7 ⟨y5, rfl, rfl⟩
         rw [List.length_map, List.take_length]
         have hD6 := sm6 _ _ hD3
         refine ⟨_, rfl, .inl ⟨rfl, _, SqL.of hD6⟩, ?_⟩
         refine ⟨_, rfl, D, _, _, rfl, rfl, hD6, ?_, ?_⟩
         · rw [List.length_map, List.length_map, List.length_take]
           exact Nat.lt_of_lt_of_le (m := 20) (by omega) (by decide)
         · refine ⟨_, _, _, rfl, same_upd (sm3.trans sm6) nD, ?_⟩
           rw [upd_same, htk, List.map_append]
           unfold nLst
           rw [List.map_append]
           rfl
     · rintro σ H3 ⟨y3, y4, y5, rfl, sm3, hD3⟩
       rw [List.length_map, List.take_length] at hD3
       exact ⟨_, rfl, fin D H3 sm3 nD hD3⟩
end
/-! piece PQc -/
section
local macro_rules | `(tactic| wtm_at "fo s") => `(tactic| ((with_reducible show PS _ (.AugAssign (.Name _ _) .Add _ _) _); refine' ps_aug (i := 5) (by assumption) rfl (by first | exact Or.inl rfl | exact Or.inr rfl) ?ka ip_add; (case ka => wtm_at "fo e")))
variable {P : Program} {w : World} {K : PySem.W.Frag} {mg : Str → Option Value} {base : Heap}
/-! ### _best_going -/
@[irreducible] def spGoing : Sp := fun vs H Q _ => ∃ (r : Addr) (n : Nat) (es : List Edge) (h t : Int), vs = [.ref r, .int h, .int t] ∧ 1 ≤ n ∧ n ≤ 12 ∧ Simp n es ∧ H r = some (nLst (nearB n es)) ∧ (1 ≤ h ∧ h ≤ n) ∧ (1 ≤ t ∧ t ≤ n) ∧
  (∀ p H', h = t → Same H H' → H p = none → H' p = some (.tup [.int 0, .non]) → Q (.ref p) H') ∧
  (∀ p k g l H', h ≠ t → (∀ j, j ≤ k → wB n es j h t = false) → goalsM n es k h t = g :: l → Same H H' → H p = none → H' p = some (.tup [.int ((k + 1 : Nat) : Int), .int g]) → Q (.ref p) H') ∧
  ∀ p H', h ≠ t → (∀ j, wB n es j h t = false) → Same H H' → H p = none → H' p = some (.tup [.non, .non]) → Q (.ref p) H'
theorem call_going {r : Addr} {n : Nat} {es : List Edge} {h t : Int} {H : Hp} {Q : VK} {E : XK} (b1 : 1 ≤ n) (hn : n ≤ 12) (hS : Simp n es) (hr : H r = some (nLst (nearB n es))) (hh : 1 ≤ h ∧ h ≤ n) (ht : 1 ≤ t ∧ t ≤ n)
    (f0 : ∀ p H', h = t → Same H H' → H p = none → H' p = some (.tup [.int 0, .non]) → Q (.ref p) H')
    (f1 : ∀ p k g l H', h ≠ t → (∀ j, j ≤ k → wB n es j h t = false) → goalsM n es k h t = g :: l → Same H H' → H p = none → H' p = some (.tup [.int ((k + 1 : Nat) : Int), .int g]) → Q (.ref p) H')
    (f2 : ∀ p H', h ≠ t → (∀ j, wB n es j h t = false) → Same H H' → H p = none → H' p = some (.tup [.non, .non]) → Q (.ref p) H') : spGoing [.ref r, .int h, .int t] H Q E := by
  unfold spGoing
  exact ⟨r, n, es, h, t, rfl, b1, hn, hS, hr, hh, ht, f0, f1, f2⟩
/-- the list of what may be answered, made of the lots -/
theorem ans_of {H : Hp} {D : Addr} {rs : List Addr} {n : Nat} {es : List Edge} (hS : Simp n es) (h : RwAt H D rs ((nearB n es).map membersM)) : AnsAt H D n es := by
  refine ⟨rs, h.hD, by rw [h.len, List.length_map, nearB_length], fun p h1 h2 => ?_⟩
  have hp : p < rs.length := by rw [h.len, List.length_map, nearB_length]; omega
  refine ⟨rs[p], List.getElem?_eq_getElem hp, ?_⟩
  have hm : ((nearB n es).map membersM)[p]? = some (besideM n es (p : Int)) := by
    rw [nearB_members hS, show p = (p - 1) + 1 by omega, List.getElem?_cons_succ, List.getElem?_map, List.getElem?_range (by omega)]
    rfl
  exact h.at_ p _ _ (List.getElem?_eq_getElem hp) hm
set_option maxHeartbeats 8000000 in
theorem ok_going {f : Addr} {fd : FuncData} (F : Fun K "_best_going" "_best_going" s_best_going f fd) (C : Cal P w K mg base "members" 1 ["lot"] spMembers) (C2 : Cal P w K mg base "_same_places" 1 ["near"] spSameP)
    (C3 : Cal P w K mg base "_traps" 2 ["answers", "sure"] spTraps) (C4 : Cal P w K mg base "_one_turn_ahead" 2 ["near", "traps"] spAhead) :
    FnOk P w K mg base CX0 3 f fd ["near", "seeker", "fleer"] spGoing := by
  refine F.ok sc_best_going (fun vs H Q E h => ?_) (fun cdv A outer s H vs Q E hr h => ?_)
  · unfold spGoing at h
    obtain ⟨r, n, es, h, t, rfl, _⟩ := h
    rfl
  · have nd := sc_best_going.nd
    have hS := sc_best_going
    have hKM : KMark K := ⟨⟩
    refine' mk_body ?body ?rd
    case body =>
      show PSs _ [_, _, _, _, _, _, _] _
      wtm_at "fo ss"
    case rd =>
     unfold spGoing at h
     obtain ⟨r, n, es, h, t, rfl, b1, hn, hSe, hr0, hh, ht, f0, f1, f2⟩ := h
     refine ⟨_, rfl, _, rfl, Or.inl ⟨rfl, _, rfl, ?_⟩⟩
     by_cases hht : h = t
     · refine ifT (by rw [hht]; simp) ?_
       refine ⟨(Nat.le_of_ble_eq_true rfl : _ ≤ sizeLine), fun p np => ?_⟩
       exact f0 p _ hht (same_upd (Same.refl _) np) np upd_same
     refine ifF (decide_eq_false fun e => hht (V.int.inj e)) ?_
     refine ⟨_, rfl, r, rfl, ⟨_, SqL.of hr0⟩, fun A0 nA0 => ?_⟩
     refine lc_list (K := K) (xs := (nearB n es).map fun (v : Nat) => V.int v) (fun i G => Same H G ∧ ∃ rs, RwAt G A0 rs (((nearB n es).take i).map membersM) ∧ A0 ∉ rs) ?_ ?_ ?_ ?_
     · exact ⟨same_upd (Same.refl _) nA0, [], RwAt.nil upd_same, by simp⟩
     · rintro i G _ ⟨smG, _⟩
       exact SqL.of (smG _ _ hr0)
     · rintro i x G hx ⟨smG, rs, hRw, hA⟩
       rw [List.getElem?_map] at hx
       cases hli : (nearB n es)[i]? with
       | none => rw [hli] at hx; cases hx
       | some v =>
       rw [hli] at hx
       cases hx
       have hil : i < n + 1 := by
         have := (List.getElem?_eq_some_iff.mp hli).1
         rwa [nearB_length] at this
       have htk : (nearB n es).take (i + 1) = (nearB n es).take i ++ [v] := by rw [List.take_add_one, hli]; rfl
       refine ⟨rfl, _, rfl, ?_⟩
       refine call_members (Nat.lt_of_lt_of_le (nearB_small hSe hli) (Nat.pow_le_pow_right (by decide) (by omega))) (fun p6 H6 sm6 np6 hp6 => ?_)
       have hRw6 := hRw.same sm6
       have hne : p6 ≠ A0 := (ne_of_none hRw.hD np6).symm
       refine ⟨_, hRw6.hD, ?_, same_upd (smG.trans sm6) nA0, rs ++ [p6], ?_, ?_⟩
       · rw [List.length_map, hRw6.len, List.length_map, List.length_take]
         exact Nat.lt_of_lt_of_le (m := 20) (by omega) (by decide)
       · rw [htk, List.map_append]
         exact hRw6.push hp6 hne hA
       · intro hm
         rcases List.mem_append.mp hm with hm | hm
         · exact hA hm
         · exact hne (List.mem_singleton.mp hm).symm
     rintro G1 ⟨smG1, rsA, hRwA, _⟩
     rw [List.length_map, List.take_length] at hRwA
     have hAns := ans_of hSe hRwA
     clear hRwA
     refine ⟨(Nat.le_of_ble_eq_true rfl : _ ≤ sizeLine), fun b0 nb0 => ?_⟩
     have smb : Same G1 (upd G1 b0 (.lst [])) := same_upd (Same.refl _) nb0
     have hb0 : (upd G1 b0 (.lst [])) b0 = some (nLst []) := upd_same
     generalize upd G1 b0 (.lst []) = G2 at *
     refine ⟨_, rfl, ?_⟩
     refine call_samep (n := n) (smb _ _ (smG1 _ _ hr0)) (by rw [List.length_map, nearB_length]) hn (fun s0 G3 sm3 ns0 hs0 => ?_)
     have s13 := smb.trans sm3
     have sH3 := smG1.trans s13
     let W : Nat → Sl → Hp → Prop := fun m σ G => ∃ (k : Nat) (b s : Addr) (bl : List Nat) (y8 y9 : Option V), σ = [some (.ref r), some (.int h), some (.int t), some (.ref A0), none, some (.int k), some (.ref b), some (.ref s), y8, y9] ∧ m = n * n + 2 - k ∧ Same H G ∧ AnsAt G A0 n es ∧ G b = some (nLst bl) ∧ G s = some (nLst (sureM n es k)) ∧
       ((k = 0 ∧ bl = []) ∨ ∃ j, k = j + 1 ∧ bl = sureM n es j) ∧ (∀ j, j ≤ k → wB n es j h t = false) ∧ ∀ j, j + 1 < k → ¬ Still n es j
     refine ⟨W, ⟨_, 0, b0, s0, [], none, none, rfl, rfl, sH3, hAns.same s13, sm3 _ _ hb0, hs0, .inl ⟨rfl, rfl⟩, fun j hj => ?_, fun j hj => absurd hj (Nat.not_lt_zero _)⟩, fun m σ G hW => ?_⟩
     · obtain rfl : j = 0 := by omega
       exact decide_eq_false hht
     obtain ⟨k, b, s, bl, y8, y9, rfl, rfl, smG, hA, hb, hs, hbk, hno, hst⟩ := hW
     have cst : ∀ l : List Nat, nLst l = .lst ((l.map fun (v : Nat) => (v : Int)).map V.int) := fun l => by unfold nLst; rw [List.map_map]; rfl
     have hb' := hb
     have hs' := hs
     rw [cst] at hb' hs'
     refine ⟨_, rfl, _, rfl, Or.inr ⟨_, _, dp_dI' (SqL.of hs'), dp_dI' (SqL.of hb'), shaped_ints _, shaped_ints _, _, rfl, ?_⟩⟩
     rw [eqv_ints_dec]
     by_cases he : (sureM n es k).map (fun (v : Nat) => (v : Int)) = bl.map fun (v : Nat) => (v : Int)
     · refine ifF (by rw [decide_eq_true he]; rfl) ?_
       have he' : sureM n es k = bl := (List.map_inj_right fun _ _ e => Int.ofNat.inj e).mp he
       refine ⟨(Nat.le_of_ble_eq_true rfl : _ ≤ sizeLine), fun p np => ?_⟩
       rcases hbk with ⟨rfl, rfl⟩ | ⟨j, rfl, rfl⟩
       · have := congrArg List.length he'
         rw [sure_len] at this
         simp at this
       · have hsj := (sure_eq hSe).mp he'
         refine f2 p _ hht (fun i => ?_) (smG.trans (same_upd (Same.refl _) np)) (smG.free np) upd_same
         by_cases hij : i ≤ j
         · exact hno i (by omega)
         · rw [hsj.eq (by omega) hh.1 hh.2 ht.1 ht.2]
           exact hno j (by omega)
     refine ifT (by rw [decide_eq_false he]; rfl) ?_
     have hst2 : ∀ j, j < k → ¬ Still n es j := fun j hj hsj => by
       by_cases hj2 : j + 1 < k
       · exact hst j hj2 hsj
       rcases hbk with ⟨rfl, rfl⟩ | ⟨i, rfl, rfl⟩
       · omega
       · obtain rfl : j = i := by omega
         exact he (by rw [(sure_eq hSe).mpr hsj])
     have hk2 := steps_bound hSe hst2
     refine ⟨fun σ' H' => ∃ m', m' < n * n + 2 - k ∧ W m' σ' H', fun _ _ h => h, ?_⟩
     refine ⟨_, rfl, _, rfl, ?_⟩
     refine call_traps hn hSe hA hs (sure_len n es k) (fun q G4 sm4 nq hq => ?_)
     refine ⟨_, rfl, _, _, rfl, rfl, ?_⟩
     have hT : ((trapsM n es (sureM n es k)).map fun (v : Nat) => V.int v)[t.toNat]? = some (.int ((trapsM n es (sureM n es k)).getD t.toNat 0 : Nat)) := by
       rw [List.getElem?_map, List.getD_eq_getElem?_getD, List.getElem?_eq_getElem (by rw [traps_len]; omega)]
       rfl
     have hnl : h.toNat < (nearB n es).length := by rw [nearB_length]; omega
     have hN0 : (nearB n es)[h.toNat]? = some ((nearB n es).getD h.toNat 0) := by
       rw [List.getD_eq_getElem?_getD, List.getElem?_eq_getElem hnl]
       rfl
     have hN : ((nearB n es).map fun (v : Nat) => V.int v)[h.toNat]? = some (.int ((nearB n es).getD h.toNat 0 : Nat)) := by
       rw [List.getElem?_map, hN0]
       rfl
     refine ⟨_, rfl, _, rfl, Or.inl ⟨q, _, t, .int ((trapsM n es (sureM n es k)).getD t.toNat 0 : Nat), rfl, rfl, SqL.of hq, at_of (j := t.toNat) (by omega) hT, ?_⟩⟩
     refine ⟨_, rfl, _, rfl, Or.inl ⟨r, _, h, .int ((nearB n es).getD h.toNat 0 : Nat), rfl, rfl, SqL.of (sm4 _ _ (smG _ _ hr0)), at_of (j := h.toNat) (by omega) hN, _, _, rfl, rfl, ?_⟩⟩
     have hmm : ∀ Q E, spMembers [.int (((trapsM n es (sureM n es k)).getD t.toNat 0 &&& (nearB n es).getD h.toNat 0 : Nat) : Int)] G4 Q E → spMembers [.int (Builtin.bitAnd (((trapsM n es (sureM n es k)).getD t.toNat 0 : Nat) : Int) (((nearB n es).getD h.toNat 0 : Nat) : Int))] G4 Q E := fun _ _ hx => by rw [bAnd]; exact hx
     refine hmm _ _ ?_
     refine call_members (Nat.lt_of_le_of_lt Nat.and_le_right (Nat.lt_of_lt_of_le (nearB_small hSe hN0) (Nat.pow_le_pow_right (by decide) (by omega)))) (fun p6 H6 sm6 np6 hp6 => ?_)
     rw [goals_members hSe hh.1 hh.2 ht.1 ht.2] at hp6
     have smG6 : Same G H6 := sm4.trans sm6
     have sH6 := smG.trans smG6
     refine ⟨_, rfl, _, .inl ⟨_, SqL.of hp6, rfl⟩, ?_⟩
     cases hg : goalsM n es k h t with
     | cons g l =>
       rw [hg] at hp6
       refine ifT rfl ?_
       refine ⟨_, rfl, _, rfl, Or.inl ⟨p6, _, 0, .int g, rfl, rfl, SqL.of hp6, at_of (j := 0) rfl rfl, (Nat.le_of_ble_eq_true rfl : _ ≤ sizeLine), fun p np => ?_⟩⟩
       exact f1 p k g l _ hht hno hg (sH6.trans (same_upd (Same.refl _) np)) (sH6.free np) upd_same
     | nil =>
       refine ifF rfl ?_
       refine ⟨_, rfl, _, rfl, _, rfl, ?_⟩
       refine call_ahead hn hSe (sH6 _ _ hr0) (sm6 _ _ hq) (traps_len n es _) (traps_bits hSe k) (fun q7 H7 sm7 nq7 hq7 => ?_)
       refine ⟨n * n + 2 - (k + 1), by omega, k + 1, s, q7, sureM n es k, _, _, rfl, rfl, sH6.trans sm7, hA.same (smG6.trans sm7), sm7 _ _ (smG6 _ _ hs), hq7, .inr ⟨k, rfl, rfl⟩, fun j hj => ?_, fun j hj => hst2 j (by omega)⟩
       by_cases hjk : j ≤ k
       · exact hno j hjk
       obtain rfl : j = k + 1 := by omega
       exact goals_none.mp hg
end
/-! piece PQd -/
section
local macro_rules | `(tactic| wtm_at "fo gn") => `(tactic| first
  | exact pg_name (i := 4) (by assumption) rfl (by first | exact Or.inl rfl | exact Or.inr rfl)
  | exact pg_name (i := 5) (by assumption) rfl (by first | exact Or.inl rfl | exact Or.inr rfl)
  | fail "no")
def oV : Option Int → V
  | some i => .int i
  | none => .non
/-- the fewest turns -/
def rkM (n : Nat) (es : List Edge) (h t : Int) : Option Nat := (List.range (n * n + 1)).find? fun k => wB n es k h t
theorem rk_some {n : Nat} {es : List Edge} {h t : Int} {k : Nat} : rkM n es h t = some k ↔ wB n es k h t = true ∧ k ≤ n * n ∧ ∀ j, j < k → wB n es j h t = false := by
  unfold rkM
  rw [List.find?_range_eq_some, List.mem_range]
  constructor
  · rintro ⟨a, b, c⟩
    exact ⟨a, by omega, fun j hj => by have := c j hj; revert this; cases wB n es j h t <;> simp⟩
  · rintro ⟨a, b, c⟩
    exact ⟨a, by omega, fun j hj => by rw [c j hj]; rfl⟩
theorem rk_none {n : Nat} {es : List Edge} (hS : Simp n es) {h t : Int} (hh : 1 ≤ h ∧ h ≤ n) (ht : 1 ≤ t ∧ t ≤ n) : rkM n es h t = none ↔ ∀ j, wB n es j h t = false := by
  unfold rkM
  rw [List.find?_range_eq_none]
  constructor
  · intro a j
    have b : ∀ j, j ≤ n * n → wB n es j h t = false := fun j hj => by have := a j (by omega); revert this; cases wB n es j h t <;> simp
    by_cases hj : j ≤ n * n
    · exact b j hj
    · rw [(still_last hS).eq (by omega) hh.1 hh.2 ht.1 ht.2]
      exact b _ (Nat.le_refl _)
  · intro a j _
    rw [a]
    rfl
theorem rk_next {n : Nat} {es : List Edge} (hS : Simp n es) {h t : Int} (hh : 1 ≤ h ∧ h ≤ n) (ht : 1 ≤ t ∧ t ≤ n) {k : Nat} {g : Int} {l : List Int} (hno : ∀ j, j ≤ k → wB n es j h t = false) (hg : goalsM n es k h t = g :: l) : rkM n es h t = some (k + 1) := by
  have hw : wB n es (k + 1) h t = true := by
    cases hw : wB n es (k + 1) h t
    · rw [goals_none.mpr hw] at hg
      cases hg
    · rfl
  refine rk_some.mpr ⟨hw, ?_, fun j hj => hno j (by omega)⟩
  refine Nat.le_of_not_lt fun hk => ?_
  rw [(still_last hS).eq (by omega) hh.1 hh.2 ht.1 ht.2, ← (still_last hS).eq (j := k) (by omega) hh.1 hh.2 ht.1 ht.2, hno k (Nat.le_refl _)] at hw
  cases hw
theorem rk_zero (n : Nat) (es : List Edge) (h : Int) : rkM n es h h = some 0 := rk_some.mpr ⟨decide_eq_true rfl, Nat.zero_le _, fun j hj => absurd hj (Nat.not_lt_zero _)⟩
/-- where it goes -/
def goM (n : Nat) (es : List Edge) (h t : Int) : Option Int := match rkM n es h t with
  | some (k + 1) => (goalsM n es k h t).head?
  | _ => none
def rkV (n : Nat) (es : List Edge) (h t : Int) : V := oV ((rkM n es h t).map fun (k : Nat) => (k : Int))
def goV (n : Nat) (es : List Edge) (h t : Int) : V := oV (goM n es h t)
variable {P : Program} {w : World} {K : PySem.W.Frag} {mg : Str → Option Value} {base : Heap}
/-! ### turns_to_catch, seeker_goes -/
@[irreducible] def spTurns : Sp := fun vs H Q _ => ∃ (q : Addr) (n : Nat) (h t : Int) (es : List Edge), vs = [.int n, .ref q, .int h, .int t] ∧ 1 ≤ n ∧ n ≤ 12 ∧ Pairs H q es ∧ Simp n es ∧ es.length ≤ 200 ∧ (1 ≤ h ∧ h ≤ n) ∧ (1 ≤ t ∧ t ≤ n) ∧
  ∀ H', Same H H' → Q (rkV n es h t) H'
theorem call_turns {q : Addr} {n : Nat} {h t : Int} {es : List Edge} {H : Hp} {Q : VK} {E : XK} (b1 : 1 ≤ n) (b2 : n ≤ 12) (b3 : Pairs H q es) (b4 : Simp n es) (b5 : es.length ≤ 200) (hh : 1 ≤ h ∧ h ≤ n) (ht : 1 ≤ t ∧ t ≤ n)
    (fin : ∀ H', Same H H' → Q (rkV n es h t) H') : spTurns [.int n, .ref q, .int h, .int t] H Q E := by
  unfold spTurns
  exact ⟨q, n, h, t, es, rfl, b1, b2, b3, b4, b5, hh, ht, fin⟩
@[irreducible] def spGoes : Sp := fun vs H Q _ => ∃ (q : Addr) (n : Nat) (h t : Int) (es : List Edge), vs = [.int n, .ref q, .int h, .int t] ∧ 1 ≤ n ∧ n ≤ 12 ∧ Pairs H q es ∧ Simp n es ∧ es.length ≤ 200 ∧ (1 ≤ h ∧ h ≤ n) ∧ (1 ≤ t ∧ t ≤ n) ∧
  ∀ H', Same H H' → Q (goV n es h t) H'
theorem call_goes {q : Addr} {n : Nat} {h t : Int} {es : List Edge} {H : Hp} {Q : VK} {E : XK} (b1 : 1 ≤ n) (b2 : n ≤ 12) (b3 : Pairs H q es) (b4 : Simp n es) (b5 : es.length ≤ 200) (hh : 1 ≤ h ∧ h ≤ n) (ht : 1 ≤ t ∧ t ≤ n)
    (fin : ∀ H', Same H H' → Q (goV n es h t) H') : spGoes [.int n, .ref q, .int h, .int t] H Q E := by
  unfold spGoes
  exact ⟨q, n, h, t, es, rfl, b1, b2, b3, b4, b5, hh, ht, fin⟩
set_option maxHeartbeats 4000000 in
theorem ok_turns {f : Addr} {fd : FuncData} (F : Fun K "turns_to_catch" "turns_to_catch" s_turns_to_catch f fd) (C : Cal P w K mg base "_read_both" 3 ["places", "lines", "seeker", "fleer"] spBoth) (C2 : Cal P w K mg base "_best_going" 3 ["near", "seeker", "fleer"] spGoing) :
    FnOk P w K mg base CX0 4 f fd ["places", "lines", "seeker", "fleer"] spTurns := by
  refine F.ok sc_turns_to_catch (fun vs H Q E h => ?_) (fun cdv A outer s H vs Q E hr h => ?_)
  · unfold spTurns at h
    obtain ⟨q, n, h, t, es, rfl, _⟩ := h
    rfl
  · have nd := sc_turns_to_catch.nd
    have hS := sc_turns_to_catch
    have hKM : KMark K := ⟨⟩
    refine' mk_body ?body ?rd
    case body =>
      show PSs _ [_, _] _
      wtm_at "fo ss"
    case rd =>
     unfold spTurns at h
     obtain ⟨q, n, h, t, es, rfl, b1, b2, b3, b4, b5, hh, ht, fin⟩ := h
     wtm_at "fo r"
     refine call_both b1 b2 b3 b4 b5 hh ht (fun r H1 sm1 nr hr => ?_)
     wtm_at "fo r"
     refine call_going b1 b2 b4 hr hh ht ?_ ?_ ?_
     · intro p H2 e sm2 np hp
       refine Or.inl ⟨p, _, rfl, SqT.of hp, rfl, _, _, rfl, _, _, rfl, rfl, _, rfl, ?_⟩
       have := fin H2 (sm1.trans sm2)
       subst e
       unfold rkV at this
       rw [rk_zero] at this
       exact this
     · intro p k g l H2 e hno hg sm2 np hp
       refine Or.inl ⟨p, _, rfl, SqT.of hp, rfl, _, _, rfl, _, _, rfl, rfl, _, rfl, ?_⟩
       have := fin H2 (sm1.trans sm2)
       unfold rkV at this
       rw [rk_next b4 hh ht hno hg] at this
       exact this
     · intro p H2 e hno sm2 np hp
       refine Or.inl ⟨p, _, rfl, SqT.of hp, rfl, _, _, rfl, _, _, rfl, rfl, _, rfl, ?_⟩
       have := fin H2 (sm1.trans sm2)
       unfold rkV at this
       rw [(rk_none b4 hh ht).mpr hno] at this
       exact this
set_option maxHeartbeats 4000000 in
theorem ok_goes {f : Addr} {fd : FuncData} (F : Fun K "seeker_goes" "seeker_goes" s_seeker_goes f fd) (C : Cal P w K mg base "_read_both" 3 ["places", "lines", "seeker", "fleer"] spBoth) (C2 : Cal P w K mg base "_best_going" 3 ["near", "seeker", "fleer"] spGoing) :
    FnOk P w K mg base CX0 4 f fd ["places", "lines", "seeker", "fleer"] spGoes := by
  refine F.ok sc_seeker_goes (fun vs H Q E h => ?_) (fun cdv A outer s H vs Q E hr h => ?_)
  · unfold spGoes at h
    obtain ⟨q, n, h, t, es, rfl, _⟩ := h
    rfl
  · have nd := sc_seeker_goes.nd
    have hS := sc_seeker_goes
    have hKM : KMark K := ⟨⟩
    refine' mk_body ?body ?rd
    case body =>
      show PSs _ [_, _] _
      wtm_at "fo ss"
    case rd =>
     unfold spGoes at h
     obtain ⟨q, n, h, t, es, rfl, b1, b2, b3, b4, b5, hh, ht, fin⟩ := h
     wtm_at "fo r"
     refine call_both b1 b2 b3 b4 b5 hh ht (fun r H1 sm1 nr hr => ?_)
     wtm_at "fo r"
     refine call_going b1 b2 b4 hr hh ht ?_ ?_ ?_
     · intro p H2 e sm2 np hp
       refine Or.inl ⟨p, _, rfl, SqT.of hp, rfl, _, _, rfl, _, _, rfl, rfl, _, rfl, ?_⟩
       have := fin H2 (sm1.trans sm2)
       subst e
       unfold goV goM at this
       rw [rk_zero] at this
       exact this
     · intro p k g l H2 e hno hg sm2 np hp
       refine Or.inl ⟨p, _, rfl, SqT.of hp, rfl, _, _, rfl, _, _, rfl, rfl, _, rfl, ?_⟩
       have := fin H2 (sm1.trans sm2)
       unfold goV goM at this
       rw [rk_next b4 hh ht hno hg] at this
       dsimp only at this
       rw [hg] at this
       exact this
     · intro p H2 e hno sm2 np hp
       refine Or.inl ⟨p, _, rfl, SqT.of hp, rfl, _, _, rfl, _, _, rfl, rfl, _, rfl, ?_⟩
       have := fin H2 (sm1.trans sm2)
       unfold goV goM at this
       rw [(rk_none b4 hh ht).mpr hno] at this
       exact this
end
/-! piece PQe -/
section
local macro_rules | `(tactic| wtm_at "fo s") => `(tactic| ((with_reducible show PS _ (.AugAssign (.Name _ _) .Add _ _) _); refine' ps_aug (i := 5) (by assumption) rfl (by first | exact Or.inl rfl | exact Or.inr rfl) ?ka ip_add; (case ka => wtm_at "fo e")))
local macro_rules | `(tactic| wtm_at "fo gn") => `(tactic| first
  | exact pg_name (i := 4) (by assumption) rfl (by first | exact Or.inl rfl | exact Or.inr rfl)
  | exact pg_name (i := 5) (by assumption) rfl (by first | exact Or.inl rfl | exact Or.inr rfl)
  | fail "no")
/-- the starts from which all are caught within so many turns -/
def bestM (n : Nat) (es : List Edge) (k : Nat) : List Int := (allM n).filter fun h => (allM n).all fun t => wB n es k h t
theorem best_mem {n : Nat} {es : List Edge} {k : Nat} {h : Int} : h ∈ bestM n es k ↔ (1 ≤ h ∧ h ≤ n) ∧ ∀ t : Int, 1 ≤ t → t ≤ n → wB n es k h t = true := by
  unfold bestM
  rw [List.mem_filter, allM_mem, List.all_eq_true]
  exact ⟨fun a => ⟨a.1, fun t t1 t2 => a.2 t (allM_mem.mpr ⟨t1, t2⟩)⟩, fun a => ⟨a.1, fun t ht => a.2 t (allM_mem.mp ht).1 (allM_mem.mp ht).2⟩⟩
theorem best_is {n : Nat} {es : List Edge} (b1 : 1 ≤ n) (hS : Simp n es) (k : Nat) : LotIs (commonM (sureM n es k) (allM n)) (bestM n es k) := fun j => by
  rw [common_bit _ (fun e => by have := allM_mem.mpr ⟨Int.le_refl 1, (by omega : (1 : Int) ≤ n)⟩; rw [e] at this; cases this), Bool.eq_iff_iff, List.all_eq_true, decide_eq_true_eq, best_mem]
  constructor
  · intro a
    have b : ∀ t : Int, 1 ≤ t → t ≤ n → (j : Int) ∈ (allM n).filter fun h => wB n es k h t := fun t t1 t2 => by
      have := a t (allM_mem.mpr ⟨t1, t2⟩)
      rwa [sure_is hS k t1 t2, decide_eq_true_eq] at this
    exact ⟨allM_mem.mp (List.mem_filter.mp (b 1 (by omega) (by omega))).1, fun t t1 t2 => (List.mem_filter.mp (b t t1 t2)).2⟩
  · rintro ⟨a, b⟩ t ht
    have ht := allM_mem.mp ht
    rw [sure_is hS k ht.1 ht.2, decide_eq_true_eq, List.mem_filter]
    exact ⟨allM_mem.mpr a, b t ht.1 ht.2⟩
theorem best_members {n : Nat} {es : List Edge} (b1 : 1 ≤ n) (hS : Simp n es) (k : Nat) : membersM (commonM (sureM n es k) (allM n)) = bestM n es k :=
  members_lot (best_is b1 hS k) (List.Pairwise.filter _ (allM_lt n)) fun x hx => (allM_mem.mp (List.mem_filter.mp hx).1).1
theorem best_small {n : Nat} {es : List Edge} (b1 : 1 ≤ n) (hn : n ≤ 12) (hS : Simp n es) (k : Nat) : commonM (sureM n es k) (allM n) < 2 ^ 20 :=
  Nat.lt_of_lt_of_le (lot_small (best_is b1 hS k) fun x hx => (best_mem.mp hx).1.2) (Nat.pow_le_pow_right (by decide) (by omega))
theorem best_zero {n : Nat} {es : List Edge} (b1 : 1 ≤ n) (hS : Simp n es) (k : Nat) : commonM (sureM n es k) (allM n) = 0 ↔ bestM n es k = [] := by
  constructor
  · intro e
    rw [← best_members b1 hS k, e]
    rfl
  · intro e
    have h := best_is b1 hS k
    refine Nat.eq_of_testBit_eq fun j => ?_
    rw [h, e]
    simp
def beM (n : Nat) (es : List Edge) : Option Nat := (List.range (n * n + 1)).find? fun k => !(bestM n es k).isEmpty
def beL (n : Nat) (es : List Edge) : List Int := match beM n es with
  | some k => bestM n es k
  | none => []
def beV (n : Nat) (es : List Edge) : V := oV ((beM n es).map fun (k : Nat) => (k : Int))
theorem be_some {n : Nat} {es : List Edge} {k : Nat} : beM n es = some k ↔ bestM n es k ≠ [] ∧ k ≤ n * n ∧ ∀ j, j < k → bestM n es j = [] := by
  unfold beM
  rw [List.find?_range_eq_some, List.mem_range]
  constructor
  · rintro ⟨a, b, c⟩
    exact ⟨fun e => by rw [e] at a; simp at a, by omega, fun j hj => by have := c j hj; simpa using this⟩
  · rintro ⟨a, b, c⟩
    exact ⟨by simpa using a, by omega, fun j hj => by rw [c j hj]; rfl⟩
theorem best_eq {n : Nat} {es : List Edge} {k j : Nat} (s : Still n es k) (hkj : k ≤ j) : bestM n es j = bestM n es k := by
  unfold bestM
  refine List.filter_congr fun h hh => ?_
  have hh := allM_mem.mp hh
  rw [Bool.eq_iff_iff, List.all_eq_true, List.all_eq_true]
  constructor
  · intro a t ht
    rw [← s.eq hkj hh.1 hh.2 (allM_mem.mp ht).1 (allM_mem.mp ht).2]
    exact a t ht
  · intro a t ht
    rw [s.eq hkj hh.1 hh.2 (allM_mem.mp ht).1 (allM_mem.mp ht).2]
    exact a t ht
theorem be_none {n : Nat} {es : List Edge} (hS : Simp n es) : beM n es = none ↔ ∀ j, bestM n es j = [] := by
  unfold beM
  rw [List.find?_range_eq_none]
  constructor
  · intro a j
    have b : ∀ j, j ≤ n * n → bestM n es j = [] := fun j hj => by have := a j (by omega); simpa using this
    by_cases hj : j ≤ n * n
    · exact b j hj
    · rw [best_eq (still_last hS) (by omega)]
      exact b _ (Nat.le_refl _)
  · intro a j _
    rw [a]
    rfl
theorem be_at {n : Nat} {es : List Edge} (hS : Simp n es) {k : Nat} (hno : ∀ j, j < k → bestM n es j = []) (h : bestM n es k ≠ []) : beM n es = some k := by
  refine be_some.mpr ⟨h, ?_, hno⟩
  refine Nat.le_of_not_lt fun hk => h ?_
  rw [best_eq (still_last hS) (by omega)]
  exact hno _ hk
variable {P : Program} {w : World} {K : PySem.W.Frag} {mg : Str → Option Value} {base : Heap}
/-! ### best_starts -/
@[irreducible] def spStarts : Sp := fun vs H Q _ => ∃ (q : Addr) (n : Nat) (es : List Edge), vs = [.int n, .ref q] ∧ 1 ≤ n ∧ n ≤ 12 ∧ Pairs H q es ∧ Simp n es ∧ es.length ≤ 200 ∧
  ∀ p c H', Same H H' → H p = none → H c = none → H' p = some (.tup [.ref c, beV n es]) → H' c = some (iL (beL n es)) → Q (.ref p) H'
theorem call_starts {q : Addr} {n : Nat} {es : List Edge} {H : Hp} {Q : VK} {E : XK} (b1 : 1 ≤ n) (b2 : n ≤ 12) (b3 : Pairs H q es) (b4 : Simp n es) (b5 : es.length ≤ 200)
    (fin : ∀ p c H', Same H H' → H p = none → H c = none → H' p = some (.tup [.ref c, beV n es]) → H' c = some (iL (beL n es)) → Q (.ref p) H') : spStarts [.int n, .ref q] H Q E := by
  unfold spStarts
  exact ⟨q, n, es, rfl, b1, b2, b3, b4, b5, fin⟩
set_option maxHeartbeats 8000000 in
theorem ok_starts {f : Addr} {fd : FuncData} (F : Fun K "best_starts" "best_starts" s_best_starts f fd) (mr : mg "range" = none) (ml : mg "list" = none) (C0 : Cal P w K mg base "read_net" 2 ["places", "lines"] spRead) (C : Cal P w K mg base "members" 1 ["lot"] spMembers) (C2 : Cal P w K mg base "_same_places" 1 ["near"] spSameP)
    (C3 : Cal P w K mg base "_traps" 2 ["answers", "sure"] spTraps) (C4 : Cal P w K mg base "_one_turn_ahead" 2 ["near", "traps"] spAhead) (C5 : Cal P w K mg base "_common" 1 ["lots", "places"] spCommon) :
    FnOk P w K mg base CX0 3 f fd ["places", "lines"] spStarts := by
  refine F.ok sc_best_starts (fun vs H Q E h => ?_) (fun cdv A outer s H vs Q E hr h => ?_)
  · unfold spStarts at h
    obtain ⟨q, n, es, rfl, _⟩ := h
    rfl
  · have nd := sc_best_starts.nd
    have hS := sc_best_starts
    have hKM : KMark K := ⟨⟩
    refine' mk_body ?body ?rd
    case body =>
      show PSs _ [_, _, _, _, _, _, _] _
      wtm_at "fo ss"
    case rd =>
     unfold spStarts at h
     obtain ⟨q, n, es, rfl, b1, hn, hPq, hSe, hlen, fin⟩ := h
     wtm_at "fo r"
     refine call_read b1 hn hPq hSe hlen (fun r H1 sm1 nr hr1 => ?_)
     refine ⟨_, rfl, r, rfl, ⟨_, SqL.of hr1⟩, fun A0 nA0 => ?_⟩
     refine lc_list (K := K) (xs := (nearB n es).map fun (v : Nat) => V.int v) (fun i G => Same H1 G ∧ ∃ rs, RwAt G A0 rs (((nearB n es).take i).map membersM) ∧ A0 ∉ rs) ?_ ?_ ?_ ?_
     · exact ⟨same_upd (Same.refl _) nA0, [], RwAt.nil upd_same, by simp⟩
     · rintro i G _ ⟨smG, _⟩
       exact SqL.of (smG _ _ hr1)
     · rintro i x G hx ⟨smG, rs, hRw, hA⟩
       rw [List.getElem?_map] at hx
       cases hli : (nearB n es)[i]? with
       | none => rw [hli] at hx; cases hx
       | some v =>
       rw [hli] at hx
       cases hx
       have hil : i < n + 1 := by
         have := (List.getElem?_eq_some_iff.mp hli).1
         rwa [nearB_length] at this
       have htk : (nearB n es).take (i + 1) = (nearB n es).take i ++ [v] := by rw [List.take_add_one, hli]; rfl
       refine ⟨rfl, _, rfl, ?_⟩
       refine call_members (Nat.lt_of_lt_of_le (nearB_small hSe hli) (Nat.pow_le_pow_right (by decide) (by omega))) (fun p6 H6 sm6 np6 hp6 => ?_)
       have hRw6 := hRw.same sm6
       have hne : p6 ≠ A0 := (ne_of_none hRw.hD np6).symm
       refine ⟨_, hRw6.hD, ?_, same_upd (smG.trans sm6) nA0, rs ++ [p6], ?_, ?_⟩
       · rw [List.length_map, hRw6.len, List.length_map, List.length_take]
         exact Nat.lt_of_lt_of_le (m := 20) (by omega) (by decide)
       · rw [htk, List.map_append]
         exact hRw6.push hp6 hne hA
       · intro hm
         rcases List.mem_append.mp hm with hm | hm
         · exact hA hm
         · exact hne (List.mem_singleton.mp hm).symm
     rintro G1 ⟨smG1, rsA, hRwA, _⟩
     rw [List.length_map, List.take_length] at hRwA
     have hAns := ans_of hSe hRwA
     clear hRwA
     refine ⟨(Nat.le_of_ble_eq_true rfl : _ ≤ sizeLine), fun b0 nb0 => ?_⟩
     have smb : Same G1 (upd G1 b0 (.lst [])) := same_upd (Same.refl _) nb0
     have hb0 : (upd G1 b0 (.lst [])) b0 = some (nLst []) := upd_same
     generalize upd G1 b0 (.lst []) = G2 at *
     refine ⟨_, rfl, ?_⟩
     refine call_samep (n := n) (smb _ _ (smG1 _ _ hr1)) (by rw [List.length_map, nearB_length]) hn (fun s0 G3 sm3 ns0 hs0 => ?_)
     have s13 := smb.trans sm3
     have s1H3 := smG1.trans s13
     let W : Nat → Sl → Hp → Prop := fun m σ G => ∃ (k : Nat) (b s : Addr) (bl : List Nat) (y8 : Option V), σ = [some (.int n), some (.ref q), some (.ref r), some (.ref A0), none, some (.int k), some (.ref b), some (.ref s), y8] ∧ m = n * n + 2 - k ∧ Same H1 G ∧ AnsAt G A0 n es ∧ G b = some (nLst bl) ∧ G s = some (nLst (sureM n es k)) ∧
       ((k = 0 ∧ bl = []) ∨ ∃ j, k = j + 1 ∧ bl = sureM n es j) ∧ (∀ j, j < k → bestM n es j = []) ∧ ∀ j, j + 1 < k → ¬ Still n es j
     refine ⟨W, ⟨_, 0, b0, s0, [], none, rfl, rfl, s1H3, hAns.same s13, sm3 _ _ hb0, hs0, .inl ⟨rfl, rfl⟩, fun j hj => absurd hj (Nat.not_lt_zero _), fun j hj => absurd hj (Nat.not_lt_zero _)⟩, fun m σ G hW => ?_⟩
     obtain ⟨k, b, s, bl, y8, rfl, rfl, smG, hA, hb, hs, hbk, hno, hst⟩ := hW
     have cst : ∀ l : List Nat, nLst l = .lst ((l.map fun (v : Nat) => (v : Int)).map V.int) := fun l => by unfold nLst; rw [List.map_map]; rfl
     have hb' := hb
     have hs' := hs
     rw [cst] at hb' hs'
     refine ⟨_, rfl, _, rfl, Or.inr ⟨_, _, dp_dI' (SqL.of hs'), dp_dI' (SqL.of hb'), shaped_ints _, shaped_ints _, _, rfl, ?_⟩⟩
     rw [eqv_ints_dec]
     by_cases he : (sureM n es k).map (fun (v : Nat) => (v : Int)) = bl.map fun (v : Nat) => (v : Int)
     · refine ifF (by rw [decide_eq_true he]; rfl) ?_
       have he' : sureM n es k = bl := (List.map_inj_right fun _ _ e => Int.ofNat.inj e).mp he
       rcases hbk with ⟨rfl, rfl⟩ | ⟨j, rfl, rfl⟩
       · have := congrArg List.length he'
         rw [sure_len] at this
         simp at this
       · have hsj := (sure_eq hSe).mp he'
         have hbn : beM n es = none := (be_none hSe).mpr fun i => by
           by_cases hij : i ≤ j
           · exact hno i (by omega)
           · rw [best_eq hsj (by omega)]
             exact hno j (by omega)
         refine ⟨(Nat.le_of_ble_eq_true rfl : _ ≤ sizeLine), fun c nc => ⟨(Nat.le_of_ble_eq_true rfl : _ ≤ sizeLine), fun p np => ?_⟩⟩
         have smc : Same G (upd G c (.lst [])) := same_upd (Same.refl _) nc
         have hcc : (upd G c (.lst [])) c = some (iL []) := upd_same
         generalize upd G c (.lst []) = G5 at *
         have smp : Same G5 (upd G5 p (.tup [.ref c, .non])) := same_upd (Same.refl _) np
         have := fin p c (upd G5 p (.tup [.ref c, .non])) (sm1.trans (smG.trans (smc.trans smp))) (sm1.free (smG.free (smc.free np))) (sm1.free (smG.free nc))
         unfold beV beL at this
         rw [hbn] at this
         exact this upd_same (smp _ _ hcc)
     refine ifT (by rw [decide_eq_false he]; rfl) ?_
     have hst2 : ∀ j, j < k → ¬ Still n es j := fun j hj hsj => by
       by_cases hj2 : j + 1 < k
       · exact hst j hj2 hsj
       rcases hbk with ⟨rfl, rfl⟩ | ⟨i, rfl, rfl⟩
       · omega
       · obtain rfl : j = i := by omega
         exact he (by rw [(sure_eq hSe).mpr hsj])
     have hk2 := steps_bound hSe hst2
     refine ⟨fun σ' H' => ∃ m', m' < n * n + 2 - k ∧ W m' σ' H', fun _ _ h => h, ?_⟩
     refine ⟨_, rfl, _, rfl, Or.inl ⟨_, _, rfl, rfl, _, _, rfl, rfl, ⟨by decide, by decide, by omega, by omega⟩, fun a na => ?_⟩⟩
     rw [rgV_all n]
     have sma : Same G (upd G a (.lst ((allM n).map V.int))) := same_upd (Same.refl _) na
     have ha1 : (upd G a (.lst ((allM n).map V.int))) a = some (iL (allM n)) := upd_same
     generalize upd G a (.lst ((allM n).map V.int)) = G4 at *
     refine call_common (sma _ _ hs) (sure_len n es k) ha1 (fun e => by have := congrArg List.length e; rw [all_len] at this; simp at this; omega) (fun p hp => allM_mem.mp hp) ?_
     refine ⟨_, rfl, _, rfl, ?_⟩
     by_cases hbe : bestM n es k = []
     · refine ifF (by rw [(best_zero b1 hSe k).mpr hbe]; rfl) ?_
       refine ⟨_, rfl, _, rfl, _, rfl, _, rfl, ?_⟩
       have sG4 := smG.trans sma
       refine call_traps hn hSe (hA.same sma) (sma _ _ hs) (sure_len n es k) (fun q5 G5 sm5 nq5 hq5 => ?_)
       have sG5 := sG4.trans sm5
       refine call_ahead hn hSe (sG5 _ _ hr1) hq5 (traps_len n es _) (traps_bits hSe k) (fun q7 H7 sm7 nq7 hq7 => ?_)
       refine ⟨_, rfl, _, _, rfl, rfl, ?_⟩
       refine ⟨n * n + 2 - (k + 1), by omega, k + 1, s, q7, sureM n es k, _, rfl, rfl, sG5.trans sm7, hA.same (sma.trans (sm5.trans sm7)), sm7 _ _ (sm5 _ _ (sma _ _ hs)), hq7, .inr ⟨k, rfl, rfl⟩, fun j hj => ?_, fun j hj => hst2 j (by omega)⟩
       by_cases hjk : j < k
       · exact hno j hjk
       obtain rfl : j = k := by omega
       exact hbe
     · refine ifT (by simpa using fun e => hbe ((best_zero b1 hSe k).mp e)) ?_
       refine ⟨_, rfl, ?_⟩
       refine call_members (best_small b1 hn hSe k) (fun p6 H6 sm6 np6 hp6 => ?_)
       rw [best_members b1 hSe k] at hp6
       refine ⟨_, rfl, ?_⟩
       refine ⟨(Nat.le_of_ble_eq_true rfl : _ ≤ sizeLine), fun p np => ?_⟩
       have smp : Same H6 (upd H6 p (.tup [.ref p6, .int (k : Nat)])) := same_upd (Same.refl _) np
       have sH4 := sm1.trans (smG.trans sma)
       have hbm : beM n es = some k := be_at hSe hno hbe
       have := fin p p6 (upd H6 p (.tup [.ref p6, .int (k : Nat)])) (sH4.trans (sm6.trans smp)) (sH4.free (sm6.free np)) (sH4.free np6)
       unfold beV beL at this
       rw [hbm] at this
       exact this upd_same (smp _ _ hp6)
end
/-! piece TN -/
section
variable {P : Program} {w : World} {K : PySem.W.Frag} {mg : Str → Option Value} {base : Heap}
set_option maxHeartbeats 4000000 in
theorem ok_near {f : Addr} {fd : FuncData} (F : Fun K "_law_near" "_law_near" s_law_near f fd) (mr : mg "range" = none) :
    FnOk P w K mg base CX0 1 f fd ["_law_size", "_law_sides"] spNear := by
  refine F.ok sc_law_near (fun vs H Q E h => ?_) (fun cdv A outer s H vs Q E hr h => ?_)
  · unfold spNear at h
    obtain ⟨n, q, es, rfl, _⟩ := h
    rfl
  · have nd := sc_law_near.nd
    have hS := sc_law_near
    have hKM : KMark K := ⟨⟩
    refine' mk_body ?body ?rd
    case body =>
      show PSs _ [_, _, _] _
      wtm_at "fo ss"
    case rd =>
     unfold spNear at h
     obtain ⟨n, q, es, rfl, hn, hq, hl, he, fin⟩ := h
     refine ⟨_, rfl, Or.inl ⟨_, _, rfl, rfl, (n : Int) + 1, rfl, by omega, by omega, fun D nD => ?_⟩⟩
     have hN : ((n : Int) + 1).toNat = n + 1 := by omega
     refine lc_range (lo := 0) (fun i H1 => i ≤ n + 1 ∧ Same H H1 ∧ ∃ rs, LsAt H H1 D rs ((List.range i).map fun (i : Nat) => [(i : Int)])) ?_ ?_ ?_
     · exact ⟨Nat.zero_le _, same_upd (Same.refl H) nD, [], LsAt.nil upd_same⟩
     · rintro i H1 hi ⟨hin, sm, rs, L⟩
       rw [hN] at hi
       refine ⟨rfl, ?_⟩
       wtm_at "fo r"
       rename_i r nr
       have nr0 : H r = none := sm.free nr
       have L2 := L.push (t := [(i : Int)]) nr nr0
       refine ⟨rs.map V.ref, ?_, ?_, by omega, same_upd (same_upd sm nr0) nD, rs ++ [r], ?_⟩
       · rw [upd_ne (ne_of_none L.hD nr)]
         exact L.hD
       · rw [List.length_map, L.len, List.length_map, List.length_range]
         exact Nat.lt_of_le_of_lt (m := 100) (by omega) (by decide)
       · rw [List.range_succ, List.map_append]
         rw [show (0 : Int) + (i : Int) = (i : Int) by omega]
         exact L2
     · rintro H2 ⟨hin, sm2, ps, L0⟩
       rw [hN] at L0
       have L0 : LsAt H H2 D ps (near0 n) := L0
       obtain ⟨qs, hq1, hq2, hq3⟩ := hq
       have hq' : H2 q = some (.lst (qs.map V.ref)) := sm2 _ _ hq1
       refine ⟨_, rfl, q, rfl, ⟨_, SqL.of hq'⟩, ?_⟩
       refine for_list (K := K) (xs := qs.map V.ref) (fun i σ H3 => ∃ y4 y5, σ = [some (.int n), some (.ref q), some (.ref D), none, y4, y5] ∧ Same H H3 ∧ LsAt H H3 D ps ((es.take i).foldl addE (near0 n)))
         ⟨none, none, rfl, sm2, L0⟩ ?_ ?_ ?_
       · rintro i σ H3 hi ⟨y4, y5, rfl, sm3, L3⟩
         exact SqL.of (sm3 _ _ hq1)
       · rintro i x σ H3 hx ⟨y4, y5, rfl, sm3, L3⟩
         obtain ⟨r, hr, rfl⟩ : ∃ r, qs[i]? = some r ∧ x = V.ref r := by
           rw [List.getElem?_map] at hx
           cases hq : qs[i]? with
           | none => rw [hq] at hx; cases hx
           | some r => rw [hq] at hx; exact ⟨r, rfl, (Option.some.inj hx).symm⟩
         have hi : i < es.length := by rw [← hq2]; exact (List.getElem?_eq_some_iff.mp hr).1
         have hes : es[i]? = some es[i] := List.getElem?_eq_getElem hi
         have htk : (es.take (i + 1)).foldl addE (near0 n) = addE ((es.take i).foldl addE (near0 n)) es[i] := by
           rw [List.take_add_one, hes, List.foldl_append]
           rfl
         have hb := foldl_addE_bound (es.take i) (near0 n) 1 (near0_bound n)
         have hlt : ((es.take i).foldl addE (near0 n)).length = n + 1 := by rw [foldl_addE_length, near0_length]
         have htl : (es.take i).length ≤ 200 := Nat.le_trans (List.length_take_le ..) (by omega)
         generalize (es.take i).foldl addE (near0 n) = ts at *
         obtain ⟨h1, h2, h3, h4⟩ := he es[i] (List.getElem_mem hi)
         have hre := sm3 _ _ (hq3 i r es[i] hr hes)
         generalize es[i] = e at *
         obtain ⟨ea, eb⟩ := e
         simp only at h1 h2 h3 h4 hre
         have hpl : ps.length = n + 1 := by rw [L3.len, hlt]
         have g1 : ea.toNat < ps.length := by omega
         have g2 : eb.toNat < ps.length := by omega
         have k1 : ps[ea.toNat]? = some ps[ea.toNat] := List.getElem?_eq_getElem g1
         have k2 : ps[eb.toNat]? = some ps[eb.toNat] := List.getElem?_eq_getElem g2
         have u1 : ts[ea.toNat]? = some ts[ea.toNat] := List.getElem?_eq_getElem (by omega)
         have hA := L3.at_ _ _ _ k1 u1
         have b1 := hb _ (List.getElem_mem (show ea.toNat < ts.length by omega))
         have L4 := L3.modify (v := eb) k1 u1
         have sm4 : Same H (upd H3 ps[ea.toNat] (.lst (ts[ea.toNat].map V.int ++ [V.int eb]))) := same_upd sm3 (L3.fr _ (List.mem_of_getElem? k1))
         refine Or.inr ⟨r, [.int ea, .int eb], rfl, SqL.of hre, rfl, .int ea, [.int eb], rfl, .int eb, [], rfl, rfl, ?_⟩
         wtm_at "fo r"
         refine Or.inl ⟨D, ps.map V.ref, ea, .ref ps[ea.toNat], rfl, rfl, SqL.of L3.hD, at_of (j := ea.toNat) (by omega) (by rw [List.getElem?_map, k1]; rfl), ?_⟩
         refine ⟨.inl ⟨rfl, _, SqL.of hA⟩, _, rfl, _, _, _, rfl, rfl, hA, ?_, ?_⟩
         · rw [List.length_map]
           exact Nat.lt_of_le_of_lt (m := 1000) (by omega) (by decide)
         wtm_at "fo r"
         have hlt2 : (ts.modify ea.toNat (· ++ [eb])).length = n + 1 := by rw [List.length_modify, hlt]
         have u2 : (ts.modify ea.toNat (· ++ [eb]))[eb.toNat]? = some (ts.modify ea.toNat (· ++ [eb]))[eb.toNat] := List.getElem?_eq_getElem (by omega)
         have hB := L4.at_ _ _ _ k2 u2
         have b2 : ((ts.modify ea.toNat (· ++ [eb]))[eb.toNat]).length ≤ 500 := by
           rcases mem_modify (List.mem_of_getElem? u2) with hu | ⟨v, hv, e⟩
           · exact Nat.le_trans (hb _ hu) (by omega)
           · have := hb _ hv
             rw [e]
             simp; omega
         have L5 := L4.modify (v := ea) k2 u2
         refine Or.inl ⟨D, ps.map V.ref, eb, .ref ps[eb.toNat], rfl, rfl, SqL.of L4.hD, at_of (j := eb.toNat) (by omega) (by rw [List.getElem?_map, k2]; rfl), ?_⟩
         refine ⟨.inl ⟨rfl, _, SqL.of hB⟩, _, rfl, _, _, _, rfl, rfl, hB, ?_, ?_⟩
         · rw [List.length_map]
           exact Nat.lt_of_le_of_lt (m := 1000) (by omega) (by decide)
         refine ⟨_, _, rfl, same_upd sm4 (L3.fr _ (List.mem_of_getElem? k2)), ?_⟩
         rw [htk]
         exact L5
       · rintro σ H3 ⟨y4, y5, rfl, sm3, L3⟩
         rw [List.length_map, hq2, List.take_length] at L3
         wtm_at "fo r"
         exact fin D H3 sm3 nD ⟨ps, L3.hD, L3.nd, L3.len, L3.at_⟩
end
/-! tactics TAC5 -/
local macro_rules | `(tactic| wtm_at "fo slice") => `(tactic| ((with_reducible show PE _ (.Subscript _ (.Slice none none (some _) _) _) _); refine' pe_stepK2 (by assumption) (by exact rfl) ?ka ?kb; (case ka => wtm_at "fo e"); (case kb => wtm_at "fo e")))
/-! piece TKd -/
section
local macro_rules | `(tactic| wtm_at "fo s") => `(tactic| ((with_reducible show PS _ (.If (.BoolOp .And [_, _, _, _] _) _ _ _) _); refine' ps_mono ?h (more_mono _ _); (case h => (apply ps_if; (· wtm_at "fo t"); (· wtm_at "fo ss"); (· wtm_at "fo ss")))))
local macro_rules | `(tactic| wtm_at "fo e") => `(tactic| first
  | ((with_reducible show PE _ (.BoolOp .Or [.Compare (.List _ _) _ _ _, _] _) _); refine' pe_mono ?h (known_mono _); (case h => (apply pe_or; (· wtm_at "fo e"); (· apply pe_one; wtm_at "fo e"))))
  | ((with_reducible show PE _ (.BoolOp .Or [.Compare (.Name _ _) _ _ _, _] _) _); refine' pe_mono ?h (maybe_mono _); (case h => (apply pe_or; (· wtm_at "fo e"); (· apply pe_one; wtm_at "fo e"))))
  | fail "no")
local macro_rules | `(tactic| wtm_at "fo cmp") => `(tactic| ((with_reducible show PE _ (.Compare (.List _ _) [.In] _ _) _); refine' pe_cmpR (op_inDK (by assumption) (by exact rfl) (by assumption)) ?ka ?kb rfl; (case ka => wtm_at "fo e"); (case kb => wtm_at "fo e")))
local macro_rules | `(tactic| wtm_at "fo tcmp") => `(tactic| ((with_reducible show PT _ (.Compare (.List _ _) [.NotIn] _ _) _); refine' pt_cmpR (op_notInDK (by assumption) (by exact rfl) (by assumption)) ?ka ?kb rfl; (case ka => wtm_at "fo e"); (case kb => wtm_at "fo e")))
variable {P : Program} {w : World} {K : PySem.W.Frag} {mg : Str → Option Value} {base : Heap}
/-! ### drawn nets -/
@[irreducible] def spNet : Sp := fun vs H Q _ => ∃ (d : Addr) (k : Int) (most : Nat), vs = [.ref d, .int most] ∧ Dr H d k ∧ k ≤ 700000 ∧ 1 ≤ most ∧ most ≤ 12 ∧
  ∀ p q n es H' k', SameBut d H H' → H p = none → H q = none → H' p = some (.tup [.int (n : Nat), .ref q]) → 1 ≤ n → n ≤ most → Pairs H' q es → Simp n es → es.length ≤ 200 → Dr H' d k' → k' ≤ k + 1000 → Q (.ref p) H'
theorem call_net {d : Addr} {k : Int} {most : Nat} {H : Hp} {Q : VK} {E : XK} (hd : Dr H d k) (hk : k ≤ 700000) (h1 : 1 ≤ most) (h2 : most ≤ 12)
    (fin : ∀ p q n es H' k', SameBut d H H' → H p = none → H q = none → H' p = some (.tup [.int (n : Nat), .ref q]) → 1 ≤ n → n ≤ most → Pairs H' q es → Simp n es → es.length ≤ 200 → Dr H' d k' → k' ≤ k + 1000 → Q (.ref p) H') : spNet [.ref d, .int most] H Q E := by
  unfold spNet
  exact ⟨d, k, most, rfl, hd, hk, h1, h2, fin⟩
set_option maxHeartbeats 16000000 in
noncomputable def derNet (f : Addr) (cdv : Value) (A : Around) (outer : List Env) (s0 : Shared) (H : Hp) (E : XK) (hr : Room 2 (A.deeper (envOfC "_law_net" (defScope s_law_net) s0.heap.objs.size f cdv))) (mr : mg "range" = none) (mi : mg "int" = none) (ml : mg "list" = none)
    (C1 : Cal P w K mg base "_law_next" 1 ["_law_draws_here"] spNext) (C2 : Cal P w K mg base "_law_mixed" 2 ["_law_draws_here", "_law_things"] spShuf) :
    PSigma fun t => PSs (cxOf CX0 P w K mg base ["_law_draws_here", "_law_most", "_law_size", "_law_kind", "_law_pairs", "_law_spot", "_law_mate", "_law_one", "_law_pick", "_law_known", "_law_names", "_law_told", "_law_low", "_law_high"] "_law_net" (defScope s_law_net) f cdv A outer s0 H E).nox (defBody s_law_net) t := by
  have nd := sc_law_net.nd
  have hS := sc_law_net
  have hKM : KMark K := ⟨⟩
  refine' mkSig ?h
  case h =>
    show PSs _ [_, _, _, _, _, _, _, _, _] _
    wtm_at "fo ss"
end
/-! piece TK -/
section
variable {P : Program} {w : World} {K : PySem.W.Frag} {mg : Str → Option Value} {base : Heap}
theorem PsAt.updT {H : Hp} {D T : Addr} {rs : List Addr} {es : List Edge} {o : HO} (h : PsAt H D rs es) (hD : D ≠ T) (hr : ∀ r ∈ rs, r ≠ T) : PsAt (upd H T o) D rs es :=
  ⟨(upd_ne hD).trans h.hD, h.len, fun i r e a b => (upd_ne (hr r (List.mem_of_getElem? a))).trans (h.at_ i r e a b)⟩
set_option maxHeartbeats 16000000 in
theorem ok_net {f : Addr} {fd : FuncData} (F : Fun K "_law_net" "_law_net" s_law_net f fd) (mr : mg "range" = none) (mi : mg "int" = none) (ml : mg "list" = none)
    (C1 : Cal P w K mg base "_law_next" 1 ["_law_draws_here"] spNext) (C2 : Cal P w K mg base "_law_mixed" 2 ["_law_draws_here", "_law_things"] spShuf) :
    FnOk P w K mg base CX0 3 f fd ["_law_draws_here", "_law_most"] spNet := by
  refine F.ok sc_law_net (fun vs H Q E h => ?_) (fun cdv A outer s H vs Q E hr h => ?_)
  · unfold spNet at h
    obtain ⟨d, k, most, rfl, _⟩ := h
    rfl
  · have nd := sc_law_net.nd
    have hS := sc_law_net
    have hKM : KMark K := ⟨⟩
    refine ⟨_, (derNet (P := P) (w := w) (K := K) (mg := mg) (base := base) f cdv A outer s H E hr mr mi ml C1 C2).2, ?_⟩
    unfold derNet mkSig
    dsimp only
    next =>
     unfold spNet at h
     obtain ⟨d, k, most, rfl, hd, hk, h1, h2, fin⟩ := h
     refine ⟨_, rfl, ?_⟩
     refine call_next hd (by omega) (fun z H1 hz sb1 hd1 => ?_)
     have hmo : (0 : Int) < (most : Int) := by omega
     wtm_at "fo r"
     have m1 := Int.emod_nonneg z (show (most : Int) ≠ 0 by omega)
     have m2 := Int.emod_lt_of_pos z hmo
     obtain ⟨n, hn⟩ : ∃ n : Nat, 1 + z % (most : Int) = (n : Int) := ⟨(1 + z % (most : Int)).toNat, by omega⟩
     dsimp only
     rw [hn]
     have hn1 : 1 ≤ n := by omega
     have hn2 : n ≤ 12 := by omega
     have hn3 : n ≤ most := by omega
     clear m1 m2 hn
     refine call_next hd1 (by omega) (fun z2 H2 hz2 sb2 hd2 => ?_)
     wtm_at "fo r"
     rename_i pp npp
     have kd1 := Int.emod_nonneg z2 (show (4 : Int) ≠ 0 by decide)
     have kd2 := Int.emod_lt_of_pos z2 (show (0 : Int) < 4 by decide)
     have sb02 := sb1.trans sb2
     have smp : Same H2 (upd H2 pp (.lst [])) := same_upd (Same.refl _) npp
     have hp3 : PsF H2 (upd H2 pp (.lst [])) pp [] [] := ⟨PsAt.nil upd_same, List.nodup_nil, fun r h => nomatch h⟩
     have hd3 := hd2.same smp
     generalize upd H2 pp (.lst []) = H3 at *
     have hNr : ((n : Int) + 1 - 2).toNat = n - 1 := by omega
     have small : ∀ {es : List Edge} {b : Int}, b ≤ 100 → (∀ e ∈ es, 1 ≤ e.1 ∧ e.1 < e.2 ∧ e.2 ≤ b) → ∀ e ∈ es, e.1.natAbs < 1000 ∧ e.2.natAbs < 1000 := fun hb h e he => by
       have := h e he
       omega
     refine for_range (lo := 2) (n := ((n : Int) + 1 - 2).toNat) (fun i σ H4 => ∃ (y5 y6 y7 y8 y9 : Option V) (rs : List Addr) (es : List Edge) (k4 : Int), σ = [some (.ref d), some (.int most), some (.int n), some (.int (z2 % 4)), some (.ref pp), y5, y6, y7, y8, y9, none, none, none, none] ∧ SameBut d H2 H4 ∧ PsF H2 H4 pp rs es ∧ (∀ e ∈ es, 1 ≤ e.1 ∧ e.1 < e.2 ∧ e.2 ≤ (i : Int) + 1) ∧ es.Pairwise ltN ∧ es.length ≤ 12 * i ∧ Dr H4 d k4 ∧ k4 ≤ k + 2 + 13 * i) ?_ ?_ ?_
     · exact ⟨none, none, none, none, none, [], [], k + 1 + 1, rfl, Same.but d smp, hp3, (fun e h => nomatch h), List.Pairwise.nil, Nat.zero_le _, hd3, by omega⟩
     · rintro i σ H4 hi ⟨y5, y6, y7, y8, y9, rs, es, k4, rfl, sb4, hP4, hr4, hw4, hl4, hd4, hk4⟩
       rw [hNr] at hi
       refine ⟨_, rfl, ?_⟩
       refine call_next hd4 (by omega) (fun z3 H5 hz3 sb5 hd5 => ?_)
       have hsp : (0 : Int) < 2 + (i : Int) - 1 := by omega
       wtm_at "fo r"
       have m1 := Int.emod_nonneg z3 (show (2 + (i : Int) - 1) ≠ 0 by omega)
       have m2 := Int.emod_lt_of_pos z3 hsp
       have hP5 := hP4.but sb5 hd4
       have sb25 := sb4.trans sb5
       have hNi : (2 + (i : Int) - 1).toNat = i + 1 := by omega
       refine for_range (lo := 1) (n := (2 + (i : Int) - 1).toNat) (fun j σ H6 => ∃ (y7 y8 y9 : Option V) (rs : List Addr) (es : List Edge) (k6 : Int), σ = [some (.ref d), some (.int most), some (.int n), some (.int (z2 % 4)), some (.ref pp), some (.int (2 + (i : Int))), some (.int (1 + z3 % (2 + (i : Int) - 1))), y7, y8, y9, none, none, none, none] ∧ SameBut d H2 H6 ∧ PsF H2 H6 pp rs es ∧ (∀ e ∈ es, 1 ≤ e.1 ∧ e.1 < e.2 ∧ e.2 ≤ (i : Int) + 2 ∧ (e.2 = (i : Int) + 2 → e.1 ≤ j)) ∧ es.Pairwise ltN ∧ es.length ≤ 12 * i + j ∧ Dr H6 d k6 ∧ k6 ≤ k + 2 + 13 * i + 1 + j) ?_ ?_ ?_
       · exact ⟨y7, y8, y9, rs, es, k4 + 1, rfl, sb25, hP5, (fun e he => by have := hr4 e he; omega), hw4, hl4, hd5, by omega⟩
       · rintro j σ H6 hj ⟨y7, y8, y9, rs, es, k6, rfl, sb6, hP6, hr6, hw6, hl6, hd6, hk6⟩
         rw [hNi] at hj
         have hsm : ∀ e ∈ es, e.1.natAbs < 1000 ∧ e.2.natAbs < 1000 := fun e he => by
           have := hr6 e he
           omega
         have hmv : (1 + z3 % (2 + (i : Int) - 1)).natAbs < 1000 := by omega
         have hon : (1 + (j : Int)).natAbs < 1000 := by omega
         generalize 1 + z3 % (2 + (i : Int) - 1) = mv at *
         refine ⟨_, rfl, ?_⟩
         refine call_next hd6 (by omega) (fun z4 H7 hz4 sb7 hd7 => ?_)
         have hP7 := hP6.but sb7 hd6
         have sb27 := sb6.trans sb7
         refine Or.inl ⟨_, rfl, ?_⟩
         refine ⟨_, _, pp, es, rfl, rfl, rfl, hP7.ps.pairs, hon, hmv, hsm, fun kb H8 sm8 => ?_⟩
         have hP8 := hP7.same sm8
         have hd8 := hd7.same sm8
         have sb28 := sb27.trans (Same.but d sm8)
         refine ⟨_, rfl, _, rfl, Or.inl ⟨rfl, _, _, _, kb, rfl, rfl, rfl, rfl, fun b1 => ?_⟩⟩
         refine ⟨_, rfl, _, _, rfl, rfl, (show (0 : Int) < 2 by decide), Or.inl ⟨rfl, ?_⟩⟩
         refine ⟨_, rfl, _, _, rfl, rfl, (show (0 : Int) < 3 by decide), Or.inl ⟨rfl, ?_⟩⟩
         refine ⟨(Nat.le_of_ble_eq_true rfl : _ ≤ sizeLine), fun c4 nc4 => ?_⟩
         obtain ⟨cc, hcc⟩ := bl_at (decide (V.int (1 + (j : Int)) = V.int mv)) b1 (decide (V.int (z4 % 2) = V.int 0)) (decide (V.int (z4 % 3) = V.int 0)) kd1 kd2
         have sm9 : Same H8 (upd H8 c4 (.lst [.bl (decide (V.int (1 + (j : Int)) = V.int mv)), .bl b1, .bl (decide (V.int (z4 % 2) = V.int 0)), .bl (decide (V.int (z4 % 3) = V.int 0))])) := same_upd (Same.refl _) nc4
         refine ⟨_, rfl, Or.inl ⟨c4, _, z2 % 4, .bl cc, rfl, rfl, SqL.of upd_same, hcc, cc, rfl, ?_⟩⟩
         have hP9 := hP8.same sm9
         have hd9 := hd8.same sm9
         have sb29 := sb28.trans (Same.but d sm9)
         generalize upd H8 c4 _ = H9 at *
         cases cc with
         | false =>
           refine ifF rfl ⟨_, _, _, rs, es, k6 + 1, rfl, sb29, hP9, fun e he => ?_, hw6, by omega, hd9, by omega⟩
           have := hr6 e he
           omega
         | true =>
           refine ifT rfl ?_
           refine ⟨_, rfl, .inl ⟨rfl, _, SqL.of hP9.ps.hD⟩, ?_⟩
           refine ⟨_, rfl, _, rfl, (Nat.le_of_ble_eq_true rfl : _ ≤ sizeLine), fun c5 nc5 => ?_⟩
           have hpc : pp ≠ c5 := ne_of_none hP9.ps.hD nc5
           refine ⟨pp, _, _, rfl, rfl, (upd_ne hpc).trans hP9.ps.hD, ?_, ?_⟩
           · rw [List.length_map, hP9.ps.len]
             exact Nat.lt_of_le_of_lt (m := 1000) (by omega) (by decide)
           have hP10 := hP9.push nc5 (sb29.none hd9 nc5) (1 + (j : Int), 2 + (i : Int))
           have hppd : pp ≠ d := hd9.ne_refs hP9.ps.hD
           have hc5d : c5 ≠ d := hd9.trk nc5
           refine ⟨_, _, _, rs ++ [c5], es ++ [(1 + (j : Int), 2 + (i : Int))], k6 + 1, rfl, (sb29.new (sb29.none hd9 nc5)).new npp, hP10, fun e he => ?_, ?_, ?_, ?_, by omega⟩
           · rcases List.mem_append.mp he with he | he
             · have := hr6 e he
               omega
             · rw [List.mem_singleton.mp he]
               simp only
               omega
           · rw [List.pairwise_append]
             refine ⟨hw6, List.pairwise_singleton _ _, fun x hx y hy => ?_⟩
             rw [List.mem_singleton.mp hy]
             have := hr6 x hx
             unfold ltN
             simp only
             omega
           · rw [List.length_append, List.length_singleton]
             omega
           · obtain ⟨a, b, e, h0⟩ := hd9
             exact ⟨a, b, by rw [upd_ne hppd.symm, upd_ne hc5d.symm]; exact e, h0⟩
       · rintro σ H6 ⟨y7, y8, y9, rs, es, k6, rfl, sb6, hP6, hr6, hw6, hl6, hd6, hk6⟩
         rw [hNi] at hr6 hl6 hk6
         exact ⟨_, _, _, _, _, rs, es, k6, rfl, sb6, hP6, fun e he => by have := hr6 e he; omega, hw6, by omega, hd6, by omega⟩
     · rintro σ H4 ⟨y5, y6, y7, y8, y9, rs, es, k4, rfl, sb4, hP4, hr4, hw4, hl4, hd4, hk4⟩
       rw [hNr] at hr4 hl4 hk4
       have hS4 : Simp n es := simp_asc2 (fun e he => by have := hr4 e he; omega) hw4
       have hlt4 : ∀ e ∈ es, e.1 < e.2 := fun e he => (hr4 e he).2.1
       have sb04 := sb02.trans sb4
       have hsm : ∀ e ∈ es, e.1.natAbs < 1000 ∧ e.2.natAbs < 1000 := fun e he => by
         have := hr4 e he
         omega
       refine ⟨d, pp, n, _, k4, es, rs, H2, rfl, rfl, rfl, rfl, hP4, hS4, hlt4, hn2, by omega, sb4, npp, hd4, by omega, ?_⟩
       intro H5 rs5 es5 k5 hP5 hS5 hl5 sb5 hd5 hk5
       clear hP4 hr4 hw4 hS4 hlt4 sb04 hsm hd4 sb4 hp3 smp hd3
       wtm_at "fo r"
       intro l nl
       have hrg : rgV 1 ((n : Int) + 1) = ((List.range n).map fun (i : Nat) => (1 : Int) + i).map V.int := by
         unfold rgV
         rw [show ((n : Int) + 1 - 1).toNat = n by omega, List.map_map]
         rfl
       have sm5 : Same H5 (upd H5 l (.lst (rgV 1 ((n : Int) + 1)))) := same_upd (Same.refl _) nl
       refine call_shuf (hd5.same sm5) (by omega) upd_same ?_ ?_ ?_
       · rw [rgV_length]
         omega
       · intro x hx
         rw [hrg] at hx
         obtain ⟨z, hz, rfl⟩ := List.mem_map.mp hx
         obtain ⟨i, hi, rfl⟩ := List.mem_map.mp hz
         have := List.mem_range.mp hi
         exact .inl ⟨_, rfl, by omega⟩
       intro p2 ys H6 k6 hperm sb6 np2 hp2 hd6 hk6
       obtain ⟨zs, hz, rfl⟩ := perm_lift V.int hperm _ hrg
       have hzl : zs.length = n := by rw [hz.length_eq]; simp
       have hP6 := (hP5.same sm5).but sb6 (hd5.same sm5)
       have sb26 := (sb5.trans (Same.but d sm5)).trans sb6
       refine ⟨(Nat.le_of_ble_eq_true rfl : _ ≤ sizeLine), fun T nT => ?_⟩
       have smT : Same H6 (upd H6 T (.lst [])) := same_upd (Same.refl _) nT
       have hT7 : (upd H6 T (.lst [])) T = some (.lst []) := upd_same
       have hP7 := hP6.same smT
       have hp27 := smT _ _ hp2
       have hd7 := hd6.same smT
       have nT0 : H T = none := (sb02.trans sb26).none hd6 nT
       have hTr : T ∉ rs5 := fun h => by
         obtain ⟨e, _, he⟩ := hP6.ps.mem h
         rw [nT] at he
         cases he
       have hTd : T ≠ d := hd6.trk nT
       have hp2T : p2 ≠ T := ne_of_none hp2 nT
       generalize upd H6 T (.lst []) = H7 at *
       refine ⟨_, rfl, _, rfl, ?_⟩
       refine call_shuf hd7 (by omega) hP7.ps.hD ?_ ?_ ?_
       · rw [List.length_map, hP7.ps.len]
         omega
       · intro x hx
         obtain ⟨r, hr, rfl⟩ := List.mem_map.mp hx
         obtain ⟨e, he, hre⟩ := hP7.ps.mem hr
         have := hS5.rng e he
         exact .inr ⟨r, _, _, rfl, hre, by omega, by omega⟩
       intro p9 ys9 H9 k9 hperm9 sb9 np9 hp9 hd9 hk9
       obtain ⟨fs9, rs9, hq1, hq2⟩ := hP7.ps.perm hperm9 hp9 (fun r e hr he => sb9 r _ (hd7.ne_pair he) he)
       have hl9 : fs9.length ≤ 200 := by rw [hq1.length_eq]; omega
       have hS9 := simp_perm hS5 hq1
       have hT9 : PsAt H9 T [] [] := PsAt.nil (sb9 _ _ (hd7.ne_refs (rs := []) hT7) hT7)
       have hp29 := sb9 _ _ (hd7.ne_ints hp27) hp27
       have hTp9 : p9 ≠ T := (ne_of_none hT7 np9).symm
       have hTr9 : ∀ r ∈ rs9, r ≠ T := fun r hr => by
         obtain ⟨e, _, he⟩ := hq2.mem hr
         exact ne_of he hT9.hD (by intro q; injection q with q; simp at q)
       have sb09 := ((sb02.trans sb26).trans (Same.but d smT)).trans sb9
       clear hP5 hd5 sb5 sm5 sb6 hd6 hP6 sb26 smT hP7 hd7 hp27 hT7 sb9
       refine ⟨p9, rfl, ⟨_, SqL.of hq2.hD⟩, ?_⟩
       refine for_list (K := K) (xs := rs9.map V.ref) (fun i σ H3 => ∃ (y12 y13 : Option V) (rsT : List Addr) (fsT : List Edge) (k3 : Int), σ = [some (.ref d), some (.int most), some (.int n), some (.int (z2 % 4)), some (.ref pp), y5, y6, y7, y8, y9, some (.ref p2), some (.ref T), y12, y13] ∧ SameBut d H H3 ∧ PsAt H3 p9 rs9 fs9 ∧ H3 p2 = some (.lst (zs.map V.int)) ∧ PsAt H3 T rsT fsT ∧ Flips ((fs9.take i).map fun e => (nameOf zs e.1, nameOf zs e.2)) fsT ∧ Dr H3 d k3 ∧ k3 ≤ k9 + i) ?_ ?_ ?_ ?_
       · exact ⟨none, none, [], [], k9, rfl, sb09, hq2, hp29, hT9, trivial, hd9, by omega⟩
       · rintro i σ H3 _ ⟨y12, y13, rsT, fsT, k3, rfl, sb3, hq3, _⟩
         exact SqL.of hq3.hD
       · rintro i x σ H3 hx ⟨y12, y13, rsT, fsT, k3, rfl, sb3, hq3, hp23, hT3, hF3, hd3, hk3⟩
         obtain ⟨r, hr, rfl⟩ := ref_at hx
         have hi : i < fs9.length := by rw [← hq3.len]; exact (List.getElem?_eq_some_iff.mp hr).1
         have hes : fs9[i]? = some fs9[i] := List.getElem?_eq_getElem hi
         have hre := hq3.at_ i r _ hr hes
         have htk : (fs9.take (i + 1)).map (fun e => (nameOf zs e.1, nameOf zs e.2)) = (fs9.take i).map (fun e => (nameOf zs e.1, nameOf zs e.2)) ++ [(nameOf zs fs9[i].1, nameOf zs fs9[i].2)] := by
           rw [List.take_add_one, hes, List.map_append]
           rfl
         have hq := hS9.rng _ (List.getElem_mem hi)
         have hfl := flips_length hF3
         rw [List.length_map, List.length_take] at hfl
         rw [htk]
         generalize (fs9.take i).map (fun e => (nameOf zs e.1, nameOf zs e.2)) = es0 at *
         generalize fs9[i] = e at *
         obtain ⟨ea, eb⟩ := e
         simp only at hre hq
         have ga := name_at hz hq.1 hq.2.1
         have gb := name_at hz hq.2.2.1 hq.2.2.2.1
         generalize nameOf zs ea = na at *
         generalize nameOf zs eb = nb at *
         refine Or.inr ⟨r, [.int ea, .int eb], rfl, SqL.of hre, rfl, .int ea, [.int eb], rfl, .int eb, [], rfl, rfl, ?_⟩
         refine ⟨_, rfl, .inl ⟨rfl, _, SqL.of hT3.hD⟩, ?_⟩
         refine ⟨_, rfl, _, rfl, _, _, rfl, rfl, Or.inl ⟨p2, _, ea - 1, .int na, rfl, rfl, SqL.of hp23, at_of (j := (ea - 1).toNat) (by omega) (by rw [List.getElem?_map, ga.1]; rfl), ?_⟩⟩
         refine ⟨_, rfl, _, rfl, _, _, rfl, rfl, Or.inl ⟨p2, _, eb - 1, .int nb, rfl, rfl, SqL.of hp23, at_of (j := (eb - 1).toNat) (by omega) (by rw [List.getElem?_map, gb.1]; rfl), ?_⟩⟩
         refine ⟨(Nat.le_of_ble_eq_true rfl : _ ≤ sizeLine), fun c nc => ?_⟩
         have smc : Same H3 (upd H3 c (.lst [.int na, .int nb])) := same_upd (Same.refl _) nc
         have hc4 : (upd H3 c (.lst [.int na, .int nb])) c = some (.lst [.int na, .int nb]) := upd_same
         have hT4 := hT3.same smc
         have hq4 := hq3.same smc
         have hp24 := smc _ _ hp23
         have hd4 := hd3.same smc
         have sb4 := sb3.trans (Same.but d smc)
         generalize upd H3 c (.lst [.int na, .int nb]) = H4 at *
         refine ⟨_, rfl, (Nat.le_of_ble_eq_true rfl : _ ≤ sizeLine), fun q2 nq2 => ?_⟩
         have smq : Same H4 (upd H4 q2 (.lst [.int 1, .int (-1)])) := same_upd (Same.refl _) nq2
         have hq5 : (upd H4 q2 (.lst [.int 1, .int (-1)])) q2 = some (.lst [.int 1, .int (-1)]) := upd_same
         have hc5 := smq _ _ hc4
         have hT5 := hT4.same smq
         have hqq5 := hq4.same smq
         have hp25 := smq _ _ hp24
         have hd5 := hd4.same smq
         have sb5 := sb4.trans (Same.but d smq)
         have hqd : q2 ≠ d := hd4.trk nq2
         have hcd := hd5.ne_pair hc5
         generalize upd H4 q2 (.lst [.int 1, .int (-1)]) = H5 at *
         refine ⟨_, rfl, ?_⟩
         refine call_next hd5 (by omega) (fun n2 H6 hn2 sb6 hd6 => ?_)
         have hq6 := sb6 _ _ hqd hq5
         have hc6 := sb6 _ _ hcd hc5
         have hT6 := hT5.but sb6 hd5
         have hqq6 := hqq5.but sb6 hd5
         have hp26 := sb6 _ _ (hd5.ne_ints hp25) hp25
         have sb06 := sb5.trans sb6
         refine Or.inl ⟨_, rfl, _, _, rfl, rfl, (show (0 : Int) < 2 by decide), ?_⟩
         have fin2 : ∀ (e2 : Edge), (e2 = (na, nb) ∨ e2 = (nb, na)) → ∀ r2, H6 r2 = none →
             ∃ l xs v, V.ref T = .ref l ∧ [V.ref r2] = [v] ∧ (upd H6 r2 (.lst [.int e2.1, .int e2.2])) l = some (.lst xs) ∧ xs.length < sizeLine ∧ (∃ (y12' y13' : Option V) (rsT : List Addr) (fsT : List Edge) (k3 : Int), [some (V.ref d), some (.int most), some (.int n), some (.int (z2 % 4)), some (.ref pp), y5, y6, y7, y8, y9, some (.ref p2), some (.ref T), some (.int ea), some (.int eb)] = [some (V.ref d), some (.int most), some (.int n), some (.int (z2 % 4)), some (.ref pp), y5, y6, y7, y8, y9, some (.ref p2), some (.ref T), y12', y13'] ∧
               SameBut d H (upd (upd H6 r2 (.lst [.int e2.1, .int e2.2])) l (.lst (xs ++ [v]))) ∧ PsAt (upd (upd H6 r2 (.lst [.int e2.1, .int e2.2])) l (.lst (xs ++ [v]))) p9 rs9 fs9 ∧ (upd (upd H6 r2 (.lst [.int e2.1, .int e2.2])) l (.lst (xs ++ [v]))) p2 = some (.lst (zs.map V.int)) ∧ PsAt (upd (upd H6 r2 (.lst [.int e2.1, .int e2.2])) l (.lst (xs ++ [v]))) T rsT fsT ∧ Flips (es0 ++ [(na, nb)]) fsT ∧ Dr (upd (upd H6 r2 (.lst [.int e2.1, .int e2.2])) l (.lst (xs ++ [v]))) d k3 ∧ k3 ≤ k9 + ((i + 1 : Nat) : Int)) := by
           intro e2 he2 r2 nr2
           have hr2d : r2 ≠ d := hd6.trk nr2
           have smr : Same H6 (upd H6 r2 (.lst [.int e2.1, .int e2.2])) := same_upd (Same.refl _) nr2
           refine ⟨T, _, _, rfl, rfl, (upd_ne (ne_of_none hT6.hD nr2)).trans hT6.hD, ?_, _, _, rsT ++ [r2], fsT ++ [e2], k3 + 1, rfl, (sb06.new (sb06.none hd6 nr2)).new nT0, (hqq6.same smr).updT hTp9 hTr9, (upd_ne hp2T).trans (smr _ _ hp26), hT6.push nr2 e2, flips_snoc hF3 he2, ?_, by omega⟩
           · rw [List.length_map, hT6.len]
             exact Nat.lt_of_le_of_lt (m := 1000) (by omega) (by decide)
           · obtain ⟨a, b, e, h0⟩ := hd6
             exact ⟨a, b, by rw [upd_ne hTd.symm, upd_ne hr2d.symm]; exact e, h0⟩
         have m1' := Int.emod_nonneg n2 (show (2 : Int) ≠ 0 by decide)
         have m2' := Int.emod_lt_of_pos n2 (show (0 : Int) < 2 by decide)
         rcases (show n2 % 2 = 0 ∨ n2 % 2 = 1 by omega) with hm | hm
         · refine Or.inl ⟨q2, _, _, .int 1, rfl, rfl, SqL.of hq6, ?_, ?_⟩
           · show atI _ (n2 % 2) = _
             rw [hm]
             rfl
           refine ⟨_, rfl, c, _, rfl, Or.inl rfl, SqL.of hc6, fun r2 nr2 => ?_⟩
           exact fin2 _ (.inl rfl) r2 nr2
         · refine Or.inl ⟨q2, _, _, .int (-1), rfl, rfl, SqL.of hq6, ?_, ?_⟩
           · show atI _ (n2 % 2) = _
             rw [hm]
             rfl
           refine ⟨_, rfl, c, _, rfl, Or.inr rfl, SqL.of hc6, fun r2 nr2 => ?_⟩
           exact fin2 _ (.inr rfl) r2 nr2
       · rintro σ H3 ⟨y12, y13, rsT, fsT, k3, rfl, sb3, hq3, hp23, hT3, hF3, hd3, hk3⟩
         rw [List.length_map, hq3.len, List.take_length] at hF3
         rw [List.length_map, hq3.len] at hk3
         have hS7 : Simp n (fs9.map fun e => (nameOf zs e.1, nameOf zs e.2)) := simp_map hS9 (nameOf zs) (fun x h1 h2 => (name_at hz h1 h2).2) (fun x y h1 h2 h3 h4 e => name_inj hz h1 h2 h3 h4 e)
         have hST := simp_flips hS7 hF3
         have hlT := flips_length hF3
         rw [List.length_map] at hlT
         refine ⟨_, rfl, _, rfl, (Nat.le_of_ble_eq_true rfl : _ ≤ sizeLine), fun p np => ?_⟩
         have smp : Same H3 (upd H3 p (.tup [.int n, .ref T])) := same_upd (Same.refl _) np
         exact fin p T n fsT _ k3 (sb3.trans (Same.but d smp)) (sb3.none hd3 np) nT0 upd_same hn1 hn3 (hT3.same smp).pairs hST (by omega) (hd3.same smp) (by omega)
end
/-! piece TVg -/
section
def oN : Option Nat → V
  | some k => .int (k : Nat)
  | none => .non
theorem oN_non (o : Option Nat) : decide (oN o = V.non) = o.isNone := by cases o <;> simp [oN]
/-- a table: rows of what is told of each pair -/
def rowT (n : Nat) (f : Nat → Nat → Option Nat) (i : Nat) : List V := (List.range (n + 1)).map fun j => oN (f i j)
theorem rowT_len (n : Nat) (f : Nat → Nat → Option Nat) (i : Nat) : (rowT n f i).length = n + 1 := by simp [rowT]
theorem rowT_get {n : Nat} (f : Nat → Nat → Option Nat) (i : Nat) {j : Nat} (hj : j ≤ n) : (rowT n f i)[j]? = some (oN (f i j)) := by
  unfold rowT
  rw [List.getElem?_map, List.getElem?_range (by omega)]
  rfl
def TabAt (H : Hp) (a : Addr) (n : Nat) (f : Nat → Nat → Option Nat) : Prop := ∃ rs : List Addr, H a = some (.lst (rs.map V.ref)) ∧ rs.length = n + 1 ∧ ∀ i, i ≤ n → ∃ r, rs[i]? = some r ∧ H r = some (.lst (rowT n f i))
theorem TabAt.same {H H' : Hp} {a : Addr} {n : Nat} {f : Nat → Nat → Option Nat} (h : TabAt H a n f) (s : Same H H') : TabAt H' a n f := by
  obtain ⟨rs, h1, h2, h3⟩ := h
  refine ⟨rs, s _ _ h1, h2, fun p a => ?_⟩
  obtain ⟨r, x, y⟩ := h3 p a
  exact ⟨r, x, s _ _ y⟩
theorem near_rows {H : Hp} {q : Addr} {n : Nat} {es : List Edge} (hS : Simp n es) (hq : Lists H q (nearM n es)) : ∃ rs : List Addr, H q = some (.lst (rs.map V.ref)) ∧ ∀ h : Int, 1 ≤ h → h ≤ n → ∃ r, rs[h.toNat]? = some r ∧ H r = some (iL (h :: mates h es)) := by
  obtain ⟨rs, hD, hnd, hrl, hat⟩ := hq
  refine ⟨rs, hD, fun h h1 h2 => ?_⟩
  have hg := near_get hS (p := h.toNat) (by omega) (by omega)
  rw [show ((h.toNat : Nat) : Int) = h by omega] at hg
  have hl1 : h.toNat < rs.length := by rw [hrl]; exact (List.getElem?_eq_some_iff.mp hg).1
  exact ⟨rs[h.toNat], List.getElem?_eq_getElem hl1, hat _ _ _ (List.getElem?_eq_getElem hl1) hg⟩
theorem matesH_len {n : Nat} {es : List Edge} (hn : n ≤ 12) (hS : Simp n es) (h : Int) : (h :: mates h es).length ≤ 13 := by
  have := nodup_le 12 (mates h es) (mates_nodup hS) (fun x hx => by have := mates_rng hS x hx; omega)
  rw [List.length_cons]
  omega
theorem besT {n : Nat} {es : List Edge} (hn : n ≤ 12) (hS : Simp n es) (h : Int) : ∀ g ∈ h :: mates h es, (1 ≤ h ∧ h ≤ n) → 1 ≤ g ∧ g ≤ n := fun g hg hh => by
  rcases List.mem_cons.mp hg with rfl | hg
  · exact hh
  · exact ⟨(mates_rng hS g hg).1, (mates_rng hS g hg).2.1⟩
/-- the goals from which all answers are told -/
def openM (es : List Edge) (f : Nat → Nat → Option Nat) (t g : Int) : List Int := (t :: mates t es).filter fun s => (f g.toNat s.toNat).isNone
def goodM (es : List Edge) (f : Nat → Nat → Option Nat) (h t : Int) : List Int := (h :: mates h es).filter fun g => decide (g = t) || decide (openM es f t g = [])
variable {P : Program} {w : World} {K : PySem.W.Frag} {mg : Str → Option Value} {base : Heap}
/-! ### _law_good -/
@[irreducible] def spGood : Sp := fun vs H Q _ => ∃ (q a : Addr) (n : Nat) (es : List Edge) (f : Nat → Nat → Option Nat) (h t : Int), vs = [.ref q, .ref a, .int h, .int t] ∧ n ≤ 12 ∧ Simp n es ∧ Lists H q (nearM n es) ∧ TabAt H a n f ∧ (1 ≤ h ∧ h ≤ n) ∧ (1 ≤ t ∧ t ≤ n) ∧
  ∀ r H', Same H H' → H r = none → H' r = some (iL (goodM es f h t)) → Q (.ref r) H'
theorem call_good {q a : Addr} {n : Nat} {es : List Edge} {f : Nat → Nat → Option Nat} {h t : Int} {H : Hp} {Q : VK} {E : XK} (hn : n ≤ 12) (hS : Simp n es) (hq : Lists H q (nearM n es)) (ha : TabAt H a n f) (hh : 1 ≤ h ∧ h ≤ n) (ht : 1 ≤ t ∧ t ≤ n)
    (fin : ∀ r H', Same H H' → H r = none → H' r = some (iL (goodM es f h t)) → Q (.ref r) H') : spGood [.ref q, .ref a, .int h, .int t] H Q E := by
  unfold spGood
  exact ⟨q, a, n, es, f, h, t, rfl, hn, hS, hq, ha, hh, ht, fin⟩
set_option maxHeartbeats 4000000 in
theorem ok_good {f : Addr} {fd : FuncData} (F : Fun K "_law_good" "_law_good" s_law_good f fd) :
    FnOk P w K mg base CX0 1 f fd ["_law_near_here", "_law_told", "_law_here", "_law_there"] spGood := by
  refine F.ok sc_law_good (fun vs H Q E h => ?_) (fun cdv A outer s H vs Q E hr h => ?_)
  · unfold spGood at h
    obtain ⟨q, a, n, es, f, h, t, rfl, _⟩ := h
    rfl
  · have nd := sc_law_good.nd
    have hS := sc_law_good
    have hKM : KMark K := ⟨⟩
    refine' mk_body ?body ?rd
    case body =>
      show PSs _ [_, _, _] _
      wtm_at "fo ss"
    case rd =>
     unfold spGood at h
     obtain ⟨q, a, n, es, f, h, t, rfl, hn, hSi, hq, ha, hh, ht, fin⟩ := h
     obtain ⟨ns, hq1, hq2⟩ := near_rows hSi hq
     obtain ⟨ts, ha1, ha2, ha3⟩ := ha
     obtain ⟨rh, hrh, hrhl⟩ := hq2 h hh.1 hh.2
     obtain ⟨rt, hrt, hrtl⟩ := hq2 t ht.1 ht.2
     refine ⟨(Nat.le_of_ble_eq_true rfl : _ ≤ sizeLine), fun G nG => ?_⟩
     have smG : Same H (upd H G (.lst [])) := same_upd (Same.refl _) nG
     have hG0 : (upd H G (.lst [])) G = some (iL []) := upd_same
     generalize upd H G (.lst []) = H1 at *
     have hbT := besT hn hSi h
     refine ⟨_, rfl, _, rfl, Or.inl ⟨q, _, h, .ref rh, rfl, rfl, SqL.of (smG _ _ hq1), at_of (j := h.toNat) (by omega) (by rw [List.getElem?_map, hrh]; rfl), ?_⟩⟩
     refine ⟨rh, rfl, ⟨_, SqL.of (smG _ _ hrhl)⟩, ?_⟩
     refine for_list (K := K) (xs := (h :: mates h es).map V.int) (fun i σ H3 => ∃ (y5 y6 : Option V), σ = [some (.ref q), some (.ref a), some (.int h), some (.int t), some (.ref G), y5, y6, none] ∧ Same H H3 ∧ H3 G = some (iL (((h :: mates h es).take i).filter fun g => decide (g = t) || decide (openM es f t g = [])))) ?_ ?_ ?_ ?_
     · exact ⟨none, none, rfl, smG, hG0⟩
     · rintro i σ H3 _ ⟨y5, y6, rfl, sm3, _⟩
       exact SqL.of (sm3 _ _ hrhl)
     · rintro i x σ H3 hx ⟨y5, y6, rfl, sm3, hG3⟩
       obtain ⟨g, hgx, rfl⟩ := int_at hx
       have hgr := hbT g (List.mem_of_getElem? hgx) hh
       have hil : i < 13 := Nat.lt_of_lt_of_le (List.getElem?_eq_some_iff.mp hgx).1 (matesH_len hn hSi h)
       have htk : (h :: mates h es).take (i + 1) = (h :: mates h es).take i ++ [g] := by rw [List.take_add_one, hgx]; rfl
       obtain ⟨rg, hrg, hrgl⟩ := ha3 g.toNat (by omega)
       refine ⟨_, rfl, _, rfl, Or.inl ⟨q, _, t, .ref rt, rfl, rfl, SqL.of (sm3 _ _ hq1), at_of (j := t.toNat) (by omega) (by rw [List.getElem?_map, hrt]; rfl), ?_⟩⟩
       refine ⟨rt, rfl, ⟨_, SqL.of (sm3 _ _ hrtl)⟩, fun D nD => ?_⟩
       refine lc_filt (K := K) (xs := t :: mates t es) (fun s => (f g.toNat s.toNat).isNone) (SqL.of (sm3 _ _ hrtl)) nD (Nat.le_trans (matesH_len hn hSi t) (by decide)) (Nat.le_of_ble_eq_true rfl) rfl (fun _ => rfl) ?_ ?_
       · intro x hx H4 sm4 R hR
         have hxr := besT hn hSi t x hx ht
         have s4 := sm3.trans sm4
         refine ⟨_, rfl, _, rfl, Or.inl ⟨a, _, g, .ref rg, rfl, rfl, SqL.of (s4 _ _ ha1), at_of (j := g.toNat) (by omega) (by rw [List.getElem?_map, hrg]; rfl), ?_⟩⟩
         refine ⟨_, rfl, Or.inl ⟨rg, _, x, oN (f g.toNat x.toNat), rfl, rfl, SqL.of (s4 _ _ hrgl), at_of (j := x.toNat) (by omega) (rowT_get f g.toNat (by omega)), ?_⟩⟩
         refine ⟨rfl, _, rfl, ?_⟩
         rw [oN_non]
         exact hR H4 (Same.refl _)
       · intro H4 sm4 hD4
         have hD4 : H4 D = some (iL (openM es f t g)) := hD4
         have hG4 := sm4 _ _ hG3
         have hGl : ∀ j, (((h :: mates h es).take j).filter fun g => decide (g = t) || decide (openM es f t g = [])).length ≤ 13 := fun j => Nat.le_trans (List.length_filter_le ..) (by rw [List.length_take]; have := matesH_len hn hSi h; omega)
         refine ⟨_, rfl, _, rfl, Or.inl ⟨rfl, _, rfl, ?_⟩⟩
         by_cases hgt : g = t
         · refine ifT (by rw [hgt]; simp) ?_
           refine ifT rfl ?_
           refine ⟨_, rfl, .inl ⟨rfl, _, SqL.of hG4⟩, ?_⟩
           refine ⟨_, rfl, G, _, _, rfl, rfl, hG4, by rw [List.length_map]; exact Nat.lt_of_le_of_lt (hGl i) (by decide), _, _, rfl, same_upd (sm3.trans sm4) nG, ?_⟩
           rw [upd_same, htk, List.filter_append, List.filter_cons, List.filter_nil, if_pos (by rw [decide_eq_true hgt]; rfl)]
           unfold iL
           rw [List.map_append]
           rfl
         · refine ifF (decide_eq_false fun e => hgt (V.int.inj e)) ?_
           refine ⟨_, rfl, (Nat.le_of_ble_eq_true rfl : _ ≤ sizeLine), fun e ne => ?_⟩
           have smE : Same H4 (upd H4 e (.lst [])) := same_upd (Same.refl _) ne
           have hD5 := smE _ _ hD4
           have hG5 := smE _ _ hG4
           refine Or.inr ⟨_, .list [], dp_dI' (SqL.of hD5), .lst (SqL.of upd_same) .nil, shaped_ints _, rfl, _, rfl, ?_⟩
           generalize upd H4 e (.lst []) = H5 at *
           rw [show PyData.list [] = .list (([] : List Int).map .int) from rfl, eqv_ints_dec]
           by_cases ho : openM es f t g = []
           · refine ifT (decide_eq_true ho) ?_
             refine ⟨_, rfl, .inl ⟨rfl, _, SqL.of hG5⟩, ?_⟩
             refine ⟨_, rfl, G, _, _, rfl, rfl, hG5, by rw [List.length_map]; exact Nat.lt_of_le_of_lt (hGl i) (by decide), _, _, rfl, same_upd (sm3.trans (sm4.trans smE)) nG, ?_⟩
             rw [upd_same, htk, List.filter_append, List.filter_cons, List.filter_nil, if_pos (by rw [decide_eq_true ho, Bool.or_true])]
             unfold iL
             rw [List.map_append]
             rfl
           · refine ifF (decide_eq_false ho) ?_
             refine ⟨_, _, rfl, sm3.trans (sm4.trans smE), ?_⟩
             rw [hG5, htk, List.filter_append, List.filter_cons, List.filter_nil, if_neg (by rw [decide_eq_false ho, decide_eq_false hgt]; simp), List.append_nil]
     · rintro σ H3 ⟨y5, y6, rfl, sm3, hG3⟩
       rw [List.length_map, List.take_length] at hG3
       exact ⟨_, rfl, fin G H3 sm3 nG hG3⟩
end
/-! piece TVt -/
section
/-- the rows of a table, while they are made -/
structure TbAt (H0 H : Hp) (a : Addr) (rs : List Addr) (rows : List (List V)) : Prop where
  hD : H a = some (.lst (rs.map V.ref))
  len : rs.length = rows.length
  nd : rs.Nodup
  fr : ∀ r ∈ rs, H0 r = none
  ha : a ∉ rs
  at_ : ∀ (i : Nat) (r : Addr) (row : List V), rs[i]? = some r → rows[i]? = some row → H r = some (.lst row)
theorem TbAt.nil {H0 H : Hp} {a : Addr} (h : H a = some (.lst [])) : TbAt H0 H a [] [] := ⟨h, rfl, List.nodup_nil, fun r h => (nomatch h), fun h => (nomatch h), fun i r row h => by cases h⟩
theorem TbAt.same {H0 H H' : Hp} {a : Addr} {rs : List Addr} {rows : List (List V)} (h : TbAt H0 H a rs rows) (s : Same H H') : TbAt H0 H' a rs rows :=
  ⟨s _ _ h.hD, h.len, h.nd, h.fr, h.ha, fun i r row a b => s _ _ (h.at_ i r row a b)⟩
theorem TbAt.live {H0 H : Hp} {a : Addr} {rs : List Addr} {rows : List (List V)} (h : TbAt H0 H a rs rows) {r : Addr} (hr : r ∈ rs) : ∃ row, H r = some (.lst row) := by
  obtain ⟨i, hi⟩ := List.getElem?_of_mem hr
  have hl : i < rows.length := by rw [← h.len]; exact (List.getElem?_eq_some_iff.mp hi).1
  exact ⟨_, h.at_ i r _ hi (List.getElem?_eq_getElem hl)⟩
theorem TbAt.push {H0 H : Hp} {a r : Addr} {rs : List Addr} {rows : List (List V)} (h : TbAt H0 H a rs rows) {row : List V} (hr : H r = some (.lst row)) (n0 : H0 r = none) (hn : r ∉ rs) (hra : r ≠ a) :
    TbAt H0 (upd H a (.lst (rs.map V.ref ++ [V.ref r]))) a (rs ++ [r]) (rows ++ [row]) := by
  refine ⟨by rw [upd_same, List.map_append]; rfl, by rw [List.length_append, List.length_append, h.len]; rfl, ?_, ?_, ?_, ?_⟩
  · exact List.nodup_append.mpr ⟨h.nd, List.nodup_cons.mpr ⟨fun h => (nomatch h), List.nodup_nil⟩, fun x hx y hy => by
      cases List.mem_singleton.mp hy
      exact fun e => hn (e ▸ hx)⟩
  · intro x hx
    rcases List.mem_append.mp hx with hx | hx
    · exact h.fr x hx
    · cases List.mem_singleton.mp hx
      exact n0
  · intro hm
    rcases List.mem_append.mp hm with hm | hm
    · exact h.ha hm
    · exact hra (List.mem_singleton.mp hm).symm
  · intro i x y hx hy
    by_cases hi : i < rs.length
    · rw [List.getElem?_append_left hi] at hx
      rw [List.getElem?_append_left (by rw [← h.len]; exact hi)] at hy
      rw [upd_ne fun e => h.ha (by rw [← e]; exact List.mem_of_getElem? hx)]
      exact h.at_ i x y hx hy
    · rw [List.getElem?_append_right (by omega)] at hx
      rw [List.getElem?_append_right (by rw [← h.len]; omega)] at hy
      have hi2 : i = rs.length := by
        have := (List.getElem?_eq_some_iff.mp hx).1
        simp at this
        omega
      subst hi2
      rw [h.len, Nat.sub_self] at hy
      rw [Nat.sub_self] at hx
      cases hx
      cases hy
      rw [upd_ne hra]
      exact hr
theorem TbAt.set {H0 H : Hp} {a r : Addr} {rs : List Addr} {rows : List (List V)} (h : TbAt H0 H a rs rows) {i : Nat} (hi : rs[i]? = some r) (row : List V) : TbAt H0 (upd H r (.lst row)) a rs (rows.set i row) := by
  have hra : a ≠ r := fun e => h.ha (by rw [e]; exact List.mem_of_getElem? hi)
  refine ⟨by rw [upd_ne hra]; exact h.hD, by rw [List.length_set]; exact h.len, h.nd, h.fr, h.ha, fun j x y hx hy => ?_⟩
  have hil := (List.getElem?_eq_some_iff.mp hi).1
  by_cases hij : i = j
  · subst hij
    rw [hi] at hx
    cases hx
    rw [List.getElem?_set_self (by rw [← h.len]; exact hil)] at hy
    cases hy
    exact upd_same
  · rw [List.getElem?_set_ne hij] at hy
    have hne : x ≠ r := fun e => by
      subst e
      have h2 := (List.getElem?_eq_some_iff.mp hx)
      have h1 := (List.getElem?_eq_some_iff.mp hi)
      obtain ⟨a1, b1⟩ := h1
      obtain ⟨a2, b2⟩ := h2
      rcases Nat.lt_or_gt_of_ne hij with hlt | hlt
      · exact List.pairwise_iff_getElem.mp h.nd i j a1 a2 hlt (b1.trans b2.symm)
      · exact List.pairwise_iff_getElem.mp h.nd j i a2 a1 hlt (b2.trans b1.symm)
    rw [upd_ne hne]
    exact h.at_ j x y hx hy
/-- all rows of a table -/
def rowsT (n : Nat) (f : Nat → Nat → Option Nat) : List (List V) := (List.range (n + 1)).map (rowT n f)
theorem rowsT_get {n : Nat} (f : Nat → Nat → Option Nat) {i : Nat} (hi : i ≤ n) : (rowsT n f)[i]? = some (rowT n f i) := by
  unfold rowsT
  rw [List.getElem?_map, List.getElem?_range (by omega)]
  rfl
theorem TbAt.tab {H0 H : Hp} {a : Addr} {n : Nat} {rs : List Addr} {f : Nat → Nat → Option Nat} (h : TbAt H0 H a rs (rowsT n f)) : TabAt H a n f := by
  have hl : rs.length = n + 1 := by rw [h.len]; simp [rowsT]
  refine ⟨rs, h.hD, hl, fun i hi => ?_⟩
  exact ⟨rs[i], List.getElem?_eq_getElem (by omega), h.at_ i _ _ (List.getElem?_eq_getElem (by omega)) (rowsT_get f hi)⟩
def setT (f : Nat → Nat → Option Nat) (i j : Nat) (v : Option Nat) : Nat → Nat → Option Nat := fun x y => if x = i ∧ y = j then v else f x y
theorem rowsT_set {n : Nat} (f : Nat → Nat → Option Nat) {i j : Nat} (hi : i ≤ n) (hj : j ≤ n) (v : Option Nat) : (rowsT n f).set i ((rowT n f i).set j (oN v)) = rowsT n (setT f i j v) := by
  refine List.ext_getElem? fun k => ?_
  by_cases hk : k ≤ n
  · rw [rowsT_get _ hk]
    by_cases hik : i = k
    · subst hik
      rw [List.getElem?_set_self (by simp [rowsT]; omega)]
      congr 1
      refine List.ext_getElem? fun l => ?_
      by_cases hl : l ≤ n
      · rw [rowT_get _ _ hl]
        by_cases hjl : j = l
        · subst hjl
          rw [List.getElem?_set_self (by rw [rowT_len]; omega)]
          unfold setT
          rw [if_pos ⟨rfl, rfl⟩]
        · rw [List.getElem?_set_ne hjl, rowT_get _ _ hl]
          unfold setT
          rw [if_neg (fun e => hjl e.2.symm)]
      · rw [List.getElem?_eq_none (by rw [List.length_set, rowT_len]; omega), List.getElem?_eq_none (by rw [rowT_len]; omega)]
    · rw [List.getElem?_set_ne hik, rowsT_get _ hk]
      congr 1
      unfold rowT
      refine List.map_congr_left fun l _ => ?_
      unfold setT
      rw [if_neg (fun e => hik e.1.symm)]
  · rw [List.getElem?_eq_none (by rw [List.length_set]; simp [rowsT]; omega), List.getElem?_eq_none (by simp [rowsT]; omega)]
theorem rowT_none (n i : Nat) : rowT n (fun _ _ => none) i = List.replicate (n + 1) .non := by
  unfold rowT
  rw [List.map_const']
  simp [oN]

/-- what is told after so many rounds -/
def ltM (n : Nat) (es : List Edge) (m : Nat) (h t : Nat) : Option Nat := if 1 ≤ h ∧ h ≤ n ∧ 1 ≤ t ∧ t ≤ n then (List.range (m + 1)).find? fun k => wB n es k (h : Int) (t : Int) else none
theorem lt_zero {n : Nat} {es : List Edge} {h t : Nat} : ltM n es 0 h t = if 1 ≤ h ∧ h ≤ n ∧ h = t then some 0 else none := by
  unfold ltM
  by_cases hh : 1 ≤ h ∧ h ≤ n ∧ 1 ≤ t ∧ t ≤ n
  · rw [if_pos hh]
    show ([0] : List Nat).find? _ = _
    by_cases e : h = t
    · rw [if_pos ⟨hh.1, hh.2.1, e⟩, List.find?_cons_of_pos (by show wB n es 0 _ _ = true; unfold wB; exact decide_eq_true (by rw [e]))]
    · rw [if_neg (fun a => e a.2.2), List.find?_cons_of_neg (by show ¬ wB n es 0 _ _ = true; unfold wB; simp; omega)]
      rfl
  · rw [if_neg hh, if_neg (fun a => hh (by omega))]
theorem lt_eq {n : Nat} {es : List Edge} {m : Nat} {h t : Int} (hh : 1 ≤ h ∧ h ≤ n) (ht : 1 ≤ t ∧ t ≤ n) : ltM n es m h.toNat t.toNat = (List.range (m + 1)).find? fun k => wB n es k h t := by
  unfold ltM
  rw [if_pos (by omega), show ((h.toNat : Nat) : Int) = h by omega, show ((t.toNat : Nat) : Int) = t by omega]
theorem lt_none {n : Nat} {es : List Edge} (hS : Simp n es) {m : Nat} {h t : Int} (hh : 1 ≤ h ∧ h ≤ n) (ht : 1 ≤ t ∧ t ≤ n) : (ltM n es m h.toNat t.toNat).isNone = !wB n es m h t := by
  rw [lt_eq hh ht, Bool.eq_iff_iff, Option.isNone_iff_eq_none, List.find?_range_eq_none]
  constructor
  · intro a
    exact a m (by omega)
  · intro a j hj
    cases e : wB n es j h t
    · rfl
    · rw [wB_le hS hh.1 hh.2 ht.1 ht.2 (by omega : j ≤ m) e] at a
      cases a
theorem lt_next {n : Nat} {es : List Edge} (hS : Simp n es) {m : Nat} {h t : Int} (hh : 1 ≤ h ∧ h ≤ n) (ht : 1 ≤ t ∧ t ≤ n) : ltM n es (m + 1) h.toNat t.toNat = if wB n es (m + 1) h t = true ∧ wB n es m h t = false then some (m + 1) else ltM n es m h.toNat t.toNat := by
  have hn := lt_none hS (m := m) hh ht
  rw [lt_eq hh ht] at hn
  rw [lt_eq hh ht, lt_eq hh ht, List.range_succ, List.find?_append]
  cases e : (List.range (m + 1)).find? fun k => wB n es k h t with
  | some k =>
    rw [e] at hn
    rw [if_neg (fun a => by rw [a.2] at hn; cases hn)]
    rfl
  | none =>
    rw [e] at hn
    have hw : wB n es m h t = false := by revert hn; cases wB n es m h t <;> simp
    cases e2 : wB n es (m + 1) h t with
    | true => rw [if_pos ⟨rfl, hw⟩, List.find?_cons_of_pos (p := fun k => wB n es k h t) e2]; rfl
    | false => rw [if_neg (fun a => nomatch a.1), List.find?_cons_of_neg (p := fun k => wB n es k h t) (by simp only [e2]; simp)]; rfl
theorem lt_rk {n : Nat} {es : List Edge} {h t : Int} (hh : 1 ≤ h ∧ h ≤ n) (ht : 1 ≤ t ∧ t ≤ n) : ltM n es (n * n) h.toNat t.toNat = rkM n es h t := by
  rw [lt_eq hh ht]
  rfl
theorem lt_out {n : Nat} {es : List Edge} {m h t : Nat} (hh : ¬ (1 ≤ h ∧ h ≤ n ∧ 1 ≤ t ∧ t ≤ n)) : ltM n es m h t = none := if_neg hh
theorem lt_still {n : Nat} {es : List Edge} (hS : Simp n es) {m j : Nat} (s : Still n es m) (hj : m ≤ j) : ltM n es j = ltM n es m := by
  induction j with
  | zero => obtain rfl : m = 0 := by omega
            rfl
  | succ j ih =>
    by_cases hmj : m = j + 1
    · rw [hmj]
    rw [← ih (by omega)]
    funext h t
    by_cases hh : 1 ≤ h ∧ h ≤ n ∧ 1 ≤ t ∧ t ≤ n
    · have := lt_next hS (m := j) (h := (h : Int)) (t := (t : Int)) (by omega) (by omega)
      rw [show ((h : Int)).toNat = h by omega, show ((t : Int)).toNat = t by omega] at this
      rw [this, if_neg]
      rintro ⟨a, b⟩
      have := s.all (j := j) (by omega) (h : Int) (t : Int) (by omega) (by omega) (by omega) (by omega)
      rw [a, b] at this
      cases this
    · rw [lt_out hh, lt_out hh]
/-- the fresh pairs are those that are caught in one turn more -/
theorem good_none {n : Nat} {es : List Edge} (hS : Simp n es) {m : Nat} {h t : Int} (hh : 1 ≤ h ∧ h ≤ n) (ht : 1 ≤ t ∧ t ≤ n) : goodM es (ltM n es m) h t = [] ↔ wB n es (m + 1) h t = false := by
  have hb : ∀ x : Int, (1 ≤ x ∧ x ≤ n) → ∀ y, y ∈ besideM n es x ↔ y ∈ x :: mates x es := fun x hx y => besideM_mem hS hx.1 hx.2 y
  have hr : ∀ x : Int, (1 ≤ x ∧ x ≤ n) → ∀ y ∈ x :: mates x es, 1 ≤ y ∧ y ≤ n := fun x hx y hy => by
    rcases List.mem_cons.mp hy with rfl | hy
    · exact hx
    · exact ⟨(mates_rng hS y hy).1, (mates_rng hS y hy).2.1⟩
  have ho : ∀ g : Int, (1 ≤ g ∧ g ≤ n) → (openM es (ltM n es m) t g = [] ↔ ∀ s ∈ besideM n es t, wB n es m g s = true) := fun g hg => by
    unfold openM
    rw [List.filter_eq_nil_iff]
    constructor
    · intro a s hs
      have hs' := (hb t ht s).mp hs
      have := a s hs'
      rw [lt_none hS hg (hr t ht s hs')] at this
      simpa using this
    · intro a s hs
      rw [lt_none hS hg (hr t ht s hs), a s ((hb t ht s).mpr hs)]
      simp
  have hw : wB n es (m + 1) h t = false ↔ ¬ wB n es (m + 1) h t = true := by cases wB n es (m + 1) h t <;> simp
  rw [hw, wB_iff]
  unfold goodM
  rw [List.filter_eq_nil_iff]
  constructor
  · rintro a ⟨g, hg, hc⟩
    have hg' := (hb h hh g).mp hg
    refine a g hg' ?_
    rcases hc with rfl | hc
    · simp
    · rw [decide_eq_true ((ho g (hr h hh g hg')).mpr hc), Bool.or_true]
  · intro a g hg hc
    refine a ⟨g, (hb h hh g).mpr hg, ?_⟩
    rw [Bool.or_eq_true, decide_eq_true_eq, decide_eq_true_eq, ho g (hr h hh g hg)] at hc
    exact hc
end
/-! piece TVu -/
section
theorem TsAt.updL {H : Hp} {D r : Addr} {rs : List Addr} {es : List Edge} {o : HO} {row : List V} (h : TsAt H D rs es) (hr : H r = some (.lst row)) (hD : D ≠ r) : TsAt (upd H r o) D rs es :=
  ⟨(upd_ne hD).trans h.hD, h.len, fun i c e a b => by
    have := h.at_ i c e a b
    rw [upd_ne fun q => by rw [q, hr] at this; cases this]
    exact this⟩
def dT (es : List Edge) : PyData := .list (es.map fun e => .tuple [.int e.1, .int e.2])
theorem dp_tsAll {K : PySem.W.Frag} {H : Hp} : ∀ {rs : List Addr} {es : List Edge}, rs.length = es.length → (∀ (i : Nat) (r : Addr) (e : Edge), rs[i]? = some r → es[i]? = some e → H r = some (.tup [.int e.1, .int e.2])) →
    DpAll K H (rs.map V.ref) (es.map fun e => .tuple [.int e.1, .int e.2])
  | [], [], _, _ => .nil
  | [], _ :: _, h, _ => by simp at h
  | _ :: _, [], h, _ => by simp at h
  | r :: rs, e :: es, hl, h => .cons (.tup (SqT.of (h 0 r e rfl rfl)) (.cons (.int _) (.cons (.int _) .nil))) (dp_tsAll (by simpa using hl) fun i a b h1 h2 => h (i + 1) a b (by simpa using h1) (by simpa using h2))
theorem dp_dT {K : PySem.W.Frag} {H : Hp} {p : Addr} {rs : List Addr} {es : List Edge} (h : TsAt H p rs es) : Dp K H (.ref p) (dT es) := .lst (SqL.of h.hD) (dp_tsAll h.len h.at_)
theorem shaped_dT {es : List Edge} (h : ∀ e ∈ es, e.1.natAbs < 1000 ∧ e.2.natAbs < 1000) : SeqAt.shaped (dT es) = true := by
  have : DOk 2 (2 + (es.map fun e => PyData.tuple [.int e.1, .int e.2]).length * (30 + 2)) (dT es) := dok_list (fun d hd => by
    obtain ⟨x, hx, rfl⟩ := List.mem_map.mp hd
    refine (dok_tuple (n := 0) (b := 5) (fun y hy => ?_)).mono (Nat.le_refl _) (by simp)
    simp only [List.mem_cons, List.not_mem_nil, or_false] at hy
    rcases hy with rfl | rfl
    · exact dok_int (h x hx).1
    · exact dok_int (h x hx).2)
  exact this.shaped (by decide)
/-- the pairs of one more round -/
def frB (n : Nat) (es : List Edge) (m : Nat) (h t : Int) : Bool := !wB n es m h t && wB n es (m + 1) h t
def frRow (n : Nat) (es : List Edge) (m : Nat) (h : Int) (ts : List Int) : List Edge := (ts.filter (frB n es m h)).map fun t => (h, t)
def frAll (n : Nat) (es : List Edge) (m : Nat) (hs : List Int) : List Edge := hs.flatMap fun h => frRow n es m h (allM n)
theorem frRow_push (n : Nat) (es : List Edge) (m : Nat) (h t : Int) (ts : List Int) : frRow n es m h (ts ++ [t]) = if frB n es m h t = true then frRow n es m h ts ++ [(h, t)] else frRow n es m h ts := by
  unfold frRow
  rw [List.filter_append]
  by_cases e : frB n es m h t = true
  · rw [if_pos e, List.filter_cons_of_pos e, List.filter_nil, List.map_append]
    rfl
  · rw [if_neg e, List.filter_cons_of_neg e, List.filter_nil, List.append_nil]
theorem fr_mem {n : Nat} {es : List Edge} {m : Nat} {p : Edge} : p ∈ frAll n es m (allM n) ↔ (1 ≤ p.1 ∧ p.1 ≤ n) ∧ (1 ≤ p.2 ∧ p.2 ≤ n) ∧ wB n es m p.1 p.2 = false ∧ wB n es (m + 1) p.1 p.2 = true := by
  unfold frAll frRow frB
  rw [List.mem_flatMap]
  constructor
  · rintro ⟨h, hh, hp⟩
    obtain ⟨t, ht, rfl⟩ := List.mem_map.mp hp
    rw [List.mem_filter, Bool.and_eq_true] at ht
    exact ⟨allM_mem.mp hh, allM_mem.mp ht.1, by simpa using ht.2.1, ht.2.2⟩
  · rintro ⟨a, b, c, d⟩
    refine ⟨p.1, allM_mem.mpr a, List.mem_map.mpr ⟨p.2, ?_, rfl⟩⟩
    rw [List.mem_filter, c, d]
    exact ⟨allM_mem.mpr b, rfl⟩
/-- what is told anew of some pairs -/
def setAll (f : Nat → Nat → Option Nat) (l : List Edge) (v : Nat) : Nat → Nat → Option Nat := l.foldl (fun f p => setT f p.1.toNat p.2.toNat (some v)) f
theorem setAll_snoc (f : Nat → Nat → Option Nat) (l : List Edge) (v : Nat) (h t : Int) : setAll f (l ++ [(h, t)]) v = setT (setAll f l v) h.toNat t.toNat (some v) := by
  unfold setAll
  rw [List.foldl_append]
  rfl
theorem setAll_get : ∀ (l : List Edge) (f : Nat → Nat → Option Nat) (v : Nat) (x y : Nat), setAll f l v x y = if (l.any fun p => decide (p.1.toNat = x ∧ p.2.toNat = y)) = true then some v else f x y := by
  intro l
  induction l with
  | nil => intro f v x y; rfl
  | cons p l ih =>
    intro f v x y
    show setAll (setT f p.1.toNat p.2.toNat (some v)) l v x y = _
    rw [ih, List.any_cons]
    by_cases h : (l.any fun p => decide (p.1.toNat = x ∧ p.2.toNat = y)) = true
    · rw [if_pos h, if_pos (by rw [h, Bool.or_true])]
    · rw [if_neg h]
      unfold setT
      by_cases h2 : p.1.toNat = x ∧ p.2.toNat = y
      · rw [if_pos ⟨h2.1.symm, h2.2.symm⟩, if_pos (by rw [decide_eq_true h2, Bool.true_or])]
      · rw [if_neg (fun e => h2 ⟨e.1.symm, e.2.symm⟩), if_neg (by rw [decide_eq_false h2, Bool.false_or]; exact h)]
theorem setAll_fr (n : Nat) (es : List Edge) (m : Nat) : Simp n es → setAll (ltM n es m) (frAll n es m (allM n)) (m + 1) = ltM n es (m + 1) := fun hS => by
  funext x y
  rw [setAll_get]
  by_cases hin : 1 ≤ x ∧ x ≤ n ∧ 1 ≤ y ∧ y ≤ n
  · have := lt_next hS (m := m) (h := (x : Int)) (t := (y : Int)) (by omega) (by omega)
    rw [show ((x : Int)).toNat = x by omega, show ((y : Int)).toNat = y by omega] at this
    rw [this]
    by_cases hc : wB n es (m + 1) x y = true ∧ wB n es m x y = false
    · rw [if_pos hc, if_pos]
      rw [List.any_eq_true]
      exact ⟨((x : Int), (y : Int)), fr_mem.mpr ⟨by simp; omega, by simp; omega, hc.2, hc.1⟩, by simp⟩
    · rw [if_neg hc, if_neg]
      rw [List.any_eq_true]
      rintro ⟨p, hp, he⟩
      have hp := fr_mem.mp hp
      rw [decide_eq_true_eq] at he
      rw [show p.1 = (x : Int) by omega, show p.2 = (y : Int) by omega] at hp
      exact hc ⟨hp.2.2.2, hp.2.2.1⟩
  · rw [lt_out hin, lt_out hin, if_neg]
    rw [List.any_eq_true]
    rintro ⟨p, hp, he⟩
    have hp := fr_mem.mp hp
    rw [decide_eq_true_eq] at he
    omega
theorem fr_end {n : Nat} {es : List Edge} (hS : Simp n es) {m : Nat} (hm : m + 1 ≤ n * n) (e : frAll n es m (allM n) = []) : ltM n es (n * n) = ltM n es (m + 1) := by
  have st : Still n es m := fun h t h1 h2 t1 t2 => by
    cases a : wB n es m h t
    · cases b : wB n es (m + 1) h t
      · rfl
      · have : (h, t) ∈ frAll n es m (allM n) := fr_mem.mpr ⟨⟨h1, h2⟩, ⟨t1, t2⟩, a, b⟩
        rw [e] at this
        cases this
    · exact wB_mono hS m h1 h2 t1 t2 a
  rw [lt_still hS st (by omega : m ≤ n * n), lt_still hS st (by omega : m ≤ m + 1)]
/-- the first told pairs -/
def dgM (i : Nat) : Nat → Nat → Option Nat := fun x y => if 1 ≤ x ∧ x ≤ i ∧ x = y then some 0 else none
theorem dg_next (i : Nat) : setT (dgM i) (i + 1) (i + 1) (some 0) = dgM (i + 1) := by
  funext x y
  unfold setT dgM
  by_cases h : x = i + 1 ∧ y = i + 1
  · rw [if_pos h, if_pos (by omega)]
  · rw [if_neg h]
    by_cases h2 : 1 ≤ x ∧ x ≤ i ∧ x = y
    · rw [if_pos h2, if_pos (by omega)]
    · rw [if_neg h2, if_neg (by omega)]
theorem dg_last (n : Nat) (es : List Edge) : dgM n = ltM n es 0 := by
  funext x y
  rw [lt_zero]
  rfl
theorem rowsT_none (n : Nat) : rowsT n (dgM 0) = List.replicate (n + 1) (List.replicate (n + 1) .non) := by
  unfold rowsT
  have : dgM 0 = fun _ _ => none := by
    funext x y
    unfold dgM
    rw [if_neg (by omega)]
  rw [this, List.map_congr_left (g := fun _ => List.replicate (n + 1) V.non) (fun i _ => rowT_none n i), List.map_const', List.length_range]
variable {P : Program} {w : World} {K : PySem.W.Frag} {mg : Str → Option Value} {base : Heap}
/-! ### _law_table -/
/-- the told table: the fewest turns of each pair -/
@[irreducible] def spTable : Sp := fun vs H Q _ => ∃ (q : Addr) (n : Nat) (es : List Edge), vs = [.ref q, .int n] ∧ 1 ≤ n ∧ n ≤ 12 ∧ Simp n es ∧ Lists H q (nearM n es) ∧
  ∀ a H', Same H H' → H a = none → TabAt H' a n (ltM n es (n * n)) → Q (.ref a) H'
theorem call_table {q : Addr} {n : Nat} {es : List Edge} {H : Hp} {Q : VK} {E : XK} (h1 : 1 ≤ n) (hn : n ≤ 12) (hS : Simp n es) (hq : Lists H q (nearM n es))
    (fin : ∀ a H', Same H H' → H a = none → TabAt H' a n (ltM n es (n * n)) → Q (.ref a) H') : spTable [.ref q, .int n] H Q E := by
  unfold spTable
  exact ⟨q, n, es, rfl, h1, hn, hS, hq, fin⟩
set_option maxHeartbeats 8000000 in
theorem ok_table {f : Addr} {fd : FuncData} (F : Fun K "_law_table" "_law_table" s_law_table f fd) (mr : mg "range" = none) (ml : mg "list" = none) (C : Cal P w K mg base "_law_good" 1 ["_law_near_here", "_law_told", "_law_here", "_law_there"] spGood) :
    FnOk P w K mg base CX0 2 f fd ["_law_near_here", "_law_size"] spTable := by
  refine F.ok sc_law_table (fun vs H Q E h => ?_) (fun cdv A outer s H vs Q E hr h => ?_)
  · unfold spTable at h
    obtain ⟨q, n, es, rfl, _⟩ := h
    rfl
  · have nd := sc_law_table.nd
    have hS := sc_law_table
    have hKM : KMark K := ⟨⟩
    refine' mk_body ?body ?rd
    case body =>
      show PSs _ [_, _, _, _, _] _
      wtm_at "fo ss"
    case rd =>
     unfold spTable at h
     obtain ⟨q, n, es, rfl, h1, hn, hSi, hq, fin⟩ := h
     wtm_at "fo r"
     intro a na
     rw [rgV_all n]
     have smA : Same H (upd H a (.lst ((allM n).map V.int))) := same_upd (Same.refl _) na
     have hA0 : (upd H a (.lst ((allM n).map V.int))) a = some (iL (allM n)) := upd_same
     generalize upd H a (.lst ((allM n).map V.int)) = H1 at *
     have hN : ((n : Int) + 1).toNat = n + 1 := by omega
     refine ⟨_, rfl, Or.inl ⟨_, _, rfl, rfl, (n : Int) + 1, rfl, by omega, by omega, fun D nD => ?_⟩⟩
     refine lc_range (lo := 0) (fun i H2 => i ≤ n + 1 ∧ Same H1 H2 ∧ ∃ rs, TbAt H1 H2 D rs (List.replicate i (List.replicate (n + 1) .non))) ?_ ?_ ?_
     · exact ⟨Nat.zero_le _, same_upd (Same.refl H1) nD, [], TbAt.nil upd_same⟩
     · rintro i H2 hi ⟨hin, sm, rs, L⟩
       rw [hN] at hi
       refine ⟨rfl, (Nat.le_of_ble_eq_true rfl : _ ≤ sizeLine), fun c nc => ?_⟩
       have smc : Same H2 (upd H2 c (.lst [.non])) := same_upd (Same.refl _) nc
       have hc : (upd H2 c (.lst [.non])) c = some (.lst [.non]) := upd_same
       generalize upd H2 c (.lst [.non]) = H3 at *
       refine ⟨_, rfl, Or.inl ⟨_, _, rfl, rfl, Or.inr ⟨c, (n : Int) + 1, [.non], rfl, rfl, hc, by omega, by omega, Nat.le_trans (m := 100) (by simp; omega) (by decide), fun r nr => ?_⟩⟩⟩
       have smr : Same H3 (upd H3 r (.lst (List.replicate ((n : Int) + 1).toNat [V.non]).flatten)) := same_upd (Same.refl _) nr
       have hr4 : (upd H3 r (.lst (List.replicate ((n : Int) + 1).toNat [V.non]).flatten)) r = some (.lst (List.replicate (n + 1) .non)) := by rw [upd_same, hN, List.flatten_replicate_singleton]
       have hrs : r ∉ rs := fun hm => by
         obtain ⟨row, hrow⟩ := (L.same smc).live hm
         rw [nr] at hrow
         cases hrow
       have hrD : r ≠ D := fun e => by
         have := (L.same smc).hD
         rw [← e, nr] at this
         cases this
       generalize upd H3 r (.lst (List.replicate ((n : Int) + 1).toNat [V.non]).flatten) = H4 at *
       have L4 := L.same (smc.trans smr)
       have hl := L.len
       rw [List.length_replicate] at hl
       refine ⟨_, L4.hD, ?_, by omega, same_upd (sm.trans (smc.trans smr)) nD, rs ++ [r], ?_⟩
       · rw [List.length_map, hl]
         exact Nat.lt_of_le_of_lt (m := 100) (by omega) (by decide)
       · rw [List.replicate_succ']
         exact L4.push hr4 (sm.free (smc.free nr)) hrs hrD
     · rintro H2 ⟨hin, sm2, rs, L0⟩
       rw [hN] at L0
       rw [show List.replicate (n + 1) (List.replicate (n + 1) V.non) = rowsT n (dgM 0) from (rowsT_none n).symm] at L0
       have hA2 := sm2 _ _ hA0
       have hrl : rs.length = n + 1 := by rw [L0.len]; simp [rowsT]
       refine ⟨_, rfl, a, rfl, ⟨_, SqL.of hA2⟩, ?_⟩
       refine for_list (K := K) (xs := (allM n).map V.int) (fun i σ G => ∃ (y5 : Option V), σ = [some (.ref q), some (.int n), some (.ref a), some (.ref D), none, y5, none, none, none] ∧ Same H1 G ∧ TbAt H1 G D rs (rowsT n (dgM i))) ?_ ?_ ?_ ?_
       · exact ⟨none, rfl, sm2, L0⟩
       · rintro i σ G _ ⟨y5, rfl, smG, _⟩
         exact SqL.of (smG _ _ hA0)
       · rintro i x σ G hx ⟨y5, rfl, smG, L⟩
         obtain ⟨z, hz, rfl⟩ := int_at hx
         obtain ⟨hi, rfl⟩ : i < n ∧ z = (i : Int) + 1 := by
           unfold allM at hz
           rw [List.getElem?_map] at hz
           by_cases hi : i < n
           · rw [List.getElem?_range hi] at hz
             exact ⟨hi, (Option.some.inj hz).symm⟩
           · rw [List.getElem?_eq_none (by simp; omega)] at hz
             cases hz
         have hri : rs[i + 1]? = some rs[i + 1] := List.getElem?_eq_getElem (by omega)
         have hrow := L.at_ _ _ _ hri (rowsT_get (dgM i) (by omega))
         refine ⟨_, rfl, _, rfl, Or.inl ⟨D, _, (i : Int) + 1, .ref rs[i + 1], rfl, rfl, SqL.of L.hD, at_of (j := i + 1) (by omega) (by rw [List.getElem?_map, hri]; rfl), ?_⟩⟩
         refine ⟨_, rfl, _, _, _, i + 1, rfl, rfl, hrow, by rw [rowT_len]; exact ix_n (j := i + 1) (by omega), _, rfl, same_upd smG (L0.fr _ (List.mem_of_getElem? hri)), ?_⟩
         have := L.set hri ((rowT n (dgM i) (i + 1)).set (i + 1) (oN (some 0)))
         rw [rowsT_set (dgM i) (by omega) (by omega) (some 0), dg_next] at this
         exact this
       · rintro σ G ⟨y5, rfl, smG, L⟩
         rw [List.length_map, all_len, show dgM n = ltM n es 0 from dg_last n es] at L
         have hNN : ((n : Int) * (n : Int)) = ((n * n : Nat) : Int) := by rw [Int.natCast_mul]
         have hsq : n * n ≤ 144 := Nat.mul_le_mul hn hn
         refine ⟨_, rfl, _, rfl, Or.inl ⟨_, _, rfl, rfl, Or.inl ⟨by omega, by omega⟩, Or.inl ⟨_, _, rfl, rfl, _, _, rfl, ⟨by decide, by decide, by rw [hNN]; omega, by rw [hNN]; omega⟩, ?_⟩⟩⟩
         rw [hNN]
         have hNr : (((n * n : Nat) : Int) + 1 - 1).toNat = n * n := by omega
         refine for_range (lo := 1) (n := (((n * n : Nat) : Int) + 1 - 1).toNat) (fun i σ G2 => ∃ (y5 y6 y7 y8 : Option V), σ = [some (.ref q), some (.int n), some (.ref a), some (.ref D), none, y5, y6, y7, y8] ∧ Same H1 G2 ∧ TbAt H1 G2 D rs (rowsT n (ltM n es i))) ?_ ?_ ?_
         · exact ⟨y5, none, none, none, rfl, smG, L⟩
         · clear L
           rintro i σ G2 hi ⟨y5, y6, y7, y8, rfl, smG2, L⟩
           rw [hNr] at hi
           refine ⟨(Nat.le_of_ble_eq_true rfl : _ ≤ sizeLine), fun F0 nF => ?_⟩
           have smF : Same G2 (upd G2 F0 (.lst [])) := same_upd (Same.refl _) nF
           have hF0 : TsAt (upd G2 F0 (.lst [])) F0 [] [] := TsAt.nil upd_same
           generalize upd G2 F0 (.lst []) = G3 at *
           have hA2 := smG2 _ _ hA0
           refine ⟨_, rfl, a, rfl, ⟨_, SqL.of (smF _ _ hA2)⟩, ?_⟩
           refine for_list (K := K) (xs := (allM n).map V.int) (fun j σ X => ∃ (y5 y8 : Option V) (ts : List Addr), σ = [some (.ref q), some (.int n), some (.ref a), some (.ref D), none, y5, some (.int (1 + (i : Int))), some (.ref F0), y8] ∧ Same G2 X ∧ TsAt X F0 ts (frAll n es i ((allM n).take j)) ∧ ts.length ≤ 12 * j) ?_ ?_ ?_ ?_
           · exact ⟨y5, y8, [], rfl, smF, hF0, Nat.zero_le _⟩
           · rintro j σ X _ ⟨y5, y8, ts, rfl, smX, _⟩
             exact SqL.of (smX _ _ hA2)
           · rintro j x σ X hx ⟨y5, y8, ts, rfl, smX, hT, hlt⟩
             obtain ⟨h, hz, rfl⟩ := int_at hx
             have hhr := allM_mem.mp (List.mem_of_getElem? hz)
             have hjn : j < n := by have := (List.getElem?_eq_some_iff.mp hz).1; rwa [all_len] at this
             have htk : (allM n).take (j + 1) = (allM n).take j ++ [h] := by rw [List.take_add_one, hz]; rfl
             refine ⟨_, rfl, a, rfl, ⟨_, SqL.of (smX _ _ hA2)⟩, ?_⟩
             refine for_list (K := K) (xs := (allM n).map V.int) (fun k σ Y => ∃ (y8 : Option V) (ts : List Addr), σ = [some (.ref q), some (.int n), some (.ref a), some (.ref D), none, some (.int h), some (.int (1 + (i : Int))), some (.ref F0), y8] ∧ Same G2 Y ∧ TsAt Y F0 ts (frAll n es i ((allM n).take j) ++ frRow n es i h ((allM n).take k)) ∧ ts.length ≤ 12 * j + k) ?_ ?_ ?_ ?_
             · exact ⟨y8, ts, rfl, smX, by simpa [frRow] using hT, by omega⟩
             · rintro k σ Y _ ⟨y8, ts, rfl, smY, _⟩
               exact SqL.of (smY _ _ hA2)
             · rintro k x σ Y hx ⟨y8, ts, rfl, smY, hTY, hlY⟩
               obtain ⟨t, hzt, rfl⟩ := int_at hx
               have htr := allM_mem.mp (List.mem_of_getElem? hzt)
               have hkn : k < n := by have := (List.getElem?_eq_some_iff.mp hzt).1; rwa [all_len] at this
               have htk2 : (allM n).take (k + 1) = (allM n).take k ++ [t] := by rw [List.take_add_one, hzt]; rfl
               have LY := L.same smY
               have hri : rs[h.toNat]? = some rs[h.toNat] := List.getElem?_eq_getElem (by omega)
               have hrow := LY.at_ _ _ _ hri (rowsT_get (ltM n es i) (by omega))
               refine ⟨_, rfl, _, rfl, Or.inl ⟨D, _, h, .ref rs[h.toNat], rfl, rfl, SqL.of LY.hD, at_of (j := h.toNat) (by omega) (by rw [List.getElem?_map, hri]; rfl), ?_⟩⟩
               refine ⟨_, rfl, Or.inl ⟨rs[h.toNat], _, t, oN (ltM n es i h.toNat t.toNat), rfl, rfl, SqL.of hrow, at_of (j := t.toNat) (by omega) (rowT_get _ _ (by omega)), ?_⟩⟩
               refine ⟨rfl, _, rfl, ?_⟩
               rw [oN_non, lt_none hSi hhr htr]
               have out : ∀ {y8' Y'}, frB n es i h t = false → Same G2 Y' → TsAt Y' F0 ts (frAll n es i ((allM n).take j) ++ frRow n es i h ((allM n).take k)) → ∃ (y8 : Option V) (ts : List Addr), ([some (.ref q), some (.int n), some (.ref a), some (.ref D), none, some (.int h), some (.int (1 + (i : Int))), some (.ref F0), y8'] : Sl) = [some (.ref q), some (.int n), some (.ref a), some (.ref D), none, some (.int h), some (.int (1 + (i : Int))), some (.ref F0), y8] ∧ Same G2 Y' ∧ TsAt Y' F0 ts (frAll n es i ((allM n).take j) ++ frRow n es i h ((allM n).take (k + 1))) ∧ ts.length ≤ 12 * j + (k + 1) := fun {y8' Y'} e s T =>
                 ⟨y8', ts, rfl, s, by rw [htk2, frRow_push, if_neg (by rw [e]; simp)]; exact T, by omega⟩
               by_cases hw : wB n es i h t = true
               · refine ifF (by rw [hw]; rfl) ?_
                 refine ifF rfl ?_
                 exact out (by unfold frB; rw [hw]; rfl) smY hTY
               have hw : wB n es i h t = false := by revert hw; cases wB n es i h t <;> simp
               refine ifT (by rw [hw]; rfl) ?_
               refine ⟨_, rfl, _, rfl, _, rfl, _, rfl, ?_⟩
               refine call_good hn hSi ((((hq.same smA).same smG2).same smY)) LY.tab hhr htr (fun r Y2 sm2 nr hr2 => ?_)
               refine ⟨(Nat.le_of_ble_eq_true rfl : _ ≤ sizeLine), fun e ne => ?_⟩
               have sme : Same Y2 (upd Y2 e (.lst [])) := same_upd (Same.refl _) ne
               have hrY := sme _ _ hr2
               have hTe := (hTY.same sm2).same sme
               refine Or.inr ⟨_, .list [], dp_dI' (SqL.of hrY), .lst (SqL.of upd_same) .nil, shaped_ints _, rfl, _, rfl, ?_⟩
               have sY3 := smY.trans (sm2.trans sme)
               generalize upd Y2 e (.lst []) = Y3 at *
               rw [show PyData.list [] = .list (([] : List Int).map .int) from rfl, eqv_ints_dec]
               by_cases hg : goodM es (ltM n es i) h t = []
               · refine ifF (by rw [decide_eq_true hg]; rfl) ?_
                 exact out (by unfold frB; rw [hw, (good_none hSi hhr htr).mp hg]; rfl) sY3 hTe
               have hw2 : wB n es (i + 1) h t = true := by
                 cases e2 : wB n es (i + 1) h t
                 · exact absurd ((good_none hSi hhr htr).mpr e2) hg
                 · rfl
               refine ifT (by rw [decide_eq_false hg]; rfl) ?_
               refine ⟨_, rfl, .inl ⟨rfl, _, SqL.of hTe.hD⟩, ?_⟩
               refine ⟨_, rfl, _, rfl, (Nat.le_of_ble_eq_true rfl : _ ≤ sizeLine), fun c nc => ?_⟩
               refine ⟨F0, _, _, rfl, rfl, (upd_ne (ne_of_none hTe.hD nc)).trans hTe.hD, ?_, ?_⟩
               · rw [List.length_map]
                 exact Nat.lt_of_le_of_lt (m := 200) (by omega) (by decide)
               have hT6 := hTe.push nc (h, t)
               refine ⟨_, ts ++ [c], rfl, same_upd (same_upd sY3 (sY3.free nc)) nF, ?_, by rw [List.length_append, List.length_singleton]; omega⟩
               rw [htk2, frRow_push, if_pos (by unfold frB; rw [hw, hw2]; rfl), ← List.append_assoc]
               exact hT6
             · rintro σ Y ⟨y8, ts, rfl, smY, hTY, hlY⟩
               rw [List.length_map, List.take_length] at hTY
               rw [List.length_map, all_len] at hlY
               refine ⟨_, _, ts, rfl, smY, ?_, by omega⟩
               rw [htk]
               unfold frAll at hTY ⊢
               rw [List.flatMap_append, List.flatMap_singleton]
               exact hTY
           · rintro σ X ⟨y5, y8, ts, rfl, smX, hT, hlt⟩
             rw [List.length_map, List.take_length] at hT
             rw [List.length_map, all_len] at hlt
             have hpr : ∀ p ∈ frAll n es i (allM n), (1 ≤ p.1 ∧ p.1 ≤ n) ∧ 1 ≤ p.2 ∧ p.2 ≤ n := fun p hp => ⟨(fr_mem.mp hp).1, (fr_mem.mp hp).2.1⟩
             have hlst := setAll_fr n es i hSi
             have hfe : frAll n es i (allM n) = [] → ltM n es (n * n) = ltM n es (i + 1) := fun e => fr_end hSi (by omega) e
             generalize frAll n es i (allM n) = ps at *
             refine ⟨_, rfl, F0, rfl, ⟨_, SqL.of hT.hD⟩, ?_⟩
             refine for_list (K := K) (xs := ts.map V.ref) (fun k σ Z => ∃ (y5 y8 : Option V), σ = [some (.ref q), some (.int n), some (.ref a), some (.ref D), none, y5, some (.int (1 + (i : Int))), some (.ref F0), y8] ∧ Same H1 Z ∧ TbAt H1 Z D rs (rowsT n (setAll (ltM n es i) (ps.take k) (i + 1))) ∧ TsAt Z F0 ts ps ∧ Z F0 = X F0) ?_ ?_ ?_ ?_
             · exact ⟨y5, y8, rfl, smG2.trans smX, L.same smX, hT, rfl⟩
             · rintro k σ Z _ ⟨y5, y8, rfl, smZ, LZ, hTZ, _⟩
               exact SqL.of hTZ.hD
             · rintro k x σ Z hx ⟨y5, y8, rfl, smZ, LZ, hTZ, hFZ⟩
               obtain ⟨c, hc, rfl⟩ := ref_at hx
               have hkl : k < ps.length := by rw [← hT.len]; exact (List.getElem?_eq_some_iff.mp hc).1
               have hpe : ps[k]? = some ps[k] := List.getElem?_eq_getElem hkl
               have hce := hTZ.at_ _ _ _ hc hpe
               have hrg := hpr _ (List.mem_of_getElem? hpe)
               have htk : ps.take (k + 1) = ps.take k ++ [ps[k]] := by rw [List.take_add_one, hpe]; rfl
               rw [htk]
               generalize ps[k] = e at *
               obtain ⟨h, t⟩ := e
               simp only at hce hrg
               obtain ⟨hhr, htr⟩ := hrg
               have hri : rs[h.toNat]? = some rs[h.toNat] := List.getElem?_eq_getElem (by omega)
               have hrow := LZ.at_ _ _ _ hri (rowsT_get _ (by omega))
               refine Or.inl ⟨c, [.int h, .int t], rfl, SqT.of hce, rfl, .int h, [.int t], rfl, .int t, [], rfl, rfl, ?_⟩
               refine ⟨_, rfl, _, rfl, _, rfl, Or.inl ⟨D, _, h, .ref rs[h.toNat], rfl, rfl, SqL.of LZ.hD, at_of (j := h.toNat) (by omega) (by rw [List.getElem?_map, hri]; rfl), ?_⟩⟩
               have hF0r : F0 ≠ rs[h.toNat] := fun e => by
                 obtain ⟨row, hrow2⟩ := L.live (List.mem_of_getElem? hri)
                 rw [← e, nF] at hrow2
                 cases hrow2
               refine ⟨_, rfl, _, _, _, t.toNat, rfl, rfl, hrow, by rw [rowT_len]; have := ix_n (j := t.toNat) (n := n + 1) (by omega); rwa [show ((t.toNat : Nat) : Int) = t by omega] at this, _, _, rfl, same_upd smZ (L.fr _ (List.mem_of_getElem? hri)), ?_, hTZ.updL hrow hF0r, (upd_ne hF0r).trans hFZ⟩
               rw [show V.int (1 + (i : Int)) = oN (some (i + 1)) by unfold oN; congr 1; omega]
               have := LZ.set hri ((rowT n (setAll (ltM n es i) (ps.take k) (i + 1)) h.toNat).set t.toNat (oN (some (i + 1))))
               rw [rowsT_set _ (by omega) (by omega) (some (i + 1))] at this
               rw [setAll_snoc]
               exact this
             · rintro σ Z ⟨y5, y8, rfl, smZ, LZ, hTZ, _⟩
               rw [List.length_map, show ps.take ts.length = ps from List.take_of_length_le (by rw [hTZ.len]; exact Nat.le_refl _), hlst] at LZ
               refine ⟨_, rfl, (Nat.le_of_ble_eq_true rfl : _ ≤ sizeLine), fun e ne => ?_⟩
               have sme : Same Z (upd Z e (.lst [])) := same_upd (Same.refl _) ne
               have LZ2 := LZ.same sme
               have hTZ2 := hTZ.same sme
               have smZ2 := smZ.trans sme
               refine Or.inr ⟨_, .list [], dp_dT hTZ2, .lst (SqL.of upd_same) .nil, shaped_dT (fun p hp => ⟨by have := (hpr p hp).1; omega, by have := (hpr p hp).2; omega⟩), rfl, _, rfl, ?_⟩
               generalize upd Z e (.lst []) = Z2 at *
               by_cases hps : ps = []
               · refine ifT (by rw [hps]; rfl) ?_
                 refine ⟨_, rfl, fin D Z2 (smA.trans smZ2) (smA.free nD) ?_⟩
                 rw [hfe hps]
                 exact LZ2.tab
               · refine ifF (by unfold dT; rw [eqv_list_nil]; cases ps with | nil => exact absurd rfl hps | cons x y => rfl) ?_
                 exact ⟨_, _, _, _, rfl, smZ2, LZ2⟩
         · rintro σ G2 ⟨y5, y6, y7, y8, rfl, smG2, L⟩
           rw [hNr] at L
           exact ⟨_, rfl, fin D G2 (smA.trans smG2) (smA.free nD) L.tab⟩
end
/-! piece XR -/
section
theorem call_maxK {X : Cx} {K : PySem.W.Frag} (_ : KMark K) (h : X.K = K) (hc : X.calm = true) : CallR X (.builtin "max") (rMax K) := h ▸ cr_max hc
/-- repr of None, of small ints, of data -/
def cReprI (K : PySem.W.Frag) : List V → Hp → VK → Prop := fun xs H Q => (∃ i : Int, xs = [.int i] ∧ i.natAbs < 1000 ∧ Q (.str (toString i)) H) ∨ cReprV K xs H Q
theorem call_reprIK {X : Cx} {K : PySem.W.Frag} (m : KMark K) (h : X.K = K) (hgd : X.A.guards = some []) (hu : X.A.units + 64 < cLine) : CallR X (.builtin "repr") (cReprI K) := by
  intro pins s σ H xs us Q I r hh
  rcases hh with ⟨i, rfl, hi, q⟩ | hh
  · obtain ⟨u, rfl, ⟨t, rfl⟩⟩ := vals1 r
    have hb : i.natAbs.log2 < 1920 := Nat.lt_of_le_of_lt (Nat.log2_le_self _) (by omega)
    refine PySem.P.repr_of_int hb ?_
    exact ⟨.str _, H, I.tok _, ⟨_, rfl⟩, q⟩
  · exact call_reprVK m h hgd hu pins s σ H xs us Q I r hh
def oS : Option Nat → Str
  | some k => (toString (k : Int) : String)
  | none => "None"
theorem repr_oN {K : PySem.W.Frag} {H : Hp} {Q : VK} (o : Option Nat) (h : ∀ k, o = some k → k < 1000) (q : Q (.str (oS o)) H) : cReprI K [oN o] H Q := by
  cases o with
  | none => exact Or.inr (Or.inl ⟨rfl, q⟩)
  | some k => exact Or.inl ⟨(k : Int), rfl, by have := h k rfl; omega, q⟩
theorem rkV_oN (n : Nat) (es : List Edge) (h t : Int) : rkV n es h t = oN (rkM n es h t) := by
  unfold rkV
  cases rkM n es h t <;> rfl
end
/-! piece XS -/
section
/-- a list, alone or written, whose object is known -/
def SqLw (K : PySem.W.Frag) (H : Hp) (a : Addr) (xs : List V) : Prop := Rd H a (.lst xs) ∨ ∃ (vs : List Value) (n : Nat), K.lookup a = some { cls := .type "list", data := .seq vs.toArray n } ∧ xs.length ≤ sizeLine ∧ Vals xs vs
theorem SqLw.seq {K : PySem.W.Frag} {H : Hp} {a : Addr} {xs : List V} (h : SqLw K H a xs) : SqL K H a xs := by
  rcases h with h | ⟨vs, n, hk, hz, r⟩
  · exact .inl h
  · exact .inr ⟨_, vs.toArray, n, hk, rfl, rfl, rfl, by rw [List.size_toArray, ← r.length]; exact hz, by simpa using r⟩
theorem SqLw.same {K : PySem.W.Frag} {H H' : Hp} {a : Addr} {xs : List V} (h : SqLw K H a xs) (s : Same H H') : SqLw K H' a xs := by
  rcases h with (h | ⟨o, h⟩) | h
  · exact .inl (.inl (s _ _ h))
  · exact .inl (.inr ⟨o, s _ _ h⟩)
  · exact .inr h
section
variable {X : Cx} {K : PySem.W.Frag}
/-- list + list, the first one written too -/
def rCatK (K : PySem.W.Frag) : R2 := fun x y H Q => ∃ l b xs zs, x = .ref l ∧ y = .ref b ∧ SqLw K H l xs ∧ H b = some (.lst zs) ∧ xs.length + zs.length ≤ sizeLine ∧ ∀ p, H p = none → Q (.ref p) (upd H p (.lst (xs ++ zs)))
theorem op_catK (_ : KMark K) (h : X.K = K) : OpR X (binaryOp .Add) (rCatK K) := by
  subst h
  intro pins s σ H x y v u Q I rx ry h
  obtain ⟨l, b, xs, zs, rfl, rfl, hH, hB, hz, q⟩ := h
  cases rx
  cases ry
  obtain ⟨its, n, r, e⟩ : ∃ (its : List Value) (n : Nat), Vals xs its ∧ s.heap.get? l = some { cls := .type "list", data := .seq its.toArray n } := by
    rcases hH with hH | ⟨vs, n, hk, _, r⟩
    · obtain ⟨z, its, n, r, e⟩ := hH.ok I.hok
      exact ⟨its, n, r, e⟩
    · exact ⟨vs, n, r, I.kIn l _ hk⟩
  obtain ⟨z2, its2, n2, r2, hl2, e2⟩ := I.lstM hB
  have hl := r.length
  refine PySem.P.add_list e e2 ?_ (by rw [List.size_toArray, List.size_toArray]; omega)
  have ea : its.toArray ++ its2.toArray = (its ++ its2).toArray := by simp
  rw [ea]
  exact ⟨.ref _, _, I.lnew (t' := s.toks) (r.append r2) (by rw [List.length_append]; omega), rfl, q _ I.fresh⟩
def rAddK (K : PySem.W.Frag) : R2 := fun x y H Q => rAddB x y H Q ∨ rCatK K x y H Q
theorem op_addK (m : KMark K) (h : X.K = K) : OpR X (binaryOp .Add) (rAddK K) := opAddB.or (op_catK m h)
end
theorem law_callW {P : Program} {w : World} {K : PySem.W.Frag} {mg mb : Str → Option Value} {k : Nat} {fa a : Addr} {fd : FuncData} {x : Str} {sp : Sp} {s1 : Shared}
    {vs : List Value} {ns : List Int} (inK : K.In s1.heap) (gn : s1.heap.Ns mainGlobals mg) (bn : s1.heap.Ns builtinsNs mb)
    (bb : ∀ x : Str, x ≠ "__name__" → mb x = bootBuiltins x) (nl : s1.heap.NoLimit) (g0 : s1.gens = #[])
    (ha : s1.heap.get? a = some { cls := .type "list", data := .seq vs.toArray }) (hi : IntsAre vs ns) (hl : ns.length ≤ sizeLine) (hr : Room k callerA)
    (F : ∀ base : Heap, K.In base → base.Ns mainGlobals mg → FnG P w K mg base CX0 k fa fd [x] sp)
    (bnd : ∀ (s : Shared) (u : Value), BindsTo s fd ⟨[u], []⟩ [(x, u)])
    (hsp : ∀ H : Hp, Only H → SqLw K H a (ns.map V.int) → sp [.ref a] H (fun v _ => v = .bl true) fun _ _ _ => False) :
    codeAny (model P w) callerA (.call (.ref fa) ⟨[.ref a], []⟩) (fun r s' => r = .ok (.ret (.bool true)) ∧ OldK s1.heap s'.heap ∧ s'.os = s1.os ∧ AllBare s'.gens) s1 := by
  have rel := vals_ints hi
  have vlen := hi.length
  have main : ∀ H : Hp, Only H → SqLw K H a (ns.map V.int) → HOk P w H s1.heap → (∀ b u, H b = some u → b = a ∧ K.lookup a = none) →
      codeAny (model P w) callerA (.call (.ref fa) ⟨[.ref a], []⟩) (fun r s' => r = .ok (.ret (.bool true)) ∧ OldK s1.heap s'.heap ∧ s'.os = s1.os ∧ AllBare s'.gens) s1 := by
    intro H only hS hok own
    have undict : ∀ {b : Addr} {o : Obj} {es : Array DictEntry} {ep : Nat}, s1.heap.get? b = some o → o.data = .dict es ep → H b = none := by
      intro b o es ep e d
      match q : H b with
      | none => rfl
      | some u =>
        obtain ⟨rfl, _⟩ := own b u q
        rw [ha] at e
        cases e
        have d' : Data.seq vs.toArray _ = Data.dict es ep := d
        cases d'
    have nsOf : ∀ {b : Addr} {m : Str → Option Value}, s1.heap.Ns b m → (hidT s1.heap H).Ns b m :=
      fun ⟨o, es, ep, e, d, r⟩ => ⟨o, es, ep, hidT_get e (undict e d), d, r⟩
    have kIn : K.In (hidT s1.heap H) := by
      intro b o e
      refine hidT_get (inK b o e) ?_
      match q : H b with
      | none => rfl
      | some u =>
        obtain ⟨rfl, hk⟩ := own b u q
        rw [hk] at e
        cases e
    have modOk : Mod K mg (hidT s1.heap H) :=
      ⟨kIn, nsOf gn, ⟨mb, nsOf bn, bb⟩, let ⟨mc, h1, h2⟩ := nl; ⟨mc, nsOf h1, h2⟩⟩
    have env0 : Env0 P w K mg (hidT s1.heap H) callerA [] s1 H :=
      ⟨rfl, modOk, fun b o e => of_hidT e, Nat.le_of_eq (hidT_size _ _), trivial, fun b hb => absurd (show b ∈ ([] : List Addr) from hb) (by simp), hok, .of_eq g0⟩
    refine codeAny_mono ((F _ kIn (nsOf gn)).go callerA [] s1 H ⟨[.ref a], []⟩ [.ref a] [.ref a] _ _ hr rfl env0 (bnd s1 (.ref a)) (.cons rfl .nil) (hsp H only hS)) ?_
    intro r s' h
    match r, h with
    | .error e, h => exact h.elim
    | .ok .next, h => exact h.elim
    | .ok .brk, h => exact h.elim
    | .ok .cont, h => exact h.elim
    | .ok (.ret u), h =>
      obtain ⟨v, H', os, bare, un, hok', r', q⟩ := h
      obtain rfl : v = .bl true := q
      obtain rfl : u = Value.bool true := r'
      refine ⟨rfl, OldK.of_keep ?_, os, bare⟩
      intro b o e
      match q : H b with
      | none => exact un.keep b o e q (by intro z; exact absurd (show b ∈ ([] : List Addr) from z) (by simp)) (by simp)
      | some u =>
        rcases only b with z | ⟨ob, xs, z⟩
        · rw [q] at z; cases z
        · have e1 := (hok b _ z).1
          have e2 := (hok' b _ (un.frzs b ob _ z)).1
          rw [e] at e1
          cases e1
          exact e2
  match hk : K.lookup a with
  | some o =>
    have e := inK a o hk
    rw [ha] at e
    cases e
    refine main (fun _ => none) (fun _ => .inl rfl) (.inr ⟨vs, _, hk, by rw [List.length_map]; exact hl, rel⟩) ?_ ?_
    · intro b u z
      have z' : (none : Option HO) = some u := z
      cases z'
    · intro b u z
      have z' : (none : Option HO) = some u := z
      cases z'
  | none =>
    let ob : Obj := { cls := .type "list", data := .seq vs.toArray }
    have at_a : ∀ {b : Addr} {u : HO}, (if b = a then some (HO.frz ob (.lst (ns.map V.int))) else none) = some u → b = a ∧ u = .frz ob (.lst (ns.map V.int)) := by
      intro b u z
      by_cases hb : b = a
      · rw [if_pos hb] at z
        exact ⟨hb, (Option.some.inj z).symm⟩
      · rw [if_neg hb] at z
        cases z
    refine main (fun b => if b = a then some (.frz ob (.lst (ns.map V.int))) else none) ?_ (.inl (.inr ⟨ob, if_pos rfl⟩)) ?_ ?_
    · intro b
      by_cases hb : b = a
      · exact .inr ⟨_, _, if_pos hb⟩
      · exact .inl (if_neg hb)
    · intro b u z
      obtain ⟨rfl, rfl⟩ := at_a z
      exact ⟨ha, by rw [List.length_map]; exact hl, vs, _, rel, ha⟩
    · intro b u z
      exact ⟨(at_a z).1, hk⟩

theorem walkW {l : PySem.W.OpenLaw} {n k : Nat} {q : Program} {loose : List Str} {XP : (Str → Option Value) → Heap → Prop} {YP : World → Heap → Prop} {d : DefRec} {K : Params → PySem.W.Frag} {sp : World → Sp} {x : Str}
    (hn : l.most = some n) (hn2 : n ≤ sizeLine) (hdf : d.params.defaults = []) (hr : Room k callerA)
    (hY : ∀ (w : World) (h : Heap), YP w h → (K w.params).In h)
    (F : ∀ (w : World) (mg : Str → Option Value) (fa : Addr) (h : Heap), (K w.params).In h → h.Ns mainGlobals mg → mg d.name = some (.ref fa) →
      ∃ fd : FuncData, (∀ (s : Shared) (u : Value), BindsTo s fd ⟨[u], []⟩ [(x, u)]) ∧
        ∀ base : Heap, (K w.params).In base → base.Ns mainGlobals mg → FnG l.prog w (K w.params) mg base CX0 k fa fd [x] (sp w))
    (hsp : ∀ (w : World) (H : Hp) (a : Addr) (ns : List Int), ns.length ≤ n → Only H → SqLw (K w.params) H a (ns.map V.int) → sp w [.ref a] H (fun v _ => v = .bl true) fun _ _ _ => False) :
    PySem.W.WalkO q loose XP YP l.row.toRowW d [] (fun f vs => PySem.call f vs) := by
  apply Att.attach_call hn hdf
  intro w s0 s1 mg mb fa o pm cd doc a vs ns G Y ho hd hcd hmg hobj hints hlen hg
  obtain ⟨fd, hb, hF⟩ := F w mg fa _ (hY w _ Y) G.T.g hmg
  exact law_callW (hY w _ Y) G.T.g G.T.b G.T.builtins G.T.nolimit hg hobj hints (Nat.le_trans hlen hn2) hr hF hb fun H hO hS => hsp w H a ns hlen hO hS
end
/-! piece TVr -/
section
local macro_rules | `(tactic| wtm_at "fo a") => `(tactic| first
  | exact pa_nil
  | (refine' pa_cons ?k1 ?k2; (case k1 => wtm_at "fo e"); (case k2 => wtm_at "fo a"))
  | fail "no")
local macro_rules | `(tactic| wtm_at "fo v") => `(tactic| first
  | exact pv 0
  | exact pv 1
  | exact pv 2
  | exact pv 3
  | exact pv 4
  | exact pv 5
  | exact pv 6
  | exact pv 7
  | exact pv 8
  | exact pv 9
  | exact pv 10
  | exact pv 11
  | exact pv 12
  | exact pv 13
  | exact pv 14
  | exact pv 15
  | fail "no")
local macro_rules | `(tactic| wtm_at "fo e") => `(tactic| first
  | with_reducible exact pe_int
  | with_reducible exact pe_bl
  | with_reducible exact pe_non
  | with_reducible exact pe_str
  | ((with_reducible show PE _ (.Name _ _) _); wtm_at "fo v")
  | ((with_reducible show PE _ (.BinOp _ .Add _ _) _); apply pe_op opAddB <;> wtm_at "fo e")
  | ((with_reducible show PE _ (.BinOp _ .Sub _ _) _); apply pe_op op_sub <;> wtm_at "fo e")
  | ((with_reducible show PE _ (.BinOp _ .Mult _ _) _); apply pe_op op_mul <;> wtm_at "fo e")
  | ((with_reducible show PE _ (.BinOp _ .Mod _ _) _); apply pe_op op_mod <;> wtm_at "fo e")
  | ((with_reducible show PE _ (.BinOp _ .FloorDiv _ _) _); apply pe_op op_fdiv <;> wtm_at "fo e")
  | ((with_reducible show PE _ (.BinOp _ .Pow _ _) _); apply pe_op op_powW <;> wtm_at "fo e")
  | ((with_reducible show PE _ (.BinOp _ .LShift _ _) _); apply pe_op op_shl <;> wtm_at "fo e")
  | ((with_reducible show PE _ (.BinOp _ .RShift _ _) _); apply pe_op op_shr <;> wtm_at "fo e")
  | ((with_reducible show PE _ (.BinOp _ .BitAnd _ _) _); apply pe_op op_and <;> wtm_at "fo e")
  | ((with_reducible show PE _ (.List _ _) _); apply pe_lst; wtm_at "fo a")
  | ((with_reducible show PE _ (.Tuple _ _ _) _); apply pe_tup; wtm_at "fo a")
  | ((with_reducible show PE _ (.ListComp _ [_] _ _) _); wtm_at "fo lc")
  | ((with_reducible show PE _ (.IfExp _ _ _ _) _); apply pe_ifExp; (· wtm_at "fo t"); (· wtm_at "fo e"); (· wtm_at "fo e"))
  | ((with_reducible show PE _ (.UnaryOp .USub _ _) _); apply pe_un un_neg; wtm_at "fo e")
  | ((with_reducible show PE _ (.Call (.Name _ _) [] (_ :: _) _) _); wtm_at "fo kcall")
  | ((with_reducible show PE _ (.Call (.Name _ _) _ _ _) _); wtm_at "fo call")
  | ((with_reducible show PE _ (.Call (.Attribute _ _ _) _ _ _) _); wtm_at "fo meth")
  | ((with_reducible show PE _ (.Compare _ _ _ _) _); wtm_at "fo cmp")
  | ((with_reducible show PE _ (.Subscript _ (.Slice _ _ _ _) _) _); wtm_at "fo slice")
  | ((with_reducible show PE _ (.Subscript _ _ _) _); refine' pe_ix (ix_seqK (by assumption) (by exact rfl)) ?ka ?kb (fun _ _ => rfl); (case ka => wtm_at "fo e"); (case kb => wtm_at "fo e"))
  | fail "no")
local macro_rules | `(tactic| wtm_at "fo own") => `(tactic| first
  | ((show _ = [0]); kernel_rfl!)
  | ((show _ = [1]); kernel_rfl!)
  | ((show _ = [2]); kernel_rfl!)
  | ((show _ = [3]); kernel_rfl!)
  | ((show _ = [4]); kernel_rfl!)
  | ((show _ = [5]); kernel_rfl!)
  | ((show _ = [6]); kernel_rfl!)
  | ((show _ = [7]); kernel_rfl!)
  | ((show _ = [8]); kernel_rfl!)
  | ((show _ = [9]); kernel_rfl!)
  | ((show _ = [10]); kernel_rfl!)
  | ((show _ = [11]); kernel_rfl!)
  | ((show _ = [12]); kernel_rfl!)
  | ((show _ = [13]); kernel_rfl!)
  | ((show _ = [14]); kernel_rfl!)
  | ((show _ = [15]); kernel_rfl!)
  | ((show _ = [0, 1]); kernel_rfl!)
  | ((show _ = [1, 2]); kernel_rfl!)
  | ((show _ = [2, 3]); kernel_rfl!)
  | ((show _ = [3, 4]); kernel_rfl!)
  | ((show _ = [4, 5]); kernel_rfl!)
  | ((show _ = [5, 6]); kernel_rfl!)
  | ((show _ = [6, 7]); kernel_rfl!)
  | ((show _ = [7, 8]); kernel_rfl!)
  | ((show _ = [8, 9]); kernel_rfl!)
  | ((show _ = [9, 10]); kernel_rfl!)
  | ((show _ = [10, 11]); kernel_rfl!)
  | ((show _ = [11, 12]); kernel_rfl!)
  | ((show _ = [12, 13]); kernel_rfl!)
  | ((show _ = [13, 14]); kernel_rfl!)
  | ((show _ = [14, 15]); kernel_rfl!)
  | fail "no")
local macro_rules | `(tactic| wtm_at "fo ts") => `(tactic| first
  | exact pts_nil
  | (apply pts_one; wtm_at "fo t")
  | fail "no")
local macro_rules | `(tactic| wtm_at "fo lc") => `(tactic| first
  | (refine' pe_lcO (by assumption) (by exact rfl) (by exact rfl) (by wtm_at "fo own") (by decide +kernel) rfl ?ki ?kg ?kt ?ke; (case ki => wtm_at "fo i"); (case kg => (intro _ _ _ _ _; wtm_at "fo g")); (case kt => (intro _ _ _ _ _; wtm_at "fo ts")); (case ke => (intro _ _ _ _ _; wtm_at "fo e")))
  | fail "no")
local macro_rules | `(tactic| wtm_at "fo part") => `(tactic| first
  | exact po_none
  | (apply po_some; wtm_at "fo e")
  | fail "no")
local macro_rules | `(tactic| wtm_at "fo slice") => `(tactic| first
  | ((with_reducible show PE _ (.Subscript _ (.Slice _ _ none _) _) _); refine' pe_slice (sl_listK (by assumption) (by exact rfl)) ?ka ?kb ?kc; (case ka => wtm_at "fo e"); (case kb => wtm_at "fo part"); (case kc => wtm_at "fo part"))
  | ((with_reducible show PE _ (.Subscript _ (.Slice none none (some _) _) _) _); refine' pe_stepK (by assumption) (by exact rfl) ?ka ?kb; (case ka => wtm_at "fo e"); (case kb => wtm_at "fo e"))
  | fail "no")
local macro_rules | `(tactic| wtm_at "fo cmp") => `(tactic| first
  | ((with_reducible show PE _ (.Compare _ [.Lt] _ _) _); refine' pe_cmpR op_lt ?ka ?kb (nomark _); (case ka => wtm_at "fo e"); (case kb => wtm_at "fo e"))
  | ((with_reducible show PE _ (.Compare _ [.LtE] _ _) _); refine' pe_cmpR op_le ?ka ?kb (nomark _); (case ka => wtm_at "fo e"); (case kb => wtm_at "fo e"))
  | ((with_reducible show PE _ (.Compare _ [.Gt] _ _) _); refine' pe_cmpR op_gt ?ka ?kb (nomark _); (case ka => wtm_at "fo e"); (case kb => wtm_at "fo e"))
  | ((with_reducible show PE _ (.Compare _ [.GtE] _ _) _); refine' pe_cmpR op_ge ?ka ?kb (nomark _); (case ka => wtm_at "fo e"); (case kb => wtm_at "fo e"))
  | ((with_reducible show PE _ (.Compare _ [.Eq] _ _) _); refine' pe_cmpR (op_eqK (by assumption) (by exact rfl) (Room.units (by assumption))) ?ka ?kb (nomark _); (case ka => wtm_at "fo e"); (case kb => wtm_at "fo e"))
  | ((with_reducible show PE _ (.Compare _ [.NotEq] _ _) _); refine' pe_cmpR (op_neK (by assumption) (by exact rfl) (Room.units (by assumption))) ?ka ?kb (nomark _); (case ka => wtm_at "fo e"); (case kb => wtm_at "fo e"))
  | fail "no")
local macro_rules | `(tactic| wtm_at "fo tcmp") => `(tactic| first
  | ((with_reducible show PT _ (.Compare _ [.Lt] _ _) _); refine' pt_cmpR op_lt ?ka ?kb (nomark _); (case ka => wtm_at "fo e"); (case kb => wtm_at "fo e"))
  | ((with_reducible show PT _ (.Compare _ [.LtE] _ _) _); refine' pt_cmpR op_le ?ka ?kb (nomark _); (case ka => wtm_at "fo e"); (case kb => wtm_at "fo e"))
  | ((with_reducible show PT _ (.Compare _ [.Gt] _ _) _); refine' pt_cmpR op_gt ?ka ?kb (nomark _); (case ka => wtm_at "fo e"); (case kb => wtm_at "fo e"))
  | ((with_reducible show PT _ (.Compare _ [.GtE] _ _) _); refine' pt_cmpR op_ge ?ka ?kb (nomark _); (case ka => wtm_at "fo e"); (case kb => wtm_at "fo e"))
  | ((with_reducible show PT _ (.Compare _ [.Eq] _ _) _); refine' pt_cmpR (op_eqK (by assumption) (by exact rfl) (Room.units (by assumption))) ?ka ?kb (nomark _); (case ka => wtm_at "fo e"); (case kb => wtm_at "fo e"))
  | ((with_reducible show PT _ (.Compare _ [.NotEq] _ _) _); refine' pt_cmpR (op_neK (by assumption) (by exact rfl) (Room.units (by assumption))) ?ka ?kb (nomark _); (case ka => wtm_at "fo e"); (case kb => wtm_at "fo e"))
  | ((with_reducible show PT _ (.Compare _ [.In] _ _) _); refine' pt_cmpR (op_inK (by assumption) (by exact rfl)) ?ka ?kb rfl; (case ka => wtm_at "fo e"); (case kb => wtm_at "fo e"))
  | ((with_reducible show PT _ (.Compare _ [.NotIn] _ _) _); refine' pt_cmpR (op_notInK (by assumption) (by exact rfl)) ?ka ?kb rfl; (case ka => wtm_at "fo e"); (case kb => wtm_at "fo e"))
  | fail "no")
local macro_rules | `(tactic| wtm_at "fo w") => `(tactic| first
  | ((with_reducible show PW _ (.BoolOp .And [_] _) _); apply pw_and1; wtm_at "fo t")
  | ((with_reducible show PW _ (.BoolOp .And _ _) _); apply pw_and; (· wtm_at "fo t"); (· wtm_at "fo w"))
  | ((with_reducible show PW _ (.BoolOp .Or [_] _) _); apply pw_or1; wtm_at "fo t")
  | ((with_reducible show PW _ (.BoolOp .Or _ _) _); apply pw_or; (· wtm_at "fo t"); (· wtm_at "fo w"))
  | fail "no")
local macro_rules | `(tactic| wtm_at "fo meth") => `(tactic| first
  | ((with_reducible show PE _ (.Call (.Attribute _ (Str.ofString "append") _) _ _ _) _); refine' pe_bm PySem.F.plainAttrs_list PySem.F.slot_list_append PySem.F.type_list_append mt_append ?ka ?kb; (case ka => wtm_at "fo e"); (case kb => wtm_at "fo a"))
  | ((with_reducible show PE _ (.Call (.Attribute _ (Str.ofString "pop") _) [_] _ _) _); refine' pe_bm PySem.F.plainAttrs_list PySem.F.slot_list_pop PySem.F.type_list_pop mt_popAt ?ka ?kb; (case ka => wtm_at "fo e"); (case kb => wtm_at "fo a"))
  | ((with_reducible show PE _ (.Call (.Attribute _ (Str.ofString "pop") _) [] _ _) _); refine' pe_bm0 PySem.F.plainAttrs_list PySem.F.slot_list_pop PySem.F.type_list_pop mt_pop ?ka; (case ka => wtm_at "fo e"))
  | fail "no")
local macro_rules | `(tactic| wtm_at "fo k") => `(tactic| first
  | exact pk_nil
  | (refine' pk_cons ?k1 ?k2; (case k1 => wtm_at "fo e"); (case k2 => wtm_at "fo k"))
  | fail "no")
local macro_rules | `(tactic| wtm_at "fo kcall") => `(tactic| first
  | (refine' pe_kcal (by assumption) (by assumption) (by decide) (by rfl) ?ka; (case ka => wtm_at "fo k"))
  | fail "no")
local macro_rules | `(tactic| wtm_at "fo call") => `(tactic| first
  | ((with_reducible show PE _ (.Call (.Name (Str.ofString "int") _) _ _ _) _); refine' pe_callTy call_intB (by rfl) (by assumption) (by decide +kernel) ?ka; (case ka => wtm_at "fo a"))
  | ((with_reducible show PE _ (.Call (.Name (Str.ofString "len") _) _ _ _) _); refine' pe_callB (call_lenK (by assumption) (by exact rfl)) (by rfl) (by assumption) PySem.boot_len ?ka; (case ka => wtm_at "fo a"))
  | ((with_reducible show PE _ (.Call (.Name (Str.ofString "list") _) [.Call (.Name (Str.ofString "range") _) [_, _] _ _] _ _) _); refine' pe_listRg rfl (by rfl) (by assumption) (prg_2 (by rfl) (by assumption) ?ka ?kb); (case ka => wtm_at "fo e"); (case kb => wtm_at "fo e"))
  | ((with_reducible show PE _ (.Call (.Name (Str.ofString "list") _) _ _ _) _); refine' pe_callTy (call_listK (by assumption) (by exact rfl)) (by rfl) (by assumption) (by decide +kernel) ?ka; (case ka => wtm_at "fo a"))
  | ((with_reducible show PE _ (.Call (.Name (Str.ofString "min") _) [_, _] _ _) _); refine' pe_callB (call_min2 rfl) (by rfl) (by assumption) (by decide +kernel) ?ka; (case ka => wtm_at "fo a"))
  | ((with_reducible show PE _ (.Call (.Name (Str.ofString "sorted") _) [_] _ _) _); refine' pe_callB (cr_sortedK (by assumption) (by exact rfl)) (by rfl) (by assumption) (by decide +kernel) ?ka; (case ka => wtm_at "fo a"))
  | ((with_reducible show PE _ (.Call (.Name (Str.ofString "repr") _) [_] _ _) _); refine' pe_callB (call_reprK (by assumption) (by exact rfl) (by assumption) (Room.units (by assumption))) (by rfl) (by assumption) (by decide +kernel) ?ka; (case ka => wtm_at "fo a"))
  | (refine' pe_cal (by assumption) (by assumption) (by decide) (by rfl) ?ka; (case ka => wtm_at "fo a"))
  | fail "no")
local macro_rules | `(tactic| wtm_at "fo setlc") => `(tactic| first
  | (refine' ps_setLcO (i := 0) (by assumption) (by exact rfl) (by exact rfl) (by wtm_at "fo own") (by decide +kernel) rfl rfl rfl (sw_true rfl rfl rfl (by decide +kernel)) ?ki ?kg ?kt ?ke; (case ki => wtm_at "fo i"); (case kg => (intro _ _ _ _ _; wtm_at "fo g")); (case kt => (intro _ _ _ _ _; wtm_at "fo ts")); (case ke => (intro _ _ _ _ _; wtm_at "fo e")))
  | (refine' ps_setLcO (i := 1) (by assumption) (by exact rfl) (by exact rfl) (by wtm_at "fo own") (by decide +kernel) rfl rfl rfl (sw_true rfl rfl rfl (by decide +kernel)) ?ki ?kg ?kt ?ke; (case ki => wtm_at "fo i"); (case kg => (intro _ _ _ _ _; wtm_at "fo g")); (case kt => (intro _ _ _ _ _; wtm_at "fo ts")); (case ke => (intro _ _ _ _ _; wtm_at "fo e")))
  | (refine' ps_setLcO (i := 2) (by assumption) (by exact rfl) (by exact rfl) (by wtm_at "fo own") (by decide +kernel) rfl rfl rfl (sw_true rfl rfl rfl (by decide +kernel)) ?ki ?kg ?kt ?ke; (case ki => wtm_at "fo i"); (case kg => (intro _ _ _ _ _; wtm_at "fo g")); (case kt => (intro _ _ _ _ _; wtm_at "fo ts")); (case ke => (intro _ _ _ _ _; wtm_at "fo e")))
  | (refine' ps_setLcO (i := 3) (by assumption) (by exact rfl) (by exact rfl) (by wtm_at "fo own") (by decide +kernel) rfl rfl rfl (sw_true rfl rfl rfl (by decide +kernel)) ?ki ?kg ?kt ?ke; (case ki => wtm_at "fo i"); (case kg => (intro _ _ _ _ _; wtm_at "fo g")); (case kt => (intro _ _ _ _ _; wtm_at "fo ts")); (case ke => (intro _ _ _ _ _; wtm_at "fo e")))
  | (refine' ps_setLcO (i := 4) (by assumption) (by exact rfl) (by exact rfl) (by wtm_at "fo own") (by decide +kernel) rfl rfl rfl (sw_true rfl rfl rfl (by decide +kernel)) ?ki ?kg ?kt ?ke; (case ki => wtm_at "fo i"); (case kg => (intro _ _ _ _ _; wtm_at "fo g")); (case kt => (intro _ _ _ _ _; wtm_at "fo ts")); (case ke => (intro _ _ _ _ _; wtm_at "fo e")))
  | (refine' ps_setLcO (i := 5) (by assumption) (by exact rfl) (by exact rfl) (by wtm_at "fo own") (by decide +kernel) rfl rfl rfl (sw_true rfl rfl rfl (by decide +kernel)) ?ki ?kg ?kt ?ke; (case ki => wtm_at "fo i"); (case kg => (intro _ _ _ _ _; wtm_at "fo g")); (case kt => (intro _ _ _ _ _; wtm_at "fo ts")); (case ke => (intro _ _ _ _ _; wtm_at "fo e")))
  | (refine' ps_setLcO (i := 6) (by assumption) (by exact rfl) (by exact rfl) (by wtm_at "fo own") (by decide +kernel) rfl rfl rfl (sw_true rfl rfl rfl (by decide +kernel)) ?ki ?kg ?kt ?ke; (case ki => wtm_at "fo i"); (case kg => (intro _ _ _ _ _; wtm_at "fo g")); (case kt => (intro _ _ _ _ _; wtm_at "fo ts")); (case ke => (intro _ _ _ _ _; wtm_at "fo e")))
  | (refine' ps_setLcO (i := 7) (by assumption) (by exact rfl) (by exact rfl) (by wtm_at "fo own") (by decide +kernel) rfl rfl rfl (sw_true rfl rfl rfl (by decide +kernel)) ?ki ?kg ?kt ?ke; (case ki => wtm_at "fo i"); (case kg => (intro _ _ _ _ _; wtm_at "fo g")); (case kt => (intro _ _ _ _ _; wtm_at "fo ts")); (case ke => (intro _ _ _ _ _; wtm_at "fo e")))
  | (refine' ps_setLcO (i := 8) (by assumption) (by exact rfl) (by exact rfl) (by wtm_at "fo own") (by decide +kernel) rfl rfl rfl (sw_true rfl rfl rfl (by decide +kernel)) ?ki ?kg ?kt ?ke; (case ki => wtm_at "fo i"); (case kg => (intro _ _ _ _ _; wtm_at "fo g")); (case kt => (intro _ _ _ _ _; wtm_at "fo ts")); (case ke => (intro _ _ _ _ _; wtm_at "fo e")))
  | (refine' ps_setLcO (i := 9) (by assumption) (by exact rfl) (by exact rfl) (by wtm_at "fo own") (by decide +kernel) rfl rfl rfl (sw_true rfl rfl rfl (by decide +kernel)) ?ki ?kg ?kt ?ke; (case ki => wtm_at "fo i"); (case kg => (intro _ _ _ _ _; wtm_at "fo g")); (case kt => (intro _ _ _ _ _; wtm_at "fo ts")); (case ke => (intro _ _ _ _ _; wtm_at "fo e")))
  | (refine' ps_setLcO (i := 10) (by assumption) (by exact rfl) (by exact rfl) (by wtm_at "fo own") (by decide +kernel) rfl rfl rfl (sw_true rfl rfl rfl (by decide +kernel)) ?ki ?kg ?kt ?ke; (case ki => wtm_at "fo i"); (case kg => (intro _ _ _ _ _; wtm_at "fo g")); (case kt => (intro _ _ _ _ _; wtm_at "fo ts")); (case ke => (intro _ _ _ _ _; wtm_at "fo e")))
  | (refine' ps_setLcO (i := 11) (by assumption) (by exact rfl) (by exact rfl) (by wtm_at "fo own") (by decide +kernel) rfl rfl rfl (sw_true rfl rfl rfl (by decide +kernel)) ?ki ?kg ?kt ?ke; (case ki => wtm_at "fo i"); (case kg => (intro _ _ _ _ _; wtm_at "fo g")); (case kt => (intro _ _ _ _ _; wtm_at "fo ts")); (case ke => (intro _ _ _ _ _; wtm_at "fo e")))
  | (refine' ps_setLcO (i := 12) (by assumption) (by exact rfl) (by exact rfl) (by wtm_at "fo own") (by decide +kernel) rfl rfl rfl (sw_true rfl rfl rfl (by decide +kernel)) ?ki ?kg ?kt ?ke; (case ki => wtm_at "fo i"); (case kg => (intro _ _ _ _ _; wtm_at "fo g")); (case kt => (intro _ _ _ _ _; wtm_at "fo ts")); (case ke => (intro _ _ _ _ _; wtm_at "fo e")))
  | (refine' ps_setLcO (i := 13) (by assumption) (by exact rfl) (by exact rfl) (by wtm_at "fo own") (by decide +kernel) rfl rfl rfl (sw_true rfl rfl rfl (by decide +kernel)) ?ki ?kg ?kt ?ke; (case ki => wtm_at "fo i"); (case kg => (intro _ _ _ _ _; wtm_at "fo g")); (case kt => (intro _ _ _ _ _; wtm_at "fo ts")); (case ke => (intro _ _ _ _ _; wtm_at "fo e")))
  | (refine' ps_setLcO (i := 14) (by assumption) (by exact rfl) (by exact rfl) (by wtm_at "fo own") (by decide +kernel) rfl rfl rfl (sw_true rfl rfl rfl (by decide +kernel)) ?ki ?kg ?kt ?ke; (case ki => wtm_at "fo i"); (case kg => (intro _ _ _ _ _; wtm_at "fo g")); (case kt => (intro _ _ _ _ _; wtm_at "fo ts")); (case ke => (intro _ _ _ _ _; wtm_at "fo e")))
  | (refine' ps_setLcO (i := 15) (by assumption) (by exact rfl) (by exact rfl) (by wtm_at "fo own") (by decide +kernel) rfl rfl rfl (sw_true rfl rfl rfl (by decide +kernel)) ?ki ?kg ?kt ?ke; (case ki => wtm_at "fo i"); (case kg => (intro _ _ _ _ _; wtm_at "fo g")); (case kt => (intro _ _ _ _ _; wtm_at "fo ts")); (case ke => (intro _ _ _ _ _; wtm_at "fo e")))
  | fail "no")
local macro_rules | `(tactic| wtm_at "fo set") => `(tactic| first
  | (refine' ps_set (i := 0) (by assumption) rfl (by first | exact Or.inl rfl | exact Or.inr rfl) ?ka; (case ka => wtm_at "fo e"))
  | (refine' ps_set (i := 1) (by assumption) rfl (by first | exact Or.inl rfl | exact Or.inr rfl) ?ka; (case ka => wtm_at "fo e"))
  | (refine' ps_set (i := 2) (by assumption) rfl (by first | exact Or.inl rfl | exact Or.inr rfl) ?ka; (case ka => wtm_at "fo e"))
  | (refine' ps_set (i := 3) (by assumption) rfl (by first | exact Or.inl rfl | exact Or.inr rfl) ?ka; (case ka => wtm_at "fo e"))
  | (refine' ps_set (i := 4) (by assumption) rfl (by first | exact Or.inl rfl | exact Or.inr rfl) ?ka; (case ka => wtm_at "fo e"))
  | (refine' ps_set (i := 5) (by assumption) rfl (by first | exact Or.inl rfl | exact Or.inr rfl) ?ka; (case ka => wtm_at "fo e"))
  | (refine' ps_set (i := 6) (by assumption) rfl (by first | exact Or.inl rfl | exact Or.inr rfl) ?ka; (case ka => wtm_at "fo e"))
  | (refine' ps_set (i := 7) (by assumption) rfl (by first | exact Or.inl rfl | exact Or.inr rfl) ?ka; (case ka => wtm_at "fo e"))
  | (refine' ps_set (i := 8) (by assumption) rfl (by first | exact Or.inl rfl | exact Or.inr rfl) ?ka; (case ka => wtm_at "fo e"))
  | (refine' ps_set (i := 9) (by assumption) rfl (by first | exact Or.inl rfl | exact Or.inr rfl) ?ka; (case ka => wtm_at "fo e"))
  | (refine' ps_set (i := 10) (by assumption) rfl (by first | exact Or.inl rfl | exact Or.inr rfl) ?ka; (case ka => wtm_at "fo e"))
  | (refine' ps_set (i := 11) (by assumption) rfl (by first | exact Or.inl rfl | exact Or.inr rfl) ?ka; (case ka => wtm_at "fo e"))
  | (refine' ps_set (i := 12) (by assumption) rfl (by first | exact Or.inl rfl | exact Or.inr rfl) ?ka; (case ka => wtm_at "fo e"))
  | (refine' ps_set (i := 13) (by assumption) rfl (by first | exact Or.inl rfl | exact Or.inr rfl) ?ka; (case ka => wtm_at "fo e"))
  | fail "no")
local macro_rules | `(tactic| wtm_at "fo t") => `(tactic| first
  | ((with_reducible show PT _ (.BoolOp _ _ _) _); apply PW.pt; wtm_at "fo w")
  | ((with_reducible show PT _ (.UnaryOp .Not _ _) _); apply pt_not; wtm_at "fo t")
  | ((with_reducible show PT _ (.Compare _ _ _ _) _); wtm_at "fo tcmp")
  | (refine' pt_truthK (by assumption) (by exact rfl) ?ka (by intro _; rfl); (case ka => wtm_at "fo e"))
  | fail "no")
local macro_rules | `(tactic| wtm_at "fo gn") => `(tactic| first
  | exact pg_name (i := 0) (by assumption) rfl (by first | exact Or.inl rfl | exact Or.inr rfl)
  | exact pg_name (i := 1) (by assumption) rfl (by first | exact Or.inl rfl | exact Or.inr rfl)
  | exact pg_name (i := 2) (by assumption) rfl (by first | exact Or.inl rfl | exact Or.inr rfl)
  | exact pg_name (i := 3) (by assumption) rfl (by first | exact Or.inl rfl | exact Or.inr rfl)
  | exact pg_name (i := 4) (by assumption) rfl (by first | exact Or.inl rfl | exact Or.inr rfl)
  | exact pg_name (i := 5) (by assumption) rfl (by first | exact Or.inl rfl | exact Or.inr rfl)
  | exact pg_name (i := 6) (by assumption) rfl (by first | exact Or.inl rfl | exact Or.inr rfl)
  | exact pg_name (i := 7) (by assumption) rfl (by first | exact Or.inl rfl | exact Or.inr rfl)
  | exact pg_name (i := 8) (by assumption) rfl (by first | exact Or.inl rfl | exact Or.inr rfl)
  | exact pg_name (i := 9) (by assumption) rfl (by first | exact Or.inl rfl | exact Or.inr rfl)
  | exact pg_name (i := 10) (by assumption) rfl (by first | exact Or.inl rfl | exact Or.inr rfl)
  | exact pg_name (i := 11) (by assumption) rfl (by first | exact Or.inl rfl | exact Or.inr rfl)
  | exact pg_name (i := 12) (by assumption) rfl (by first | exact Or.inl rfl | exact Or.inr rfl)
  | exact pg_name (i := 13) (by assumption) rfl (by first | exact Or.inl rfl | exact Or.inr rfl)
  | exact pg_name (i := 14) (by assumption) rfl (by first | exact Or.inl rfl | exact Or.inr rfl)
  | exact pg_name (i := 15) (by assumption) rfl (by first | exact Or.inl rfl | exact Or.inr rfl)
  | fail "no")
local macro_rules | `(tactic| wtm_at "fo par") => `(tactic| first
  | (refine' ps_par (i := 0) (j := 1) rfl (by assumption) rfl rfl (by decide) rfl rfl ?ka (by rfl); (case ka => wtm_at "fo a"))
  | (refine' ps_par (i := 1) (j := 2) rfl (by assumption) rfl rfl (by decide) rfl rfl ?ka (by rfl); (case ka => wtm_at "fo a"))
  | (refine' ps_par (i := 2) (j := 3) rfl (by assumption) rfl rfl (by decide) rfl rfl ?ka (by rfl); (case ka => wtm_at "fo a"))
  | (refine' ps_par (i := 3) (j := 4) rfl (by assumption) rfl rfl (by decide) rfl rfl ?ka (by rfl); (case ka => wtm_at "fo a"))
  | (refine' ps_par (i := 4) (j := 5) rfl (by assumption) rfl rfl (by decide) rfl rfl ?ka (by rfl); (case ka => wtm_at "fo a"))
  | (refine' ps_par (i := 5) (j := 6) rfl (by assumption) rfl rfl (by decide) rfl rfl ?ka (by rfl); (case ka => wtm_at "fo a"))
  | (refine' ps_par (i := 6) (j := 7) rfl (by assumption) rfl rfl (by decide) rfl rfl ?ka (by rfl); (case ka => wtm_at "fo a"))
  | (refine' ps_par (i := 7) (j := 8) rfl (by assumption) rfl rfl (by decide) rfl rfl ?ka (by rfl); (case ka => wtm_at "fo a"))
  | (refine' ps_par (i := 8) (j := 9) rfl (by assumption) rfl rfl (by decide) rfl rfl ?ka (by rfl); (case ka => wtm_at "fo a"))
  | (refine' ps_par (i := 9) (j := 10) rfl (by assumption) rfl rfl (by decide) rfl rfl ?ka (by rfl); (case ka => wtm_at "fo a"))
  | (refine' ps_par (i := 10) (j := 11) rfl (by assumption) rfl rfl (by decide) rfl rfl ?ka (by rfl); (case ka => wtm_at "fo a"))
  | (refine' ps_par (i := 11) (j := 12) rfl (by assumption) rfl rfl (by decide) rfl rfl ?ka (by rfl); (case ka => wtm_at "fo a"))
  | (refine' ps_par (i := 12) (j := 13) rfl (by assumption) rfl rfl (by decide) rfl rfl ?ka (by rfl); (case ka => wtm_at "fo a"))
  | (refine' ps_par (i := 13) (j := 14) rfl (by assumption) rfl rfl (by decide) rfl rfl ?ka (by rfl); (case ka => wtm_at "fo a"))
  | (refine' ps_par (i := 14) (j := 15) rfl (by assumption) rfl rfl (by decide) rfl rfl ?ka (by rfl); (case ka => wtm_at "fo a"))
  | fail "no")
local macro_rules | `(tactic| wtm_at "fo g") => `(tactic| first
  | ((with_reducible show PG _ (.Name _ _) _); wtm_at "fo gn")
  | ((with_reducible show PG _ (.Tuple _ _ _) _); apply PG_or; (· refine' pg_tup2 (by assumption) (by exact rfl) rfl ?kg; (case kg => wtm_at "fo gs")); (· refine' pg_unl2 (by assumption) (by exact rfl) rfl ?kg; (case kg => wtm_at "fo gs")))
  | fail "no")
local macro_rules | `(tactic| wtm_at "fo gs") => `(tactic| first
  | exact pgs_nil
  | (refine' pgs_cons ?k1 ?k2; (case k1 => wtm_at "fo g"); (case k2 => wtm_at "fo gs"))
  | fail "no")
local macro_rules | `(tactic| wtm_at "fo i") => `(tactic| first
  | ((with_reducible show PI _ _ (.Call (.Name (Str.ofString "range") _) [_] _ _) _); refine' pi_range1 (by rfl) (by assumption) ?ka; (case ka => wtm_at "fo a"))
  | ((with_reducible show PI _ _ (.Call (.Name (Str.ofString "range") _) [_, _] _ _) _); refine' pi_range2 (by rfl) (by assumption) ?ka; (case ka => wtm_at "fo a"))
  | ((with_reducible show PI _ _ (.Call (.Name (Str.ofString "enumerate") _) [_] _ _) _); refine' pi_enum (by rfl) (by assumption) ?ka; (case ka => wtm_at "fo a"))
  | (refine' pi_listK (by assumption) (by exact rfl) ?ka; (case ka => wtm_at "fo e"))
  | fail "no")
local macro_rules | `(tactic| wtm_at "fo s") => `(tactic| first
  | ((with_reducible show PS _ (.While _ _ _ _) _); refine' ps_while PassesOwn.never ?kt ?kb; (case kt => wtm_at "fo t"); (case kb => wtm_at "fo ss"))
  | ((with_reducible show PS _ (.For _ _ _ _ _) _); refine' ps_for PassesOwn.never rfl ?ki ?kg ?kb; (case ki => wtm_at "fo i"); (case kg => wtm_at "fo g"); (case kb => wtm_at "fo ss"))
  | ((with_reducible show PS _ (.Assign [.Name _ _] (.ListComp _ [_] _ _) _) _); wtm_at "fo setlc")
  | ((with_reducible show PS _ (.Assign [.Name _ _] _ _) _); wtm_at "fo set")
  | ((with_reducible show PS _ (.Assign [.Tuple [.Name _ _, .Name _ _] _ _] (.Tuple [_, _] _ _) _) _); wtm_at "fo par")
  | ((with_reducible show PS _ (.Assign [.Subscript _ _ _] _ _) _); refine' ps_asg ?ka (pg_sub ?kb ?kc set_list); (case ka => wtm_at "fo e"); (case kb => wtm_at "fo e"); (case kc => wtm_at "fo e"))
  | ((with_reducible show PS _ (.Return (some _) _) _); apply ps_ret; wtm_at "fo e")
  | ((with_reducible show PS _ (.Expr _ _) _); refine' ps_expr ?ka; (case ka => wtm_at "fo e"))
  | ((with_reducible show PS _ (.If _ _ _ _) _); apply ps_if; (· wtm_at "fo t"); (· wtm_at "fo ss"); (· wtm_at "fo ss"))
  | fail "no")
local macro_rules | `(tactic| wtm_at "fo ss") => `(tactic| first
  | with_reducible exact pss_nil
  | ((with_reducible show PSs _ [_] _); apply pss_one; wtm_at "fo s")
  | (apply pss_cons; (· wtm_at "fo s"); (· wtm_at "fo ss"))
  | fail "no")
local macro_rules | `(tactic| wtm_at "fo hp") => `(tactic| first
  | assumption
  | exact upd_same
  | (refine (upd_ne ?ne).trans ?hp; (case ne => wtm_at "fo ne"); (case hp => wtm_at "fo hp"))
  | fail "no")
local macro_rules | `(tactic| wtm_at "fo ne") => `(tactic| first
  | assumption
  | (apply Ne.symm; assumption)
  | exact ne_of_none (by assumption) (by assumption)
  | exact Ne.symm (ne_of_none (by assumption) (by assumption))
  | fail "no")
local macro_rules | `(tactic| wtm_at "fo sz") => `(tactic| first
  | exact (Nat.le_of_ble_eq_true rfl : _ ≤ sizeLine)
  | exact (Nat.le_of_ble_eq_true rfl : _ < sizeLine)
  | exact Nat.lt_of_le_of_lt (m := 100000) (by first | assumption | omega | (simp; omega)) (by decide)
  | exact Nat.le_trans (m := 100000) (by first | assumption | omega | (simp; omega)) (by decide)
  | fail "no")
local macro_rules | `(tactic| wtm_at "fo r1") => `(tactic| first
  | refine ⟨(Nat.le_of_ble_eq_true rfl : _ ≤ sizeLine), fun p np => ?_⟩
  | (refine' ⟨_, _, rfl, Or.inl (SqL.of ?h), ?_⟩; (case h => wtm_at "fo hp"))
  | refine ⟨_, rfl, ?_⟩
  | refine ⟨_, _, rfl, rfl, ?_⟩
  | refine ⟨_, _, rfl, ⟨by omega, by omega, by omega, by omega⟩, ?_⟩
  | refine ⟨_, rfl, by omega, by omega, ?_⟩
  | refine Or.inl ⟨_, rfl, ?_⟩
  | refine Or.inl ⟨rfl, ?_⟩
  | refine Or.inl ⟨_, _, rfl, rfl, ?_⟩
  | (refine' Or.inl ⟨_, _, _, _, rfl, rfl, SqL.of ?h, ?a, ?_⟩; (case h => wtm_at "fo hp"); (case a => rfl))
  | (refine' ⟨_, _, _, _, rfl, rfl, ?h, ?a, ?_⟩; (case h => wtm_at "fo hp"); (case a => rfl))
  | (refine' ⟨.inl ⟨rfl, _, SqL.of ?h⟩, ?_⟩; (case h => wtm_at "fo hp"))
  | (refine' ⟨_, _, _, rfl, rfl, ?h, ?z, ?_⟩; (case h => wtm_at "fo hp"); (case z => wtm_at "fo sz"))
  | (refine' ⟨_, rfl, ⟨_, SqL.of ?h⟩, ?_⟩; (case h => wtm_at "fo hp"))
  | fail "no")
local macro_rules | `(tactic| wtm_at "fo side") => `(tactic| ((try dsimp only [CMul, CDiv]); first
  | assumption
  | decide
  | omega
  | exact ⟨by decide, by decide⟩
  | exact ⟨by omega, by omega⟩
  | decide +kernel
  | fail "no"))
local macro_rules | `(tactic| wtm_at "fo r2") => `(tactic| first
  | wtm_at "fo r1"
  | refine And.intro (by wtm_at "fo side") ?_
  | fail "no")
local macro_rules | `(tactic| wtm_at "fo r") => `(tactic| repeat wtm_at "fo r2")
local macro_rules | `(tactic| wtm_at "fo v") => `(tactic| first
  | ((with_reducible show PE _ (.Name (Str.ofString "int") _) _); exact pe_bltn (v := .ty "int") (by rfl) (by assumption) (by decide +kernel) rfl)
  | ((with_reducible show PE _ (.Name (Str.ofString "list") _) _); exact pe_bltn (v := .ty "list") (by rfl) (by assumption) (by decide +kernel) rfl)
  | ((with_reducible show PE _ (.Name (Str.ofString "MOST_PLACES") _) _); exact pe_glob (v := .int 12) (by rfl) (by assumption) ⟨_, rfl⟩)
  | fail "no")
local macro_rules | `(tactic| wtm_at "fo e") => `(tactic| first
  | ((with_reducible show PE _ (.BoolOp .And [_] _) _); apply pe_one; wtm_at "fo e")
  | ((with_reducible show PE _ (.BoolOp .And _ _) _); apply pe_and; (· wtm_at "fo e"); (· wtm_at "fo e"))
  | ((with_reducible show PE _ (.Compare _ [.IsNot] [.Constant (.bool true) _ _] _) _); refine' pe_cmpR op_notT ?ka ?kb (nomark _); (case ka => wtm_at "fo e"); (case kb => wtm_at "fo e"))
  | ((with_reducible show PE _ (.Compare _ [.LtE, .LtE] _ _) _); refine' pe_chain op_le op_le ?ka ?kb ?kc; (case ka => wtm_at "fo e"); (case kb => wtm_at "fo e"); (case kc => wtm_at "fo e"))
  | ((with_reducible show PE _ (.Call (.Name (Str.ofString "isinstance") _) _ _ _) _); refine' pe_callB (call_isiK' (by assumption) (by exact rfl)) (by rfl) (by assumption) (by decide +kernel) ?ka; (case ka => wtm_at "fo a"))
  | ((with_reducible show PE _ (.Call (.Attribute _ (Str.ofString "bit_length") _) [] [] _) _); refine' pe_bits ?ka; (case ka => wtm_at "fo e"))
  | fail "no")
local macro_rules | `(tactic| wtm_at "fo t") => `(tactic| first
  | ((with_reducible show PT _ (.Compare _ [.IsNot] [.Constant (.bool true) _ _] _) _); refine' pt_cmpR op_notT ?ka ?kb (nomark _); (case ka => wtm_at "fo e"); (case kb => wtm_at "fo e"))
  | ((with_reducible show PT _ (.Compare _ [.Lt, .Lt, .LtE] _ _) _); refine' pt_chain3 op_lt op_lt op_le ?ka ?kb ?kc ?kd; (case ka => wtm_at "fo e"); (case kb => wtm_at "fo e"); (case kc => wtm_at "fo e"); (case kd => wtm_at "fo e"))
  | fail "no")
local macro_rules | `(tactic| wtm_at "fo s") => `(tactic| first
  | ((with_reducible show PS _ (.Raise _ _ _) _); exact ps_never)
  | ((with_reducible show PS _ (.Continue _) _); exact ps_continue)
  | ((with_reducible show PS _ (.AugAssign (.Subscript _ _ _) .BitOr _ _) _); refine' ps_augS ?ka ?kb get_list ?kc ip_or set_list; (case ka => wtm_at "fo e"); (case kb => wtm_at "fo e"); (case kc => wtm_at "fo e"))
  | ((with_reducible show PS _ (.Assign [.Tuple _ _ _] (.Name _ _) _) _); refine' ps_asg ?ka ?kb; (case ka => wtm_at "fo e"); (case kb => wtm_at "fo g"))
  | fail "no")
local macro_rules | `(tactic| wtm_at "fo lc") => `(tactic| (refine' pe_lcN (by assumption) (by exact rfl) (by exact rfl) (by wtm_at "fo own") (by kernel_rfl!) rfl ?ki ?kg ?kt ?ke; (case ki => wtm_at "fo i"); (case kg => (intro _ _ _ _ _; wtm_at "fo g")); (case kt => (intro _ _ _ _ _; wtm_at "fo ts")); (case ke => (intro _ _ _ _ _; wtm_at "fo e"))))
local macro_rules | `(tactic| wtm_at "fo s") => `(tactic| ((with_reducible show PS _ (.Assign [.Tuple _ _ _] (.Call _ _ _ _) _) _); refine' ps_asg ?ka ?kb; (case ka => wtm_at "fo e"); (case kb => wtm_at "fo g")))
local macro_rules | `(tactic| wtm_at "fo cmp") => `(tactic| ((with_reducible show PE _ (.Compare _ [.In] _ _) _); refine' pe_cmpR (op_inK (by assumption) (by exact rfl)) ?ka ?kb rfl; (case ka => wtm_at "fo e"); (case kb => wtm_at "fo e")))
local macro_rules | `(tactic| wtm_at "fo call") => `(tactic| ((with_reducible show PE _ (.Call (.Name (Str.ofString "list") _) [.Call (.Name (Str.ofString "range") _) [_] _ _] _ _) _); refine' pe_listRg rfl (by rfl) (by assumption) (prg_1 (by rfl) (by assumption) ?ka); (case ka => wtm_at "fo e")))
local macro_rules | `(tactic| wtm_at "fo call") => `(tactic| ((with_reducible show PE _ (.Call (.Name (Str.ofString "min") _) [_] _ _) _); refine' pe_callB (call_minK (by assumption) (by exact rfl) rfl) (by rfl) (by assumption) (by decide +kernel) ?ka; (case ka => wtm_at "fo a")))
local macro_rules | `(tactic| wtm_at "fo i") => `(tactic| ((with_reducible show PI _ _ (.Call (.Name (Str.ofString "reversed") _) [_] _ _) _); refine' pi_reversed (by rfl) (by assumption) ?ka; (case ka => wtm_at "fo a")))
local macro_rules | `(tactic| wtm_at "fo s") => `(tactic| ((with_reducible show PS _ (.AugAssign (.Name _ _) .BitXor _ _) _); first | (refine' ps_aug (i := 2) (by assumption) rfl (by first | exact Or.inl rfl | exact Or.inr rfl) ?ka ip_xor; (case ka => wtm_at "fo e")) | fail "no"))
local macro_rules | `(tactic| wtm_at "fo call") => `(tactic| (refine' pe_calG (by assumption) (by assumption) (by decide) (by assumption) (by rfl) ?ka; (case ka => wtm_at "fo a")))
local macro_rules | `(tactic| wtm_at "fo meth") => `(tactic| ((with_reducible show PE _ (.Call (.Attribute _ (Str.ofString "count") _) _ _ _) _); refine' pe_cntK (by assumption) (by exact rfl) ?ka ?kb; (case ka => wtm_at "fo e"); (case kb => wtm_at "fo a")))
local macro_rules | `(tactic| wtm_at "fo call") => `(tactic| ((with_reducible show PE _ (.Call (.Name (Str.ofString "sorted") _) [_] _ _) _); refine' pe_callB (cr_sortedB (by assumption) (by exact rfl) (Room.units (by assumption))) (by rfl) (by assumption) (by decide +kernel) ?ka; (case ka => wtm_at "fo a")))
local macro_rules | `(tactic| wtm_at "fo v") => `(tactic| first
  | exact pv 16
  | exact pv 17
  | exact pv 18
  | exact pv 19
  | fail "no")
local macro_rules | `(tactic| wtm_at "fo own") => `(tactic| first
  | ((show _ = [16]); kernel_rfl!)
  | ((show _ = [17]); kernel_rfl!)
  | ((show _ = [18]); kernel_rfl!)
  | ((show _ = [19]); kernel_rfl!)
  | ((show _ = [15, 16]); kernel_rfl!)
  | ((show _ = [16, 17]); kernel_rfl!)
  | ((show _ = [17, 18]); kernel_rfl!)
  | ((show _ = [18, 19]); kernel_rfl!)
  | fail "no")
local macro_rules | `(tactic| wtm_at "fo set") => `(tactic| first
  | (refine' ps_set (i := 14) (by assumption) rfl (by first | exact Or.inl rfl | exact Or.inr rfl) ?ka; (case ka => wtm_at "fo e"))
  | (refine' ps_set (i := 15) (by assumption) rfl (by first | exact Or.inl rfl | exact Or.inr rfl) ?ka; (case ka => wtm_at "fo e"))
  | (refine' ps_set (i := 16) (by assumption) rfl (by first | exact Or.inl rfl | exact Or.inr rfl) ?ka; (case ka => wtm_at "fo e"))
  | (refine' ps_set (i := 17) (by assumption) rfl (by first | exact Or.inl rfl | exact Or.inr rfl) ?ka; (case ka => wtm_at "fo e"))
  | (refine' ps_set (i := 18) (by assumption) rfl (by first | exact Or.inl rfl | exact Or.inr rfl) ?ka; (case ka => wtm_at "fo e"))
  | (refine' ps_set (i := 19) (by assumption) rfl (by first | exact Or.inl rfl | exact Or.inr rfl) ?ka; (case ka => wtm_at "fo e"))
  | fail "no")
local macro_rules | `(tactic| wtm_at "fo setlc") => `(tactic| first
  | (refine' ps_setLcO (i := 16) (by assumption) (by exact rfl) (by exact rfl) (by wtm_at "fo own") (by decide +kernel) rfl rfl rfl (sw_true rfl rfl rfl (by decide +kernel)) ?ki ?kg ?kt ?ke; (case ki => wtm_at "fo i"); (case kg => (intro _ _ _ _ _; wtm_at "fo g")); (case kt => (intro _ _ _ _ _; wtm_at "fo ts")); (case ke => (intro _ _ _ _ _; wtm_at "fo e")))
  | (refine' ps_setLcO (i := 17) (by assumption) (by exact rfl) (by exact rfl) (by wtm_at "fo own") (by decide +kernel) rfl rfl rfl (sw_true rfl rfl rfl (by decide +kernel)) ?ki ?kg ?kt ?ke; (case ki => wtm_at "fo i"); (case kg => (intro _ _ _ _ _; wtm_at "fo g")); (case kt => (intro _ _ _ _ _; wtm_at "fo ts")); (case ke => (intro _ _ _ _ _; wtm_at "fo e")))
  | (refine' ps_setLcO (i := 18) (by assumption) (by exact rfl) (by exact rfl) (by wtm_at "fo own") (by decide +kernel) rfl rfl rfl (sw_true rfl rfl rfl (by decide +kernel)) ?ki ?kg ?kt ?ke; (case ki => wtm_at "fo i"); (case kg => (intro _ _ _ _ _; wtm_at "fo g")); (case kt => (intro _ _ _ _ _; wtm_at "fo ts")); (case ke => (intro _ _ _ _ _; wtm_at "fo e")))
  | (refine' ps_setLcO (i := 19) (by assumption) (by exact rfl) (by exact rfl) (by wtm_at "fo own") (by decide +kernel) rfl rfl rfl (sw_true rfl rfl rfl (by decide +kernel)) ?ki ?kg ?kt ?ke; (case ki => wtm_at "fo i"); (case kg => (intro _ _ _ _ _; wtm_at "fo g")); (case kt => (intro _ _ _ _ _; wtm_at "fo ts")); (case ke => (intro _ _ _ _ _; wtm_at "fo e")))
  | fail "no")
local macro_rules | `(tactic| wtm_at "fo gn") => `(tactic| first
  | exact pg_name (i := 16) (by assumption) rfl (by first | exact Or.inl rfl | exact Or.inr rfl)
  | exact pg_name (i := 17) (by assumption) rfl (by first | exact Or.inl rfl | exact Or.inr rfl)
  | exact pg_name (i := 18) (by assumption) rfl (by first | exact Or.inl rfl | exact Or.inr rfl)
  | exact pg_name (i := 19) (by assumption) rfl (by first | exact Or.inl rfl | exact Or.inr rfl)
  | fail "no")
local macro_rules | `(tactic| wtm_at "fo s") => `(tactic| ((with_reducible show PS _ (.Assign [.Tuple _ _ _] (.Tuple _ _ _) _) _); refine' ps_asg ?ka ?kb; (case ka => wtm_at "fo e"); (case kb => wtm_at "fo g")))
local macro_rules | `(tactic| wtm_at "fo e") => `(tactic| first
  | ((with_reducible show PE _ (.UnaryOp .Invert _ _) _); apply pe_un un_inv; wtm_at "fo e")
  | ((with_reducible show PE _ (.BoolOp .Or [_] _) _); apply pe_one; wtm_at "fo e")
  | ((with_reducible show PE _ (.BoolOp .Or _ _) _); apply pe_or; (· wtm_at "fo e"); (· wtm_at "fo e"))
  | ((with_reducible show PE _ (.BinOp _ .Mult _ _) _); apply pe_op opMulB <;> wtm_at "fo e")
  | ((with_reducible show PE _ (.BinOp _ .BitOr _ _) _); apply pe_op op_or <;> wtm_at "fo e")
  | ((with_reducible show PE _ (.Compare _ [.Is] [.Constant .none _ _] _) _); refine' pe_cmpR op_isN ?ka ?kb (nomark _); (case ka => wtm_at "fo e"); (case kb => wtm_at "fo e"))
  | fail "no")
local macro_rules | `(tactic| wtm_at "fo t") => `(tactic| first
  | ((with_reducible show PT _ (.Compare _ [.Is] [.Constant .none _ _] _) _); refine' pt_cmpR op_isN ?ka ?kb (nomark _); (case ka => wtm_at "fo e"); (case kb => wtm_at "fo e"))
  | ((with_reducible show PT _ (.Compare _ [.IsNot] [.Constant .none _ _] _) _); refine' pt_cmpR op_notN ?ka ?kb (nomark _); (case ka => wtm_at "fo e"); (case kb => wtm_at "fo e"))
  | fail "no")
local macro_rules | `(tactic| wtm_at "fo i") => `(tactic| first
  | ((with_reducible show PI _ _ (.Call (.Name (Str.ofString "enumerate") _) [_, _] [] _) _); refine' pi_enumC (by assumption) (by exact rfl) (by rfl) (by assumption) ?ka; (case ka => wtm_at "fo a"))
  | ((with_reducible show PI _ _ (.Call (.Name (Str.ofString "enumerate") _) [_] [_] _) _); refine' pi_enumS (by assumption) (by exact rfl) (by rfl) (by assumption) ?ka ?kb; (case ka => wtm_at "fo a"); (case kb => wtm_at "fo k"))
  | fail "no")
local macro_rules | `(tactic| wtm_at "fo own") => `(tactic| first
  | ((show _ = [2, 4]); kernel_rfl!)
  | ((show _ = [4, 2]); kernel_rfl!)
  | fail "no")
local macro_rules | `(tactic| wtm_at "fo v") => `(tactic| ((with_reducible show PE _ (.Name (Str.ofString "tuple") _) _); exact pe_bltn (v := .ty "tuple") (by rfl) (by assumption) (by decide +kernel) rfl))
local macro_rules | `(tactic| wtm_at "fo slice") => `(tactic| ((with_reducible show PE _ (.Subscript _ (.Slice none none (some _) _) _) _); refine' pe_stepK2 (by assumption) (by exact rfl) ?ka ?kb; (case ka => wtm_at "fo e"); (case kb => wtm_at "fo e")))
local macro_rules | `(tactic| wtm_at "fo e") => `(tactic| first
  | ((with_reducible show PE _ (.Call (.Name (Str.ofString "repr") _) [_] _ _) _); refine' pe_callB (call_reprIK (by assumption) (by exact rfl) (by assumption) (Room.units (by assumption))) (by rfl) (by assumption) (by decide +kernel) ?ka; (case ka => wtm_at "fo a"))
  | ((with_reducible show PE _ (.Call (.Name (Str.ofString "max") _) [_] _ _) _); refine' pe_callB (call_maxK (by assumption) (by exact rfl) rfl) (by rfl) (by assumption) (by decide +kernel) ?ka; (case ka => wtm_at "fo a"))
  | fail "no")
variable {P : Program} {w : World} {K : PySem.W.Frag} {mg : Str → Option Value} {base : Heap}
/-! ### _law_starts_right, _law_right -/
@[irreducible] def spStR : Sp := fun vs H Q _ => ∃ (d q a : Addr) (k : Int) (n : Nat) (es : List Edge), vs = [.ref d, .int n, .ref q, .ref a] ∧ Dr H d k ∧ k ≤ 850000 ∧ 1 ≤ n ∧ n ≤ 12 ∧ Pairs H q es ∧ Simp n es ∧ es.length ≤ 200 ∧ TabAt H a n (ltM n es (n * n)) ∧
  ∀ H' k', SameBut d H H' → Dr H' d k' → k' ≤ k + 100 → Q (.bl true) H'
theorem call_str {d q a : Addr} {k : Int} {n : Nat} {es : List Edge} {H : Hp} {Q : VK} {E : XK} (hd : Dr H d k) (hk : k ≤ 850000) (h1 : 1 ≤ n) (hn : n ≤ 12) (hq : Pairs H q es) (hS : Simp n es) (hl : es.length ≤ 200) (ha : TabAt H a n (ltM n es (n * n)))
    (fin : ∀ H' k', SameBut d H H' → Dr H' d k' → k' ≤ k + 100 → Q (.bl true) H') : spStR [.ref d, .int n, .ref q, .ref a] H Q E := by
  unfold spStR
  exact ⟨d, q, a, k, n, es, rfl, hd, hk, h1, hn, hq, hS, hl, ha, fin⟩
@[irreducible] def spRiR : Sp := fun vs H Q _ => ∃ (d q : Addr) (k : Int) (n : Nat) (es : List Edge), vs = [.ref d, .int n, .ref q] ∧ Dr H d k ∧ k ≤ 800000 ∧ 1 ≤ n ∧ n ≤ 12 ∧ Pairs H q es ∧ Simp n es ∧ es.length ≤ 200 ∧
  ∀ H' k', SameBut d H H' → Dr H' d k' → k' ≤ k + 110 → Q (.bl true) H'
theorem call_rir {d q : Addr} {k : Int} {n : Nat} {es : List Edge} {H : Hp} {Q : VK} {E : XK} (hd : Dr H d k) (hk : k ≤ 800000) (h1 : 1 ≤ n) (hn : n ≤ 12) (hq : Pairs H q es) (hS : Simp n es) (hl : es.length ≤ 200)
    (fin : ∀ H' k', SameBut d H H' → Dr H' d k' → k' ≤ k + 110 → Q (.bl true) H') : spRiR [.ref d, .int n, .ref q] H Q E := by
  unfold spRiR
  exact ⟨d, q, k, n, es, rfl, hd, hk, h1, hn, hq, hS, hl, fin⟩
set_option maxHeartbeats 16000000 in
noncomputable def derRi (f : Addr) (cdv : Value) (A : Around) (outer : List Env) (s0 : Shared) (H : Hp) (E : XK) (hr : Room 7 (A.deeper (envOfC "_law_right" (defScope s_law_right) s0.heap.objs.size f cdv))) (hgd : A.guards = some []) (mp : mg "repr" = none) (mr : mg "range" = none) (mi : mg "int" = none) (mm : mg "max" = none)
    (C0 : Cal P w K mg base "_law_near" 1 ["_law_size", "_law_sides"] spNear) (C1 : Cal P w K mg base "_law_table" 2 ["_law_near_here", "_law_size"] spTable)
    (C2 : Cal P w K mg base "turns_to_catch" 4 ["places", "lines", "seeker", "fleer"] spTurns) (C3 : KCal P w K mg base "turns_to_catch" 4 ["places", "lines", "seeker", "fleer"] ["fleer", "seeker", "lines", "places"] g4k g4k spTurns)
    (C4 : Cal P w K mg base "seeker_goes" 4 ["places", "lines", "seeker", "fleer"] spGoes) (C5 : KCal P w K mg base "seeker_goes" 4 ["places", "lines", "seeker", "fleer"] ["fleer", "seeker", "lines", "places"] g4k g4k spGoes)
    (C6 : Cal P w K mg base "_law_next" 1 ["_law_draws_here"] spNext) (C7 : CalG P w K mg base "_law_starts_right" 7 ["_law_draws_here", "_law_size", "_law_sides", "_law_table_here"] spStR) :
    PSigma fun t => PSs (cxOf CX0 P w K mg base ["_law_draws_here", "_law_size", "_law_sides", "_law_near_here", "_law_before", "_law_table_here", "_law_here", "_law_there", "_law_due", "_law_goal", "_law_later", "_law_spot", "_law_named"] "_law_right" (defScope s_law_right) f cdv A outer s0 H E).nox (defBody s_law_right) t := by
  have nd := sc_law_right.nd
  have hS := sc_law_right
  have hKM : KMark K := ⟨⟩
  refine' mkSig ?h
  case h =>
    show PSs _ [_, _, _, _, _, _, _, _, _, _] _
    wtm_at "fo ss"
end
/-! piece TVq -/
section
theorem rk_lt {n : Nat} {es : List Edge} (hn : n ≤ 12) {h t : Int} : ∀ k, rkM n es h t = some k → k < 1000 := fun k e => by
  have := (rk_some.mp e).2.1
  have : n * n ≤ 144 := Nat.mul_le_mul hn hn
  omega
theorem Pairs.but {H H' : Hp} {d p : Addr} {k : Int} {es : List Edge} (h : Pairs H p es) (s : SameBut d H H') (hd : Dr H d k) : Pairs H' p es := by
  obtain ⟨rs, hp⟩ := PsAt.of h
  exact (hp.but s hd).pairs
theorem TabAt.but {H H' : Hp} {d a : Addr} {k : Int} {n : Nat} {f : Nat → Nat → Option Nat} (h : TabAt H a n f) (s : SameBut d H H') (hd : Dr H d k) : TabAt H' a n f := by
  obtain ⟨rs, h1, h2, h3⟩ := h
  refine ⟨rs, s _ _ (hd.ne_refs h1) h1, h2, fun i hi => ?_⟩
  obtain ⟨r, e1, e2⟩ := h3 i hi
  refine ⟨r, e1, s _ _ (fun e => ?_) e2⟩
  obtain ⟨x, b, hdd, _⟩ := hd
  rw [e, hdd] at e2
  have e3 : [V.int x, V.int k, V.bl b] = rowT n f i := HO.lst.inj (Option.some.inj e2)
  have : V.bl b ∈ rowT n f i := by rw [← e3]; simp
  unfold rowT at this
  obtain ⟨j, _, hj⟩ := List.mem_map.mp this
  cases e4 : f i j <;> rw [e4] at hj <;> cases hj
def dO : Option Int → PyData
  | some i => .int i
  | none => .none
theorem dp_oV {K : PySem.W.Frag} {H : Hp} (o : Option Int) : Dp K H (oV o) (dO o) := by
  cases o
  · exact .non
  · exact .int _
theorem dok_dO {o : Option Int} (h : ∀ i, o = some i → i.natAbs < 1000) : DOk 0 5 (dO o) := by
  cases o with
  | none => exact dok_none.mono (by decide) (by decide)
  | some i => exact dok_int (h i rfl)
theorem goM_lt {n : Nat} {es : List Edge} (hn : n ≤ 12) {h t g : Int} (e : goM n es h t = some g) : g.natAbs < 1000 := by
  unfold goM at e
  split at e
  · next k _ =>
    have hg : g ∈ goalsM n es k h t := List.mem_of_mem_head? (by rw [e]; rfl)
    unfold goalsM at hg
    have := allM_mem.mp (List.mem_filter.mp (List.mem_filter.mp hg).1).1
    omega
  · cases e
theorem inV_non : ∀ t : List Int, inV .non (t.map V.int) = false
  | [] => rfl
  | a :: t => by
    have h := inV_non t
    unfold inV at h ⊢
    rw [List.map_cons, List.any_cons, h]
    rfl
theorem neFT (a : V) : (!decide (a = a)) = false := by simp
variable {P : Program} {w : World} {K : PySem.W.Frag} {mg : Str → Option Value} {base : Heap}
set_option maxHeartbeats 16000000 in
theorem ok_right {f : Addr} {fd : FuncData} (F : Fun K "_law_right" "_law_right" s_law_right f fd) (mp : mg "repr" = none) (mr : mg "range" = none) (mi : mg "int" = none) (mm : mg "max" = none)
    (C0 : Cal P w K mg base "_law_near" 1 ["_law_size", "_law_sides"] spNear) (C1 : Cal P w K mg base "_law_table" 2 ["_law_near_here", "_law_size"] spTable)
    (C2 : Cal P w K mg base "turns_to_catch" 4 ["places", "lines", "seeker", "fleer"] spTurns) (C3 : KCal P w K mg base "turns_to_catch" 4 ["places", "lines", "seeker", "fleer"] ["fleer", "seeker", "lines", "places"] g4k g4k spTurns)
    (C4 : Cal P w K mg base "seeker_goes" 4 ["places", "lines", "seeker", "fleer"] spGoes) (C5 : KCal P w K mg base "seeker_goes" 4 ["places", "lines", "seeker", "fleer"] ["fleer", "seeker", "lines", "places"] g4k g4k spGoes)
    (C6 : Cal P w K mg base "_law_next" 1 ["_law_draws_here"] spNext) (C7 : CalG P w K mg base "_law_starts_right" 7 ["_law_draws_here", "_law_size", "_law_sides", "_law_table_here"] spStR) :
    FnG P w K mg base CX0 8 f fd ["_law_draws_here", "_law_size", "_law_sides"] spRiR := by
  refine okG F sc_law_right (fun vs H Q E h => ?_) (fun cdv A outer s0 H vs Q E hr hgd h => ?_)
  · unfold spRiR at h
    obtain ⟨d, q, k, n, es, rfl, _⟩ := h
    rfl
  · have nd := sc_law_right.nd
    have hS := sc_law_right
    have hKM : KMark K := ⟨⟩
    refine ⟨_, (derRi (P := P) (w := w) (K := K) (mg := mg) (base := base) f cdv A outer s0 H E hr hgd mp mr mi mm C0 C1 C2 C3 C4 C5 C6 C7).2, ?_⟩
    unfold derRi mkSig
    dsimp only
    next =>
     unfold spRiR at h
     obtain ⟨d, q, k, n, es, rfl, hd, hk, h1, hn, hq, hSi, hl, fin⟩ := h
     have hsq : n * n ≤ 144 := Nat.mul_le_mul hn hn
     have okE := dok_dE (es := es) (hSi.small (by omega))
     have szE : (dE es).shown.length ≤ sizeLine := Nat.le_trans okE.len (Nat.le_trans (m := 5000) (by omega) (by decide))
     wtm_at "fo r"
     refine call_near hn hq hl (fun e he => by have := hSi.rng e he; omega) (fun qn H1 sm1 nqn hqn => ?_)
     refine ⟨_, rfl, Or.inr (Or.inr ⟨q, dE es, rfl, dp_dE (hq.same sm1), okE.sh, okE.nd, Nat.le_trans okE.dep (by decide), szE, ?_⟩)⟩
     refine ⟨_, rfl, _, rfl, ?_⟩
     refine call_table h1 hn hSi hqn (fun a H2 sm2 na hT2 => ?_)
     have s2 := sm1.trans sm2
     have hq2 := hq.same s2
     have hqn2 : Lists H2 qn (nearM n es) := Lists.same hqn sm2
     obtain ⟨ns, hn1, hn2⟩ := near_rows hSi hqn2
     have hTT := hT2
     obtain ⟨ts, ha1, ha2, ha3⟩ := hT2
     have tab : ∀ X, Same H2 X → ∀ x y : Int, (1 ≤ x ∧ x ≤ n) → (1 ≤ y ∧ y ≤ n) → ∃ r, (ts.map V.ref)[x.toNat]? = some (.ref r) ∧ X r = some (.lst (rowT n (ltM n es (n * n)) x.toNat)) ∧ (rowT n (ltM n es (n * n)) x.toNat)[y.toNat]? = some (oN (rkM n es x y)) := fun X s x y hx hy => by
       obtain ⟨r, e1, e2⟩ := ha3 x.toNat (by omega)
       refine ⟨r, by rw [List.getElem?_map, e1]; rfl, s _ _ e2, ?_⟩
       rw [rowT_get _ _ (by omega), lt_rk hx hy]
     clear ha3
     have hNr : ((n : Int) + 1 - 1).toNat = n := by omega
     refine ⟨_, rfl, Or.inl ⟨_, _, rfl, rfl, _, _, rfl, ⟨by decide, by decide, by omega, by omega⟩, ?_⟩⟩
     let G0 : Option V → Option V → Option V → Option V → Option V → Option V → Sl := fun y6 y7 y8 y9 y10 y12 => [some (.ref d), some (.int n), some (.ref q), some (.ref qn), some (.str (dE es).shown), some (.ref a), y6, y7, y8, y9, y10, none, y12]
     refine for_range (lo := 1) (n := ((n : Int) + 1 - 1).toNat) (fun i σ X => ∃ (y6 y7 y8 y9 y10 : Option V), σ = G0 y6 y7 y8 y9 y10 none ∧ Same H2 X) ?_ ?_ ?_
     · exact ⟨none, none, none, none, none, rfl, Same.refl _⟩
     · rintro i σ X hi ⟨y6, y7, y8, y9, y10, rfl, smX⟩
       rw [hNr] at hi
       refine ⟨_, rfl, Or.inl ⟨_, _, rfl, rfl, _, _, rfl, ⟨by decide, by decide, by omega, by omega⟩, ?_⟩⟩
       refine for_range (lo := 1) (n := ((n : Int) + 1 - 1).toNat) (fun j σ X => ∃ (y7 y8 y9 y10 : Option V), σ = G0 (some (.int (1 + (i : Int)))) y7 y8 y9 y10 none ∧ Same H2 X) ?_ ?_ ?_
       · exact ⟨y7, y8, y9, y10, rfl, smX⟩
       · clear smX
         rintro j σ X hj ⟨y7, y8, y9, y10, rfl, smX⟩
         rw [hNr] at hj
         have hh : 1 ≤ 1 + (i : Int) ∧ 1 + (i : Int) ≤ n := ⟨by omega, by omega⟩
         have ht : 1 ≤ 1 + (j : Int) ∧ 1 + (j : Int) ≤ n := ⟨by omega, by omega⟩
         generalize 1 + (i : Int) = h at *
         generalize 1 + (j : Int) = t at *
         obtain ⟨r, e1, e2, e3⟩ := tab X smX h t hh ht
         refine ⟨_, rfl, _, rfl, Or.inl ⟨a, _, h, .ref r, rfl, rfl, SqL.of (smX _ _ ha1), at_of (j := h.toNat) (by omega) e1, ?_⟩⟩
         refine ⟨_, rfl, Or.inl ⟨r, _, t, oN (rkM n es h t), rfl, rfl, SqL.of e2, at_of (j := t.toNat) (by omega) e3, ?_⟩⟩
         refine ⟨_, rfl, _, rfl, _, rfl, _, rfl, ?_⟩
         refine call_turns h1 hn (hq2.same smX) hSi hl hh ht (fun X1 sx1 => ?_)
         rw [rkV_oN]
         dsimp only [tNil]
         refine repr_oN _ (rk_lt hn) ?_
         refine ⟨_, rfl, ?_⟩
         dsimp only [tNil]
         refine repr_oN _ (rk_lt hn) ?_
         refine Or.inl ⟨rfl, _, rfl, ?_⟩
         refine ifF (neFT _) ?_
         refine ⟨_, rfl, _, rfl, _, rfl, _, rfl, ?_⟩
         have smX1 := smX.trans sx1
         refine call_goes h1 hn (hq2.same smX1) hSi hl hh ht (fun X2 sx2 => ?_)
         have smX2 := smX1.trans sx2
         clear e1 e2 e3 sx1 sx2 smX smX1 X1 X
         obtain ⟨rn, g1, g2⟩ := hn2 h hh.1 hh.2
         obtain ⟨rt, g3, g4⟩ := hn2 t ht.1 ht.2
         unfold goV goM
         cases hrk : rkM n es h t with
         | none =>
           refine ⟨_, rfl, rfl, _, rfl, rfl, _, rfl, ?_⟩
           refine ifT rfl ?_
           refine Or.inl ⟨rfl, _, rfl, ?_⟩
           refine ifF (by simp [oV]) ?_
           refine ⟨_, rfl, rfl, _, rfl, ?_⟩
           refine ifF rfl ?_
           refine ifF rfl ?_
           refine ⟨_, rfl, rfl, _, rfl, ?_⟩
           refine ifF rfl ?_
           refine ifF rfl ?_
           exact ⟨_, _, _, _, rfl, smX2⟩
         | some k1 =>
           cases k1 with
           | zero =>
             refine ⟨_, rfl, rfl, _, rfl, rfl, _, rfl, ?_⟩
             refine ifF rfl ?_
             refine ⟨_, rfl, Or.inl ⟨rfl, ?_⟩⟩
             refine Or.inl ⟨rfl, _, rfl, ?_⟩
             refine ifF (by simp [oN, oV]) ?_
             refine ⟨_, rfl, rfl, _, rfl, ?_⟩
             refine ifF rfl ?_
             refine ifF rfl ?_
             refine ⟨_, rfl, rfl, _, rfl, ?_⟩
             refine ifF rfl ?_
             refine ifF rfl ?_
             exact ⟨_, _, _, _, rfl, smX2⟩
           | succ k1 =>
             obtain ⟨w1, w2, w3⟩ := rk_some.mp hrk
             obtain ⟨g, l, hg⟩ : ∃ g l, goalsM n es k1 h t = g :: l := by
               cases e : goalsM n es k1 h t with
               | nil => rw [goals_none.mp e] at w1; cases w1
               | cons g l => exact ⟨g, l, rfl⟩
             have hgm := goals_mem.mp (show g ∈ goalsM n es k1 h t by rw [hg]; exact List.mem_cons_self ..)
             have hgin := (besideM_mem hSi hh.1 hh.2 g).mp hgm.1
             have hgr := besT hn hSi h g hgin hh
             have htr := trB_iff.mp hgm.2
             dsimp only
             rw [hg]
             refine ⟨_, rfl, rfl, _, rfl, rfl, _, rfl, ?_⟩
             refine ifF rfl ?_
             refine ⟨_, rfl, Or.inl ⟨rfl, ?_⟩⟩
             refine Or.inl ⟨rfl, _, rfl, ?_⟩
             refine ifF (by rw [show decide (oN (some (k1 + 1)) = V.int 0) = false from decide_eq_false fun e => by have := V.int.inj e; omega]; rfl) ?_
             refine ⟨_, rfl, rfl, _, rfl, ?_⟩
             refine ifT rfl ?_
             refine ⟨_, rfl, _, rfl, _, rfl, Or.inl ⟨qn, _, h, .ref rn, rfl, rfl, SqL.of (smX2 _ _ hn1), at_of (j := h.toNat) (by omega) (by rw [List.getElem?_map, g1]; rfl), rn, _, rfl, Or.inl (SqL.of (smX2 _ _ g2)), rfl, flat_ints _, _, rfl, ?_⟩⟩
             refine ifF (by show (!inV (.int g) ((h :: mates h es).map V.int)) = false; rw [inV_ints, decide_eq_true hgin]; rfl) ?_
             refine ⟨_, rfl, rfl, _, rfl, ?_⟩
             refine ifT rfl ?_
             refine ⟨_, rfl, _, rfl, Or.inl ⟨rfl, _, rfl, ?_⟩⟩
             by_cases hgt : g = t
             · refine ifF (by rw [hgt]; simp [oV]) ?_
               exact ⟨_, _, _, _, rfl, smX2⟩
             refine ifT (by show (!decide (V.int g = V.int t)) = true; rw [decide_eq_false fun e => hgt (V.int.inj e)]; rfl) ?_
             have hall : ∀ s ∈ t :: mates t es, ∃ k2, rkM n es g s = some k2 ∧ k2 ≤ k1 := fun s hs => by
               have hsr := besT hn hSi t s hs ht
               have hw : wB n es k1 g s = true := by
                 rcases htr with e | hall
                 · exact absurd e hgt
                 · exact hall s ((besideM_mem hSi ht.1 ht.2 s).mpr hs)
               cases e : rkM n es g s with
               | none => rw [(rk_none hSi hgr hsr).mp e] at hw; cases hw
               | some k2 =>
                 refine ⟨k2, rfl, Nat.le_of_not_lt fun hlt => ?_⟩
                 rw [(rk_some.mp e).2.2 k1 hlt] at hw
                 cases hw
             refine ⟨_, rfl, _, rfl, Or.inl ⟨qn, _, t, .ref rt, rfl, rfl, SqL.of (smX2 _ _ hn1), at_of (j := t.toNat) (by omega) (by rw [List.getElem?_map, g3]; rfl), rt, rfl, ⟨_, SqL.of (smX2 _ _ g4)⟩, fun D nD => ?_⟩⟩
             refine lc_list (K := K) (xs := (t :: mates t es).map V.int) (fun i Y => Same X2 Y ∧ Y D = some (.lst (((t :: mates t es).take i).map fun s => V.int (((rkM n es g s).getD 0 : Nat) : Int)))) ?_ ?_ ?_ ?_
             · exact ⟨same_upd (Same.refl _) nD, upd_same⟩
             · rintro i Y _ ⟨smY, _⟩
               exact SqL.of (smY _ _ (smX2 _ _ g4))
             · rintro i x Y hx ⟨smY, hDY⟩
               obtain ⟨s, hs, rfl⟩ := int_at hx
               have hsm := List.mem_of_getElem? hs
               have hsr := besT hn hSi t s hsm ht
               have hil : i < 13 := Nat.lt_of_lt_of_le (List.getElem?_eq_some_iff.mp hs).1 (matesH_len hn hSi t)
               obtain ⟨k2, e2, _⟩ := hall s hsm
               obtain ⟨r, e1, e3, e4⟩ := tab Y (smX2.trans smY) g s hgr hsr
               have htk : (t :: mates t es).take (i + 1) = (t :: mates t es).take i ++ [s] := by rw [List.take_add_one, hs]; rfl
               refine ⟨rfl, _, rfl, _, rfl, Or.inl ⟨a, _, g, .ref r, rfl, rfl, SqL.of ((smX2.trans smY) _ _ ha1), at_of (j := g.toNat) (by omega) e1, ?_⟩⟩
               refine ⟨_, rfl, Or.inl ⟨r, _, s, oN (rkM n es g s), rfl, rfl, SqL.of e3, at_of (j := s.toNat) (by omega) e4, ?_⟩⟩
               refine ⟨_, hDY, ?_, same_upd smY nD, ?_⟩
               · rw [List.length_map, List.length_take]
                 exact Nat.lt_of_le_of_lt (m := 20) (by omega) (by decide)
               · rw [upd_same, htk, List.map_append, e2]
                 show some (HO.lst (_ ++ [oN (some k2)])) = some (HO.lst (_ ++ [V.int (((rkM n es g s).getD 0 : Nat) : Int)]))
                 rw [e2]
                 rfl
             · rintro Y ⟨smY, hDY⟩
               rw [List.length_map, List.take_length] at hDY
               generalize hns : (t :: mates t es).map (fun s => (((rkM n es g s).getD 0 : Nat) : Int)) = vs at *
               have hDY : Y D = some (.lst (vs.map V.int)) := by rw [← hns, List.map_map]; exact hDY
               have hvs : ∀ v ∈ vs, v ≤ (k1 : Int) := fun v hv => by
                 rw [← hns] at hv
                 obtain ⟨s, hs, rfl⟩ := List.mem_map.mp hv
                 obtain ⟨k2, e2, e3⟩ := hall s hs
                 rw [e2]
                 show (k2 : Int) ≤ k1
                 omega
               have hvl : 0 < vs.length := by rw [← hns]; simp
               refine ⟨_, rfl, D, _, rfl, Or.inl (SqL.of hDY), rfl, flat_ints _, _, rfl, ?_⟩
               refine ifF (by show inV .non (vs.map V.int) = false; exact inV_non vs) ?_
               refine ⟨_, rfl, D, vs, rfl, SqL.of hDY, hvl, fun m hm _ => ?_⟩
               refine ⟨_, rfl, _, _, rfl, rfl, _, rfl, ?_⟩
               have hmk := hvs m hm
               refine ifF (decide_eq_false (by omega)) ?_
               exact ⟨_, _, _, _, rfl, smX2.trans smY⟩
       · rintro σ X ⟨y7, y8, y9, y10, rfl, smX⟩
         exact ⟨_, _, _, _, _, rfl, smX⟩
     · rintro σ X ⟨y6, y7, y8, y9, y10, rfl, smX⟩
       have hd3 := (hd.same s2).same smX
       have hq3 := hq2.same smX
       have hT3 := hTT.same smX
       have tab3 := fun x y hx hy => tab X smX x y hx hy
       have ha3 := smX _ _ ha1
       have s3 := s2.trans smX
       clear tab hn1 hn2 hqn hqn2 hTT hd
       have hn0 : (0 : Int) < (n : Int) := by omega
       refine ⟨_, rfl, ?_⟩
       refine call_next hd3 (by omega) (fun z1 H4 hz1 sb4 hd4 => ?_)
       wtm_at "fo r"
       refine call_next hd4 (by omega) (fun z2 H5 hz2 sb5 hd5 => ?_)
       wtm_at "fo r"
       refine ⟨_, _, rfl, ?_⟩
       have m1 := Int.emod_nonneg z1 (show (n : Int) ≠ 0 by omega)
       have m2 := Int.emod_lt_of_pos z1 hn0
       have m3 := Int.emod_nonneg z2 (show (n : Int) ≠ 0 by omega)
       have m4 := Int.emod_lt_of_pos z2 hn0
       have hh : 1 ≤ 1 + z1 % (n : Int) ∧ 1 + z1 % (n : Int) ≤ n := ⟨by omega, by omega⟩
       have ht : 1 ≤ 1 + z2 % (n : Int) ∧ 1 + z2 % (n : Int) ≤ n := ⟨by omega, by omega⟩
       dsimp only
       generalize 1 + z1 % (n : Int) = h at *
       generalize 1 + z2 % (n : Int) = t at *
       have sb45 := sb4.trans sb5
       have hq5 := hq3.but sb45 hd3
       have hT5 := hT3.but sb45 hd3
       have sb05 : SameBut d H H5 := (Same.but d s3).trans sb45
       clear hq3 hT3 tab3 ha3 s3 smX sb4 sb5 sb45 hd4 m1 m2 m3 m4
       refine ⟨_, rfl, _, rfl, _, rfl, _, rfl, ?_⟩
       refine call_turns h1 hn hq5 hSi hl hh ht (fun H6 sm6 => ?_)
       refine ⟨(Nat.le_of_ble_eq_true rfl : _ ≤ sizeLine), fun L nL => ?_⟩
       have smL : Same H6 (upd H6 L (.lst [rkV n es h t])) := same_upd (Same.refl _) nL
       have hL7 : (upd H6 L (.lst [rkV n es h t])) L = some (.lst [rkV n es h t]) := upd_same
       generalize upd H6 L (.lst [rkV n es h t]) = H7 at *
       have s57 := sm6.trans smL
       refine ⟨_, rfl, .inl ⟨rfl, _, SqL.of hL7⟩, ?_⟩
       refine ⟨_, rfl, _, rfl, _, rfl, _, rfl, ?_⟩
       refine call_goes h1 hn (hq5.same s57) hSi hl hh ht (fun H8 sm8 => ?_)
       refine ⟨L, _, _, rfl, rfl, sm8 _ _ hL7, Nat.lt_of_le_of_lt (m := 20) (by simp) (by decide), ?_⟩
       have s58 := s57.trans sm8
       have nL5 := sm6.free nL
       have s59 : Same H5 (upd H8 L (.lst ([rkV n es h t] ++ [goV n es h t]))) := same_upd s58 nL5
       have hL9 : (upd H8 L (.lst ([rkV n es h t] ++ [goV n es h t]))) L = some (.lst [rkV n es h t, goV n es h t]) := upd_same
       generalize upd H8 L (.lst ([rkV n es h t] ++ [goV n es h t])) = H9 at *
       have okD : DOk 1 (2 + 2 * (5 + 2)) (.list [dO ((rkM n es h t).map fun (k : Nat) => (k : Int)), dO (goM n es h t)]) := dok_list (n := 0) (b := 5) (xs := [dO ((rkM n es h t).map fun (k : Nat) => (k : Int)), dO (goM n es h t)]) (fun x hx => by
         simp only [List.mem_cons, List.not_mem_nil, or_false] at hx
         rcases hx with rfl | rfl
         · refine dok_dO fun i hi => ?_
           obtain ⟨k2, e2, rfl⟩ := Option.map_eq_some_iff.mp hi
           have := rk_lt hn k2 e2
           omega
         · exact dok_dO fun i hi => goM_lt hn hi)
       have szD := Nat.le_trans okD.len (Nat.le_of_ble_eq_true rfl : _ ≤ sizeLine)
       refine ⟨_, rfl, Or.inr (Or.inr ⟨L, _, rfl, .lst (SqL.of hL9) (.cons (dp_oV _) (.cons (dp_oV _) .nil)), okD.sh, okD.nd, Nat.le_trans okD.dep (by decide), szD, ?_⟩)⟩
       obtain ⟨ts5, b1, b2, b3⟩ := hT5.same s59
       obtain ⟨r5, c1, c2⟩ := b3 h.toNat (by omega)
       refine ⟨_, rfl, _, rfl, Or.inl ⟨a, _, h, .ref r5, rfl, rfl, SqL.of b1, at_of (j := h.toNat) (by omega) (by rw [List.getElem?_map, c1]; rfl), ?_⟩⟩
       refine ⟨_, rfl, Or.inl ⟨r5, _, t, rkV n es h t, rfl, rfl, SqL.of c2, at_of (j := t.toNat) (by omega) (by rw [rowT_get _ _ (by omega), lt_rk hh ht, rkV_oN]), ?_⟩⟩
       refine ⟨_, rfl, _, rfl, _, rfl, _, rfl, ?_⟩
       refine call_goes h1 hn (hq5.same s59) hSi hl hh ht (fun H10 sm10 => ?_)
       refine ⟨(Nat.le_of_ble_eq_true rfl : _ ≤ sizeLine), fun L2 nL2 => ?_⟩
       have smL2 : Same H10 (upd H10 L2 (.lst [rkV n es h t, goV n es h t])) := same_upd (Same.refl _) nL2
       have hL2 : (upd H10 L2 (.lst [rkV n es h t, goV n es h t])) L2 = some (.lst [rkV n es h t, goV n es h t]) := upd_same
       generalize upd H10 L2 (.lst [rkV n es h t, goV n es h t]) = H11 at *
       refine Or.inr (Or.inr ⟨L2, _, rfl, .lst (SqL.of hL2) (.cons (dp_oV _) (.cons (dp_oV _) .nil)), okD.sh, okD.nd, Nat.le_trans okD.dep (by decide), szD, ?_⟩)
       refine Or.inl ⟨rfl, _, rfl, ?_⟩
       refine ifF (neFT _) ?_
       have s511 := s59.trans (sm10.trans smL2)
       refine ⟨_, rfl, Or.inr (Or.inr ⟨q, dE es, rfl, dp_dE (hq5.same s511), okE.sh, okE.nd, Nat.le_trans okE.dep (by decide), szE, ?_⟩)⟩
       refine ⟨_, rfl, Or.inl ⟨rfl, _, rfl, ?_⟩⟩
       refine ifF (neFT _) ?_
       refine ⟨_, rfl, _, rfl, _, rfl, _, rfl, ?_⟩
       exact call_str (hd5.same s511) (by omega) h1 hn (hq5.same s511) hSi hl (hT5.same s511) fun H' k' sb hd' hk' => fin H' k' ((sb05.trans (Same.but d s511)).trans sb) hd' (by omega)
end
/-! piece TVs -/
section
local macro_rules | `(tactic| wtm_at "fo a") => `(tactic| first
  | exact pa_nil
  | (refine' pa_cons ?k1 ?k2; (case k1 => wtm_at "fo e"); (case k2 => wtm_at "fo a"))
  | fail "no")
local macro_rules | `(tactic| wtm_at "fo v") => `(tactic| first
  | exact pv 0
  | exact pv 1
  | exact pv 2
  | exact pv 3
  | exact pv 4
  | exact pv 5
  | exact pv 6
  | exact pv 7
  | exact pv 8
  | exact pv 9
  | exact pv 10
  | exact pv 11
  | exact pv 12
  | exact pv 13
  | exact pv 14
  | exact pv 15
  | fail "no")
local macro_rules | `(tactic| wtm_at "fo e") => `(tactic| first
  | with_reducible exact pe_int
  | with_reducible exact pe_bl
  | with_reducible exact pe_non
  | with_reducible exact pe_str
  | ((with_reducible show PE _ (.Name _ _) _); wtm_at "fo v")
  | ((with_reducible show PE _ (.BinOp _ .Add _ _) _); apply pe_op opAddB <;> wtm_at "fo e")
  | ((with_reducible show PE _ (.BinOp _ .Sub _ _) _); apply pe_op op_sub <;> wtm_at "fo e")
  | ((with_reducible show PE _ (.BinOp _ .Mult _ _) _); apply pe_op op_mul <;> wtm_at "fo e")
  | ((with_reducible show PE _ (.BinOp _ .Mod _ _) _); apply pe_op op_mod <;> wtm_at "fo e")
  | ((with_reducible show PE _ (.BinOp _ .FloorDiv _ _) _); apply pe_op op_fdiv <;> wtm_at "fo e")
  | ((with_reducible show PE _ (.BinOp _ .Pow _ _) _); apply pe_op op_powW <;> wtm_at "fo e")
  | ((with_reducible show PE _ (.BinOp _ .LShift _ _) _); apply pe_op op_shl <;> wtm_at "fo e")
  | ((with_reducible show PE _ (.BinOp _ .RShift _ _) _); apply pe_op op_shr <;> wtm_at "fo e")
  | ((with_reducible show PE _ (.BinOp _ .BitAnd _ _) _); apply pe_op op_and <;> wtm_at "fo e")
  | ((with_reducible show PE _ (.List _ _) _); apply pe_lst; wtm_at "fo a")
  | ((with_reducible show PE _ (.Tuple _ _ _) _); apply pe_tup; wtm_at "fo a")
  | ((with_reducible show PE _ (.ListComp _ [_] _ _) _); wtm_at "fo lc")
  | ((with_reducible show PE _ (.IfExp _ _ _ _) _); apply pe_ifExp; (· wtm_at "fo t"); (· wtm_at "fo e"); (· wtm_at "fo e"))
  | ((with_reducible show PE _ (.UnaryOp .USub _ _) _); apply pe_un un_neg; wtm_at "fo e")
  | ((with_reducible show PE _ (.Call (.Name _ _) [] (_ :: _) _) _); wtm_at "fo kcall")
  | ((with_reducible show PE _ (.Call (.Name _ _) _ _ _) _); wtm_at "fo call")
  | ((with_reducible show PE _ (.Call (.Attribute _ _ _) _ _ _) _); wtm_at "fo meth")
  | ((with_reducible show PE _ (.Compare _ _ _ _) _); wtm_at "fo cmp")
  | ((with_reducible show PE _ (.Subscript _ (.Slice _ _ _ _) _) _); wtm_at "fo slice")
  | ((with_reducible show PE _ (.Subscript _ _ _) _); refine' pe_ix (ix_seqK (by assumption) (by exact rfl)) ?ka ?kb (fun _ _ => rfl); (case ka => wtm_at "fo e"); (case kb => wtm_at "fo e"))
  | fail "no")
local macro_rules | `(tactic| wtm_at "fo own") => `(tactic| first
  | ((show _ = [0]); kernel_rfl!)
  | ((show _ = [1]); kernel_rfl!)
  | ((show _ = [2]); kernel_rfl!)
  | ((show _ = [3]); kernel_rfl!)
  | ((show _ = [4]); kernel_rfl!)
  | ((show _ = [5]); kernel_rfl!)
  | ((show _ = [6]); kernel_rfl!)
  | ((show _ = [7]); kernel_rfl!)
  | ((show _ = [8]); kernel_rfl!)
  | ((show _ = [9]); kernel_rfl!)
  | ((show _ = [10]); kernel_rfl!)
  | ((show _ = [11]); kernel_rfl!)
  | ((show _ = [12]); kernel_rfl!)
  | ((show _ = [13]); kernel_rfl!)
  | ((show _ = [14]); kernel_rfl!)
  | ((show _ = [15]); kernel_rfl!)
  | ((show _ = [0, 1]); kernel_rfl!)
  | ((show _ = [1, 2]); kernel_rfl!)
  | ((show _ = [2, 3]); kernel_rfl!)
  | ((show _ = [3, 4]); kernel_rfl!)
  | ((show _ = [4, 5]); kernel_rfl!)
  | ((show _ = [5, 6]); kernel_rfl!)
  | ((show _ = [6, 7]); kernel_rfl!)
  | ((show _ = [7, 8]); kernel_rfl!)
  | ((show _ = [8, 9]); kernel_rfl!)
  | ((show _ = [9, 10]); kernel_rfl!)
  | ((show _ = [10, 11]); kernel_rfl!)
  | ((show _ = [11, 12]); kernel_rfl!)
  | ((show _ = [12, 13]); kernel_rfl!)
  | ((show _ = [13, 14]); kernel_rfl!)
  | ((show _ = [14, 15]); kernel_rfl!)
  | fail "no")
local macro_rules | `(tactic| wtm_at "fo ts") => `(tactic| first
  | exact pts_nil
  | (apply pts_one; wtm_at "fo t")
  | fail "no")
local macro_rules | `(tactic| wtm_at "fo lc") => `(tactic| first
  | (refine' pe_lcO (by assumption) (by exact rfl) (by exact rfl) (by wtm_at "fo own") (by decide +kernel) rfl ?ki ?kg ?kt ?ke; (case ki => wtm_at "fo i"); (case kg => (intro _ _ _ _ _; wtm_at "fo g")); (case kt => (intro _ _ _ _ _; wtm_at "fo ts")); (case ke => (intro _ _ _ _ _; wtm_at "fo e")))
  | fail "no")
local macro_rules | `(tactic| wtm_at "fo part") => `(tactic| first
  | exact po_none
  | (apply po_some; wtm_at "fo e")
  | fail "no")
local macro_rules | `(tactic| wtm_at "fo slice") => `(tactic| first
  | ((with_reducible show PE _ (.Subscript _ (.Slice _ _ none _) _) _); refine' pe_slice (sl_listK (by assumption) (by exact rfl)) ?ka ?kb ?kc; (case ka => wtm_at "fo e"); (case kb => wtm_at "fo part"); (case kc => wtm_at "fo part"))
  | ((with_reducible show PE _ (.Subscript _ (.Slice none none (some _) _) _) _); refine' pe_stepK (by assumption) (by exact rfl) ?ka ?kb; (case ka => wtm_at "fo e"); (case kb => wtm_at "fo e"))
  | fail "no")
local macro_rules | `(tactic| wtm_at "fo cmp") => `(tactic| first
  | ((with_reducible show PE _ (.Compare _ [.Lt] _ _) _); refine' pe_cmpR op_lt ?ka ?kb (nomark _); (case ka => wtm_at "fo e"); (case kb => wtm_at "fo e"))
  | ((with_reducible show PE _ (.Compare _ [.LtE] _ _) _); refine' pe_cmpR op_le ?ka ?kb (nomark _); (case ka => wtm_at "fo e"); (case kb => wtm_at "fo e"))
  | ((with_reducible show PE _ (.Compare _ [.Gt] _ _) _); refine' pe_cmpR op_gt ?ka ?kb (nomark _); (case ka => wtm_at "fo e"); (case kb => wtm_at "fo e"))
  | ((with_reducible show PE _ (.Compare _ [.GtE] _ _) _); refine' pe_cmpR op_ge ?ka ?kb (nomark _); (case ka => wtm_at "fo e"); (case kb => wtm_at "fo e"))
  | ((with_reducible show PE _ (.Compare _ [.Eq] _ _) _); refine' pe_cmpR (op_eqK (by assumption) (by exact rfl) (Room.units (by assumption))) ?ka ?kb (nomark _); (case ka => wtm_at "fo e"); (case kb => wtm_at "fo e"))
  | ((with_reducible show PE _ (.Compare _ [.NotEq] _ _) _); refine' pe_cmpR (op_neK (by assumption) (by exact rfl) (Room.units (by assumption))) ?ka ?kb (nomark _); (case ka => wtm_at "fo e"); (case kb => wtm_at "fo e"))
  | fail "no")
local macro_rules | `(tactic| wtm_at "fo tcmp") => `(tactic| first
  | ((with_reducible show PT _ (.Compare _ [.Lt] _ _) _); refine' pt_cmpR op_lt ?ka ?kb (nomark _); (case ka => wtm_at "fo e"); (case kb => wtm_at "fo e"))
  | ((with_reducible show PT _ (.Compare _ [.LtE] _ _) _); refine' pt_cmpR op_le ?ka ?kb (nomark _); (case ka => wtm_at "fo e"); (case kb => wtm_at "fo e"))
  | ((with_reducible show PT _ (.Compare _ [.Gt] _ _) _); refine' pt_cmpR op_gt ?ka ?kb (nomark _); (case ka => wtm_at "fo e"); (case kb => wtm_at "fo e"))
  | ((with_reducible show PT _ (.Compare _ [.GtE] _ _) _); refine' pt_cmpR op_ge ?ka ?kb (nomark _); (case ka => wtm_at "fo e"); (case kb => wtm_at "fo e"))
  | ((with_reducible show PT _ (.Compare _ [.Eq] _ _) _); refine' pt_cmpR (op_eqK (by assumption) (by exact rfl) (Room.units (by assumption))) ?ka ?kb (nomark _); (case ka => wtm_at "fo e"); (case kb => wtm_at "fo e"))
  | ((with_reducible show PT _ (.Compare _ [.NotEq] _ _) _); refine' pt_cmpR (op_neK (by assumption) (by exact rfl) (Room.units (by assumption))) ?ka ?kb (nomark _); (case ka => wtm_at "fo e"); (case kb => wtm_at "fo e"))
  | ((with_reducible show PT _ (.Compare _ [.In] _ _) _); refine' pt_cmpR (op_inK (by assumption) (by exact rfl)) ?ka ?kb rfl; (case ka => wtm_at "fo e"); (case kb => wtm_at "fo e"))
  | ((with_reducible show PT _ (.Compare _ [.NotIn] _ _) _); refine' pt_cmpR (op_notInK (by assumption) (by exact rfl)) ?ka ?kb rfl; (case ka => wtm_at "fo e"); (case kb => wtm_at "fo e"))
  | fail "no")
local macro_rules | `(tactic| wtm_at "fo w") => `(tactic| first
  | ((with_reducible show PW _ (.BoolOp .And [_] _) _); apply pw_and1; wtm_at "fo t")
  | ((with_reducible show PW _ (.BoolOp .And _ _) _); apply pw_and; (· wtm_at "fo t"); (· wtm_at "fo w"))
  | ((with_reducible show PW _ (.BoolOp .Or [_] _) _); apply pw_or1; wtm_at "fo t")
  | ((with_reducible show PW _ (.BoolOp .Or _ _) _); apply pw_or; (· wtm_at "fo t"); (· wtm_at "fo w"))
  | fail "no")
local macro_rules | `(tactic| wtm_at "fo meth") => `(tactic| first
  | ((with_reducible show PE _ (.Call (.Attribute _ (Str.ofString "append") _) _ _ _) _); refine' pe_bm PySem.F.plainAttrs_list PySem.F.slot_list_append PySem.F.type_list_append mt_append ?ka ?kb; (case ka => wtm_at "fo e"); (case kb => wtm_at "fo a"))
  | ((with_reducible show PE _ (.Call (.Attribute _ (Str.ofString "pop") _) [_] _ _) _); refine' pe_bm PySem.F.plainAttrs_list PySem.F.slot_list_pop PySem.F.type_list_pop mt_popAt ?ka ?kb; (case ka => wtm_at "fo e"); (case kb => wtm_at "fo a"))
  | ((with_reducible show PE _ (.Call (.Attribute _ (Str.ofString "pop") _) [] _ _) _); refine' pe_bm0 PySem.F.plainAttrs_list PySem.F.slot_list_pop PySem.F.type_list_pop mt_pop ?ka; (case ka => wtm_at "fo e"))
  | fail "no")
local macro_rules | `(tactic| wtm_at "fo k") => `(tactic| first
  | exact pk_nil
  | (refine' pk_cons ?k1 ?k2; (case k1 => wtm_at "fo e"); (case k2 => wtm_at "fo k"))
  | fail "no")
local macro_rules | `(tactic| wtm_at "fo kcall") => `(tactic| first
  | (refine' pe_kcal (by assumption) (by assumption) (by decide) (by rfl) ?ka; (case ka => wtm_at "fo k"))
  | fail "no")
local macro_rules | `(tactic| wtm_at "fo call") => `(tactic| first
  | ((with_reducible show PE _ (.Call (.Name (Str.ofString "int") _) _ _ _) _); refine' pe_callTy call_intB (by rfl) (by assumption) (by decide +kernel) ?ka; (case ka => wtm_at "fo a"))
  | ((with_reducible show PE _ (.Call (.Name (Str.ofString "len") _) _ _ _) _); refine' pe_callB (call_lenK (by assumption) (by exact rfl)) (by rfl) (by assumption) PySem.boot_len ?ka; (case ka => wtm_at "fo a"))
  | ((with_reducible show PE _ (.Call (.Name (Str.ofString "list") _) [.Call (.Name (Str.ofString "range") _) [_, _] _ _] _ _) _); refine' pe_listRg rfl (by rfl) (by assumption) (prg_2 (by rfl) (by assumption) ?ka ?kb); (case ka => wtm_at "fo e"); (case kb => wtm_at "fo e"))
  | ((with_reducible show PE _ (.Call (.Name (Str.ofString "list") _) _ _ _) _); refine' pe_callTy (call_listK (by assumption) (by exact rfl)) (by rfl) (by assumption) (by decide +kernel) ?ka; (case ka => wtm_at "fo a"))
  | ((with_reducible show PE _ (.Call (.Name (Str.ofString "min") _) [_, _] _ _) _); refine' pe_callB (call_min2 rfl) (by rfl) (by assumption) (by decide +kernel) ?ka; (case ka => wtm_at "fo a"))
  | ((with_reducible show PE _ (.Call (.Name (Str.ofString "sorted") _) [_] _ _) _); refine' pe_callB (cr_sortedK (by assumption) (by exact rfl)) (by rfl) (by assumption) (by decide +kernel) ?ka; (case ka => wtm_at "fo a"))
  | ((with_reducible show PE _ (.Call (.Name (Str.ofString "repr") _) [_] _ _) _); refine' pe_callB (call_reprK (by assumption) (by exact rfl) (by assumption) (Room.units (by assumption))) (by rfl) (by assumption) (by decide +kernel) ?ka; (case ka => wtm_at "fo a"))
  | (refine' pe_cal (by assumption) (by assumption) (by decide) (by rfl) ?ka; (case ka => wtm_at "fo a"))
  | fail "no")
local macro_rules | `(tactic| wtm_at "fo setlc") => `(tactic| first
  | (refine' ps_setLcO (i := 0) (by assumption) (by exact rfl) (by exact rfl) (by wtm_at "fo own") (by decide +kernel) rfl rfl rfl (sw_true rfl rfl rfl (by decide +kernel)) ?ki ?kg ?kt ?ke; (case ki => wtm_at "fo i"); (case kg => (intro _ _ _ _ _; wtm_at "fo g")); (case kt => (intro _ _ _ _ _; wtm_at "fo ts")); (case ke => (intro _ _ _ _ _; wtm_at "fo e")))
  | (refine' ps_setLcO (i := 1) (by assumption) (by exact rfl) (by exact rfl) (by wtm_at "fo own") (by decide +kernel) rfl rfl rfl (sw_true rfl rfl rfl (by decide +kernel)) ?ki ?kg ?kt ?ke; (case ki => wtm_at "fo i"); (case kg => (intro _ _ _ _ _; wtm_at "fo g")); (case kt => (intro _ _ _ _ _; wtm_at "fo ts")); (case ke => (intro _ _ _ _ _; wtm_at "fo e")))
  | (refine' ps_setLcO (i := 2) (by assumption) (by exact rfl) (by exact rfl) (by wtm_at "fo own") (by decide +kernel) rfl rfl rfl (sw_true rfl rfl rfl (by decide +kernel)) ?ki ?kg ?kt ?ke; (case ki => wtm_at "fo i"); (case kg => (intro _ _ _ _ _; wtm_at "fo g")); (case kt => (intro _ _ _ _ _; wtm_at "fo ts")); (case ke => (intro _ _ _ _ _; wtm_at "fo e")))
  | (refine' ps_setLcO (i := 3) (by assumption) (by exact rfl) (by exact rfl) (by wtm_at "fo own") (by decide +kernel) rfl rfl rfl (sw_true rfl rfl rfl (by decide +kernel)) ?ki ?kg ?kt ?ke; (case ki => wtm_at "fo i"); (case kg => (intro _ _ _ _ _; wtm_at "fo g")); (case kt => (intro _ _ _ _ _; wtm_at "fo ts")); (case ke => (intro _ _ _ _ _; wtm_at "fo e")))
  | (refine' ps_setLcO (i := 4) (by assumption) (by exact rfl) (by exact rfl) (by wtm_at "fo own") (by decide +kernel) rfl rfl rfl (sw_true rfl rfl rfl (by decide +kernel)) ?ki ?kg ?kt ?ke; (case ki => wtm_at "fo i"); (case kg => (intro _ _ _ _ _; wtm_at "fo g")); (case kt => (intro _ _ _ _ _; wtm_at "fo ts")); (case ke => (intro _ _ _ _ _; wtm_at "fo e")))
  | (refine' ps_setLcO (i := 5) (by assumption) (by exact rfl) (by exact rfl) (by wtm_at "fo own") (by decide +kernel) rfl rfl rfl (sw_true rfl rfl rfl (by decide +kernel)) ?ki ?kg ?kt ?ke; (case ki => wtm_at "fo i"); (case kg => (intro _ _ _ _ _; wtm_at "fo g")); (case kt => (intro _ _ _ _ _; wtm_at "fo ts")); (case ke => (intro _ _ _ _ _; wtm_at "fo e")))
  | (refine' ps_setLcO (i := 6) (by assumption) (by exact rfl) (by exact rfl) (by wtm_at "fo own") (by decide +kernel) rfl rfl rfl (sw_true rfl rfl rfl (by decide +kernel)) ?ki ?kg ?kt ?ke; (case ki => wtm_at "fo i"); (case kg => (intro _ _ _ _ _; wtm_at "fo g")); (case kt => (intro _ _ _ _ _; wtm_at "fo ts")); (case ke => (intro _ _ _ _ _; wtm_at "fo e")))
  | (refine' ps_setLcO (i := 7) (by assumption) (by exact rfl) (by exact rfl) (by wtm_at "fo own") (by decide +kernel) rfl rfl rfl (sw_true rfl rfl rfl (by decide +kernel)) ?ki ?kg ?kt ?ke; (case ki => wtm_at "fo i"); (case kg => (intro _ _ _ _ _; wtm_at "fo g")); (case kt => (intro _ _ _ _ _; wtm_at "fo ts")); (case ke => (intro _ _ _ _ _; wtm_at "fo e")))
  | (refine' ps_setLcO (i := 8) (by assumption) (by exact rfl) (by exact rfl) (by wtm_at "fo own") (by decide +kernel) rfl rfl rfl (sw_true rfl rfl rfl (by decide +kernel)) ?ki ?kg ?kt ?ke; (case ki => wtm_at "fo i"); (case kg => (intro _ _ _ _ _; wtm_at "fo g")); (case kt => (intro _ _ _ _ _; wtm_at "fo ts")); (case ke => (intro _ _ _ _ _; wtm_at "fo e")))
  | (refine' ps_setLcO (i := 9) (by assumption) (by exact rfl) (by exact rfl) (by wtm_at "fo own") (by decide +kernel) rfl rfl rfl (sw_true rfl rfl rfl (by decide +kernel)) ?ki ?kg ?kt ?ke; (case ki => wtm_at "fo i"); (case kg => (intro _ _ _ _ _; wtm_at "fo g")); (case kt => (intro _ _ _ _ _; wtm_at "fo ts")); (case ke => (intro _ _ _ _ _; wtm_at "fo e")))
  | (refine' ps_setLcO (i := 10) (by assumption) (by exact rfl) (by exact rfl) (by wtm_at "fo own") (by decide +kernel) rfl rfl rfl (sw_true rfl rfl rfl (by decide +kernel)) ?ki ?kg ?kt ?ke; (case ki => wtm_at "fo i"); (case kg => (intro _ _ _ _ _; wtm_at "fo g")); (case kt => (intro _ _ _ _ _; wtm_at "fo ts")); (case ke => (intro _ _ _ _ _; wtm_at "fo e")))
  | (refine' ps_setLcO (i := 11) (by assumption) (by exact rfl) (by exact rfl) (by wtm_at "fo own") (by decide +kernel) rfl rfl rfl (sw_true rfl rfl rfl (by decide +kernel)) ?ki ?kg ?kt ?ke; (case ki => wtm_at "fo i"); (case kg => (intro _ _ _ _ _; wtm_at "fo g")); (case kt => (intro _ _ _ _ _; wtm_at "fo ts")); (case ke => (intro _ _ _ _ _; wtm_at "fo e")))
  | (refine' ps_setLcO (i := 12) (by assumption) (by exact rfl) (by exact rfl) (by wtm_at "fo own") (by decide +kernel) rfl rfl rfl (sw_true rfl rfl rfl (by decide +kernel)) ?ki ?kg ?kt ?ke; (case ki => wtm_at "fo i"); (case kg => (intro _ _ _ _ _; wtm_at "fo g")); (case kt => (intro _ _ _ _ _; wtm_at "fo ts")); (case ke => (intro _ _ _ _ _; wtm_at "fo e")))
  | (refine' ps_setLcO (i := 13) (by assumption) (by exact rfl) (by exact rfl) (by wtm_at "fo own") (by decide +kernel) rfl rfl rfl (sw_true rfl rfl rfl (by decide +kernel)) ?ki ?kg ?kt ?ke; (case ki => wtm_at "fo i"); (case kg => (intro _ _ _ _ _; wtm_at "fo g")); (case kt => (intro _ _ _ _ _; wtm_at "fo ts")); (case ke => (intro _ _ _ _ _; wtm_at "fo e")))
  | (refine' ps_setLcO (i := 14) (by assumption) (by exact rfl) (by exact rfl) (by wtm_at "fo own") (by decide +kernel) rfl rfl rfl (sw_true rfl rfl rfl (by decide +kernel)) ?ki ?kg ?kt ?ke; (case ki => wtm_at "fo i"); (case kg => (intro _ _ _ _ _; wtm_at "fo g")); (case kt => (intro _ _ _ _ _; wtm_at "fo ts")); (case ke => (intro _ _ _ _ _; wtm_at "fo e")))
  | (refine' ps_setLcO (i := 15) (by assumption) (by exact rfl) (by exact rfl) (by wtm_at "fo own") (by decide +kernel) rfl rfl rfl (sw_true rfl rfl rfl (by decide +kernel)) ?ki ?kg ?kt ?ke; (case ki => wtm_at "fo i"); (case kg => (intro _ _ _ _ _; wtm_at "fo g")); (case kt => (intro _ _ _ _ _; wtm_at "fo ts")); (case ke => (intro _ _ _ _ _; wtm_at "fo e")))
  | fail "no")
local macro_rules | `(tactic| wtm_at "fo set") => `(tactic| first
  | (refine' ps_set (i := 0) (by assumption) rfl (by first | exact Or.inl rfl | exact Or.inr rfl) ?ka; (case ka => wtm_at "fo e"))
  | (refine' ps_set (i := 1) (by assumption) rfl (by first | exact Or.inl rfl | exact Or.inr rfl) ?ka; (case ka => wtm_at "fo e"))
  | (refine' ps_set (i := 2) (by assumption) rfl (by first | exact Or.inl rfl | exact Or.inr rfl) ?ka; (case ka => wtm_at "fo e"))
  | (refine' ps_set (i := 3) (by assumption) rfl (by first | exact Or.inl rfl | exact Or.inr rfl) ?ka; (case ka => wtm_at "fo e"))
  | (refine' ps_set (i := 4) (by assumption) rfl (by first | exact Or.inl rfl | exact Or.inr rfl) ?ka; (case ka => wtm_at "fo e"))
  | (refine' ps_set (i := 5) (by assumption) rfl (by first | exact Or.inl rfl | exact Or.inr rfl) ?ka; (case ka => wtm_at "fo e"))
  | (refine' ps_set (i := 6) (by assumption) rfl (by first | exact Or.inl rfl | exact Or.inr rfl) ?ka; (case ka => wtm_at "fo e"))
  | (refine' ps_set (i := 7) (by assumption) rfl (by first | exact Or.inl rfl | exact Or.inr rfl) ?ka; (case ka => wtm_at "fo e"))
  | (refine' ps_set (i := 8) (by assumption) rfl (by first | exact Or.inl rfl | exact Or.inr rfl) ?ka; (case ka => wtm_at "fo e"))
  | (refine' ps_set (i := 9) (by assumption) rfl (by first | exact Or.inl rfl | exact Or.inr rfl) ?ka; (case ka => wtm_at "fo e"))
  | (refine' ps_set (i := 10) (by assumption) rfl (by first | exact Or.inl rfl | exact Or.inr rfl) ?ka; (case ka => wtm_at "fo e"))
  | (refine' ps_set (i := 11) (by assumption) rfl (by first | exact Or.inl rfl | exact Or.inr rfl) ?ka; (case ka => wtm_at "fo e"))
  | (refine' ps_set (i := 12) (by assumption) rfl (by first | exact Or.inl rfl | exact Or.inr rfl) ?ka; (case ka => wtm_at "fo e"))
  | (refine' ps_set (i := 13) (by assumption) rfl (by first | exact Or.inl rfl | exact Or.inr rfl) ?ka; (case ka => wtm_at "fo e"))
  | fail "no")
local macro_rules | `(tactic| wtm_at "fo t") => `(tactic| first
  | ((with_reducible show PT _ (.BoolOp _ _ _) _); apply PW.pt; wtm_at "fo w")
  | ((with_reducible show PT _ (.UnaryOp .Not _ _) _); apply pt_not; wtm_at "fo t")
  | ((with_reducible show PT _ (.Compare _ _ _ _) _); wtm_at "fo tcmp")
  | (refine' pt_truthK (by assumption) (by exact rfl) ?ka (by intro _; rfl); (case ka => wtm_at "fo e"))
  | fail "no")
local macro_rules | `(tactic| wtm_at "fo gn") => `(tactic| first
  | exact pg_name (i := 0) (by assumption) rfl (by first | exact Or.inl rfl | exact Or.inr rfl)
  | exact pg_name (i := 1) (by assumption) rfl (by first | exact Or.inl rfl | exact Or.inr rfl)
  | exact pg_name (i := 2) (by assumption) rfl (by first | exact Or.inl rfl | exact Or.inr rfl)
  | exact pg_name (i := 3) (by assumption) rfl (by first | exact Or.inl rfl | exact Or.inr rfl)
  | exact pg_name (i := 4) (by assumption) rfl (by first | exact Or.inl rfl | exact Or.inr rfl)
  | exact pg_name (i := 5) (by assumption) rfl (by first | exact Or.inl rfl | exact Or.inr rfl)
  | exact pg_name (i := 6) (by assumption) rfl (by first | exact Or.inl rfl | exact Or.inr rfl)
  | exact pg_name (i := 7) (by assumption) rfl (by first | exact Or.inl rfl | exact Or.inr rfl)
  | exact pg_name (i := 8) (by assumption) rfl (by first | exact Or.inl rfl | exact Or.inr rfl)
  | exact pg_name (i := 9) (by assumption) rfl (by first | exact Or.inl rfl | exact Or.inr rfl)
  | exact pg_name (i := 10) (by assumption) rfl (by first | exact Or.inl rfl | exact Or.inr rfl)
  | exact pg_name (i := 11) (by assumption) rfl (by first | exact Or.inl rfl | exact Or.inr rfl)
  | exact pg_name (i := 12) (by assumption) rfl (by first | exact Or.inl rfl | exact Or.inr rfl)
  | exact pg_name (i := 13) (by assumption) rfl (by first | exact Or.inl rfl | exact Or.inr rfl)
  | exact pg_name (i := 14) (by assumption) rfl (by first | exact Or.inl rfl | exact Or.inr rfl)
  | exact pg_name (i := 15) (by assumption) rfl (by first | exact Or.inl rfl | exact Or.inr rfl)
  | fail "no")
local macro_rules | `(tactic| wtm_at "fo par") => `(tactic| first
  | (refine' ps_par (i := 0) (j := 1) rfl (by assumption) rfl rfl (by decide) rfl rfl ?ka (by rfl); (case ka => wtm_at "fo a"))
  | (refine' ps_par (i := 1) (j := 2) rfl (by assumption) rfl rfl (by decide) rfl rfl ?ka (by rfl); (case ka => wtm_at "fo a"))
  | (refine' ps_par (i := 2) (j := 3) rfl (by assumption) rfl rfl (by decide) rfl rfl ?ka (by rfl); (case ka => wtm_at "fo a"))
  | (refine' ps_par (i := 3) (j := 4) rfl (by assumption) rfl rfl (by decide) rfl rfl ?ka (by rfl); (case ka => wtm_at "fo a"))
  | (refine' ps_par (i := 4) (j := 5) rfl (by assumption) rfl rfl (by decide) rfl rfl ?ka (by rfl); (case ka => wtm_at "fo a"))
  | (refine' ps_par (i := 5) (j := 6) rfl (by assumption) rfl rfl (by decide) rfl rfl ?ka (by rfl); (case ka => wtm_at "fo a"))
  | (refine' ps_par (i := 6) (j := 7) rfl (by assumption) rfl rfl (by decide) rfl rfl ?ka (by rfl); (case ka => wtm_at "fo a"))
  | (refine' ps_par (i := 7) (j := 8) rfl (by assumption) rfl rfl (by decide) rfl rfl ?ka (by rfl); (case ka => wtm_at "fo a"))
  | (refine' ps_par (i := 8) (j := 9) rfl (by assumption) rfl rfl (by decide) rfl rfl ?ka (by rfl); (case ka => wtm_at "fo a"))
  | (refine' ps_par (i := 9) (j := 10) rfl (by assumption) rfl rfl (by decide) rfl rfl ?ka (by rfl); (case ka => wtm_at "fo a"))
  | (refine' ps_par (i := 10) (j := 11) rfl (by assumption) rfl rfl (by decide) rfl rfl ?ka (by rfl); (case ka => wtm_at "fo a"))
  | (refine' ps_par (i := 11) (j := 12) rfl (by assumption) rfl rfl (by decide) rfl rfl ?ka (by rfl); (case ka => wtm_at "fo a"))
  | (refine' ps_par (i := 12) (j := 13) rfl (by assumption) rfl rfl (by decide) rfl rfl ?ka (by rfl); (case ka => wtm_at "fo a"))
  | (refine' ps_par (i := 13) (j := 14) rfl (by assumption) rfl rfl (by decide) rfl rfl ?ka (by rfl); (case ka => wtm_at "fo a"))
  | (refine' ps_par (i := 14) (j := 15) rfl (by assumption) rfl rfl (by decide) rfl rfl ?ka (by rfl); (case ka => wtm_at "fo a"))
  | fail "no")
local macro_rules | `(tactic| wtm_at "fo g") => `(tactic| first
  | ((with_reducible show PG _ (.Name _ _) _); wtm_at "fo gn")
  | ((with_reducible show PG _ (.Tuple _ _ _) _); apply PG_or; (· refine' pg_tup2 (by assumption) (by exact rfl) rfl ?kg; (case kg => wtm_at "fo gs")); (· refine' pg_unl2 (by assumption) (by exact rfl) rfl ?kg; (case kg => wtm_at "fo gs")))
  | fail "no")
local macro_rules | `(tactic| wtm_at "fo gs") => `(tactic| first
  | exact pgs_nil
  | (refine' pgs_cons ?k1 ?k2; (case k1 => wtm_at "fo g"); (case k2 => wtm_at "fo gs"))
  | fail "no")
local macro_rules | `(tactic| wtm_at "fo i") => `(tactic| first
  | ((with_reducible show PI _ _ (.Call (.Name (Str.ofString "range") _) [_] _ _) _); refine' pi_range1 (by rfl) (by assumption) ?ka; (case ka => wtm_at "fo a"))
  | ((with_reducible show PI _ _ (.Call (.Name (Str.ofString "range") _) [_, _] _ _) _); refine' pi_range2 (by rfl) (by assumption) ?ka; (case ka => wtm_at "fo a"))
  | ((with_reducible show PI _ _ (.Call (.Name (Str.ofString "enumerate") _) [_] _ _) _); refine' pi_enum (by rfl) (by assumption) ?ka; (case ka => wtm_at "fo a"))
  | (refine' pi_listK (by assumption) (by exact rfl) ?ka; (case ka => wtm_at "fo e"))
  | fail "no")
local macro_rules | `(tactic| wtm_at "fo s") => `(tactic| first
  | ((with_reducible show PS _ (.While _ _ _ _) _); refine' ps_while PassesOwn.never ?kt ?kb; (case kt => wtm_at "fo t"); (case kb => wtm_at "fo ss"))
  | ((with_reducible show PS _ (.For _ _ _ _ _) _); refine' ps_for PassesOwn.never rfl ?ki ?kg ?kb; (case ki => wtm_at "fo i"); (case kg => wtm_at "fo g"); (case kb => wtm_at "fo ss"))
  | ((with_reducible show PS _ (.Assign [.Name _ _] (.ListComp _ [_] _ _) _) _); wtm_at "fo setlc")
  | ((with_reducible show PS _ (.Assign [.Name _ _] _ _) _); wtm_at "fo set")
  | ((with_reducible show PS _ (.Assign [.Tuple [.Name _ _, .Name _ _] _ _] (.Tuple [_, _] _ _) _) _); wtm_at "fo par")
  | ((with_reducible show PS _ (.Assign [.Subscript _ _ _] _ _) _); refine' ps_asg ?ka (pg_sub ?kb ?kc set_list); (case ka => wtm_at "fo e"); (case kb => wtm_at "fo e"); (case kc => wtm_at "fo e"))
  | ((with_reducible show PS _ (.Return (some _) _) _); apply ps_ret; wtm_at "fo e")
  | ((with_reducible show PS _ (.Expr _ _) _); refine' ps_expr ?ka; (case ka => wtm_at "fo e"))
  | ((with_reducible show PS _ (.If _ _ _ _) _); apply ps_if; (· wtm_at "fo t"); (· wtm_at "fo ss"); (· wtm_at "fo ss"))
  | fail "no")
local macro_rules | `(tactic| wtm_at "fo ss") => `(tactic| first
  | with_reducible exact pss_nil
  | ((with_reducible show PSs _ [_] _); apply pss_one; wtm_at "fo s")
  | (apply pss_cons; (· wtm_at "fo s"); (· wtm_at "fo ss"))
  | fail "no")
local macro_rules | `(tactic| wtm_at "fo hp") => `(tactic| first
  | assumption
  | exact upd_same
  | (refine (upd_ne ?ne).trans ?hp; (case ne => wtm_at "fo ne"); (case hp => wtm_at "fo hp"))
  | fail "no")
local macro_rules | `(tactic| wtm_at "fo ne") => `(tactic| first
  | assumption
  | (apply Ne.symm; assumption)
  | exact ne_of_none (by assumption) (by assumption)
  | exact Ne.symm (ne_of_none (by assumption) (by assumption))
  | fail "no")
local macro_rules | `(tactic| wtm_at "fo sz") => `(tactic| first
  | exact (Nat.le_of_ble_eq_true rfl : _ ≤ sizeLine)
  | exact (Nat.le_of_ble_eq_true rfl : _ < sizeLine)
  | exact Nat.lt_of_le_of_lt (m := 100000) (by first | assumption | omega | (simp; omega)) (by decide)
  | exact Nat.le_trans (m := 100000) (by first | assumption | omega | (simp; omega)) (by decide)
  | fail "no")
local macro_rules | `(tactic| wtm_at "fo r1") => `(tactic| first
  | refine ⟨(Nat.le_of_ble_eq_true rfl : _ ≤ sizeLine), fun p np => ?_⟩
  | (refine' ⟨_, _, rfl, Or.inl (SqL.of ?h), ?_⟩; (case h => wtm_at "fo hp"))
  | refine ⟨_, rfl, ?_⟩
  | refine ⟨_, _, rfl, rfl, ?_⟩
  | refine ⟨_, _, rfl, ⟨by omega, by omega, by omega, by omega⟩, ?_⟩
  | refine ⟨_, rfl, by omega, by omega, ?_⟩
  | refine Or.inl ⟨_, rfl, ?_⟩
  | refine Or.inl ⟨rfl, ?_⟩
  | refine Or.inl ⟨_, _, rfl, rfl, ?_⟩
  | (refine' Or.inl ⟨_, _, _, _, rfl, rfl, SqL.of ?h, ?a, ?_⟩; (case h => wtm_at "fo hp"); (case a => rfl))
  | (refine' ⟨_, _, _, _, rfl, rfl, ?h, ?a, ?_⟩; (case h => wtm_at "fo hp"); (case a => rfl))
  | (refine' ⟨.inl ⟨rfl, _, SqL.of ?h⟩, ?_⟩; (case h => wtm_at "fo hp"))
  | (refine' ⟨_, _, _, rfl, rfl, ?h, ?z, ?_⟩; (case h => wtm_at "fo hp"); (case z => wtm_at "fo sz"))
  | (refine' ⟨_, rfl, ⟨_, SqL.of ?h⟩, ?_⟩; (case h => wtm_at "fo hp"))
  | fail "no")
local macro_rules | `(tactic| wtm_at "fo side") => `(tactic| ((try dsimp only [CMul, CDiv]); first
  | assumption
  | decide
  | omega
  | exact ⟨by decide, by decide⟩
  | exact ⟨by omega, by omega⟩
  | decide +kernel
  | fail "no"))
local macro_rules | `(tactic| wtm_at "fo r2") => `(tactic| first
  | wtm_at "fo r1"
  | refine And.intro (by wtm_at "fo side") ?_
  | fail "no")
local macro_rules | `(tactic| wtm_at "fo r") => `(tactic| repeat wtm_at "fo r2")
local macro_rules | `(tactic| wtm_at "fo v") => `(tactic| first
  | ((with_reducible show PE _ (.Name (Str.ofString "int") _) _); exact pe_bltn (v := .ty "int") (by rfl) (by assumption) (by decide +kernel) rfl)
  | ((with_reducible show PE _ (.Name (Str.ofString "list") _) _); exact pe_bltn (v := .ty "list") (by rfl) (by assumption) (by decide +kernel) rfl)
  | ((with_reducible show PE _ (.Name (Str.ofString "MOST_PLACES") _) _); exact pe_glob (v := .int 12) (by rfl) (by assumption) ⟨_, rfl⟩)
  | fail "no")
local macro_rules | `(tactic| wtm_at "fo e") => `(tactic| first
  | ((with_reducible show PE _ (.BoolOp .And [_] _) _); apply pe_one; wtm_at "fo e")
  | ((with_reducible show PE _ (.BoolOp .And _ _) _); apply pe_and; (· wtm_at "fo e"); (· wtm_at "fo e"))
  | ((with_reducible show PE _ (.Compare _ [.IsNot] [.Constant (.bool true) _ _] _) _); refine' pe_cmpR op_notT ?ka ?kb (nomark _); (case ka => wtm_at "fo e"); (case kb => wtm_at "fo e"))
  | ((with_reducible show PE _ (.Compare _ [.LtE, .LtE] _ _) _); refine' pe_chain op_le op_le ?ka ?kb ?kc; (case ka => wtm_at "fo e"); (case kb => wtm_at "fo e"); (case kc => wtm_at "fo e"))
  | ((with_reducible show PE _ (.Call (.Name (Str.ofString "isinstance") _) _ _ _) _); refine' pe_callB (call_isiK' (by assumption) (by exact rfl)) (by rfl) (by assumption) (by decide +kernel) ?ka; (case ka => wtm_at "fo a"))
  | ((with_reducible show PE _ (.Call (.Attribute _ (Str.ofString "bit_length") _) [] [] _) _); refine' pe_bits ?ka; (case ka => wtm_at "fo e"))
  | fail "no")
local macro_rules | `(tactic| wtm_at "fo t") => `(tactic| first
  | ((with_reducible show PT _ (.Compare _ [.IsNot] [.Constant (.bool true) _ _] _) _); refine' pt_cmpR op_notT ?ka ?kb (nomark _); (case ka => wtm_at "fo e"); (case kb => wtm_at "fo e"))
  | ((with_reducible show PT _ (.Compare _ [.Lt, .Lt, .LtE] _ _) _); refine' pt_chain3 op_lt op_lt op_le ?ka ?kb ?kc ?kd; (case ka => wtm_at "fo e"); (case kb => wtm_at "fo e"); (case kc => wtm_at "fo e"); (case kd => wtm_at "fo e"))
  | fail "no")
local macro_rules | `(tactic| wtm_at "fo s") => `(tactic| first
  | ((with_reducible show PS _ (.Raise _ _ _) _); exact ps_never)
  | ((with_reducible show PS _ (.Continue _) _); exact ps_continue)
  | ((with_reducible show PS _ (.AugAssign (.Subscript _ _ _) .BitOr _ _) _); refine' ps_augS ?ka ?kb get_list ?kc ip_or set_list; (case ka => wtm_at "fo e"); (case kb => wtm_at "fo e"); (case kc => wtm_at "fo e"))
  | ((with_reducible show PS _ (.Assign [.Tuple _ _ _] (.Name _ _) _) _); refine' ps_asg ?ka ?kb; (case ka => wtm_at "fo e"); (case kb => wtm_at "fo g"))
  | fail "no")
local macro_rules | `(tactic| wtm_at "fo lc") => `(tactic| (refine' pe_lcN (by assumption) (by exact rfl) (by exact rfl) (by wtm_at "fo own") (by kernel_rfl!) rfl ?ki ?kg ?kt ?ke; (case ki => wtm_at "fo i"); (case kg => (intro _ _ _ _ _; wtm_at "fo g")); (case kt => (intro _ _ _ _ _; wtm_at "fo ts")); (case ke => (intro _ _ _ _ _; wtm_at "fo e"))))
local macro_rules | `(tactic| wtm_at "fo s") => `(tactic| ((with_reducible show PS _ (.Assign [.Tuple _ _ _] (.Call _ _ _ _) _) _); refine' ps_asg ?ka ?kb; (case ka => wtm_at "fo e"); (case kb => wtm_at "fo g")))
local macro_rules | `(tactic| wtm_at "fo cmp") => `(tactic| ((with_reducible show PE _ (.Compare _ [.In] _ _) _); refine' pe_cmpR (op_inK (by assumption) (by exact rfl)) ?ka ?kb rfl; (case ka => wtm_at "fo e"); (case kb => wtm_at "fo e")))
local macro_rules | `(tactic| wtm_at "fo call") => `(tactic| ((with_reducible show PE _ (.Call (.Name (Str.ofString "list") _) [.Call (.Name (Str.ofString "range") _) [_] _ _] _ _) _); refine' pe_listRg rfl (by rfl) (by assumption) (prg_1 (by rfl) (by assumption) ?ka); (case ka => wtm_at "fo e")))
local macro_rules | `(tactic| wtm_at "fo call") => `(tactic| ((with_reducible show PE _ (.Call (.Name (Str.ofString "min") _) [_] _ _) _); refine' pe_callB (call_minK (by assumption) (by exact rfl) rfl) (by rfl) (by assumption) (by decide +kernel) ?ka; (case ka => wtm_at "fo a")))
local macro_rules | `(tactic| wtm_at "fo i") => `(tactic| ((with_reducible show PI _ _ (.Call (.Name (Str.ofString "reversed") _) [_] _ _) _); refine' pi_reversed (by rfl) (by assumption) ?ka; (case ka => wtm_at "fo a")))
local macro_rules | `(tactic| wtm_at "fo s") => `(tactic| ((with_reducible show PS _ (.AugAssign (.Name _ _) .BitXor _ _) _); first | (refine' ps_aug (i := 2) (by assumption) rfl (by first | exact Or.inl rfl | exact Or.inr rfl) ?ka ip_xor; (case ka => wtm_at "fo e")) | fail "no"))
local macro_rules | `(tactic| wtm_at "fo call") => `(tactic| (refine' pe_calG (by assumption) (by assumption) (by decide) (by assumption) (by rfl) ?ka; (case ka => wtm_at "fo a")))
local macro_rules | `(tactic| wtm_at "fo meth") => `(tactic| ((with_reducible show PE _ (.Call (.Attribute _ (Str.ofString "count") _) _ _ _) _); refine' pe_cntK (by assumption) (by exact rfl) ?ka ?kb; (case ka => wtm_at "fo e"); (case kb => wtm_at "fo a")))
local macro_rules | `(tactic| wtm_at "fo call") => `(tactic| ((with_reducible show PE _ (.Call (.Name (Str.ofString "sorted") _) [_] _ _) _); refine' pe_callB (cr_sortedB (by assumption) (by exact rfl) (Room.units (by assumption))) (by rfl) (by assumption) (by decide +kernel) ?ka; (case ka => wtm_at "fo a")))
local macro_rules | `(tactic| wtm_at "fo v") => `(tactic| first
  | exact pv 16
  | exact pv 17
  | exact pv 18
  | exact pv 19
  | fail "no")
local macro_rules | `(tactic| wtm_at "fo own") => `(tactic| first
  | ((show _ = [16]); kernel_rfl!)
  | ((show _ = [17]); kernel_rfl!)
  | ((show _ = [18]); kernel_rfl!)
  | ((show _ = [19]); kernel_rfl!)
  | ((show _ = [15, 16]); kernel_rfl!)
  | ((show _ = [16, 17]); kernel_rfl!)
  | ((show _ = [17, 18]); kernel_rfl!)
  | ((show _ = [18, 19]); kernel_rfl!)
  | fail "no")
local macro_rules | `(tactic| wtm_at "fo set") => `(tactic| first
  | (refine' ps_set (i := 14) (by assumption) rfl (by first | exact Or.inl rfl | exact Or.inr rfl) ?ka; (case ka => wtm_at "fo e"))
  | (refine' ps_set (i := 15) (by assumption) rfl (by first | exact Or.inl rfl | exact Or.inr rfl) ?ka; (case ka => wtm_at "fo e"))
  | (refine' ps_set (i := 16) (by assumption) rfl (by first | exact Or.inl rfl | exact Or.inr rfl) ?ka; (case ka => wtm_at "fo e"))
  | (refine' ps_set (i := 17) (by assumption) rfl (by first | exact Or.inl rfl | exact Or.inr rfl) ?ka; (case ka => wtm_at "fo e"))
  | (refine' ps_set (i := 18) (by assumption) rfl (by first | exact Or.inl rfl | exact Or.inr rfl) ?ka; (case ka => wtm_at "fo e"))
  | (refine' ps_set (i := 19) (by assumption) rfl (by first | exact Or.inl rfl | exact Or.inr rfl) ?ka; (case ka => wtm_at "fo e"))
  | fail "no")
local macro_rules | `(tactic| wtm_at "fo setlc") => `(tactic| first
  | (refine' ps_setLcO (i := 16) (by assumption) (by exact rfl) (by exact rfl) (by wtm_at "fo own") (by decide +kernel) rfl rfl rfl (sw_true rfl rfl rfl (by decide +kernel)) ?ki ?kg ?kt ?ke; (case ki => wtm_at "fo i"); (case kg => (intro _ _ _ _ _; wtm_at "fo g")); (case kt => (intro _ _ _ _ _; wtm_at "fo ts")); (case ke => (intro _ _ _ _ _; wtm_at "fo e")))
  | (refine' ps_setLcO (i := 17) (by assumption) (by exact rfl) (by exact rfl) (by wtm_at "fo own") (by decide +kernel) rfl rfl rfl (sw_true rfl rfl rfl (by decide +kernel)) ?ki ?kg ?kt ?ke; (case ki => wtm_at "fo i"); (case kg => (intro _ _ _ _ _; wtm_at "fo g")); (case kt => (intro _ _ _ _ _; wtm_at "fo ts")); (case ke => (intro _ _ _ _ _; wtm_at "fo e")))
  | (refine' ps_setLcO (i := 18) (by assumption) (by exact rfl) (by exact rfl) (by wtm_at "fo own") (by decide +kernel) rfl rfl rfl (sw_true rfl rfl rfl (by decide +kernel)) ?ki ?kg ?kt ?ke; (case ki => wtm_at "fo i"); (case kg => (intro _ _ _ _ _; wtm_at "fo g")); (case kt => (intro _ _ _ _ _; wtm_at "fo ts")); (case ke => (intro _ _ _ _ _; wtm_at "fo e")))
  | (refine' ps_setLcO (i := 19) (by assumption) (by exact rfl) (by exact rfl) (by wtm_at "fo own") (by decide +kernel) rfl rfl rfl (sw_true rfl rfl rfl (by decide +kernel)) ?ki ?kg ?kt ?ke; (case ki => wtm_at "fo i"); (case kg => (intro _ _ _ _ _; wtm_at "fo g")); (case kt => (intro _ _ _ _ _; wtm_at "fo ts")); (case ke => (intro _ _ _ _ _; wtm_at "fo e")))
  | fail "no")
local macro_rules | `(tactic| wtm_at "fo gn") => `(tactic| first
  | exact pg_name (i := 16) (by assumption) rfl (by first | exact Or.inl rfl | exact Or.inr rfl)
  | exact pg_name (i := 17) (by assumption) rfl (by first | exact Or.inl rfl | exact Or.inr rfl)
  | exact pg_name (i := 18) (by assumption) rfl (by first | exact Or.inl rfl | exact Or.inr rfl)
  | exact pg_name (i := 19) (by assumption) rfl (by first | exact Or.inl rfl | exact Or.inr rfl)
  | fail "no")
local macro_rules | `(tactic| wtm_at "fo s") => `(tactic| ((with_reducible show PS _ (.Assign [.Tuple _ _ _] (.Tuple _ _ _) _) _); refine' ps_asg ?ka ?kb; (case ka => wtm_at "fo e"); (case kb => wtm_at "fo g")))
local macro_rules | `(tactic| wtm_at "fo e") => `(tactic| first
  | ((with_reducible show PE _ (.UnaryOp .Invert _ _) _); apply pe_un un_inv; wtm_at "fo e")
  | ((with_reducible show PE _ (.BoolOp .Or [_] _) _); apply pe_one; wtm_at "fo e")
  | ((with_reducible show PE _ (.BoolOp .Or _ _) _); apply pe_or; (· wtm_at "fo e"); (· wtm_at "fo e"))
  | ((with_reducible show PE _ (.BinOp _ .Mult _ _) _); apply pe_op opMulB <;> wtm_at "fo e")
  | ((with_reducible show PE _ (.BinOp _ .BitOr _ _) _); apply pe_op op_or <;> wtm_at "fo e")
  | ((with_reducible show PE _ (.Compare _ [.Is] [.Constant .none _ _] _) _); refine' pe_cmpR op_isN ?ka ?kb (nomark _); (case ka => wtm_at "fo e"); (case kb => wtm_at "fo e"))
  | fail "no")
local macro_rules | `(tactic| wtm_at "fo t") => `(tactic| first
  | ((with_reducible show PT _ (.Compare _ [.Is] [.Constant .none _ _] _) _); refine' pt_cmpR op_isN ?ka ?kb (nomark _); (case ka => wtm_at "fo e"); (case kb => wtm_at "fo e"))
  | ((with_reducible show PT _ (.Compare _ [.IsNot] [.Constant .none _ _] _) _); refine' pt_cmpR op_notN ?ka ?kb (nomark _); (case ka => wtm_at "fo e"); (case kb => wtm_at "fo e"))
  | fail "no")
local macro_rules | `(tactic| wtm_at "fo i") => `(tactic| first
  | ((with_reducible show PI _ _ (.Call (.Name (Str.ofString "enumerate") _) [_, _] [] _) _); refine' pi_enumC (by assumption) (by exact rfl) (by rfl) (by assumption) ?ka; (case ka => wtm_at "fo a"))
  | ((with_reducible show PI _ _ (.Call (.Name (Str.ofString "enumerate") _) [_] [_] _) _); refine' pi_enumS (by assumption) (by exact rfl) (by rfl) (by assumption) ?ka ?kb; (case ka => wtm_at "fo a"); (case kb => wtm_at "fo k"))
  | fail "no")
local macro_rules | `(tactic| wtm_at "fo own") => `(tactic| first
  | ((show _ = [2, 4]); kernel_rfl!)
  | ((show _ = [4, 2]); kernel_rfl!)
  | fail "no")
local macro_rules | `(tactic| wtm_at "fo v") => `(tactic| ((with_reducible show PE _ (.Name (Str.ofString "tuple") _) _); exact pe_bltn (v := .ty "tuple") (by rfl) (by assumption) (by decide +kernel) rfl))
local macro_rules | `(tactic| wtm_at "fo slice") => `(tactic| ((with_reducible show PE _ (.Subscript _ (.Slice none none (some _) _) _) _); refine' pe_stepK2 (by assumption) (by exact rfl) ?ka ?kb; (case ka => wtm_at "fo e"); (case kb => wtm_at "fo e")))
local macro_rules | `(tactic| wtm_at "fo e") => `(tactic| first
  | ((with_reducible show PE _ (.Call (.Name (Str.ofString "repr") _) [_] _ _) _); refine' pe_callB (call_reprIK (by assumption) (by exact rfl) (by assumption) (Room.units (by assumption))) (by rfl) (by assumption) (by decide +kernel) ?ka; (case ka => wtm_at "fo a"))
  | ((with_reducible show PE _ (.Call (.Name (Str.ofString "max") _) [_] _ _) _); refine' pe_callB (call_maxK (by assumption) (by exact rfl) rfl) (by rfl) (by assumption) (by decide +kernel) ?ka; (case ka => wtm_at "fo a"))
  | fail "no")
variable {P : Program} {w : World} {K : PySem.W.Frag} {mg : Str → Option Value} {base : Heap}
set_option maxHeartbeats 16000000 in
noncomputable def derSt (f : Addr) (cdv : Value) (A : Around) (outer : List Env) (s0 : Shared) (H : Hp) (E : XK) (hr : Room 6 (A.deeper (envOfC "_law_starts_right" (defScope s_law_starts_right) s0.heap.objs.size f cdv))) (hgd : A.guards = some []) (mp : mg "repr" = none) (mr : mg "range" = none) (ml : mg "len" = none) (mm : mg "max" = none) (mn : mg "min" = none)
    (C0 : Cal P w K mg base "_law_near" 1 ["_law_size", "_law_sides"] spNear) (C1 : Cal P w K mg base "_law_full" 2 ["_law_draws_here", "_law_near_here", "_law_size"] spLFull)
    (C2 : Cal P w K mg base "all_lead" 6 ["places", "lines"] spAllLead)
    (C4 : Cal P w K mg base "best_starts" 3 ["places", "lines"] spStarts) (C5 : KCal P w K mg base "best_starts" 3 ["places", "lines"] ["lines", "places"] g2 g2 spStarts) :
    PSigma fun t => PSs (cxOf CX0 P w K mg base ["_law_draws_here", "_law_size", "_law_sides", "_law_table_here", "_law_before", "_law_alone", "_law_worst", "_law_here", "_law_sure", "_law_many", "_law_due", "_law_told"] "_law_starts_right" (defScope s_law_starts_right) f cdv A outer s0 H E).nox (defBody s_law_starts_right) t := by
  have nd := sc_law_starts_right.nd
  have hS := sc_law_starts_right
  have hKM : KMark K := ⟨⟩
  refine' mkSig ?h
  case h =>
    show PSs _ [_, _, _, _, _, _, _, _, _, _, _, _, _] _
    wtm_at "fo ss"
end
/-! piece TVp -/
section
/-- the most turns from a start -/
def wM (n : Nat) (es : List Edge) (h : Int) : Option Nat := (List.range (n * n + 1)).find? fun k => (allM n).all fun t => wB n es k h t
def wI (n : Nat) (es : List Edge) (h : Int) : Int := (((wM n es h).getD 0 : Nat) : Int)
theorem wm_some {n : Nat} {es : List Edge} {h : Int} {m : Nat} : wM n es h = some m ↔ (∀ t ∈ allM n, wB n es m h t = true) ∧ m ≤ n * n ∧ ∀ j, j < m → ¬ ∀ t ∈ allM n, wB n es j h t = true := by
  unfold wM
  rw [List.find?_range_eq_some, List.mem_range, List.all_eq_true]
  constructor
  · rintro ⟨a, b, c⟩
    refine ⟨a, by omega, fun j hj hh => ?_⟩
    have := c j hj
    rw [Bool.not_eq_true', ← Bool.not_eq_true, List.all_eq_true] at this
    exact this hh
  · rintro ⟨a, b, c⟩
    refine ⟨a, by omega, fun j hj => ?_⟩
    rw [Bool.not_eq_true', ← Bool.not_eq_true, List.all_eq_true]
    exact c j hj
theorem wm_ex {n : Nat} {es : List Edge} {h : Int} (hc : ∀ t ∈ allM n, wB n es (n * n) h t = true) : ∃ m, wM n es h = some m := by
  cases e : wM n es h with
  | some m => exact ⟨m, rfl⟩
  | none =>
    unfold wM at e
    rw [List.find?_range_eq_none] at e
    have := e (n * n) (by omega)
    rw [Bool.not_eq_true', ← Bool.not_eq_true, List.all_eq_true] at this
    exact absurd hc this
theorem wm_max {n : Nat} {es : List Edge} (hS : Simp n es) {h : Int} (hh : 1 ≤ h ∧ h ≤ n) (hc : ∀ t ∈ allM n, wB n es (n * n) h t = true) {m : Int} (hm : m ∈ (allM n).map fun t => (((rkM n es h t).getD 0 : Nat) : Int)) (hmx : ∀ y ∈ (allM n).map fun t => (((rkM n es h t).getD 0 : Nat) : Int), y ≤ m) : m = wI n es h := by
  have rks : ∀ t ∈ allM n, ∃ k, rkM n es h t = some k := fun t ht => by
    cases e : rkM n es h t with
    | some k => exact ⟨k, rfl⟩
    | none => have := (rk_none hS hh (allM_mem.mp ht)).mp e (n * n); rw [hc t ht] at this; cases this
  obtain ⟨t0, ht0, rfl⟩ := List.mem_map.mp hm
  obtain ⟨k0, e0⟩ := rks t0 ht0
  have hw : wM n es h = some k0 := by
    have r0 := rk_some.mp e0
    refine wm_some.mpr ⟨fun t ht => ?_, r0.2.1, fun j hj a => ?_⟩
    · obtain ⟨k, e⟩ := rks t ht
      have := hmx _ (List.mem_map.mpr ⟨t, ht, rfl⟩)
      rw [e, e0] at this
      have hk : k ≤ k0 := by
        have h2 : (k : Int) ≤ (k0 : Int) := this
        omega
      exact wB_le hS hh.1 hh.2 (allM_mem.mp ht).1 (allM_mem.mp ht).2 hk (rk_some.mp e).1
    · have := a t0 ht0
      rw [r0.2.2 j hj] at this
      cases this
  unfold wI
  rw [hw, e0]
theorem wm_min {n : Nat} {es : List Edge} (hS : Simp n es) (hc : ∀ h ∈ allM n, ∀ t ∈ allM n, wB n es (n * n) h t = true) {m : Int} (hm : m ∈ (allM n).map (wI n es)) (hmn : ∀ y ∈ (allM n).map (wI n es), m ≤ y) : ∃ k : Nat, m = (k : Int) ∧ beM n es = some k ∧ bestM n es k = (allM n).filter fun h => decide (wI n es h = m) := by
  obtain ⟨h0, hh0, rfl⟩ := List.mem_map.mp hm
  obtain ⟨k, hk⟩ := wm_ex (hc h0 hh0)
  have hI : wI n es h0 = (k : Int) := by unfold wI; rw [hk]; rfl
  rw [hI] at hmn ⊢
  have key : ∀ h ∈ allM n, ∀ j, (∀ t ∈ allM n, wB n es j h t = true) → k ≤ j := fun h hh j ha => by
    obtain ⟨m, hm⟩ := wm_ex (hc h hh)
    have h1 := hmn _ (List.mem_map.mpr ⟨h, hh, rfl⟩)
    have h2 : wI n es h = (m : Int) := by unfold wI; rw [hm]; rfl
    rw [h2] at h1
    refine Nat.le_of_not_lt fun hjk => ?_
    exact (wm_some.mp hm).2.2 j (by omega) ha
  refine ⟨k, rfl, be_at hS (fun j hj => ?_) (fun e => ?_), ?_⟩
  · refine List.eq_nil_iff_forall_not_mem.mpr fun h hh => ?_
    have hb := best_mem.mp hh
    have := key h (allM_mem.mpr hb.1) j fun t ht => hb.2 t (allM_mem.mp ht).1 (allM_mem.mp ht).2
    omega
  · have : h0 ∈ bestM n es k := best_mem.mpr ⟨allM_mem.mp hh0, fun t t1 t2 => (wm_some.mp hk).1 t (allM_mem.mpr ⟨t1, t2⟩)⟩
    rw [e] at this
    cases this
  · unfold bestM
    refine List.filter_congr fun h hh => ?_
    obtain ⟨m, hm⟩ := wm_ex (hc h hh)
    have h2 : wI n es h = (m : Int) := by unfold wI; rw [hm]; rfl
    rw [h2, Bool.eq_iff_iff, List.all_eq_true, decide_eq_true_eq]
    constructor
    · intro a
      have := key h hh m (wm_some.mp hm).1
      by_cases hmk : m = k
      · rw [hmk]
      · exact absurd a ((wm_some.mp hm).2.2 k (by omega))
    · intro e
      have e : m = k := by omega
      rw [← e]
      exact (wm_some.mp hm).1
/-- a full run's end tells whether all are caught -/
theorem alone_all {n : Nat} {es ps : List Edge} {left : List Int} (hS : Simp n es) (r : RunL es (allM n) ps left) (h1 : left.length = 1) : ∀ h ∈ allM n, ∀ t ∈ allM n, wB n es (n * n) h t = true := fun _ hh _ ht => catch_one hS r h1 (allM_mem.mp hh) (allM_mem.mp ht)
theorem more_none {n : Nat} {es ps : List Edge} {left : List Int} (hS : Simp n es) (r : RunL es (allM n) ps left) (st : foldableM es left = []) (h2 : 2 ≤ left.length) (nd : left.Nodup) : beM n es = none ∧ ∀ h ∈ allM n, ∃ t ∈ allM n, rkM n es h t = none := by
  constructor
  · refine (be_none hS).mpr fun j => List.eq_nil_iff_forall_not_mem.mpr fun h hh => ?_
    have hb := best_mem.mp hh
    obtain ⟨t, ht, hk⟩ := catch_not hS r st h2 nd hb.1
    have := hb.2 t ht.1 ht.2
    rw [hk j] at this
    cases this
  · intro h hh
    obtain ⟨t, ht, hk⟩ := catch_not hS r st h2 nd (allM_mem.mp hh)
    exact ⟨t, allM_mem.mpr ht, (rk_none hS (allM_mem.mp hh) ht).mpr hk⟩
end
/-! piece TVo -/
section
theorem cut_from (xs : List V) (h : 1 ≤ xs.length) : cutV xs (some 1) none = xs.drop 1 := by
  unfold cutV
  rw [HT.sIx_none, show HT.sIx xs.length 0 (some 1) = min 1 xs.length from HT.sIx_nat xs.length 0 1, Nat.min_eq_left h, List.take_of_length_le (by rw [List.length_drop]; exact Nat.le_refl _)]
theorem row_from {n : Nat} {es : List Edge} {h : Int} (hh : 1 ≤ h ∧ h ≤ n) : cutV (rowT n (ltM n es (n * n)) h.toNat) (some 1) none = (allM n).map fun t => oN (rkM n es h t) := by
  rw [cut_from _ (by rw [rowT_len]; omega)]
  refine List.ext_getElem? fun i => ?_
  rw [List.getElem?_drop, List.getElem?_map]
  by_cases hi : i < n
  · rw [rowT_get _ _ (by omega)]
    unfold allM
    rw [List.getElem?_map, List.getElem?_range hi]
    have := lt_rk (es := es) hh (t := (i : Int) + 1) (by omega)
    rw [show ((i : Int) + 1).toNat = 1 + i by omega] at this
    rw [this]
    rfl
  · rw [List.getElem?_eq_none (by rw [rowT_len]; omega), List.getElem?_eq_none (by rw [all_len]; omega)]
    rfl
theorem wm_rk {n : Nat} {es : List Edge} (hS : Simp n es) {h : Int} (hh : 1 ≤ h ∧ h ≤ n) {m : Nat} (e : wM n es h = some m) : (∀ t ∈ allM n, wB n es (n * n) h t = true) ∧ ∀ t ∈ allM n, ∃ k, rkM n es h t = some k := by
  have w := wm_some.mp e
  have a : ∀ t ∈ allM n, wB n es (n * n) h t = true := fun t ht => wB_le hS hh.1 hh.2 (allM_mem.mp ht).1 (allM_mem.mp ht).2 w.2.1 (w.1 t ht)
  refine ⟨a, fun t ht => ?_⟩
  cases e2 : rkM n es h t with
  | some k => exact ⟨k, rfl⟩
  | none => have := (rk_none hS hh (allM_mem.mp ht)).mp e2 (n * n); rw [a t ht] at this; cases this
theorem wm_no {n : Nat} {es : List Edge} (hS : Simp n es) {h : Int} (hh : 1 ≤ h ∧ h ≤ n) (e : wM n es h = none) : ∃ t ∈ allM n, rkM n es h t = none := by
  refine Classical.byContradiction fun hn => ?_
  have : ∀ t ∈ allM n, wB n es (n * n) h t = true := fun t ht => by
    cases e2 : rkM n es h t with
    | none => exact absurd ⟨t, ht, e2⟩ hn
    | some k =>
      have r := rk_some.mp e2
      exact wB_le hS hh.1 hh.2 (allM_mem.mp ht).1 (allM_mem.mp ht).2 r.2.1 r.1
  obtain ⟨m, hm⟩ := wm_ex this
  rw [e] at hm
  cases hm
theorem flat_oN {α : Type} (f : α → Option Nat) : ∀ l : List α, (l.map fun t => oN (f t)).all flatV = true
  | [] => rfl
  | a :: l => by
    rw [List.map_cons, List.all_cons, flat_oN f l]
    cases f a <;> rfl
theorem inV_oN {α : Type} (f : α → Option Nat) : ∀ l : List α, inV .non (l.map fun t => oN (f t)) = l.any fun t => (f t).isNone
  | [] => rfl
  | a :: l => by
    have h := inV_oN f l
    unfold inV at h ⊢
    rw [List.map_cons, List.any_cons, h, List.any_cons]
    cases f a <;> rfl
theorem two_one {n : Nat} {es ps : List Edge} {left : List Int} (h1 : 1 ≤ n) (hR : RunL es (allM n) ps left) (hne : left.length ≠ 1) : 2 ≤ left.length ∧ left.Nodup := by
  have hI : InNet n left := (inNet_all n).run hR
  have hpos : 0 < left.length := List.length_pos_iff.mpr (hR.pos (by
    intro e
    have := congrArg List.length e
    rw [all_len] at this
    simp at this
    omega))
  exact ⟨by omega, hI.lt.imp fun h => by omega⟩
theorem alone_iff {n : Nat} {es ps qs : List Edge} {a b : List Int} (h1 : 1 ≤ n) (hS : Simp n es) (ra : RunL es (allM n) ps a) (sa : foldableM es a = []) (rb : RunL es (allM n) qs b) (sb : foldableM es b = []) : decide (a.length = 1) = decide (b.length = 1) := by
  have key : ∀ {ps qs : List Edge} {a b : List Int}, RunL es (allM n) ps a → RunL es (allM n) qs b → foldableM es b = [] → a.length = 1 → b.length = 1 := fun ra rb sb ha => Classical.byContradiction fun hb => by
    have t1 := two_one h1 rb hb
    have one : (1 : Int) ∈ allM n := allM_mem.mpr ⟨Int.le_refl 1, by omega⟩
    obtain ⟨t, ht, e⟩ := (more_none hS rb sb t1.1 t1.2).2 1 one
    have := (rk_none hS (allM_mem.mp one) (allM_mem.mp ht)).mp e (n * n)
    rw [alone_all hS ra ha 1 one t ht] at this
    cases this
  rw [Bool.eq_iff_iff, decide_eq_true_eq, decide_eq_true_eq]
  exact ⟨key ra rb sb, key rb ra sa⟩
theorem min_ex : ∀ l : List Int, l ≠ [] → ∃ m ∈ l, ∀ y ∈ l, m ≤ y
  | [], h => absurd rfl h
  | [a], _ => ⟨a, List.mem_cons_self .., fun y hy => by cases List.mem_singleton.mp hy; exact Int.le_refl _⟩
  | a :: b :: l, _ => by
    obtain ⟨m, hm, hy⟩ := min_ex (b :: l) (by simp)
    by_cases h : a ≤ m
    · refine ⟨a, List.mem_cons_self .., fun y hy2 => ?_⟩
      rcases List.mem_cons.mp hy2 with rfl | hy2
      · exact Int.le_refl _
      · exact Int.le_trans h (hy y hy2)
    · refine ⟨m, List.mem_cons_of_mem _ hm, fun y hy2 => ?_⟩
      rcases List.mem_cons.mp hy2 with rfl | hy2
      · omega
      · exact hy y hy2
theorem sure_all {n : Nat} {es : List Edge} : ∀ l : List Int, (∀ h ∈ l, ∃ m, wM n es h = some m) → (((l.map (wM n es)).filter fun o => o.isSome).map oN) = (l.map (wI n es)).map V.int ∧ (l.map fun h => oN (wM n es h)) = (l.map (wI n es)).map V.int
  | [], _ => ⟨rfl, rfl⟩
  | a :: l, h => by
    obtain ⟨m, e⟩ := h a (List.mem_cons_self ..)
    have ih := sure_all l fun x hx => h x (List.mem_cons_of_mem _ hx)
    have ea : V.int (wI n es a) = oN (some m) := by unfold wI; rw [e]; rfl
    constructor
    · rw [List.map_cons, List.filter_cons_of_pos (by rw [e]; rfl), List.map_cons, ih.1, List.map_cons, List.map_cons, ea, e]
    · rw [List.map_cons, ih.2, List.map_cons, List.map_cons, ea, e]
theorem sure_no {n : Nat} {es : List Edge} : ∀ l : List Int, (∀ h ∈ l, wM n es h = none) → (((l.map (wM n es)).filter fun o => o.isSome).map oN) = []
  | [], _ => rfl
  | a :: l, h => by
    rw [List.map_cons, List.filter_cons_of_neg (by rw [h a (List.mem_cons_self ..)]; simp), sure_no l fun x hx => h x (List.mem_cons_of_mem _ hx)]
def BT (n : Nat) (es : List Edge) : PyData := .tuple [dI (beL n es), dO ((beM n es).map fun (k : Nat) => (k : Int))]
theorem beL_rng {n : Nat} {es : List Edge} {x : Int} (h : x ∈ beL n es) : 1 ≤ x ∧ x ≤ n := by
  unfold beL at h
  split at h
  · exact (best_mem.mp h).1
  · cases h
theorem beL_len {n : Nat} {es : List Edge} : (beL n es).length ≤ n := by
  unfold beL
  split
  · unfold bestM
    exact Nat.le_trans (List.length_filter_le ..) (by rw [all_len]; exact Nat.le_refl _)
  · exact Nat.zero_le _
theorem dok_BT {n : Nat} {es : List Edge} (hn : n ≤ 12) : DOk 2 (3 + 2 * (300 + 2)) (BT n es) := by
  refine dok_tuple (n := 1) (b := 300) (xs := [dI (beL n es), dO ((beM n es).map fun (k : Nat) => (k : Int))]) (fun x hx => ?_)
  simp only [List.mem_cons, List.not_mem_nil, or_false] at hx
  rcases hx with rfl | rfl
  · refine (dok_dI fun x hx => by have := beL_rng hx; omega).mono (Nat.le_refl _) ?_
    have := beL_len (n := n) (es := es)
    omega
  · refine (dok_dO fun i hi => ?_).mono (by decide) (by decide)
    obtain ⟨k, e, rfl⟩ := Option.map_eq_some_iff.mp hi
    have := (be_some.mp e).2.1
    have : n * n ≤ 144 := Nat.mul_le_mul hn hn
    omega
theorem dp_BT {K : PySem.W.Frag} {H : Hp} {p c : Addr} {n : Nat} {es : List Edge} (hp : H p = some (.tup [.ref c, beV n es])) (hc : H c = some (iL (beL n es))) : Dp K H (.ref p) (BT n es) :=
  .tup (SqT.of hp) (.cons (dp_dI (SqL.of hc)) (.cons (dp_oV _) .nil))
variable {P : Program} {w : World} {K : PySem.W.Frag} {mg : Str → Option Value} {base : Heap}
set_option maxHeartbeats 16000000 in
theorem ok_startsR {f : Addr} {fd : FuncData} (F : Fun K "_law_starts_right" "_law_starts_right" s_law_starts_right f fd) (mp : mg "repr" = none) (mr : mg "range" = none) (ml : mg "len" = none) (mm : mg "max" = none) (mn : mg "min" = none)
    (C0 : Cal P w K mg base "_law_near" 1 ["_law_size", "_law_sides"] spNear) (C1 : Cal P w K mg base "_law_full" 2 ["_law_draws_here", "_law_near_here", "_law_size"] spLFull)
    (C2 : Cal P w K mg base "all_lead" 6 ["places", "lines"] spAllLead)
    (C4 : Cal P w K mg base "best_starts" 3 ["places", "lines"] spStarts) (C5 : KCal P w K mg base "best_starts" 3 ["places", "lines"] ["lines", "places"] g2 g2 spStarts) :
    FnG P w K mg base CX0 7 f fd ["_law_draws_here", "_law_size", "_law_sides", "_law_table_here"] spStR := by
  refine okG F sc_law_starts_right (fun vs H Q E h => ?_) (fun cdv A outer s0 H vs Q E hr hgd h => ?_)
  · unfold spStR at h
    obtain ⟨d, q, a, k, n, es, rfl, _⟩ := h
    rfl
  · have nd := sc_law_starts_right.nd
    have hS := sc_law_starts_right
    have hKM : KMark K := ⟨⟩
    refine ⟨_, (derSt (P := P) (w := w) (K := K) (mg := mg) (base := base) f cdv A outer s0 H E hr hgd mp mr ml mm mn C0 C1 C2 C4 C5).2, ?_⟩
    unfold derSt mkSig
    dsimp only
    next =>
     unfold spStR at h
     obtain ⟨d, q, a, k, n, es, rfl, hd, hk, h1, hn, hq, hSi, hl, hT, fin⟩ := h
     have okE := dok_dE (es := es) (hSi.small (by omega))
     have szE : (dE es).shown.length ≤ sizeLine := Nat.le_trans okE.len (Nat.le_trans (m := 5000) (by omega) (by decide))
     refine ⟨_, rfl, Or.inr (Or.inr ⟨q, dE es, rfl, dp_dE hq, okE.sh, okE.nd, Nat.le_trans okE.dep (by decide), szE, ?_⟩)⟩
     refine ⟨_, rfl, _, rfl, _, rfl, ?_⟩
     refine call_near hn hq hl (fun e he => by have := hSi.rng e he; omega) (fun qn H1 sm1 nqn hqn => ?_)
     refine ⟨_, rfl, ?_⟩
     refine call_lfull (hd.same sm1) (by omega) h1 hn hSi hqn (fun p x b rs0 ps0 left H3 k3 sb3 np nx nb hp hTs hb hR hst hd3 hk3 => ?_)
     refine Or.inr (Or.inl ⟨p, _, 1, .ref b, rfl, rfl, SqT.of hp, rfl, b, _, rfl, Or.inl (SqL.of hb), Or.inl ⟨rfl, ?_⟩⟩)
     have hlen1 : decide (V.int ((left.map V.int).length : Nat) = V.int 1) = decide (left.length = 1) := by
       rw [List.length_map]
       by_cases h : left.length = 1
       · rw [decide_eq_true h, h]; rfl
       · rw [decide_eq_false h]
         exact decide_eq_false fun e => h (by have := V.int.inj e; omega)
     rw [hlen1]
     have sb03 : SameBut d H H3 := (Same.but d sm1).trans sb3
     have hq3 := hq.but sb03 hd
     have hT3 := hT.but sb03 hd
     have hI : InNet n left := (inNet_all n).run hR
     have hpos : 0 < left.length := List.length_pos_iff.mpr (hR.pos (by
       intro e
       have := congrArg List.length e
       rw [all_len] at this
       simp at this
       omega))
     have ndl : left.Nodup := hI.lt.imp fun h => by omega
     have hA : left.length = 1 → ∀ h ∈ allM n, ∀ t ∈ allM n, wB n es (n * n) h t = true := alone_all hSi hR
     have hB : left.length ≠ 1 → beM n es = none ∧ ∀ h ∈ allM n, ∃ t ∈ allM n, rkM n es h t = none := fun h => more_none hSi hR hst (by omega) ndl
     have hends : ∀ {ps2 left2}, EndOf n es ps2 left2 → decide (left2.length = 1) = decide (left.length = 1) := fun hE => alone_iff h1 hSi hE.run hE.st hR hst
     clear hp hTs hb np nx nb sb3 hT hq
     generalize left.length = ll at *
     refine ⟨(Nat.le_of_ble_eq_true rfl : _ ≤ sizeLine), fun L nL => ?_⟩
     have smL : Same H3 (upd H3 L (.lst [])) := same_upd (Same.refl _) nL
     have hL0 : (upd H3 L (.lst [])) L = some (.lst []) := upd_same
     generalize upd H3 L (.lst []) = H4 at *
     have hNr : ((n : Int) + 1 - 1).toNat = n := by omega
     refine ⟨_, rfl, Or.inl ⟨_, _, rfl, rfl, _, _, rfl, ⟨by decide, by decide, by omega, by omega⟩, ?_⟩⟩
     let G0 : Option V → Option V → Option V → Option V → Sl := fun y7 y8 y10 y11 => [some (.ref d), some (.int n), some (.ref q), some (.ref a), some (.str (dE es).shown), some (.bl (decide (ll = 1))), some (.ref L), y7, y8, none, y10, y11]
     refine for_range (lo := 1) (n := ((n : Int) + 1 - 1).toNat) (fun i σ X => ∃ (y7 : Option V), σ = G0 y7 none none none ∧ Same H3 X ∧ X L = some (.lst (((allM n).take i).map fun h => oN (wM n es h)))) ?_ ?_ ?_
     · exact ⟨none, rfl, smL, hL0⟩
     · rintro i σ X hi ⟨y7, rfl, smX, hLX⟩
       rw [hNr] at hi
       have hai : (allM n)[i]? = some (1 + (i : Int)) := by
         unfold allM
         rw [List.getElem?_map, List.getElem?_range hi]
         show some ((i : Int) + 1) = _
         rw [Int.add_comm]
       have htk : (allM n).take (i + 1) = (allM n).take i ++ [1 + (i : Int)] := by rw [List.take_add_one, hai]; rfl
       have hh : 1 ≤ 1 + (i : Int) ∧ 1 + (i : Int) ≤ n := ⟨by omega, by omega⟩
       rw [htk]
       generalize 1 + (i : Int) = h at *
       obtain ⟨ts, b1, b2, b3⟩ := hT3.same smX
       obtain ⟨r, c1, c2⟩ := b3 h.toNat (by omega)
       refine ⟨_, rfl, .inl ⟨rfl, _, SqL.of hLX⟩, ?_⟩
       refine ⟨_, rfl, _, rfl, Or.inl ⟨a, _, h, .ref r, rfl, rfl, SqL.of b1, at_of (j := h.toNat) (by omega) (by rw [List.getElem?_map, c1]; rfl), ?_⟩⟩
       refine ⟨1, rfl, r, _, rfl, SqL.of c2, fun p1 np1 => ?_⟩
       rw [row_from hh]
       have sm1' : Same X (upd X p1 (.lst ((allM n).map fun t => oN (rkM n es h t)))) := same_upd (Same.refl _) np1
       have hp1 : (upd X p1 (.lst ((allM n).map fun t => oN (rkM n es h t)))) p1 = some (.lst ((allM n).map fun t => oN (rkM n es h t))) := upd_same
       generalize upd X p1 (.lst ((allM n).map fun t => oN (rkM n es h t))) = X1 at *
       have hLl : (((allM n).take i).map fun h => oN (wM n es h)).length < sizeLine := by
         rw [List.length_map, List.length_take]
         exact Nat.lt_of_le_of_lt (m := 20) (by omega) (by decide)
       refine ⟨p1, _, rfl, Or.inl (SqL.of hp1), rfl, flat_oN _ _, _, rfl, ?_⟩
       cases hw : wM n es h with
       | none =>
         obtain ⟨t, ht, e⟩ := wm_no hSi hh hw
         refine ifT (by show inV .non ((allM n).map fun t => oN (rkM n es h t)) = true; rw [inV_oN, List.any_eq_true]; exact ⟨t, ht, by rw [e]; rfl⟩) ?_
         refine ⟨L, _, _, rfl, rfl, sm1' _ _ hLX, hLl, _, rfl, same_upd (smX.trans sm1') nL, ?_⟩
         rw [upd_same, List.map_append, List.map_cons, List.map_nil, hw]
         rfl
       | some m =>
         have hwr := wm_rk hSi hh hw
         refine ifF (by
           show inV .non ((allM n).map fun t => oN (rkM n es h t)) = false
           rw [inV_oN, ← Bool.not_eq_true, List.any_eq_true]
           rintro ⟨t, ht, e⟩
           obtain ⟨k, ek⟩ := hwr.2 t ht
           rw [ek] at e
           cases e) ?_
         refine ⟨_, rfl, _, rfl, Or.inl ⟨a, _, h, .ref r, rfl, rfl, SqL.of (sm1' _ _ b1), at_of (j := h.toNat) (by omega) (by rw [List.getElem?_map, c1]; rfl), ?_⟩⟩
         refine ⟨1, rfl, r, _, rfl, SqL.of (sm1' _ _ c2), fun p2 np2 => ?_⟩
         rw [row_from hh, show ((allM n).map fun t => oN (rkM n es h t)) = ((allM n).map fun t => (((rkM n es h t).getD 0 : Nat) : Int)).map V.int by
           rw [List.map_map]
           refine List.map_congr_left fun t ht => ?_
           obtain ⟨k, ek⟩ := hwr.2 t ht
           show oN (rkM n es h t) = V.int (((rkM n es h t).getD 0 : Nat) : Int)
           rw [ek]
           rfl]
         have sm2' : Same X1 (upd X1 p2 (.lst (((allM n).map fun t => (((rkM n es h t).getD 0 : Nat) : Int)).map V.int))) := same_upd (Same.refl _) np2
         refine ⟨p2, _, rfl, SqL.of upd_same, by rw [List.length_map, all_len]; omega, fun mx hm hmx => ?_⟩
         generalize upd X1 p2 (.lst (((allM n).map fun t => (((rkM n es h t).getD 0 : Nat) : Int)).map V.int)) = X2 at *
         have hmw := wm_max hSi hh hwr.1 hm hmx
         refine ⟨L, _, _, rfl, rfl, sm2' _ _ (sm1' _ _ hLX), hLl, _, rfl, same_upd (smX.trans (sm1'.trans sm2')) nL, ?_⟩
         rw [upd_same, List.map_append, List.map_cons, List.map_nil, hmw, hw]
         unfold wI
         rw [hw]
         rfl
     · rintro σ X ⟨y7, rfl, smX, hLX⟩
       rw [hNr, show (allM n).take n = allM n from List.take_of_length_le (by rw [all_len]; exact Nat.le_refl _)] at hLX
       have q4 := hq3.same smX
       refine ⟨_, rfl, L, rfl, ⟨_, SqL.of hLX⟩, fun D nD => ?_⟩
       refine lc_gen (K := K) (xs := (allM n).map (wM n es)) (inj := oN) (fun o => o.isSome) oN (by rw [List.map_map]; exact SqL.of hLX) nD (by rw [List.length_map, all_len]; exact Nat.le_trans hn (by decide)) (fun _ => rfl) ?_ ?_ ?_
       · intro o ho H5 sm5 R hR
         refine ⟨_, rfl, rfl, _, rfl, ?_⟩
         rw [oN_non]
         have := hR H5 (Same.refl _)
         cases o <;> exact this
       · intro o ho ho2 H5 sm5 R hR
         exact ⟨_, rfl, hR H5 (Same.refl _)⟩
       intro H5 sm5 hD5
       have s35 := smX.trans sm5
       have q5 := q4.same sm5
       have hL5 := sm5 _ _ hLX
       refine ⟨(Nat.le_of_ble_eq_true rfl : _ ≤ sizeLine), fun e0 ne0 => ⟨(Nat.le_of_ble_eq_true rfl : _ ≤ sizeLine), fun p0 np0 => ?_⟩⟩
       have hep : e0 ≠ p0 := ne_of_none upd_same np0
       have smE : Same H5 (upd (upd H5 e0 (.lst [])) p0 (.tup [.ref e0, .non])) := (same_upd (Same.refl _) ne0).trans (same_upd (Same.refl _) np0)
       have hp6 : (upd (upd H5 e0 (.lst [])) p0 (.tup [.ref e0, .non])) p0 = some (.tup [.ref e0, .non]) := upd_same
       have hc6 : (upd (upd H5 e0 (.lst [])) p0 (.tup [.ref e0, .non])) e0 = some (iL []) := (upd_ne hep).trans upd_same
       generalize upd (upd H5 e0 (.lst [])) p0 (.tup [.ref e0, .non]) = H6 at *
       have hD6 := smE _ _ hD5
       refine ⟨_, rfl, (Nat.le_of_ble_eq_true rfl : _ ≤ sizeLine), fun e1 ne1 => ?_⟩
       have sm1e : Same H6 (upd H6 e1 (.lst [])) := same_upd (Same.refl _) ne1
       have he1 : (upd H6 e1 (.lst [])) e1 = some (.lst []) := upd_same
       generalize upd H6 e1 (.lst []) = H7 at *
       have hD7 := sm1e _ _ hD6
       have hp7 := sm1e _ _ hp6
       have hc7 := sm1e _ _ hc6
       have s37 := s35.trans (smE.trans sm1e)
       have hL7 := sm1e _ _ (smE _ _ hL5)
       by_cases hal : ll = 1
       · have hall := hA hal
         have hws : ∀ h ∈ allM n, ∃ m, wM n es h = some m := fun h hh => wm_ex (hall h hh)
         have sa := sure_all (allM n) hws
         rw [sa.1] at hD7
         rw [sa.2] at hL7
         generalize hvs : (allM n).map (wI n es) = vs at *
         have hvl : vs.length = n := by rw [← hvs, List.length_map, all_len]
         have hvn : vs ≠ [] := fun e => by rw [e] at hvl; simp at hvl; omega
         obtain ⟨mn, hmn, hmn2⟩ := min_ex vs hvn
         obtain ⟨kb, rfl, hbe, hbl⟩ := wm_min hSi hall (hvs ▸ hmn) (hvs ▸ hmn2)
         refine Or.inr ⟨_, .list [], dp_dI' (SqL.of hD7), .lst (SqL.of he1) .nil, shaped_ints _, rfl, _, rfl, ?_⟩
         refine ifT (by rw [eqv_list_nil]; cases vs with | nil => exact absurd rfl hvn | cons x y => rfl) ?_
         refine ⟨_, rfl, Or.inl ⟨_, _, rfl, rfl, _, _, rfl, ⟨by decide, by decide, by omega, by omega⟩, fun D2 nD2 => ?_⟩⟩
         refine lc_range (lo := 1) (n := ((n : Int) + 1 - 1).toNat) (fun i Y => Same H7 Y ∧ Y D2 = some (iL (((allM n).take i).filter fun h => decide (wI n es h = (kb : Int))))) ?_ ?_ ?_
         · exact ⟨same_upd (Same.refl _) nD2, upd_same⟩
         · rintro i Y hi ⟨smY, hDY⟩
           rw [hNr] at hi
           have hai : (allM n)[i]? = some (1 + (i : Int)) := by
             unfold allM
             rw [List.getElem?_map, List.getElem?_range hi]
             show some ((i : Int) + 1) = _
             rw [Int.add_comm]
           have htk : (allM n).take (i + 1) = (allM n).take i ++ [1 + (i : Int)] := by rw [List.take_add_one, hai]; rfl
           have hvi : (vs.map V.int)[i]? = some (.int (wI n es (1 + (i : Int)))) := by rw [← hvs, List.getElem?_map, List.getElem?_map, hai]; rfl
           have hLl : (((allM n).take i).filter fun h => decide (wI n es h = (kb : Int))).length ≤ 12 := Nat.le_trans (List.length_filter_le ..) (by rw [List.length_take]; omega)
           refine ⟨rfl, _, rfl, _, rfl, _, _, rfl, rfl, Or.inl ⟨L, _, _, .int (wI n es (1 + (i : Int))), rfl, rfl, SqL.of (smY _ _ hL7), at_of (j := i) (by omega) hvi, ?_⟩⟩
           refine ⟨_, rfl, D, vs, rfl, SqL.of (smY _ _ hD7), by omega, fun mz hz hz2 => ?_⟩
           obtain rfl : mz = (kb : Int) := Int.le_antisymm (hz2 _ hmn) (hmn2 _ hz)
           refine Or.inl ⟨rfl, _, rfl, ?_⟩
           by_cases hwk : wI n es (1 + (i : Int)) = (kb : Int)
           · refine ifT (by rw [hwk]; simp) ?_
             refine ⟨_, rfl, _, hDY, by rw [List.length_map]; exact Nat.lt_of_le_of_lt hLl (by decide), same_upd smY nD2, ?_⟩
             rw [upd_same, htk, List.filter_append, List.filter_cons_of_pos (by rw [decide_eq_true hwk]), List.filter_nil]
             unfold iL
             rw [List.map_append]
             rfl
           · refine ifF (decide_eq_false fun e => hwk (V.int.inj e)) ?_
             refine ⟨smY, ?_⟩
             rw [hDY, htk, List.filter_append, List.filter_cons_of_neg (by rw [decide_eq_false hwk]; simp), List.filter_nil, List.append_nil]
         · rintro Y ⟨smY, hDY⟩
           rw [hNr, show (allM n).take n = allM n from List.take_of_length_le (by rw [all_len]; exact Nat.le_refl _), ← hbl] at hDY
           refine ⟨_, rfl, D, vs, rfl, SqL.of (smY _ _ hD7), by omega, fun mz hz hz2 => ?_⟩
           obtain rfl : mz = (kb : Int) := Int.le_antisymm (hz2 _ hmn) (hmn2 _ hz)
           refine ⟨(Nat.le_of_ble_eq_true rfl : _ ≤ sizeLine), fun pd npd => ?_⟩
           have smP : Same Y (upd Y pd (.tup [.ref D2, .int (kb : Nat)])) := same_upd (Same.refl _) npd
           have hpd : (upd Y pd (.tup [.ref D2, .int (kb : Nat)])) pd = some (.tup [.ref D2, beV n es]) := by rw [upd_same]; unfold beV; rw [hbe]; rfl
           have hcd : (upd Y pd (.tup [.ref D2, .int (kb : Nat)])) D2 = some (iL (beL n es)) := by
             rw [smP _ _ hDY]
             unfold beL
             rw [hbe]
           generalize upd Y pd (.tup [.ref D2, .int (kb : Nat)]) = X at *
           have s3X := s37.trans (smY.trans smP)
           have hDX : X D = some (iL vs) := (smY.trans smP) _ _ hD7
           refine ⟨_, rfl, _, rfl, ?_⟩
           refine call_starts h1 hn (hq3.same s3X) hSi hl (fun pa ca Xa sxa npa nca hpa hca => ?_)
           refine ⟨_, rfl, _, rfl, ?_⟩
           refine call_starts h1 hn (hq3.same (s3X.trans sxa)) hSi hl (fun pb cb Xb sxb npb ncb hpb hcb => ?_)
           refine ⟨(Nat.le_of_ble_eq_true rfl : _ ≤ sizeLine), fun T nT => ?_⟩
           have smT : Same Xb (upd Xb T (.lst [.ref pa, .ref pb])) := same_upd (Same.refl _) nT
           have hT8 : (upd Xb T (.lst [.ref pa, .ref pb])) T = some (.lst [.ref pa, .ref pb]) := upd_same
           generalize upd Xb T (.lst [.ref pa, .ref pb]) = X8 at *
           have sX8 := sxa.trans (sxb.trans smT)
           have okB := dok_BT (n := n) (es := es) hn
           have okT := dok_two okB
           have szT := Nat.le_trans okT.len (Nat.le_of_ble_eq_true rfl : _ ≤ sizeLine)
           have szB := Nat.le_trans okB.len (Nat.le_of_ble_eq_true rfl : _ ≤ sizeLine)
           refine ⟨_, rfl, Or.inr (Or.inr ⟨T, _, rfl, .lst (SqL.of hT8) (.cons (dp_BT ((sxb.trans smT) _ _ hpa) ((sxb.trans smT) _ _ hca)) (.cons (dp_BT (smT _ _ hpb) (smT _ _ hcb)) .nil)), okT.sh, okT.nd, Nat.le_trans okT.dep (by decide), szT, ?_⟩)⟩
           refine ⟨_, rfl, _, rfl, (Nat.le_of_ble_eq_true rfl : _ ≤ sizeLine), fun T2 nT2 => ?_⟩
           have smT2 : Same X8 (upd X8 T2 (.lst [.ref pd, .ref pd])) := same_upd (Same.refl _) nT2
           have hT2 : (upd X8 T2 (.lst [.ref pd, .ref pd])) T2 = some (.lst [.ref pd, .ref pd]) := upd_same
           generalize upd X8 T2 (.lst [.ref pd, .ref pd]) = X9 at *
           have hpd9 := smT2 _ _ (sX8 _ _ hpd)
           have hcd9 := smT2 _ _ (sX8 _ _ hcd)
           refine Or.inr (Or.inr ⟨T2, _, rfl, .lst (SqL.of hT2) (.cons (dp_BT hpd9 hcd9) (.cons (dp_BT hpd9 hcd9) .nil)), okT.sh, okT.nd, Nat.le_trans okT.dep (by decide), szT, ?_⟩)
           refine Or.inl ⟨rfl, _, rfl, ?_⟩
           refine ifF (neFT _) ?_
           have sX9 := sX8.trans smT2
           have s9 := s3X.trans sX9
           refine ⟨_, rfl, Or.inr (Or.inr ⟨q, dE es, rfl, dp_dE (hq3.same s9), okE.sh, okE.nd, Nat.le_trans okE.dep (by decide), szE, ?_⟩)⟩
           refine ⟨_, rfl, Or.inl ⟨rfl, _, rfl, ?_⟩⟩
           refine ifF (neFT _) ?_
           refine ⟨_, rfl, (Nat.le_of_ble_eq_true rfl : _ ≤ sizeLine), fun e2 ne2 => ?_⟩
           have sme2 : Same X9 (upd X9 e2 (.lst [])) := same_upd (Same.refl _) ne2
           have he2 : (upd X9 e2 (.lst [])) e2 = some (.lst []) := upd_same
           generalize upd X9 e2 (.lst []) = X10 at *
           have sX10 := sX9.trans sme2
           have hD10 : X10 D = some (iL (vs)) := sX10 _ _ hDX
           refine Or.inr ⟨_, .list [], dp_dI' (SqL.of hD10), .lst (SqL.of he2) .nil, shaped_ints _, rfl, ?_⟩
           refine ⟨_, rfl, Or.inl ⟨rfl, _, rfl, ?_⟩⟩
           refine ifF (by
             rw [eqv_list_nil, decide_eq_true hal]
             cases vs with
             | nil => exact absurd rfl hvn
             | cons x y => rfl) ?_
           refine ⟨_, rfl, D, _, rfl, Or.inl (SqL.of hD10), ?_⟩
           refine ⟨_, rfl, (Nat.le_of_ble_eq_true rfl : _ ≤ sizeLine), fun e3 ne3 => ?_⟩
           have sme3 : Same X10 (upd X10 e3 (.lst [.int 0, .int n])) := same_upd (Same.refl _) ne3
           have he3 : (upd X10 e3 (.lst [.int 0, .int n])) e3 = some (.lst [.int 0, .int n]) := upd_same
           generalize upd X10 e3 (.lst [.int 0, .int n]) = X11 at *
           have sX11 := sX10.trans sme3
           refine ⟨e3, _, rfl, Or.inl (SqL.of he3), rfl, rfl, _, rfl, ?_⟩
           refine ifF (by
             show (!inV (.int ((vs.map V.int).length : Nat)) (([0, (n : Int)] : List Int).map V.int)) = false
             rw [inV_ints, List.length_map, hvl]
             simp) ?_
           refine ⟨_, rfl, _, rfl, ?_⟩
           refine call_alllead h1 hn (hq3.same (s3X.trans sX11)) hSi hl (fun ps4 left4 X12 hE4 sm12 => ?_)
           rw [hends hE4]
           refine ⟨_, rfl, Or.inl ⟨rfl, _, rfl, ?_⟩⟩
           refine ifF (neFT _) ?_
           have s812 := smT2.trans (sme2.trans (sme3.trans sm12))
           have hT12 := s812 _ _ hT8
           have hpa12 := s812 _ _ ((sxb.trans smT) _ _ hpa)
           have hca12 := s812 _ _ ((sxb.trans smT) _ _ hca)
           have hbll := beL_len (n := n) (es := es)
           refine ⟨_, rfl, Or.inl ⟨T, _, 0, .ref pa, rfl, rfl, SqL.of hT12, rfl, Or.inr (Or.inl ⟨pa, _, 0, .ref ca, rfl, rfl, SqT.of hpa12, rfl, .inl ⟨rfl, _, SqL.of hca12⟩, ca, _, _, rfl, rfl, hca12, by rw [List.length_map]; exact Nat.lt_of_le_of_lt (m := 20) (by omega) (by decide), ?_⟩)⟩⟩
           have sX13 : Same X (upd X12 ca (.lst ((beL n es).map V.int ++ [.non]))) := same_upd (sX11.trans sm12) nca
           generalize upd X12 ca (.lst ((beL n es).map V.int ++ [.non])) = X13 at *
           have s13 := s3X.trans sX13
           refine ⟨_, rfl, _, rfl, ?_⟩
           refine call_starts h1 hn (hq3.same s13) hSi hl (fun pc cc Xc sxc npc ncc hpc hcc => ?_)
           refine Or.inr (Or.inr ⟨pc, BT n es, rfl, dp_BT hpc hcc, okB.sh, okB.nd, Nat.le_trans okB.dep (by decide), szB, ?_⟩)
           refine ⟨_, rfl, Or.inr (Or.inr ⟨pd, BT n es, rfl, dp_BT (sxc _ _ (sX13 _ _ hpd)) (sxc _ _ (sX13 _ _ hcd)), okB.sh, okB.nd, Nat.le_trans okB.dep (by decide), szB, ?_⟩)⟩
           refine Or.inl ⟨rfl, ?_⟩
           rw [decide_eq_true rfl]
           exact fin Xc k3 (sb03.trans (Same.but d (s13.trans sxc))) (hd3.same (s13.trans sxc)) (by omega)
       · have hno := hB hal
         have hwn : ∀ h ∈ allM n, wM n es h = none := fun h hh => by
           cases e : wM n es h with
           | none => rfl
           | some m =>
             obtain ⟨t, ht, e2⟩ := hno.2 h hh
             obtain ⟨k, e3⟩ := (wm_rk hSi (allM_mem.mp hh) e).2 t ht
             rw [e2] at e3
             cases e3
         rw [sure_no (allM n) hwn] at hD7
         refine Or.inr ⟨.list [], .list [], .lst (SqL.of hD7) .nil, .lst (SqL.of he1) .nil, rfl, rfl, _, rfl, ?_⟩
         refine ifF rfl ?_
         have hpd : H7 p0 = some (.tup [.ref e0, beV n es]) := by rw [hp7]; unfold beV; rw [hno.1]; rfl
         have hcd : H7 e0 = some (iL (beL n es)) := by rw [hc7]; unfold beL; rw [hno.1]
         have s3X := s37
         have hDX : H7 D = some (iL []) := hD7
         refine ⟨_, rfl, _, rfl, ?_⟩
         refine call_starts h1 hn (hq3.same s3X) hSi hl (fun pa ca Xa sxa npa nca hpa hca => ?_)
         refine ⟨_, rfl, _, rfl, ?_⟩
         refine call_starts h1 hn (hq3.same (s3X.trans sxa)) hSi hl (fun pb cb Xb sxb npb ncb hpb hcb => ?_)
         refine ⟨(Nat.le_of_ble_eq_true rfl : _ ≤ sizeLine), fun T nT => ?_⟩
         have smT : Same Xb (upd Xb T (.lst [.ref pa, .ref pb])) := same_upd (Same.refl _) nT
         have hT8 : (upd Xb T (.lst [.ref pa, .ref pb])) T = some (.lst [.ref pa, .ref pb]) := upd_same
         generalize upd Xb T (.lst [.ref pa, .ref pb]) = X8 at *
         have sX8 := sxa.trans (sxb.trans smT)
         have okB := dok_BT (n := n) (es := es) hn
         have okT := dok_two okB
         have szT := Nat.le_trans okT.len (Nat.le_of_ble_eq_true rfl : _ ≤ sizeLine)
         have szB := Nat.le_trans okB.len (Nat.le_of_ble_eq_true rfl : _ ≤ sizeLine)
         refine ⟨_, rfl, Or.inr (Or.inr ⟨T, _, rfl, .lst (SqL.of hT8) (.cons (dp_BT ((sxb.trans smT) _ _ hpa) ((sxb.trans smT) _ _ hca)) (.cons (dp_BT (smT _ _ hpb) (smT _ _ hcb)) .nil)), okT.sh, okT.nd, Nat.le_trans okT.dep (by decide), szT, ?_⟩)⟩
         refine ⟨_, rfl, _, rfl, (Nat.le_of_ble_eq_true rfl : _ ≤ sizeLine), fun T2 nT2 => ?_⟩
         have smT2 : Same X8 (upd X8 T2 (.lst [.ref p0, .ref p0])) := same_upd (Same.refl _) nT2
         have hT2 : (upd X8 T2 (.lst [.ref p0, .ref p0])) T2 = some (.lst [.ref p0, .ref p0]) := upd_same
         generalize upd X8 T2 (.lst [.ref p0, .ref p0]) = X9 at *
         have hpd9 := smT2 _ _ (sX8 _ _ hpd)
         have hcd9 := smT2 _ _ (sX8 _ _ hcd)
         refine Or.inr (Or.inr ⟨T2, _, rfl, .lst (SqL.of hT2) (.cons (dp_BT hpd9 hcd9) (.cons (dp_BT hpd9 hcd9) .nil)), okT.sh, okT.nd, Nat.le_trans okT.dep (by decide), szT, ?_⟩)
         refine Or.inl ⟨rfl, _, rfl, ?_⟩
         refine ifF (neFT _) ?_
         have sX9 := sX8.trans smT2
         have s9 := s3X.trans sX9
         refine ⟨_, rfl, Or.inr (Or.inr ⟨q, dE es, rfl, dp_dE (hq3.same s9), okE.sh, okE.nd, Nat.le_trans okE.dep (by decide), szE, ?_⟩)⟩
         refine ⟨_, rfl, Or.inl ⟨rfl, _, rfl, ?_⟩⟩
         refine ifF (neFT _) ?_
         refine ⟨_, rfl, (Nat.le_of_ble_eq_true rfl : _ ≤ sizeLine), fun e2 ne2 => ?_⟩
         have sme2 : Same X9 (upd X9 e2 (.lst [])) := same_upd (Same.refl _) ne2
         have he2 : (upd X9 e2 (.lst [])) e2 = some (.lst []) := upd_same
         generalize upd X9 e2 (.lst []) = X10 at *
         have sX10 := sX9.trans sme2
         have hD10 : X10 D = some (iL ([])) := sX10 _ _ hDX
         refine Or.inr ⟨_, .list [], dp_dI' (SqL.of hD10), .lst (SqL.of he2) .nil, shaped_ints _, rfl, ?_⟩
         refine ⟨_, rfl, Or.inl ⟨rfl, _, rfl, ?_⟩⟩
         refine ifF (by rw [decide_eq_false hal]; rfl) ?_
         refine ⟨_, rfl, D, _, rfl, Or.inl (SqL.of hD10), ?_⟩
         refine ⟨_, rfl, (Nat.le_of_ble_eq_true rfl : _ ≤ sizeLine), fun e3 ne3 => ?_⟩
         have sme3 : Same X10 (upd X10 e3 (.lst [.int 0, .int n])) := same_upd (Same.refl _) ne3
         have he3 : (upd X10 e3 (.lst [.int 0, .int n])) e3 = some (.lst [.int 0, .int n]) := upd_same
         generalize upd X10 e3 (.lst [.int 0, .int n]) = X11 at *
         have sX11 := sX10.trans sme3
         refine ⟨e3, _, rfl, Or.inl (SqL.of he3), rfl, rfl, _, rfl, ?_⟩
         refine ifF (by
           show (!inV (.int (([] : List Int).map V.int).length) (([0, (n : Int)] : List Int).map V.int)) = false
           rw [inV_ints]
           simp) ?_
         refine ⟨_, rfl, _, rfl, ?_⟩
         refine call_alllead h1 hn (hq3.same (s3X.trans sX11)) hSi hl (fun ps4 left4 X12 hE4 sm12 => ?_)
         rw [hends hE4]
         refine ⟨_, rfl, Or.inl ⟨rfl, _, rfl, ?_⟩⟩
         refine ifF (neFT _) ?_
         have s812 := smT2.trans (sme2.trans (sme3.trans sm12))
         have hT12 := s812 _ _ hT8
         have hpa12 := s812 _ _ ((sxb.trans smT) _ _ hpa)
         have hca12 := s812 _ _ ((sxb.trans smT) _ _ hca)
         have hbll := beL_len (n := n) (es := es)
         refine ⟨_, rfl, Or.inl ⟨T, _, 0, .ref pa, rfl, rfl, SqL.of hT12, rfl, Or.inr (Or.inl ⟨pa, _, 0, .ref ca, rfl, rfl, SqT.of hpa12, rfl, .inl ⟨rfl, _, SqL.of hca12⟩, ca, _, _, rfl, rfl, hca12, by rw [List.length_map]; exact Nat.lt_of_le_of_lt (m := 20) (by omega) (by decide), ?_⟩)⟩⟩
         have sX13 : Same H7 (upd X12 ca (.lst ((beL n es).map V.int ++ [.non]))) := same_upd (sX11.trans sm12) nca
         generalize upd X12 ca (.lst ((beL n es).map V.int ++ [.non])) = X13 at *
         have s13 := s3X.trans sX13
         refine ⟨_, rfl, _, rfl, ?_⟩
         refine call_starts h1 hn (hq3.same s13) hSi hl (fun pc cc Xc sxc npc ncc hpc hcc => ?_)
         refine Or.inr (Or.inr ⟨pc, BT n es, rfl, dp_BT hpc hcc, okB.sh, okB.nd, Nat.le_trans okB.dep (by decide), szB, ?_⟩)
         refine ⟨_, rfl, Or.inr (Or.inr ⟨p0, BT n es, rfl, dp_BT (sxc _ _ (sX13 _ _ hpd)) (sxc _ _ (sX13 _ _ hcd)), okB.sh, okB.nd, Nat.le_trans okB.dep (by decide), szB, ?_⟩)⟩
         refine Or.inl ⟨rfl, ?_⟩
         rw [decide_eq_true rfl]
         exact fin Xc k3 (sb03.trans (Same.but d (s13.trans sxc))) (hd3.same (s13.trans sxc)) (by omega)
end
/-! piece WH -/
section
theorem cut5 (ns : List Int) : (cutV (ns.map V.int) none (some 5)).length ≤ 5 := by
  unfold cutV
  rw [List.length_take]
  refine Nat.le_trans (Nat.min_le_left _ _) (Nat.le_trans (Nat.sub_le _ _) ?_)
  unfold HT.sIx
  simp only [show ¬ (5 : Int) < 0 by decide, if_false]
  omega
theorem cutInt {ns : List Int} {lo hi : Option Int} {x : V} (h : x ∈ cutV (ns.map V.int) lo hi) : ∃ i, x = V.int i := by
  unfold cutV at h
  obtain ⟨i, _, rfl⟩ := List.mem_map.mp (List.mem_of_mem_drop (List.mem_of_mem_take h))
  exact ⟨i, rfl⟩
/-! ### nets written in the text -/
structure RowAt (H : Hp) (rs : List Addr) (es : List Edge) : Prop where
  len : rs.length = es.length
  at_ : ∀ (i : Nat) (r : Addr) (e : Edge), rs[i]? = some r → es[i]? = some e → H r = some (.lst [.int e.1, .int e.2])
theorem RowAt.nil (H : Hp) : RowAt H [] [] := ⟨rfl, fun i r e h _ => by simp at h⟩
theorem RowAt.same {H H' : Hp} {rs : List Addr} {es : List Edge} (h : RowAt H rs es) (s : Same H H') : RowAt H' rs es := ⟨h.len, fun i r e a b => s _ _ (h.at_ i r e a b)⟩
theorem RowAt.snoc {H : Hp} {rs : List Addr} {es : List Edge} {r : Addr} {a b : Int} (h : RowAt H rs es) (nr : H r = none) : RowAt (upd H r (.lst [.int a, .int b])) (rs ++ [r]) (es ++ [(a, b)]) := by
  have hs := h.same (same_upd (o := .lst [.int a, .int b]) (Same.refl _) nr)
  refine ⟨by simp [h.len], fun i r2 e h1 h2 => ?_⟩
  by_cases hi : i < rs.length
  · rw [List.getElem?_append_left hi] at h1
    rw [List.getElem?_append_left (by rw [← h.len]; exact hi)] at h2
    exact hs.at_ i r2 e h1 h2
  · have hlt : i < (rs ++ [r]).length := (List.getElem?_eq_some_iff.mp h1).1
    have hi2 : i = rs.length := by rw [List.length_append, List.length_singleton] at hlt; omega
    subst hi2
    rw [List.getElem?_concat_length] at h1
    rw [h.len, List.getElem?_concat_length] at h2
    cases h1
    cases h2
    exact upd_same
theorem RowAt.net {H : Hp} {rs : List Addr} {es : List Edge} {q : Addr} (h : RowAt H rs es) (nq : H q = none) : PsAt (upd H q (.lst (rs.map V.ref))) q rs es :=
  let hs := h.same (same_upd (o := .lst (rs.map V.ref)) (Same.refl _) nq)
  ⟨upd_same, hs.len, hs.at_⟩
theorem simp_of {n : Int} {es : List Edge} (h1 : ∀ e ∈ es, 1 ≤ e.1 ∧ e.1 ≤ n ∧ 1 ≤ e.2 ∧ e.2 ≤ n ∧ e.1 ≠ e.2) (h2 : es.Pairwise fun a b => a ≠ b ∧ a ≠ (b.2, b.1)) : Simp n es := ⟨h1, h2⟩
theorem eqv_dI (xs : List Int) : PyData.eqv (dI xs) (dI xs) = true := by
  unfold dI
  induction xs with
  | nil => simp [PyData.eqv, PyData.eqvAll]
  | cons a l ih => simp_all [PyData.eqv, PyData.eqvAll]
@[irreducible] def spLaw (K : PySem.W.Frag) : Sp := fun vs H Q _ => ∃ (a : Addr) (ns : List Int), vs = [.ref a] ∧ SqL K H a (ns.map V.int) ∧ ns.length ≤ sizeLine ∧ ∀ H', Q (.bl true) H'
theorem PsAt.take {H : Hp} {D c : Addr} {rs : List Addr} {es : List Edge} (h : PsAt H D rs es) (k : Nat) (nc : H c = none) : PsAt (upd H c (.lst ((rs.map V.ref).take k))) c (rs.take k) (es.take k) := by
  have sm : Same H (upd H c (.lst ((rs.map V.ref).take k))) := same_upd (Same.refl _) nc
  refine ⟨by rw [upd_same, List.map_take], by rw [List.length_take, List.length_take, h.len], fun i r e hr he => ?_⟩
  rw [List.getElem?_take] at hr he
  by_cases hi : i < k
  · rw [if_pos hi] at hr he
    exact sm _ _ (h.at_ i r e hr he)
  · rw [if_neg hi] at hr
    cases hr
theorem same_draw {A B C : Hp} {d : Addr} {o : HO} (h : Same A B) (n : B d = none) (s : SameBut d (upd B d o) C) : Same A C := fun b ob e => by
  have h1 := h b ob e
  have hne : b ≠ d := ne_of_none h1 n
  exact s b ob hne (by rw [upd_ne hne]; exact h1)
end
/-! piece TVc -/
section
/-! ### the nets that are written in the law -/
def path (k : Nat) : List Edge := (List.range k).map fun (i : Nat) => ((i : Int) + 1, (i : Int) + 2)
def row4 : List Edge := [(1, 2), (2, 3), (3, 4)]
def seven11 : List Edge := [(4, 5), (5, 6), (1, 4), (2, 5), (3, 6), (1, 5), (2, 6), (1, 7), (2, 7), (3, 7), (4, 7)]
theorem simp_path : Simp ((12 : Nat) : Int) (path 11) := simp_of (by decide) (by decide)
theorem simp_ring : Simp ((12 : Nat) : Int) (path 11 ++ [(12, 1)]) := simp_of (by decide) (by decide)
theorem simp_ring2 : Simp ((12 : Nat) : Int) (path 11 ++ [(1, 12)]) := simp_of (by decide) (by decide)
theorem simp_row4 : Simp ((4 : Nat) : Int) row4 := simp_of (by decide) (by decide)
theorem simp_ring4 : Simp ((4 : Nat) : Int) (row4 ++ [(4, 1)]) := simp_of (by decide) (by decide)
theorem simp_seven : Simp ((7 : Nat) : Int) (row4 ++ seven11) := simp_of (by decide) (by decide)
theorem simp_none (n : Nat) : Simp (n : Int) [] := simp_of (fun e h => nomatch h) List.Pairwise.nil
theorem rk_by {n : Nat} {es : List Edge} (hS : Simp n es) {h t : Int} (hh : 1 ≤ h ∧ h ≤ n) (ht : 1 ≤ t ∧ t ≤ n) (k : Nat) (hk : k ≤ n * n)
    (e1 : ((sureM n es k).getD t.toNat 0).testBit h.toNat = true) (e2 : (List.range k).all (fun j => !((sureM n es j).getD t.toNat 0).testBit h.toNat) = true) : rkM n es h t = some k := by
  refine rk_some.mpr ⟨by rw [← sure_bit hS k hh.1 hh.2 ht.1 ht.2]; exact e1, hk, fun j hj => ?_⟩
  have := List.all_eq_true.mp e2 j (List.mem_range.mpr hj)
  rw [sure_bit hS j hh.1 hh.2 ht.1 ht.2] at this
  simpa using this
theorem rk_by0 {n : Nat} {es : List Edge} (hS : Simp n es) {h t : Int} (hh : 1 ≤ h ∧ h ≤ n) (ht : 1 ≤ t ∧ t ≤ n) (m : Nat) (e1 : sureM n es (m + 1) = sureM n es m) (e2 : ((sureM n es m).getD t.toNat 0).testBit h.toNat = false) : rkM n es h t = none := by
  have st := (sure_eq hS).mp e1
  rw [sure_bit hS m hh.1 hh.2 ht.1 ht.2] at e2
  refine (rk_none hS hh ht).mpr fun j => ?_
  by_cases hj : j ≤ m
  · cases e : wB n es j h t
    · rfl
    · rw [wB_le hS hh.1 hh.2 ht.1 ht.2 hj e] at e2
      cases e2
  · rw [st.eq (by omega) hh.1 hh.2 ht.1 ht.2]
    exact e2
theorem be_by {n : Nat} {es : List Edge} (b1 : 1 ≤ n) (hS : Simp n es) (k : Nat) (l : List Int) (hl : l ≠ []) (e1 : membersM (commonM (sureM n es k) (allM n)) = l) (e2 : (List.range k).all (fun j => decide (membersM (commonM (sureM n es j) (allM n)) = [])) = true) : beM n es = some k ∧ beL n es = l := by
  rw [best_members b1 hS] at e1
  have h : beM n es = some k := by
    refine be_at hS (fun j hj => ?_) (by rw [e1]; exact hl)
    have := List.all_eq_true.mp e2 j (List.mem_range.mpr hj)
    rw [best_members b1 hS] at this
    exact of_decide_eq_true this
  refine ⟨h, ?_⟩
  unfold beL
  rw [h]
  exact e1
theorem be_by0 {n : Nat} {es : List Edge} (b1 : 1 ≤ n) (hS : Simp n es) (m : Nat) (e1 : sureM n es (m + 1) = sureM n es m) (e2 : membersM (commonM (sureM n es m) (allM n)) = []) : beM n es = none ∧ beL n es = [] := by
  have st := (sure_eq hS).mp e1
  rw [best_members b1 hS] at e2
  have h : beM n es = none := (be_none hS).mpr fun j => by
    by_cases hj : j ≤ m
    · refine List.eq_nil_iff_forall_not_mem.mpr fun h hh => ?_
      have hb := best_mem.mp hh
      have : h ∈ bestM n es m := best_mem.mpr ⟨hb.1, fun t t1 t2 => wB_le hS hb.1.1 hb.1.2 t1 t2 hj (hb.2 t t1 t2)⟩
      rw [e2] at this
      cases this
    · rw [best_eq st (by omega)]
      exact e2
  refine ⟨h, ?_⟩
  unfold beL
  rw [h]
theorem rk_path : rkM 12 (path 11) 1 12 = some 11 := rk_by simp_path (by decide) (by decide) 11 (by decide) (by decide +kernel) (by decide +kernel)
theorem be_path : beM 12 (path 11) = some 6 ∧ beL 12 (path 11) = [6, 7] := be_by (by decide) simp_path 6 _ (by decide) (by decide +kernel) (by decide +kernel)
theorem be_ring : beM 12 (path 11 ++ [(12, 1)]) = none ∧ beL 12 (path 11 ++ [(12, 1)]) = [] := be_by0 (by decide) simp_ring 2 (by decide +kernel) (by decide +kernel)
theorem rk_ring2 : rkM 12 (path 11 ++ [(1, 12)]) 1 2 = some 1 := rk_by simp_ring2 (by decide) (by decide) 1 (by decide) (by decide +kernel) (by decide +kernel)
theorem rk_row4 : rkM 4 row4 1 4 = some 3 := rk_by simp_row4 (by decide) (by decide) 3 (by decide) (by decide +kernel) (by decide +kernel)
theorem be_row4 : beM 4 row4 = some 2 ∧ beL 4 row4 = [2, 3] := be_by (by decide) simp_row4 2 _ (by decide) (by decide +kernel) (by decide +kernel)
theorem rk_row13 : rkM 4 row4 1 3 = some 3 := rk_by simp_row4 (by decide) (by decide) 3 (by decide) (by decide +kernel) (by decide +kernel)
theorem go_row13 : goM 4 row4 1 3 = some 2 := by
  unfold goM
  rw [rk_row13]
  show (goalsM 4 row4 2 1 3).head? = some 2
  rw [← goals_members simp_row4 (by decide) (by decide) (by decide) (by decide)]
  decide +kernel
theorem rk_ring4 : rkM 4 (row4 ++ [(4, 1)]) 1 3 = none := rk_by0 simp_ring4 (by decide) (by decide) 2 (by decide +kernel) (by decide +kernel)
theorem be_one : beM 1 [] = some 0 ∧ beL 1 [] = [1] := be_by (by decide) (simp_none 1) 0 _ (by decide) (by decide +kernel) (by decide +kernel)
theorem rk_two : rkM 2 [] 1 2 = none := rk_by0 (simp_none 2) (by decide) (by decide) 1 (by decide +kernel) (by decide +kernel)
theorem be_two : beM 2 [] = none ∧ beL 2 [] = [] := be_by0 (by decide) (simp_none 2) 1 (by decide +kernel) (by decide +kernel)
theorem BT_some {n k : Nat} {es : List Edge} {l : List Int} (h : beM n es = some k ∧ beL n es = l) : BT n es = .tuple [dI l, .int (k : Nat)] := by
  unfold BT
  rw [h.1, h.2]
  rfl
theorem BT_none {n : Nat} {es : List Edge} (h : beM n es = none ∧ beL n es = []) : BT n es = .tuple [dI [], .none] := by
  unfold BT
  rw [h.1, h.2]
  rfl
theorem dp_BTs {K : PySem.W.Frag} {H : Hp} {p c : Addr} {n k : Nat} {es : List Edge} {l : List Int} (h : beM n es = some k ∧ beL n es = l) (hp : H p = some (.tup [.ref c, beV n es])) (hc : H c = some (iL (beL n es))) : Dp K H (.ref p) (.tuple [dI l, .int (k : Nat)]) := BT_some h ▸ dp_BT hp hc
theorem dp_BTn {K : PySem.W.Frag} {H : Hp} {p c : Addr} {n : Nat} {es : List Edge} (h : beM n es = none ∧ beL n es = []) (hp : H p = some (.tup [.ref c, beV n es])) (hc : H c = some (iL (beL n es))) : Dp K H (.ref p) (.tuple [dI [], .none]) := BT_none h ▸ dp_BT hp hc
end
/-! piece TVld -/
section
local macro_rules | `(tactic| wtm_at "fo a") => `(tactic| first
  | exact pa_nil
  | (refine' pa_cons ?k1 ?k2; (case k1 => wtm_at "fo e"); (case k2 => wtm_at "fo a"))
  | fail "no")
local macro_rules | `(tactic| wtm_at "fo v") => `(tactic| first
  | exact pv 0
  | exact pv 1
  | exact pv 2
  | exact pv 3
  | exact pv 4
  | exact pv 5
  | exact pv 6
  | exact pv 7
  | exact pv 8
  | exact pv 9
  | exact pv 10
  | exact pv 11
  | exact pv 12
  | exact pv 13
  | exact pv 14
  | exact pv 15
  | fail "no")
local macro_rules | `(tactic| wtm_at "fo e") => `(tactic| first
  | with_reducible exact pe_int
  | with_reducible exact pe_bl
  | with_reducible exact pe_non
  | with_reducible exact pe_str
  | ((with_reducible show PE _ (.Name _ _) _); wtm_at "fo v")
  | ((with_reducible show PE _ (.BinOp _ .Add _ _) _); apply pe_op opAddB <;> wtm_at "fo e")
  | ((with_reducible show PE _ (.BinOp _ .Sub _ _) _); apply pe_op op_sub <;> wtm_at "fo e")
  | ((with_reducible show PE _ (.BinOp _ .Mult _ _) _); apply pe_op op_mul <;> wtm_at "fo e")
  | ((with_reducible show PE _ (.BinOp _ .Mod _ _) _); apply pe_op op_mod <;> wtm_at "fo e")
  | ((with_reducible show PE _ (.BinOp _ .FloorDiv _ _) _); apply pe_op op_fdiv <;> wtm_at "fo e")
  | ((with_reducible show PE _ (.BinOp _ .Pow _ _) _); apply pe_op op_powW <;> wtm_at "fo e")
  | ((with_reducible show PE _ (.BinOp _ .LShift _ _) _); apply pe_op op_shl <;> wtm_at "fo e")
  | ((with_reducible show PE _ (.BinOp _ .RShift _ _) _); apply pe_op op_shr <;> wtm_at "fo e")
  | ((with_reducible show PE _ (.BinOp _ .BitAnd _ _) _); apply pe_op op_and <;> wtm_at "fo e")
  | ((with_reducible show PE _ (.List _ _) _); apply pe_lst; wtm_at "fo a")
  | ((with_reducible show PE _ (.Tuple _ _ _) _); apply pe_tup; wtm_at "fo a")
  | ((with_reducible show PE _ (.ListComp _ [_] _ _) _); wtm_at "fo lc")
  | ((with_reducible show PE _ (.IfExp _ _ _ _) _); apply pe_ifExp; (· wtm_at "fo t"); (· wtm_at "fo e"); (· wtm_at "fo e"))
  | ((with_reducible show PE _ (.UnaryOp .USub _ _) _); apply pe_un un_neg; wtm_at "fo e")
  | ((with_reducible show PE _ (.Call (.Name _ _) [] (_ :: _) _) _); wtm_at "fo kcall")
  | ((with_reducible show PE _ (.Call (.Name _ _) _ _ _) _); wtm_at "fo call")
  | ((with_reducible show PE _ (.Call (.Attribute _ _ _) _ _ _) _); wtm_at "fo meth")
  | ((with_reducible show PE _ (.Compare _ _ _ _) _); wtm_at "fo cmp")
  | ((with_reducible show PE _ (.Subscript _ (.Slice _ _ _ _) _) _); wtm_at "fo slice")
  | ((with_reducible show PE _ (.Subscript _ _ _) _); refine' pe_ix (ix_seqK (by assumption) (by exact rfl)) ?ka ?kb (fun _ _ => rfl); (case ka => wtm_at "fo e"); (case kb => wtm_at "fo e"))
  | fail "no")
local macro_rules | `(tactic| wtm_at "fo own") => `(tactic| first
  | ((show _ = [0]); kernel_rfl!)
  | ((show _ = [1]); kernel_rfl!)
  | ((show _ = [2]); kernel_rfl!)
  | ((show _ = [3]); kernel_rfl!)
  | ((show _ = [4]); kernel_rfl!)
  | ((show _ = [5]); kernel_rfl!)
  | ((show _ = [6]); kernel_rfl!)
  | ((show _ = [7]); kernel_rfl!)
  | ((show _ = [8]); kernel_rfl!)
  | ((show _ = [9]); kernel_rfl!)
  | ((show _ = [10]); kernel_rfl!)
  | ((show _ = [11]); kernel_rfl!)
  | ((show _ = [12]); kernel_rfl!)
  | ((show _ = [13]); kernel_rfl!)
  | ((show _ = [14]); kernel_rfl!)
  | ((show _ = [15]); kernel_rfl!)
  | ((show _ = [0, 1]); kernel_rfl!)
  | ((show _ = [1, 2]); kernel_rfl!)
  | ((show _ = [2, 3]); kernel_rfl!)
  | ((show _ = [3, 4]); kernel_rfl!)
  | ((show _ = [4, 5]); kernel_rfl!)
  | ((show _ = [5, 6]); kernel_rfl!)
  | ((show _ = [6, 7]); kernel_rfl!)
  | ((show _ = [7, 8]); kernel_rfl!)
  | ((show _ = [8, 9]); kernel_rfl!)
  | ((show _ = [9, 10]); kernel_rfl!)
  | ((show _ = [10, 11]); kernel_rfl!)
  | ((show _ = [11, 12]); kernel_rfl!)
  | ((show _ = [12, 13]); kernel_rfl!)
  | ((show _ = [13, 14]); kernel_rfl!)
  | ((show _ = [14, 15]); kernel_rfl!)
  | fail "no")
local macro_rules | `(tactic| wtm_at "fo ts") => `(tactic| first
  | exact pts_nil
  | (apply pts_one; wtm_at "fo t")
  | fail "no")
local macro_rules | `(tactic| wtm_at "fo lc") => `(tactic| first
  | (refine' pe_lcO (by assumption) (by exact rfl) (by exact rfl) (by wtm_at "fo own") (by decide +kernel) rfl ?ki ?kg ?kt ?ke; (case ki => wtm_at "fo i"); (case kg => (intro _ _ _ _ _; wtm_at "fo g")); (case kt => (intro _ _ _ _ _; wtm_at "fo ts")); (case ke => (intro _ _ _ _ _; wtm_at "fo e")))
  | fail "no")
local macro_rules | `(tactic| wtm_at "fo part") => `(tactic| first
  | exact po_none
  | (apply po_some; wtm_at "fo e")
  | fail "no")
local macro_rules | `(tactic| wtm_at "fo slice") => `(tactic| first
  | ((with_reducible show PE _ (.Subscript _ (.Slice _ _ none _) _) _); refine' pe_slice (sl_listK (by assumption) (by exact rfl)) ?ka ?kb ?kc; (case ka => wtm_at "fo e"); (case kb => wtm_at "fo part"); (case kc => wtm_at "fo part"))
  | ((with_reducible show PE _ (.Subscript _ (.Slice none none (some _) _) _) _); refine' pe_stepK (by assumption) (by exact rfl) ?ka ?kb; (case ka => wtm_at "fo e"); (case kb => wtm_at "fo e"))
  | fail "no")
local macro_rules | `(tactic| wtm_at "fo cmp") => `(tactic| first
  | ((with_reducible show PE _ (.Compare _ [.Lt] _ _) _); refine' pe_cmpR op_lt ?ka ?kb (nomark _); (case ka => wtm_at "fo e"); (case kb => wtm_at "fo e"))
  | ((with_reducible show PE _ (.Compare _ [.LtE] _ _) _); refine' pe_cmpR op_le ?ka ?kb (nomark _); (case ka => wtm_at "fo e"); (case kb => wtm_at "fo e"))
  | ((with_reducible show PE _ (.Compare _ [.Gt] _ _) _); refine' pe_cmpR op_gt ?ka ?kb (nomark _); (case ka => wtm_at "fo e"); (case kb => wtm_at "fo e"))
  | ((with_reducible show PE _ (.Compare _ [.GtE] _ _) _); refine' pe_cmpR op_ge ?ka ?kb (nomark _); (case ka => wtm_at "fo e"); (case kb => wtm_at "fo e"))
  | ((with_reducible show PE _ (.Compare _ [.Eq] _ _) _); refine' pe_cmpR (op_eqK (by assumption) (by exact rfl) (Room.units (by assumption))) ?ka ?kb (nomark _); (case ka => wtm_at "fo e"); (case kb => wtm_at "fo e"))
  | ((with_reducible show PE _ (.Compare _ [.NotEq] _ _) _); refine' pe_cmpR (op_neK (by assumption) (by exact rfl) (Room.units (by assumption))) ?ka ?kb (nomark _); (case ka => wtm_at "fo e"); (case kb => wtm_at "fo e"))
  | fail "no")
local macro_rules | `(tactic| wtm_at "fo tcmp") => `(tactic| first
  | ((with_reducible show PT _ (.Compare _ [.Lt] _ _) _); refine' pt_cmpR op_lt ?ka ?kb (nomark _); (case ka => wtm_at "fo e"); (case kb => wtm_at "fo e"))
  | ((with_reducible show PT _ (.Compare _ [.LtE] _ _) _); refine' pt_cmpR op_le ?ka ?kb (nomark _); (case ka => wtm_at "fo e"); (case kb => wtm_at "fo e"))
  | ((with_reducible show PT _ (.Compare _ [.Gt] _ _) _); refine' pt_cmpR op_gt ?ka ?kb (nomark _); (case ka => wtm_at "fo e"); (case kb => wtm_at "fo e"))
  | ((with_reducible show PT _ (.Compare _ [.GtE] _ _) _); refine' pt_cmpR op_ge ?ka ?kb (nomark _); (case ka => wtm_at "fo e"); (case kb => wtm_at "fo e"))
  | ((with_reducible show PT _ (.Compare _ [.Eq] _ _) _); refine' pt_cmpR (op_eqK (by assumption) (by exact rfl) (Room.units (by assumption))) ?ka ?kb (nomark _); (case ka => wtm_at "fo e"); (case kb => wtm_at "fo e"))
  | ((with_reducible show PT _ (.Compare _ [.NotEq] _ _) _); refine' pt_cmpR (op_neK (by assumption) (by exact rfl) (Room.units (by assumption))) ?ka ?kb (nomark _); (case ka => wtm_at "fo e"); (case kb => wtm_at "fo e"))
  | ((with_reducible show PT _ (.Compare _ [.In] _ _) _); refine' pt_cmpR (op_inK (by assumption) (by exact rfl)) ?ka ?kb rfl; (case ka => wtm_at "fo e"); (case kb => wtm_at "fo e"))
  | ((with_reducible show PT _ (.Compare _ [.NotIn] _ _) _); refine' pt_cmpR (op_notInK (by assumption) (by exact rfl)) ?ka ?kb rfl; (case ka => wtm_at "fo e"); (case kb => wtm_at "fo e"))
  | fail "no")
local macro_rules | `(tactic| wtm_at "fo w") => `(tactic| first
  | ((with_reducible show PW _ (.BoolOp .And [_] _) _); apply pw_and1; wtm_at "fo t")
  | ((with_reducible show PW _ (.BoolOp .And _ _) _); apply pw_and; (· wtm_at "fo t"); (· wtm_at "fo w"))
  | ((with_reducible show PW _ (.BoolOp .Or [_] _) _); apply pw_or1; wtm_at "fo t")
  | ((with_reducible show PW _ (.BoolOp .Or _ _) _); apply pw_or; (· wtm_at "fo t"); (· wtm_at "fo w"))
  | fail "no")
local macro_rules | `(tactic| wtm_at "fo meth") => `(tactic| first
  | ((with_reducible show PE _ (.Call (.Attribute _ (Str.ofString "append") _) _ _ _) _); refine' pe_bm PySem.F.plainAttrs_list PySem.F.slot_list_append PySem.F.type_list_append mt_append ?ka ?kb; (case ka => wtm_at "fo e"); (case kb => wtm_at "fo a"))
  | ((with_reducible show PE _ (.Call (.Attribute _ (Str.ofString "pop") _) [_] _ _) _); refine' pe_bm PySem.F.plainAttrs_list PySem.F.slot_list_pop PySem.F.type_list_pop mt_popAt ?ka ?kb; (case ka => wtm_at "fo e"); (case kb => wtm_at "fo a"))
  | ((with_reducible show PE _ (.Call (.Attribute _ (Str.ofString "pop") _) [] _ _) _); refine' pe_bm0 PySem.F.plainAttrs_list PySem.F.slot_list_pop PySem.F.type_list_pop mt_pop ?ka; (case ka => wtm_at "fo e"))
  | fail "no")
local macro_rules | `(tactic| wtm_at "fo k") => `(tactic| first
  | exact pk_nil
  | (refine' pk_cons ?k1 ?k2; (case k1 => wtm_at "fo e"); (case k2 => wtm_at "fo k"))
  | fail "no")
local macro_rules | `(tactic| wtm_at "fo kcall") => `(tactic| first
  | (refine' pe_kcal (by assumption) (by assumption) (by decide) (by rfl) ?ka; (case ka => wtm_at "fo k"))
  | fail "no")
local macro_rules | `(tactic| wtm_at "fo call") => `(tactic| first
  | ((with_reducible show PE _ (.Call (.Name (Str.ofString "int") _) _ _ _) _); refine' pe_callTy call_intB (by rfl) (by assumption) (by decide +kernel) ?ka; (case ka => wtm_at "fo a"))
  | ((with_reducible show PE _ (.Call (.Name (Str.ofString "len") _) _ _ _) _); refine' pe_callB (call_lenK (by assumption) (by exact rfl)) (by rfl) (by assumption) PySem.boot_len ?ka; (case ka => wtm_at "fo a"))
  | ((with_reducible show PE _ (.Call (.Name (Str.ofString "list") _) [.Call (.Name (Str.ofString "range") _) [_, _] _ _] _ _) _); refine' pe_listRg rfl (by rfl) (by assumption) (prg_2 (by rfl) (by assumption) ?ka ?kb); (case ka => wtm_at "fo e"); (case kb => wtm_at "fo e"))
  | ((with_reducible show PE _ (.Call (.Name (Str.ofString "list") _) _ _ _) _); refine' pe_callTy (call_listK (by assumption) (by exact rfl)) (by rfl) (by assumption) (by decide +kernel) ?ka; (case ka => wtm_at "fo a"))
  | ((with_reducible show PE _ (.Call (.Name (Str.ofString "min") _) [_, _] _ _) _); refine' pe_callB (call_min2 rfl) (by rfl) (by assumption) (by decide +kernel) ?ka; (case ka => wtm_at "fo a"))
  | ((with_reducible show PE _ (.Call (.Name (Str.ofString "sorted") _) [_] _ _) _); refine' pe_callB (cr_sortedK (by assumption) (by exact rfl)) (by rfl) (by assumption) (by decide +kernel) ?ka; (case ka => wtm_at "fo a"))
  | ((with_reducible show PE _ (.Call (.Name (Str.ofString "repr") _) [_] _ _) _); refine' pe_callB (call_reprK (by assumption) (by exact rfl) (by assumption) (Room.units (by assumption))) (by rfl) (by assumption) (by decide +kernel) ?ka; (case ka => wtm_at "fo a"))
  | (refine' pe_cal (by assumption) (by assumption) (by decide) (by rfl) ?ka; (case ka => wtm_at "fo a"))
  | fail "no")
local macro_rules | `(tactic| wtm_at "fo setlc") => `(tactic| first
  | (refine' ps_setLcO (i := 0) (by assumption) (by exact rfl) (by exact rfl) (by wtm_at "fo own") (by decide +kernel) rfl rfl rfl (sw_true rfl rfl rfl (by decide +kernel)) ?ki ?kg ?kt ?ke; (case ki => wtm_at "fo i"); (case kg => (intro _ _ _ _ _; wtm_at "fo g")); (case kt => (intro _ _ _ _ _; wtm_at "fo ts")); (case ke => (intro _ _ _ _ _; wtm_at "fo e")))
  | (refine' ps_setLcO (i := 1) (by assumption) (by exact rfl) (by exact rfl) (by wtm_at "fo own") (by decide +kernel) rfl rfl rfl (sw_true rfl rfl rfl (by decide +kernel)) ?ki ?kg ?kt ?ke; (case ki => wtm_at "fo i"); (case kg => (intro _ _ _ _ _; wtm_at "fo g")); (case kt => (intro _ _ _ _ _; wtm_at "fo ts")); (case ke => (intro _ _ _ _ _; wtm_at "fo e")))
  | (refine' ps_setLcO (i := 2) (by assumption) (by exact rfl) (by exact rfl) (by wtm_at "fo own") (by decide +kernel) rfl rfl rfl (sw_true rfl rfl rfl (by decide +kernel)) ?ki ?kg ?kt ?ke; (case ki => wtm_at "fo i"); (case kg => (intro _ _ _ _ _; wtm_at "fo g")); (case kt => (intro _ _ _ _ _; wtm_at "fo ts")); (case ke => (intro _ _ _ _ _; wtm_at "fo e")))
  | (refine' ps_setLcO (i := 3) (by assumption) (by exact rfl) (by exact rfl) (by wtm_at "fo own") (by decide +kernel) rfl rfl rfl (sw_true rfl rfl rfl (by decide +kernel)) ?ki ?kg ?kt ?ke; (case ki => wtm_at "fo i"); (case kg => (intro _ _ _ _ _; wtm_at "fo g")); (case kt => (intro _ _ _ _ _; wtm_at "fo ts")); (case ke => (intro _ _ _ _ _; wtm_at "fo e")))
  | (refine' ps_setLcO (i := 4) (by assumption) (by exact rfl) (by exact rfl) (by wtm_at "fo own") (by decide +kernel) rfl rfl rfl (sw_true rfl rfl rfl (by decide +kernel)) ?ki ?kg ?kt ?ke; (case ki => wtm_at "fo i"); (case kg => (intro _ _ _ _ _; wtm_at "fo g")); (case kt => (intro _ _ _ _ _; wtm_at "fo ts")); (case ke => (intro _ _ _ _ _; wtm_at "fo e")))
  | (refine' ps_setLcO (i := 5) (by assumption) (by exact rfl) (by exact rfl) (by wtm_at "fo own") (by decide +kernel) rfl rfl rfl (sw_true rfl rfl rfl (by decide +kernel)) ?ki ?kg ?kt ?ke; (case ki => wtm_at "fo i"); (case kg => (intro _ _ _ _ _; wtm_at "fo g")); (case kt => (intro _ _ _ _ _; wtm_at "fo ts")); (case ke => (intro _ _ _ _ _; wtm_at "fo e")))
  | (refine' ps_setLcO (i := 6) (by assumption) (by exact rfl) (by exact rfl) (by wtm_at "fo own") (by decide +kernel) rfl rfl rfl (sw_true rfl rfl rfl (by decide +kernel)) ?ki ?kg ?kt ?ke; (case ki => wtm_at "fo i"); (case kg => (intro _ _ _ _ _; wtm_at "fo g")); (case kt => (intro _ _ _ _ _; wtm_at "fo ts")); (case ke => (intro _ _ _ _ _; wtm_at "fo e")))
  | (refine' ps_setLcO (i := 7) (by assumption) (by exact rfl) (by exact rfl) (by wtm_at "fo own") (by decide +kernel) rfl rfl rfl (sw_true rfl rfl rfl (by decide +kernel)) ?ki ?kg ?kt ?ke; (case ki => wtm_at "fo i"); (case kg => (intro _ _ _ _ _; wtm_at "fo g")); (case kt => (intro _ _ _ _ _; wtm_at "fo ts")); (case ke => (intro _ _ _ _ _; wtm_at "fo e")))
  | (refine' ps_setLcO (i := 8) (by assumption) (by exact rfl) (by exact rfl) (by wtm_at "fo own") (by decide +kernel) rfl rfl rfl (sw_true rfl rfl rfl (by decide +kernel)) ?ki ?kg ?kt ?ke; (case ki => wtm_at "fo i"); (case kg => (intro _ _ _ _ _; wtm_at "fo g")); (case kt => (intro _ _ _ _ _; wtm_at "fo ts")); (case ke => (intro _ _ _ _ _; wtm_at "fo e")))
  | (refine' ps_setLcO (i := 9) (by assumption) (by exact rfl) (by exact rfl) (by wtm_at "fo own") (by decide +kernel) rfl rfl rfl (sw_true rfl rfl rfl (by decide +kernel)) ?ki ?kg ?kt ?ke; (case ki => wtm_at "fo i"); (case kg => (intro _ _ _ _ _; wtm_at "fo g")); (case kt => (intro _ _ _ _ _; wtm_at "fo ts")); (case ke => (intro _ _ _ _ _; wtm_at "fo e")))
  | (refine' ps_setLcO (i := 10) (by assumption) (by exact rfl) (by exact rfl) (by wtm_at "fo own") (by decide +kernel) rfl rfl rfl (sw_true rfl rfl rfl (by decide +kernel)) ?ki ?kg ?kt ?ke; (case ki => wtm_at "fo i"); (case kg => (intro _ _ _ _ _; wtm_at "fo g")); (case kt => (intro _ _ _ _ _; wtm_at "fo ts")); (case ke => (intro _ _ _ _ _; wtm_at "fo e")))
  | (refine' ps_setLcO (i := 11) (by assumption) (by exact rfl) (by exact rfl) (by wtm_at "fo own") (by decide +kernel) rfl rfl rfl (sw_true rfl rfl rfl (by decide +kernel)) ?ki ?kg ?kt ?ke; (case ki => wtm_at "fo i"); (case kg => (intro _ _ _ _ _; wtm_at "fo g")); (case kt => (intro _ _ _ _ _; wtm_at "fo ts")); (case ke => (intro _ _ _ _ _; wtm_at "fo e")))
  | (refine' ps_setLcO (i := 12) (by assumption) (by exact rfl) (by exact rfl) (by wtm_at "fo own") (by decide +kernel) rfl rfl rfl (sw_true rfl rfl rfl (by decide +kernel)) ?ki ?kg ?kt ?ke; (case ki => wtm_at "fo i"); (case kg => (intro _ _ _ _ _; wtm_at "fo g")); (case kt => (intro _ _ _ _ _; wtm_at "fo ts")); (case ke => (intro _ _ _ _ _; wtm_at "fo e")))
  | (refine' ps_setLcO (i := 13) (by assumption) (by exact rfl) (by exact rfl) (by wtm_at "fo own") (by decide +kernel) rfl rfl rfl (sw_true rfl rfl rfl (by decide +kernel)) ?ki ?kg ?kt ?ke; (case ki => wtm_at "fo i"); (case kg => (intro _ _ _ _ _; wtm_at "fo g")); (case kt => (intro _ _ _ _ _; wtm_at "fo ts")); (case ke => (intro _ _ _ _ _; wtm_at "fo e")))
  | (refine' ps_setLcO (i := 14) (by assumption) (by exact rfl) (by exact rfl) (by wtm_at "fo own") (by decide +kernel) rfl rfl rfl (sw_true rfl rfl rfl (by decide +kernel)) ?ki ?kg ?kt ?ke; (case ki => wtm_at "fo i"); (case kg => (intro _ _ _ _ _; wtm_at "fo g")); (case kt => (intro _ _ _ _ _; wtm_at "fo ts")); (case ke => (intro _ _ _ _ _; wtm_at "fo e")))
  | (refine' ps_setLcO (i := 15) (by assumption) (by exact rfl) (by exact rfl) (by wtm_at "fo own") (by decide +kernel) rfl rfl rfl (sw_true rfl rfl rfl (by decide +kernel)) ?ki ?kg ?kt ?ke; (case ki => wtm_at "fo i"); (case kg => (intro _ _ _ _ _; wtm_at "fo g")); (case kt => (intro _ _ _ _ _; wtm_at "fo ts")); (case ke => (intro _ _ _ _ _; wtm_at "fo e")))
  | fail "no")
local macro_rules | `(tactic| wtm_at "fo set") => `(tactic| first
  | (refine' ps_set (i := 0) (by assumption) rfl (by first | exact Or.inl rfl | exact Or.inr rfl) ?ka; (case ka => wtm_at "fo e"))
  | (refine' ps_set (i := 1) (by assumption) rfl (by first | exact Or.inl rfl | exact Or.inr rfl) ?ka; (case ka => wtm_at "fo e"))
  | (refine' ps_set (i := 2) (by assumption) rfl (by first | exact Or.inl rfl | exact Or.inr rfl) ?ka; (case ka => wtm_at "fo e"))
  | (refine' ps_set (i := 3) (by assumption) rfl (by first | exact Or.inl rfl | exact Or.inr rfl) ?ka; (case ka => wtm_at "fo e"))
  | (refine' ps_set (i := 4) (by assumption) rfl (by first | exact Or.inl rfl | exact Or.inr rfl) ?ka; (case ka => wtm_at "fo e"))
  | (refine' ps_set (i := 5) (by assumption) rfl (by first | exact Or.inl rfl | exact Or.inr rfl) ?ka; (case ka => wtm_at "fo e"))
  | (refine' ps_set (i := 6) (by assumption) rfl (by first | exact Or.inl rfl | exact Or.inr rfl) ?ka; (case ka => wtm_at "fo e"))
  | (refine' ps_set (i := 7) (by assumption) rfl (by first | exact Or.inl rfl | exact Or.inr rfl) ?ka; (case ka => wtm_at "fo e"))
  | (refine' ps_set (i := 8) (by assumption) rfl (by first | exact Or.inl rfl | exact Or.inr rfl) ?ka; (case ka => wtm_at "fo e"))
  | (refine' ps_set (i := 9) (by assumption) rfl (by first | exact Or.inl rfl | exact Or.inr rfl) ?ka; (case ka => wtm_at "fo e"))
  | (refine' ps_set (i := 10) (by assumption) rfl (by first | exact Or.inl rfl | exact Or.inr rfl) ?ka; (case ka => wtm_at "fo e"))
  | (refine' ps_set (i := 11) (by assumption) rfl (by first | exact Or.inl rfl | exact Or.inr rfl) ?ka; (case ka => wtm_at "fo e"))
  | (refine' ps_set (i := 12) (by assumption) rfl (by first | exact Or.inl rfl | exact Or.inr rfl) ?ka; (case ka => wtm_at "fo e"))
  | (refine' ps_set (i := 13) (by assumption) rfl (by first | exact Or.inl rfl | exact Or.inr rfl) ?ka; (case ka => wtm_at "fo e"))
  | fail "no")
local macro_rules | `(tactic| wtm_at "fo t") => `(tactic| first
  | ((with_reducible show PT _ (.BoolOp _ _ _) _); apply PW.pt; wtm_at "fo w")
  | ((with_reducible show PT _ (.UnaryOp .Not _ _) _); apply pt_not; wtm_at "fo t")
  | ((with_reducible show PT _ (.Compare _ _ _ _) _); wtm_at "fo tcmp")
  | (refine' pt_truthK (by assumption) (by exact rfl) ?ka (by intro _; rfl); (case ka => wtm_at "fo e"))
  | fail "no")
local macro_rules | `(tactic| wtm_at "fo gn") => `(tactic| first
  | exact pg_name (i := 0) (by assumption) rfl (by first | exact Or.inl rfl | exact Or.inr rfl)
  | exact pg_name (i := 1) (by assumption) rfl (by first | exact Or.inl rfl | exact Or.inr rfl)
  | exact pg_name (i := 2) (by assumption) rfl (by first | exact Or.inl rfl | exact Or.inr rfl)
  | exact pg_name (i := 3) (by assumption) rfl (by first | exact Or.inl rfl | exact Or.inr rfl)
  | exact pg_name (i := 4) (by assumption) rfl (by first | exact Or.inl rfl | exact Or.inr rfl)
  | exact pg_name (i := 5) (by assumption) rfl (by first | exact Or.inl rfl | exact Or.inr rfl)
  | exact pg_name (i := 6) (by assumption) rfl (by first | exact Or.inl rfl | exact Or.inr rfl)
  | exact pg_name (i := 7) (by assumption) rfl (by first | exact Or.inl rfl | exact Or.inr rfl)
  | exact pg_name (i := 8) (by assumption) rfl (by first | exact Or.inl rfl | exact Or.inr rfl)
  | exact pg_name (i := 9) (by assumption) rfl (by first | exact Or.inl rfl | exact Or.inr rfl)
  | exact pg_name (i := 10) (by assumption) rfl (by first | exact Or.inl rfl | exact Or.inr rfl)
  | exact pg_name (i := 11) (by assumption) rfl (by first | exact Or.inl rfl | exact Or.inr rfl)
  | exact pg_name (i := 12) (by assumption) rfl (by first | exact Or.inl rfl | exact Or.inr rfl)
  | exact pg_name (i := 13) (by assumption) rfl (by first | exact Or.inl rfl | exact Or.inr rfl)
  | exact pg_name (i := 14) (by assumption) rfl (by first | exact Or.inl rfl | exact Or.inr rfl)
  | exact pg_name (i := 15) (by assumption) rfl (by first | exact Or.inl rfl | exact Or.inr rfl)
  | fail "no")
local macro_rules | `(tactic| wtm_at "fo par") => `(tactic| first
  | (refine' ps_par (i := 0) (j := 1) rfl (by assumption) rfl rfl (by decide) rfl rfl ?ka (by rfl); (case ka => wtm_at "fo a"))
  | (refine' ps_par (i := 1) (j := 2) rfl (by assumption) rfl rfl (by decide) rfl rfl ?ka (by rfl); (case ka => wtm_at "fo a"))
  | (refine' ps_par (i := 2) (j := 3) rfl (by assumption) rfl rfl (by decide) rfl rfl ?ka (by rfl); (case ka => wtm_at "fo a"))
  | (refine' ps_par (i := 3) (j := 4) rfl (by assumption) rfl rfl (by decide) rfl rfl ?ka (by rfl); (case ka => wtm_at "fo a"))
  | (refine' ps_par (i := 4) (j := 5) rfl (by assumption) rfl rfl (by decide) rfl rfl ?ka (by rfl); (case ka => wtm_at "fo a"))
  | (refine' ps_par (i := 5) (j := 6) rfl (by assumption) rfl rfl (by decide) rfl rfl ?ka (by rfl); (case ka => wtm_at "fo a"))
  | (refine' ps_par (i := 6) (j := 7) rfl (by assumption) rfl rfl (by decide) rfl rfl ?ka (by rfl); (case ka => wtm_at "fo a"))
  | (refine' ps_par (i := 7) (j := 8) rfl (by assumption) rfl rfl (by decide) rfl rfl ?ka (by rfl); (case ka => wtm_at "fo a"))
  | (refine' ps_par (i := 8) (j := 9) rfl (by assumption) rfl rfl (by decide) rfl rfl ?ka (by rfl); (case ka => wtm_at "fo a"))
  | (refine' ps_par (i := 9) (j := 10) rfl (by assumption) rfl rfl (by decide) rfl rfl ?ka (by rfl); (case ka => wtm_at "fo a"))
  | (refine' ps_par (i := 10) (j := 11) rfl (by assumption) rfl rfl (by decide) rfl rfl ?ka (by rfl); (case ka => wtm_at "fo a"))
  | (refine' ps_par (i := 11) (j := 12) rfl (by assumption) rfl rfl (by decide) rfl rfl ?ka (by rfl); (case ka => wtm_at "fo a"))
  | (refine' ps_par (i := 12) (j := 13) rfl (by assumption) rfl rfl (by decide) rfl rfl ?ka (by rfl); (case ka => wtm_at "fo a"))
  | (refine' ps_par (i := 13) (j := 14) rfl (by assumption) rfl rfl (by decide) rfl rfl ?ka (by rfl); (case ka => wtm_at "fo a"))
  | (refine' ps_par (i := 14) (j := 15) rfl (by assumption) rfl rfl (by decide) rfl rfl ?ka (by rfl); (case ka => wtm_at "fo a"))
  | fail "no")
local macro_rules | `(tactic| wtm_at "fo g") => `(tactic| first
  | ((with_reducible show PG _ (.Name _ _) _); wtm_at "fo gn")
  | ((with_reducible show PG _ (.Tuple _ _ _) _); apply PG_or; (· refine' pg_tup2 (by assumption) (by exact rfl) rfl ?kg; (case kg => wtm_at "fo gs")); (· refine' pg_unl2 (by assumption) (by exact rfl) rfl ?kg; (case kg => wtm_at "fo gs")))
  | fail "no")
local macro_rules | `(tactic| wtm_at "fo gs") => `(tactic| first
  | exact pgs_nil
  | (refine' pgs_cons ?k1 ?k2; (case k1 => wtm_at "fo g"); (case k2 => wtm_at "fo gs"))
  | fail "no")
local macro_rules | `(tactic| wtm_at "fo i") => `(tactic| first
  | ((with_reducible show PI _ _ (.Call (.Name (Str.ofString "range") _) [_] _ _) _); refine' pi_range1 (by rfl) (by assumption) ?ka; (case ka => wtm_at "fo a"))
  | ((with_reducible show PI _ _ (.Call (.Name (Str.ofString "range") _) [_, _] _ _) _); refine' pi_range2 (by rfl) (by assumption) ?ka; (case ka => wtm_at "fo a"))
  | ((with_reducible show PI _ _ (.Call (.Name (Str.ofString "enumerate") _) [_] _ _) _); refine' pi_enum (by rfl) (by assumption) ?ka; (case ka => wtm_at "fo a"))
  | (refine' pi_listK (by assumption) (by exact rfl) ?ka; (case ka => wtm_at "fo e"))
  | fail "no")
local macro_rules | `(tactic| wtm_at "fo s") => `(tactic| first
  | ((with_reducible show PS _ (.While _ _ _ _) _); refine' ps_while PassesOwn.never ?kt ?kb; (case kt => wtm_at "fo t"); (case kb => wtm_at "fo ss"))
  | ((with_reducible show PS _ (.For _ _ _ _ _) _); refine' ps_for PassesOwn.never rfl ?ki ?kg ?kb; (case ki => wtm_at "fo i"); (case kg => wtm_at "fo g"); (case kb => wtm_at "fo ss"))
  | ((with_reducible show PS _ (.Assign [.Name _ _] (.ListComp _ [_] _ _) _) _); wtm_at "fo setlc")
  | ((with_reducible show PS _ (.Assign [.Name _ _] _ _) _); wtm_at "fo set")
  | ((with_reducible show PS _ (.Assign [.Tuple [.Name _ _, .Name _ _] _ _] (.Tuple [_, _] _ _) _) _); wtm_at "fo par")
  | ((with_reducible show PS _ (.Assign [.Subscript _ _ _] _ _) _); refine' ps_asg ?ka (pg_sub ?kb ?kc set_list); (case ka => wtm_at "fo e"); (case kb => wtm_at "fo e"); (case kc => wtm_at "fo e"))
  | ((with_reducible show PS _ (.Return (some _) _) _); apply ps_ret; wtm_at "fo e")
  | ((with_reducible show PS _ (.Expr _ _) _); refine' ps_expr ?ka; (case ka => wtm_at "fo e"))
  | ((with_reducible show PS _ (.If _ _ _ _) _); apply ps_if; (· wtm_at "fo t"); (· wtm_at "fo ss"); (· wtm_at "fo ss"))
  | fail "no")
local macro_rules | `(tactic| wtm_at "fo ss") => `(tactic| first
  | with_reducible exact pss_nil
  | ((with_reducible show PSs _ [_] _); apply pss_one; wtm_at "fo s")
  | (apply pss_cons; (· wtm_at "fo s"); (· wtm_at "fo ss"))
  | fail "no")
local macro_rules | `(tactic| wtm_at "fo hp") => `(tactic| first
  | assumption
  | exact upd_same
  | (refine (upd_ne ?ne).trans ?hp; (case ne => wtm_at "fo ne"); (case hp => wtm_at "fo hp"))
  | fail "no")
local macro_rules | `(tactic| wtm_at "fo ne") => `(tactic| first
  | assumption
  | (apply Ne.symm; assumption)
  | exact ne_of_none (by assumption) (by assumption)
  | exact Ne.symm (ne_of_none (by assumption) (by assumption))
  | fail "no")
local macro_rules | `(tactic| wtm_at "fo sz") => `(tactic| first
  | exact (Nat.le_of_ble_eq_true rfl : _ ≤ sizeLine)
  | exact (Nat.le_of_ble_eq_true rfl : _ < sizeLine)
  | exact Nat.lt_of_le_of_lt (m := 100000) (by first | assumption | omega | (simp; omega)) (by decide)
  | exact Nat.le_trans (m := 100000) (by first | assumption | omega | (simp; omega)) (by decide)
  | fail "no")
local macro_rules | `(tactic| wtm_at "fo r1") => `(tactic| first
  | refine ⟨(Nat.le_of_ble_eq_true rfl : _ ≤ sizeLine), fun p np => ?_⟩
  | (refine' ⟨_, _, rfl, Or.inl (SqL.of ?h), ?_⟩; (case h => wtm_at "fo hp"))
  | refine ⟨_, rfl, ?_⟩
  | refine ⟨_, _, rfl, rfl, ?_⟩
  | refine ⟨_, _, rfl, ⟨by omega, by omega, by omega, by omega⟩, ?_⟩
  | refine ⟨_, rfl, by omega, by omega, ?_⟩
  | refine Or.inl ⟨_, rfl, ?_⟩
  | refine Or.inl ⟨rfl, ?_⟩
  | refine Or.inl ⟨_, _, rfl, rfl, ?_⟩
  | (refine' Or.inl ⟨_, _, _, _, rfl, rfl, SqL.of ?h, ?a, ?_⟩; (case h => wtm_at "fo hp"); (case a => rfl))
  | (refine' ⟨_, _, _, _, rfl, rfl, ?h, ?a, ?_⟩; (case h => wtm_at "fo hp"); (case a => rfl))
  | (refine' ⟨.inl ⟨rfl, _, SqL.of ?h⟩, ?_⟩; (case h => wtm_at "fo hp"))
  | (refine' ⟨_, _, _, rfl, rfl, ?h, ?z, ?_⟩; (case h => wtm_at "fo hp"); (case z => wtm_at "fo sz"))
  | (refine' ⟨_, rfl, ⟨_, SqL.of ?h⟩, ?_⟩; (case h => wtm_at "fo hp"))
  | fail "no")
local macro_rules | `(tactic| wtm_at "fo side") => `(tactic| ((try dsimp only [CMul, CDiv]); first
  | assumption
  | decide
  | omega
  | exact ⟨by decide, by decide⟩
  | exact ⟨by omega, by omega⟩
  | decide +kernel
  | fail "no"))
local macro_rules | `(tactic| wtm_at "fo r2") => `(tactic| first
  | wtm_at "fo r1"
  | refine And.intro (by wtm_at "fo side") ?_
  | fail "no")
local macro_rules | `(tactic| wtm_at "fo r") => `(tactic| repeat wtm_at "fo r2")
local macro_rules | `(tactic| wtm_at "fo v") => `(tactic| first
  | ((with_reducible show PE _ (.Name (Str.ofString "int") _) _); exact pe_bltn (v := .ty "int") (by rfl) (by assumption) (by decide +kernel) rfl)
  | ((with_reducible show PE _ (.Name (Str.ofString "list") _) _); exact pe_bltn (v := .ty "list") (by rfl) (by assumption) (by decide +kernel) rfl)
  | ((with_reducible show PE _ (.Name (Str.ofString "MOST_PLACES") _) _); exact pe_glob (v := .int 12) (by rfl) (by assumption) ⟨_, rfl⟩)
  | fail "no")
local macro_rules | `(tactic| wtm_at "fo e") => `(tactic| first
  | ((with_reducible show PE _ (.BoolOp .And [_] _) _); apply pe_one; wtm_at "fo e")
  | ((with_reducible show PE _ (.BoolOp .And _ _) _); apply pe_and; (· wtm_at "fo e"); (· wtm_at "fo e"))
  | ((with_reducible show PE _ (.Compare _ [.IsNot] [.Constant (.bool true) _ _] _) _); refine' pe_cmpR op_notT ?ka ?kb (nomark _); (case ka => wtm_at "fo e"); (case kb => wtm_at "fo e"))
  | ((with_reducible show PE _ (.Compare _ [.LtE, .LtE] _ _) _); refine' pe_chain op_le op_le ?ka ?kb ?kc; (case ka => wtm_at "fo e"); (case kb => wtm_at "fo e"); (case kc => wtm_at "fo e"))
  | ((with_reducible show PE _ (.Call (.Name (Str.ofString "isinstance") _) _ _ _) _); refine' pe_callB (call_isiK' (by assumption) (by exact rfl)) (by rfl) (by assumption) (by decide +kernel) ?ka; (case ka => wtm_at "fo a"))
  | ((with_reducible show PE _ (.Call (.Attribute _ (Str.ofString "bit_length") _) [] [] _) _); refine' pe_bits ?ka; (case ka => wtm_at "fo e"))
  | fail "no")
local macro_rules | `(tactic| wtm_at "fo t") => `(tactic| first
  | ((with_reducible show PT _ (.Compare _ [.IsNot] [.Constant (.bool true) _ _] _) _); refine' pt_cmpR op_notT ?ka ?kb (nomark _); (case ka => wtm_at "fo e"); (case kb => wtm_at "fo e"))
  | ((with_reducible show PT _ (.Compare _ [.Lt, .Lt, .LtE] _ _) _); refine' pt_chain3 op_lt op_lt op_le ?ka ?kb ?kc ?kd; (case ka => wtm_at "fo e"); (case kb => wtm_at "fo e"); (case kc => wtm_at "fo e"); (case kd => wtm_at "fo e"))
  | fail "no")
local macro_rules | `(tactic| wtm_at "fo s") => `(tactic| first
  | ((with_reducible show PS _ (.Raise _ _ _) _); exact ps_never)
  | ((with_reducible show PS _ (.Continue _) _); exact ps_continue)
  | ((with_reducible show PS _ (.AugAssign (.Subscript _ _ _) .BitOr _ _) _); refine' ps_augS ?ka ?kb get_list ?kc ip_or set_list; (case ka => wtm_at "fo e"); (case kb => wtm_at "fo e"); (case kc => wtm_at "fo e"))
  | ((with_reducible show PS _ (.Assign [.Tuple _ _ _] (.Name _ _) _) _); refine' ps_asg ?ka ?kb; (case ka => wtm_at "fo e"); (case kb => wtm_at "fo g"))
  | fail "no")
local macro_rules | `(tactic| wtm_at "fo lc") => `(tactic| (refine' pe_lcN (by assumption) (by exact rfl) (by exact rfl) (by wtm_at "fo own") (by kernel_rfl!) rfl ?ki ?kg ?kt ?ke; (case ki => wtm_at "fo i"); (case kg => (intro _ _ _ _ _; wtm_at "fo g")); (case kt => (intro _ _ _ _ _; wtm_at "fo ts")); (case ke => (intro _ _ _ _ _; wtm_at "fo e"))))
local macro_rules | `(tactic| wtm_at "fo s") => `(tactic| ((with_reducible show PS _ (.Assign [.Tuple _ _ _] (.Call _ _ _ _) _) _); refine' ps_asg ?ka ?kb; (case ka => wtm_at "fo e"); (case kb => wtm_at "fo g")))
local macro_rules | `(tactic| wtm_at "fo cmp") => `(tactic| ((with_reducible show PE _ (.Compare _ [.In] _ _) _); refine' pe_cmpR (op_inK (by assumption) (by exact rfl)) ?ka ?kb rfl; (case ka => wtm_at "fo e"); (case kb => wtm_at "fo e")))
local macro_rules | `(tactic| wtm_at "fo call") => `(tactic| ((with_reducible show PE _ (.Call (.Name (Str.ofString "list") _) [.Call (.Name (Str.ofString "range") _) [_] _ _] _ _) _); refine' pe_listRg rfl (by rfl) (by assumption) (prg_1 (by rfl) (by assumption) ?ka); (case ka => wtm_at "fo e")))
local macro_rules | `(tactic| wtm_at "fo call") => `(tactic| ((with_reducible show PE _ (.Call (.Name (Str.ofString "min") _) [_] _ _) _); refine' pe_callB (call_minK (by assumption) (by exact rfl) rfl) (by rfl) (by assumption) (by decide +kernel) ?ka; (case ka => wtm_at "fo a")))
local macro_rules | `(tactic| wtm_at "fo i") => `(tactic| ((with_reducible show PI _ _ (.Call (.Name (Str.ofString "reversed") _) [_] _ _) _); refine' pi_reversed (by rfl) (by assumption) ?ka; (case ka => wtm_at "fo a")))
local macro_rules | `(tactic| wtm_at "fo s") => `(tactic| ((with_reducible show PS _ (.AugAssign (.Name _ _) .BitXor _ _) _); first | (refine' ps_aug (i := 2) (by assumption) rfl (by first | exact Or.inl rfl | exact Or.inr rfl) ?ka ip_xor; (case ka => wtm_at "fo e")) | fail "no"))
local macro_rules | `(tactic| wtm_at "fo call") => `(tactic| (refine' pe_calG (by assumption) (by assumption) (by decide) (by assumption) (by rfl) ?ka; (case ka => wtm_at "fo a")))
local macro_rules | `(tactic| wtm_at "fo meth") => `(tactic| ((with_reducible show PE _ (.Call (.Attribute _ (Str.ofString "count") _) _ _ _) _); refine' pe_cntK (by assumption) (by exact rfl) ?ka ?kb; (case ka => wtm_at "fo e"); (case kb => wtm_at "fo a")))
local macro_rules | `(tactic| wtm_at "fo call") => `(tactic| ((with_reducible show PE _ (.Call (.Name (Str.ofString "sorted") _) [_] _ _) _); refine' pe_callB (cr_sortedB (by assumption) (by exact rfl) (Room.units (by assumption))) (by rfl) (by assumption) (by decide +kernel) ?ka; (case ka => wtm_at "fo a")))
local macro_rules | `(tactic| wtm_at "fo v") => `(tactic| first
  | exact pv 16
  | exact pv 17
  | exact pv 18
  | exact pv 19
  | fail "no")
local macro_rules | `(tactic| wtm_at "fo own") => `(tactic| first
  | ((show _ = [16]); kernel_rfl!)
  | ((show _ = [17]); kernel_rfl!)
  | ((show _ = [18]); kernel_rfl!)
  | ((show _ = [19]); kernel_rfl!)
  | ((show _ = [15, 16]); kernel_rfl!)
  | ((show _ = [16, 17]); kernel_rfl!)
  | ((show _ = [17, 18]); kernel_rfl!)
  | ((show _ = [18, 19]); kernel_rfl!)
  | fail "no")
local macro_rules | `(tactic| wtm_at "fo set") => `(tactic| first
  | (refine' ps_set (i := 14) (by assumption) rfl (by first | exact Or.inl rfl | exact Or.inr rfl) ?ka; (case ka => wtm_at "fo e"))
  | (refine' ps_set (i := 15) (by assumption) rfl (by first | exact Or.inl rfl | exact Or.inr rfl) ?ka; (case ka => wtm_at "fo e"))
  | (refine' ps_set (i := 16) (by assumption) rfl (by first | exact Or.inl rfl | exact Or.inr rfl) ?ka; (case ka => wtm_at "fo e"))
  | (refine' ps_set (i := 17) (by assumption) rfl (by first | exact Or.inl rfl | exact Or.inr rfl) ?ka; (case ka => wtm_at "fo e"))
  | (refine' ps_set (i := 18) (by assumption) rfl (by first | exact Or.inl rfl | exact Or.inr rfl) ?ka; (case ka => wtm_at "fo e"))
  | (refine' ps_set (i := 19) (by assumption) rfl (by first | exact Or.inl rfl | exact Or.inr rfl) ?ka; (case ka => wtm_at "fo e"))
  | fail "no")
local macro_rules | `(tactic| wtm_at "fo setlc") => `(tactic| first
  | (refine' ps_setLcO (i := 16) (by assumption) (by exact rfl) (by exact rfl) (by wtm_at "fo own") (by decide +kernel) rfl rfl rfl (sw_true rfl rfl rfl (by decide +kernel)) ?ki ?kg ?kt ?ke; (case ki => wtm_at "fo i"); (case kg => (intro _ _ _ _ _; wtm_at "fo g")); (case kt => (intro _ _ _ _ _; wtm_at "fo ts")); (case ke => (intro _ _ _ _ _; wtm_at "fo e")))
  | (refine' ps_setLcO (i := 17) (by assumption) (by exact rfl) (by exact rfl) (by wtm_at "fo own") (by decide +kernel) rfl rfl rfl (sw_true rfl rfl rfl (by decide +kernel)) ?ki ?kg ?kt ?ke; (case ki => wtm_at "fo i"); (case kg => (intro _ _ _ _ _; wtm_at "fo g")); (case kt => (intro _ _ _ _ _; wtm_at "fo ts")); (case ke => (intro _ _ _ _ _; wtm_at "fo e")))
  | (refine' ps_setLcO (i := 18) (by assumption) (by exact rfl) (by exact rfl) (by wtm_at "fo own") (by decide +kernel) rfl rfl rfl (sw_true rfl rfl rfl (by decide +kernel)) ?ki ?kg ?kt ?ke; (case ki => wtm_at "fo i"); (case kg => (intro _ _ _ _ _; wtm_at "fo g")); (case kt => (intro _ _ _ _ _; wtm_at "fo ts")); (case ke => (intro _ _ _ _ _; wtm_at "fo e")))
  | (refine' ps_setLcO (i := 19) (by assumption) (by exact rfl) (by exact rfl) (by wtm_at "fo own") (by decide +kernel) rfl rfl rfl (sw_true rfl rfl rfl (by decide +kernel)) ?ki ?kg ?kt ?ke; (case ki => wtm_at "fo i"); (case kg => (intro _ _ _ _ _; wtm_at "fo g")); (case kt => (intro _ _ _ _ _; wtm_at "fo ts")); (case ke => (intro _ _ _ _ _; wtm_at "fo e")))
  | fail "no")
local macro_rules | `(tactic| wtm_at "fo gn") => `(tactic| first
  | exact pg_name (i := 16) (by assumption) rfl (by first | exact Or.inl rfl | exact Or.inr rfl)
  | exact pg_name (i := 17) (by assumption) rfl (by first | exact Or.inl rfl | exact Or.inr rfl)
  | exact pg_name (i := 18) (by assumption) rfl (by first | exact Or.inl rfl | exact Or.inr rfl)
  | exact pg_name (i := 19) (by assumption) rfl (by first | exact Or.inl rfl | exact Or.inr rfl)
  | fail "no")
local macro_rules | `(tactic| wtm_at "fo s") => `(tactic| ((with_reducible show PS _ (.Assign [.Tuple _ _ _] (.Tuple _ _ _) _) _); refine' ps_asg ?ka ?kb; (case ka => wtm_at "fo e"); (case kb => wtm_at "fo g")))
local macro_rules | `(tactic| wtm_at "fo e") => `(tactic| first
  | ((with_reducible show PE _ (.UnaryOp .Invert _ _) _); apply pe_un un_inv; wtm_at "fo e")
  | ((with_reducible show PE _ (.BoolOp .Or [_] _) _); apply pe_one; wtm_at "fo e")
  | ((with_reducible show PE _ (.BoolOp .Or _ _) _); apply pe_or; (· wtm_at "fo e"); (· wtm_at "fo e"))
  | ((with_reducible show PE _ (.BinOp _ .Mult _ _) _); apply pe_op opMulB <;> wtm_at "fo e")
  | ((with_reducible show PE _ (.BinOp _ .BitOr _ _) _); apply pe_op op_or <;> wtm_at "fo e")
  | ((with_reducible show PE _ (.Compare _ [.Is] [.Constant .none _ _] _) _); refine' pe_cmpR op_isN ?ka ?kb (nomark _); (case ka => wtm_at "fo e"); (case kb => wtm_at "fo e"))
  | fail "no")
local macro_rules | `(tactic| wtm_at "fo t") => `(tactic| first
  | ((with_reducible show PT _ (.Compare _ [.Is] [.Constant .none _ _] _) _); refine' pt_cmpR op_isN ?ka ?kb (nomark _); (case ka => wtm_at "fo e"); (case kb => wtm_at "fo e"))
  | ((with_reducible show PT _ (.Compare _ [.IsNot] [.Constant .none _ _] _) _); refine' pt_cmpR op_notN ?ka ?kb (nomark _); (case ka => wtm_at "fo e"); (case kb => wtm_at "fo e"))
  | fail "no")
local macro_rules | `(tactic| wtm_at "fo i") => `(tactic| first
  | ((with_reducible show PI _ _ (.Call (.Name (Str.ofString "enumerate") _) [_, _] [] _) _); refine' pi_enumC (by assumption) (by exact rfl) (by rfl) (by assumption) ?ka; (case ka => wtm_at "fo a"))
  | ((with_reducible show PI _ _ (.Call (.Name (Str.ofString "enumerate") _) [_] [_] _) _); refine' pi_enumS (by assumption) (by exact rfl) (by rfl) (by assumption) ?ka ?kb; (case ka => wtm_at "fo a"); (case kb => wtm_at "fo k"))
  | fail "no")
local macro_rules | `(tactic| wtm_at "fo own") => `(tactic| first
  | ((show _ = [2, 4]); kernel_rfl!)
  | ((show _ = [4, 2]); kernel_rfl!)
  | fail "no")
local macro_rules | `(tactic| wtm_at "fo v") => `(tactic| ((with_reducible show PE _ (.Name (Str.ofString "tuple") _) _); exact pe_bltn (v := .ty "tuple") (by rfl) (by assumption) (by decide +kernel) rfl))
local macro_rules | `(tactic| wtm_at "fo slice") => `(tactic| ((with_reducible show PE _ (.Subscript _ (.Slice none none (some _) _) _) _); refine' pe_stepK2 (by assumption) (by exact rfl) ?ka ?kb; (case ka => wtm_at "fo e"); (case kb => wtm_at "fo e")))
local macro_rules | `(tactic| wtm_at "fo e") => `(tactic| ((with_reducible show PE _ (.BinOp (.Name (Str.ofString "_law_script") _) .Add _ _) _); apply pe_op (op_addK (by assumption) (by exact rfl)) <;> wtm_at "fo e"))
variable {P : Program} {w : World} {K : PySem.W.Frag} {mg : Str → Option Value} {base : Heap}
set_option maxHeartbeats 32000000 in
noncomputable def derLaw (f : Addr) (cdv : Value) (A : Around) (outer : List Env) (s0 : Shared) (H : Hp) (E : XK) (hr : Room 8 (A.deeper (envOfC "law" (defScope s_law) s0.heap.objs.size f cdv))) (hgd : A.guards = some []) (mr : mg "range" = none)
    (C0 : Cal P w K mg base "_law_draws" 1 ["_law_cell"] spDraws) (C1 : Cal P w K mg base "_law_net" 3 ["_law_draws_here", "_law_most"] spNet)
    (C2 : Cal P w K mg base "_law_near" 1 ["_law_size", "_law_sides"] spNear) (C3 : Cal P w K mg base "_law_table" 2 ["_law_near_here", "_law_size"] spTable)
    (C5 : CalG P w K mg base "_law_right" 8 ["_law_draws_here", "_law_size", "_law_sides"] spRiR)
    (C6 : CalG P w K mg base "_law_starts_right" 7 ["_law_draws_here", "_law_size", "_law_sides", "_law_table_here"] spStR)
    (C8 : Cal P w K mg base "turns_to_catch" 4 ["places", "lines", "seeker", "fleer"] spTurns) (C9 : Cal P w K mg base "seeker_goes" 4 ["places", "lines", "seeker", "fleer"] spGoes)
    (C10 : Cal P w K mg base "best_starts" 3 ["places", "lines"] spStarts) :
    PSigma fun t => PSs (cxOf CX0 P w K mg base ["_law_script", "_law_draws_here", "_law_cell", "_law_most", "_law_size", "_law_sides", "_law_line", "_law_spot", "_law_row", "_law_told", "_law_seven"] "law" (defScope s_law) f cdv A outer s0 H E).nox (defBody s_law) t := by
  have nd := sc_law.nd
  have hS := sc_law
  have hKM : KMark K := ⟨⟩
  refine' mkSig ?h
  case h =>
    show PSs _ [_, _, _, _, _, _, _, _, _, _, _, _, _, _, _, _] _
    wtm_at "fo ss"
end
/-! piece TVl -/
section
@[irreducible] def spLawW (K : PySem.W.Frag) : Sp := fun vs H Q _ => ∃ (a : Addr) (ns : List Int), vs = [.ref a] ∧ SqLw K H a (ns.map V.int) ∧ ns.length ≤ 1000 ∧ ∀ H', Q (.bl true) H'
variable {P : Program} {w : World} {K : PySem.W.Frag} {mg : Str → Option Value} {base : Heap}
set_option maxHeartbeats 16000000 in
theorem ok_law {f : Addr} {fd : FuncData} (F : Fun K "law" "law" s_law f fd) (mr : mg "range" = none)
    (C0 : Cal P w K mg base "_law_draws" 1 ["_law_cell"] spDraws) (C1 : Cal P w K mg base "_law_net" 3 ["_law_draws_here", "_law_most"] spNet)
    (C2 : Cal P w K mg base "_law_near" 1 ["_law_size", "_law_sides"] spNear) (C3 : Cal P w K mg base "_law_table" 2 ["_law_near_here", "_law_size"] spTable)
    (C5 : CalG P w K mg base "_law_right" 8 ["_law_draws_here", "_law_size", "_law_sides"] spRiR)
    (C6 : CalG P w K mg base "_law_starts_right" 7 ["_law_draws_here", "_law_size", "_law_sides", "_law_table_here"] spStR)
    (C8 : Cal P w K mg base "turns_to_catch" 4 ["places", "lines", "seeker", "fleer"] spTurns) (C9 : Cal P w K mg base "seeker_goes" 4 ["places", "lines", "seeker", "fleer"] spGoes)
    (C10 : Cal P w K mg base "best_starts" 3 ["places", "lines"] spStarts) :
    FnG P w K mg base CX0 9 f fd ["_law_script"] (spLawW K) := by
  refine okG F sc_law (fun vs H Q E h => ?_) (fun cdv A outer s0 H vs Q E hr hgd h => ?_)
  · unfold spLawW at h
    obtain ⟨a, ns, rfl, _⟩ := h
    rfl
  · have nd := sc_law.nd
    have hS := sc_law
    have hKM : KMark K := ⟨⟩
    refine ⟨_, (derLaw (P := P) (w := w) (K := K) (mg := mg) (base := base) f cdv A outer s0 H E hr hgd mr C0 C1 C2 C3 C5 C6 C8 C9 C10).2, ?_⟩
    unfold derLaw mkSig
    dsimp only
    next =>
     unfold spLawW at h
     obtain ⟨a, ns, rfl, hq, hl, fin⟩ := h
     wtm_at "fo r"
     refine ⟨a, _, rfl, hq.seq, fun p1 np1 => ?_⟩
     have hc1 := cut5 ns
     have hc2 : ∀ x ∈ cutV (ns.map V.int) none (some 5), ∃ i, x = V.int i := fun x hx => cutInt hx
     generalize cutV (ns.map V.int) none (some 5) = xs at *
     wtm_at "fo r"
     rename_i p2 np2
     have h12 : p1 ≠ p2 := ne_of_none upd_same np2
     refine Or.inr ⟨p1, p2, xs, [.int 0], rfl, rfl, by rw [upd_ne h12]; exact upd_same, upd_same, ?_, fun c nc => ?_⟩
     · exact Nat.le_trans (m := 100) (by simp; omega) (by decide)
     have hxs : ∀ x ∈ xs ++ [V.int 0], ∃ i, x = V.int i := by
       intro x hx
       rcases List.mem_append.mp hx with hx | hx
       · exact hc2 x hx
       · exact ⟨0, by simpa using hx⟩
     have hlx : (xs ++ [V.int 0]).length ≤ 7 := by simp; omega
     generalize xs ++ [V.int 0] = zs at *
     have sH0 : Same H (upd (upd H p1 (.lst xs)) p2 (.lst [.int 0])) := (same_upd (Same.refl _) np1).trans (same_upd (Same.refl _) np2)
     generalize (upd (upd H p1 (.lst xs)) p2 (.lst [.int 0])) = H0 at *
     refine ⟨c, rfl, ⟨_, SqL.of upd_same⟩, fun D nD => ?_⟩
     have sHc : Same H (upd H0 c (.lst zs)) := sH0.trans (same_upd (Same.refl _) nc)
     have nDH : H D = none := sHc.free nD
     have hcD : c ≠ D := ne_of_none upd_same nD
     refine lc_list (K := K) (xs := zs) (fun i H1 => H1 c = some (.lst zs) ∧ Same H H1 ∧ ∃ rs : List Addr, H1 D = some (.lst (rs.map V.ref)) ∧ rs.length = i ∧ rs.Nodup ∧ (∀ r ∈ rs, Dr H1 r 0) ∧ ∀ r ∈ rs, H r = none) ?_ ?_ ?_ ?_
     · exact ⟨by rw [upd_ne hcD]; exact upd_same, sHc.trans (same_upd (Same.refl _) nD), [], upd_same, rfl, List.nodup_nil, by simp, by simp⟩
     · rintro i H1 _ ⟨hc, _⟩
       exact SqL.of hc
     · rintro i x H1 hx ⟨hc, sH1, rs, hD, hln, hnd, hdr, hfr⟩
       obtain ⟨z, rfl⟩ := hxs x (List.mem_of_getElem? hx)
       have hi : i < zs.length := (List.getElem?_eq_some_iff.mp hx).1
       refine ⟨rfl, ?_⟩
       wtm_at "fo r"
       refine call_draws (fun p ca cb np => ?_)
       have hDp : D ≠ p := ne_of_none hD np
       have hcp : c ≠ p := ne_of_none hc np
       refine ⟨rs.map V.ref, ?_, ?_, ?_, same_upd (sH1.trans (same_upd (Same.refl _) np)) nDH, rs ++ [p], ?_, ?_, ?_, ?_, ?_⟩
       · rw [upd_ne hDp]
         exact hD
       · rw [List.length_map, hln]
         exact Nat.lt_of_lt_of_le (m := 7) (by omega) (by decide)
       · rw [upd_ne hcD, upd_ne hcp]
         exact hc
       · rw [upd_same, List.map_append]
         rfl
       · rw [List.length_append, hln]
         rfl
       · refine List.nodup_append.mpr ⟨hnd, by simp, ?_⟩
         intro x hx y hy e
         rw [List.mem_singleton.mp hy] at e
         obtain ⟨_, _, h2, _⟩ := hdr x hx
         rw [e, np] at h2
         cases h2
       · intro r hr
         rcases List.mem_append.mp hr with hr | hr
         · obtain ⟨x1, x2, h2, h3⟩ := hdr r hr
           refine ⟨x1, x2, ?_, h3⟩
           have e1 : r ≠ p := ne_of_none h2 np
           have e2 : r ≠ D := ((hdr r hr).ne_refs hD).symm
           rw [upd_ne e2, upd_ne e1]
           exact h2
         · rw [List.mem_singleton.mp hr]
           refine ⟨ca, cb, ?_, by omega⟩
           rw [upd_ne hDp.symm]
           exact upd_same
       · intro r hr
         rcases List.mem_append.mp hr with hr | hr
         · exact hfr r hr
         · rw [List.mem_singleton.mp hr]
           exact sH1.free np
     · rintro H1 ⟨hc, sH1, rs, hD, hln, hnd, hdr, hfr⟩
       wtm_at "fo r"
       refine ⟨⟨_, SqL.of hD⟩, ?_⟩
       refine for_list (K := K) (xs := rs.map V.ref) (fun i σ H2 => ∃ y1 y3 y4 y5, σ = [some (.ref a), y1, none, y3, y4, y5, none, none, none, none, none] ∧ Same H H2 ∧ H2 D = some (.lst (rs.map V.ref)) ∧ ∀ j r, i ≤ j → rs[j]? = some r → Dr H2 r 0) ?_ ?_ ?_ ?_
       · exact ⟨none, none, none, none, rfl, sH1, hD, fun j r _ hr => hdr r (List.mem_of_getElem? hr)⟩
       · rintro i σ H2 _ ⟨y1, y3, y4, y5, rfl, sH2, hD2, hdr2⟩
         exact SqL.of hD2
       · rintro i x σ H2 hx ⟨y1, y3, y4, y5, rfl, sH2, hD2, hdr2⟩
         obtain ⟨d, hr, rfl⟩ := ref_at hx
         have hd2 := hdr2 i d (Nat.le_refl i) hr
         have hDd : D ≠ d := hd2.ne_refs hD2
         have ndH := hfr d (List.mem_of_getElem? hr)
         refine ⟨(Nat.le_of_ble_eq_true rfl : _ ≤ sizeLine), fun lk nlk => ?_⟩
         have smk : Same H2 (upd H2 lk (.lst ([8, 5, 3].map V.int))) := same_upd (Same.refl _) nlk
         have hlk : (upd H2 lk (.lst ([8, 5, 3].map V.int))) lk = some (.lst ([8, 5, 3].map V.int)) := upd_same
         have hd2b := hd2.same smk
         have hlkd := hd2b.ne_ints hlk
         refine ⟨lk, rfl, ⟨_, SqL.of upd_same⟩, ?_⟩
         refine for_list (K := K) (xs := [8, 5, 3].map V.int) (fun i4 σ H3 => ∃ y3 y4 y5 k3, σ = [some (.ref a), some (.ref d), none, y3, y4, y5, none, none, none, none, none] ∧ SameBut d (upd H2 lk (.lst ([8, 5, 3].map V.int))) H3 ∧ Dr H3 d k3 ∧ k3 ≤ 10000 * (i4 : Int) ∧ 0 ≤ k3) ?_ ?_ ?_ ?_
         · exact ⟨y3, y4, y5, 0, rfl, SameBut.refl d _, hd2b, by omega, by omega⟩
         · rintro i4 σ H3 _ ⟨y3, y4, y5, k3, rfl, sb3, hd3, hk3, hk03⟩
           exact SqL.of (sb3 _ _ hlkd hlk)
         · rintro i4 x σ H3 hx4 ⟨y3, y4, y5, k3, rfl, sb3, hd3, hk3, hk03⟩
           have hi4' : i4 < 3 := (List.getElem?_eq_some_iff.mp hx4).1
           obtain ⟨kd, hkd, rfl⟩ := List.mem_map.mp (List.mem_of_getElem? hx4)
           obtain ⟨most, rfl, hm1, hm2⟩ : ∃ most : Nat, kd = (most : Int) ∧ 1 ≤ most ∧ most ≤ 12 := by
             simp only [List.mem_cons, List.not_mem_nil, or_false] at hkd
             rcases hkd with rfl | rfl | rfl
             · exact ⟨8, rfl, by decide, by decide⟩
             · exact ⟨5, rfl, by decide, by decide⟩
             · exact ⟨3, rfl, by decide, by decide⟩
           wtm_at "fo r"
           refine call_net hd3 (by omega) hm1 hm2 (fun p q2 n es H4 k4 sb4 np nq hp h1 hn hq2 hSe hle hd4 hk4 => ?_)
           refine Or.inl ⟨p, [.int (n : Nat), .ref q2], rfl, SqT.of hp, rfl, .int (n : Nat), [.ref q2], rfl, .ref q2, [], rfl, rfl, ?_⟩
           wtm_at "fo r"
           refine call_rir hd4 (by omega) h1 (by omega) hq2 hSe hle (fun H5 k5 sb5 hd5 hk5 => ?_)
           refine ⟨true, rfl, ifF rfl ?_⟩
           have hk05 : 0 ≤ k5 := by obtain ⟨_, _, _, h⟩ := hd5; exact h
           exact ⟨_, _, _, k5, rfl, (sb3.trans sb4).trans sb5, hd5, by omega, hk05⟩
         · rintro σ H3 ⟨y3, y4, y5, k3, rfl, sb3, hd3, hk3, hk03⟩
           have sH3 : Same H H3 := fun b o e => sb3 b o (fun z => by rw [z, ndH] at e; cases e) (smk _ _ (sH2 _ _ e))
           refine ⟨_, _, _, _, rfl, sH3, sb3 D _ hDd (smk _ _ hD2), fun j r hj hr2 => ?_⟩
           have hne : r ≠ d := fun e => by
             rw [e] at hr2
             have := nd_ix hnd hr2 hr
             omega
           obtain ⟨x1, x2, h2, h3⟩ := hdr2 j r (by omega) hr2
           exact ⟨x1, x2, sb3 r _ hne (smk _ _ h2), h3⟩
       · rintro σ H2 ⟨y1, y3, y4, y5, rfl, sH2, hD2, hdr2⟩
         clear hdr2 hD2 hfr hdr hnd hln hD hc sH1 sHc sH0
         have hq2 := hq.same sH2
         refine ⟨_, rfl, (Nat.le_of_ble_eq_true rfl : _ ≤ sizeLine), fun z1 nz1 => ?_⟩
         obtain ⟨v, hv⟩ : ∃ v, ((ns.map V.int) ++ [V.int 0])[0]? = some (.int v) := by
           cases ns with
           | nil => exact ⟨0, rfl⟩
           | cons x y => exact ⟨x, rfl⟩
         refine Or.inr ⟨a, z1, _, _, rfl, rfl, hq2.same (same_upd (Same.refl _) nz1), upd_same, Nat.le_trans (m := 2000) (by rw [List.length_map]; show ns.length + 1 ≤ 2000; omega) (by decide), fun z2 nz2 => ?_⟩
         refine Or.inl ⟨z2, _, 0, .int v, rfl, rfl, SqL.of upd_same, at_of (j := 0) rfl hv, ?_⟩
         generalize upd (upd H2 z1 (.lst [.int 0])) z2 _ = G0 at *
         refine call_draws (fun d1 ca cb nd1 => ?_)
         have hd1 : Dr (upd G0 d1 (.lst [.int ca, .int 0, .bl cb])) d1 0 := ⟨ca, cb, upd_same, Int.le_refl _⟩
         generalize upd G0 d1 (.lst [.int ca, .int 0, .bl cb]) = G1 at *
         wtm_at "fo r"
         refine call_net (most := 12) hd1 (by omega) (by decide) (by decide) (fun p q2 n es G2 k2 sb2 np nq hp h1 hn hqn hSe hle hd2 hk2 => ?_)
         refine Or.inl ⟨p, [.int (n : Nat), .ref q2], rfl, SqT.of hp, rfl, .int (n : Nat), [.ref q2], rfl, .ref q2, [], rfl, rfl, ?_⟩
         refine ⟨_, rfl, _, rfl, _, rfl, _, rfl, _, rfl, ?_⟩
         refine call_near hn hqn hle (fun e he => by have := hSe.rng e he; omega) (fun qn G3 sm3 nqn hqn3 => ?_)
         refine ⟨_, rfl, ?_⟩
         refine call_table h1 hn hSe hqn3 (fun ta G4 sm4 nta hta => ?_)
         have s24 := sm3.trans sm4
         refine call_str (hd2.same s24) (by omega) h1 hn (hqn.same s24) hSe hle hta (fun G5 k5 sb5 hd5 hk5 => ?_)
         refine ⟨true, rfl, ifF rfl ?_⟩
         refine ⟨_, _, rfl, ⟨by decide, by decide, by decide, by decide⟩, fun D2 nD2 => ?_⟩
         refine lc_range (lo := 1) (n := ((12 : Int) - 1).toNat) (fun i X => ∃ rs, PsAt X D2 rs (path i)) ?_ ?_ ?_
         · exact ⟨[], PsAt.nil upd_same⟩
         · rintro i X hi ⟨rs, hX⟩
           have hi : i < 11 := hi
           refine ⟨rfl, _, rfl, _, rfl, Or.inl ⟨_, _, rfl, rfl, (Nat.le_of_ble_eq_true rfl : _ ≤ sizeLine), fun c7 nc7 => ?_⟩⟩
           have hDc : D2 ≠ c7 := ne_of_none hX.hD nc7
           refine ⟨rs.map V.ref, by rw [upd_ne hDc]; exact hX.hD, ?_, rs ++ [c7], ?_⟩
           · rw [List.length_map, hX.len]
             unfold path
             rw [List.length_map, List.length_range]
             exact Nat.lt_of_le_of_lt (m := 100) (by omega) (by decide)
           · have hp := hX.push nc7 ((1 : Int) + (i : Int), (1 : Int) + (i : Int) + 1)
             have e : path (i + 1) = path i ++ [((1 : Int) + (i : Int), (1 : Int) + (i : Int) + 1)] := by
               unfold path
               rw [List.range_succ, List.map_append]
               show _ ++ [((i : Int) + 1, (i : Int) + 2)] = _
               rw [show (i : Int) + 1 = 1 + (i : Int) by omega, show (i : Int) + 2 = 1 + (i : Int) + 1 by omega]
             rw [e]
             exact hp
         · rintro X ⟨rsL, hL⟩
           have hL : PsAt X D2 rsL (path 11) := hL
           refine ⟨_, rfl, ?_⟩
           refine call_turns (n := 12) (es := path 11) (h := 1) (t := 12) (by decide) (by decide) hL.pairs simp_path (by decide) (by decide) (by decide) (fun X1 sx1 => ?_)
           refine ⟨_, rfl, ?_⟩
           refine call_starts (n := 12) (es := path 11) (by decide) (by decide) (hL.same sx1).pairs simp_path (by decide) (fun pa ca X2 sx2 npa nca hpa hca => ?_)
           rw [rkV_oN, rk_path]
           wtm_at "fo r"
           rename_i l1 nl1 c1 nc1 c2 nc2 c3 nc3
           have u1 := same_upd (o := .lst [oN (some 11), .ref pa]) (Same.refl _) nl1
           have u2 := same_upd (o := .lst [.int 6, .int 7]) (Same.refl _) nc1
           have u3 := same_upd (o := .tup [.ref c1, .int 6]) (Same.refl _) nc2
           have u4 := same_upd (o := .lst [.int 11, .ref c2]) (Same.refl _) nc3
           have s4 := u1.trans (u2.trans (u3.trans u4))
           refine Or.inr ⟨.list [.int 11, .tuple [dI [6, 7], .int 6]], .list [.int 11, .tuple [dI [6, 7], .int 6]], .lst (SqL.of ((u2.trans (u3.trans u4)) _ _ upd_same)) (.cons (.int 11) (.cons (dp_BTs be_path (s4 _ _ hpa) (s4 _ _ hca)) .nil)), .lst (SqL.of upd_same) (.cons (.int 11) (.cons (.tup (SqT.of (u4 _ _ upd_same)) (.cons (dp_dI (SqL.of ((u3.trans u4) _ _ upd_same))) (.cons (.int 6) .nil))) .nil)), rfl, rfl, _, rfl, ?_⟩
           refine ifF (by rw [SeqAt.eqv_refl _ rfl]; rfl) ?_
           have hL3 := hL.same (sx1.trans (sx2.trans s4))
           clear u1 u2 u3 s4 hL hpa hca npa nca sx1 sx2
           generalize upd _ c3 (.lst [.int 11, .ref c2]) = G3 at *
           clear u4 nl1 nc1 nc2 nc3
           wtm_at "fo r"
           rename_i w1 nw1 w2 nw2
           have hW : PsAt (upd _ w2 (.lst [.ref w1])) w2 [w1] [(12, 1)] := ((RowAt.nil G3).snoc (a := 12) (b := 1) nw1).net nw2
           have s56 := (same_upd (o := .lst [.int 12, .int 1]) (Same.refl _) nw1).trans (same_upd (o := .lst [.ref w1]) (Same.refl _) nw2)
           have hL6 := hL3.same s56
           refine Or.inr ⟨D2, w2, _, _, rfl, rfl, hL6.hD, hW.hD, Nat.le_trans (m := 100) (by rw [List.length_map, hL6.len]; exact (by decide : (path 11).length + 1 ≤ 100)) (by decide), fun z1 nz1 => ?_⟩
           have hcat := hL6.cat hW nz1
           have hL7 := hL6.same (same_upd (o := .lst (rsL.map V.ref ++ [w1].map V.ref)) (Same.refl _) nz1)
           refine call_starts (n := 12) (es := path 11 ++ [(12, 1)]) (by decide) (by decide) hcat.pairs simp_ring (by decide) (fun pa ca X2 sx2 npa nca hpa hca => ?_)
           have hL8 := hL7.same sx2
           clear hL7 hcat hL6 s56 hW sx2 nz1 nw1 nw2 npa nca hL3
           wtm_at "fo r"
           rename_i c1 nc1 c2 nc2
           have u1 := same_upd (o := .lst []) (Same.refl _) nc1
           have u2 := same_upd (o := .tup [.ref c1, .non]) (Same.refl _) nc2
           refine Or.inr ⟨.tuple [dI [], .none], .tuple [dI [], .none], dp_BTn be_ring ((u1.trans u2) _ _ hpa) ((u1.trans u2) _ _ hca), .tup (SqT.of upd_same) (.cons (dp_dI (xs := []) (SqL.of (u2 _ _ upd_same))) (.cons .non .nil)), rfl, rfl, _, rfl, ?_⟩
           refine ifF (by rw [SeqAt.eqv_refl _ rfl]; rfl) ?_
           have hL9 := hL8.same (u1.trans u2)
           clear u1 hL8 hpa hca
           generalize upd _ c2 (.tup [.ref c1, .non]) = G4 at *
           clear u2 nc1 nc2
           wtm_at "fo r"
           rename_i w1 nw1 w2 nw2
           have hW : PsAt (upd _ w2 (.lst [.ref w1])) w2 [w1] [(1, 12)] := ((RowAt.nil G4).snoc (a := 1) (b := 12) nw1).net nw2
           have s56 := (same_upd (o := .lst [.int 1, .int 12]) (Same.refl _) nw1).trans (same_upd (o := .lst [.ref w1]) (Same.refl _) nw2)
           have hL6 := hL9.same s56
           refine Or.inr ⟨D2, w2, _, _, rfl, rfl, hL6.hD, hW.hD, Nat.le_trans (m := 100) (by rw [List.length_map, hL6.len]; exact (by decide : (path 11).length + 1 ≤ 100)) (by decide), fun z1 nz1 => ?_⟩
           have hcat := hL6.cat hW nz1
           have hL7 := hL6.same (same_upd (o := .lst (rsL.map V.ref ++ [w1].map V.ref)) (Same.refl _) nz1)
           refine call_turns (n := 12) (es := path 11 ++ [(1, 12)]) (h := 1) (t := 2) (by decide) (by decide) hcat.pairs simp_ring2 (by decide) (by decide) (by decide) (fun G5 sx1 => ?_)
           rw [rkV_oN, rk_ring2]
           clear hL7 hcat hL6 s56 hW sx1 nz1 nw1 nw2 hL9
           refine Or.inl ⟨rfl, _, rfl, ?_⟩
           refine ifF (by rw [show oN (some 1) = V.int 1 from rfl]; exact neFT _) ?_
           wtm_at "fo r"
           rename_i r1 n1 r2 n2 r3 n3 qr nqr
           have hRow : PsAt (upd _ qr (.lst [.ref r1, .ref r2, .ref r3])) qr [r1, r2, r3] row4 := ((((RowAt.nil G5).snoc (a := 1) (b := 2) n1).snoc (a := 2) (b := 3) n2).snoc (a := 3) (b := 4) n3).net nqr
           generalize upd _ qr (.lst [.ref r1, .ref r2, .ref r3]) = G6 at *
           clear n1 n2 n3 nqr
           wtm_at "fo r"
           refine call_turns (n := 4) (es := row4) (h := 1) (t := 4) (by decide) (by decide) hRow.pairs simp_row4 (by decide) (by decide) (by decide) (fun X1 sx1 => ?_)
           wtm_at "fo r"
           refine call_turns (n := 4) (es := row4) (h := 2) (t := 2) (by decide) (by decide) (hRow.same sx1).pairs simp_row4 (by decide) (by decide) (by decide) (fun X2 sx2 => ?_)
           wtm_at "fo r"
           refine call_starts (n := 4) (es := row4) (by decide) (by decide) ((hRow.same sx1).same sx2).pairs simp_row4 (by decide) (fun pa ca X3 sx3 npa nca hpa hca => ?_)
           wtm_at "fo r"
           refine call_goes (n := 4) (es := row4) (h := 1) (t := 3) (by decide) (by decide) (((hRow.same sx1).same sx2).same sx3).pairs simp_row4 (by decide) (by decide) (by decide) (fun X4 sx4 => ?_)
           rw [rkV_oN, rk_row4, rkV_oN, rk_zero, show goV 4 row4 1 3 = .int 2 by unfold goV; rw [go_row13]; rfl]
           wtm_at "fo r"
           rename_i lt nlt c1 nc1 c2 nc2 c3 nc3
           have u1 := same_upd (o := .lst [oN (some 3), oN (some 0), .ref pa, .int 2]) (Same.refl _) nlt
           have u2 := same_upd (o := .lst [.int 2, .int 3]) (Same.refl _) nc1
           have u3 := same_upd (o := .tup [.ref c1, .int 2]) (Same.refl _) nc2
           have u4 := same_upd (o := .lst [.int 3, .int 0, .ref c2, .int 2]) (Same.refl _) nc3
           have s4 := sx4.trans (u1.trans (u2.trans (u3.trans u4)))
           refine Or.inr ⟨.list [.int 3, .int 0, .tuple [dI [2, 3], .int 2], .int 2], .list [.int 3, .int 0, .tuple [dI [2, 3], .int 2], .int 2], .lst (SqL.of ((u2.trans (u3.trans u4)) _ _ upd_same)) (.cons (.int 3) (.cons (.int 0) (.cons (dp_BTs be_row4 (s4 _ _ hpa) (s4 _ _ hca)) (.cons (.int 2) .nil)))), .lst (SqL.of upd_same) (.cons (.int 3) (.cons (.int 0) (.cons (.tup (SqT.of (u4 _ _ upd_same)) (.cons (dp_dI (SqL.of ((u3.trans u4) _ _ upd_same))) (.cons (.int 2) .nil))) (.cons (.int 2) .nil)))), rfl, rfl, _, rfl, ?_⟩
           refine ifF (by rw [SeqAt.eqv_refl _ rfl]; rfl) ?_
           have hR2 := hRow.same (sx1.trans (sx2.trans (sx3.trans s4)))
           clear u1 u2 u3 s4 hpa hca npa nca sx1 sx2 sx3 sx4 hRow
           generalize upd _ c3 (.lst [.int 3, .int 0, .ref c2, .int 2]) = G7 at *
           clear u4 nlt nc1 nc2 nc3
           wtm_at "fo r"
           rename_i w1 nw1 w2 nw2
           have hW : PsAt (upd _ w2 (.lst [.ref w1])) w2 [w1] [(4, 1)] := ((RowAt.nil G7).snoc (a := 4) (b := 1) nw1).net nw2
           have s56 := (same_upd (o := .lst [.int 4, .int 1]) (Same.refl _) nw1).trans (same_upd (o := .lst [.ref w1]) (Same.refl _) nw2)
           have hL6 := hR2.same s56
           refine Or.inr ⟨qr, w2, _, _, rfl, rfl, hL6.hD, hW.hD, Nat.le_trans (m := 100) (show 3 + 1 ≤ 100 by decide) (by decide), fun z1 nz1 => ?_⟩
           have hcat := hL6.cat hW nz1
           have hL7 := hL6.same (same_upd (o := .lst ([r1, r2, r3].map V.ref ++ [w1].map V.ref)) (Same.refl _) nz1)
           refine call_turns (n := 4) (es := row4 ++ [(4, 1)]) (h := 1) (t := 3) (by decide) (by decide) hcat.pairs simp_ring4 (by decide) (by decide) (by decide) (fun G8 sx1 => ?_)
           rw [rkV_oN, rk_ring4]
           have hR3 := hL7.same sx1
           clear hL7 hcat hL6 s56 hW sx1 nz1 nw1 nw2 hR2
           refine ⟨rfl, _, rfl, ?_⟩
           refine ifF rfl ?_
           wtm_at "fo r"
           rename_i a1 na1
           have v1 := same_upd (o := .lst []) (Same.refl _) na1
           wtm_at "fo r"
           refine call_starts (n := 1) (es := []) (by decide) (by decide) (show Pairs _ a1 [] from (PsAt.nil upd_same).pairs) (simp_none 1) (by decide) (fun pa ca X1 sx1 npa nca hpa hca => ?_)
           wtm_at "fo r"
           rename_i a2 na2
           have v2 := same_upd (o := .lst []) (Same.refl _) na2
           wtm_at "fo r"
           refine call_turns (n := 2) (es := []) (h := 1) (t := 2) (by decide) (by decide) (show Pairs _ a2 [] from (PsAt.nil upd_same).pairs) (simp_none 2) (by decide) (by decide) (by decide) (fun X2 sx2 => ?_)
           rw [rkV_oN, rk_two]
           wtm_at "fo r"
           rename_i a3 na3
           have v3 := same_upd (o := .lst []) (Same.refl _) na3
           wtm_at "fo r"
           refine call_starts (n := 2) (es := []) (by decide) (by decide) (show Pairs _ a3 [] from (PsAt.nil upd_same).pairs) (simp_none 2) (by decide) (fun pb cb X3 sx3 npb ncb hpb hcb => ?_)
           wtm_at "fo r"
           rename_i l0 nl0 c1 nc1 c2 nc2 c3 nc3 c4 nc4 c5 nc5
           have u0 := same_upd (o := .lst [.ref pa, oN none, .ref pb]) (Same.refl _) nl0
           have u1 := same_upd (o := .lst [.int 1]) (Same.refl _) nc1
           have u2 := same_upd (o := .tup [.ref c1, .int 0]) (Same.refl _) nc2
           have u3 := same_upd (o := .lst []) (Same.refl _) nc3
           have u4 := same_upd (o := .tup [.ref c3, .non]) (Same.refl _) nc4
           have u5 := same_upd (o := .lst [.ref c2, .non, .ref c4]) (Same.refl _) nc5
           have u35 := u3.trans (u4.trans u5)
           have u15 := u1.trans (u2.trans u35)
           have sAll := u0.trans u15
           have s1 := v2.trans (sx2.trans (v3.trans (sx3.trans sAll)))
           refine Or.inr ⟨.list [.tuple [dI [1], .int 0], .none, .tuple [dI [], .none]], .list [.tuple [dI [1], .int 0], .none, .tuple [dI [], .none]], .lst (SqL.of (u15 _ _ upd_same)) (.cons (dp_BTs be_one (s1 _ _ hpa) (s1 _ _ hca)) (.cons .non (.cons (dp_BTn be_two (sAll _ _ hpb) (sAll _ _ hcb)) .nil))), .lst (SqL.of upd_same) (.cons (.tup (SqT.of (u35 _ _ upd_same)) (.cons (dp_dI (SqL.of ((u2.trans u35) _ _ upd_same))) (.cons (.int 0) .nil))) (.cons .non (.cons (.tup (SqT.of (u5 _ _ upd_same)) (.cons (dp_dI (xs := []) (SqL.of ((u4.trans u5) _ _ upd_same))) (.cons .non .nil))) .nil))), rfl, rfl, _, rfl, ?_⟩
           refine ifF (by rw [SeqAt.eqv_refl _ rfl]; rfl) ?_
           have hR4 := hR3.same (v1.trans (sx1.trans s1))
           clear u0 u1 u2 u3 u4 u35 u15 sAll s1 v1 v2 v3 sx1 sx2 sx3 hpa hca hpb hcb npa nca npb ncb hR3
           generalize upd _ c5 (.lst [.ref c2, .non, .ref c4]) = G9 at *
           clear u5 nl0 nc1 nc2 nc3 nc4 nc5 na1 na2 na3
           wtm_at "fo r"
           rename_i e1 m1 e2 m2 e3 m3 e4 m4 e5 m5 e6 m6 e7 m7 e8 m8 e9 m9 e10 m10 e11 m11 eq meq
           have hSv : PsAt (upd _ eq (.lst [.ref e1, .ref e2, .ref e3, .ref e4, .ref e5, .ref e6, .ref e7, .ref e8, .ref e9, .ref e10, .ref e11])) eq [e1, e2, e3, e4, e5, e6, e7, e8, e9, e10, e11] seven11 := ((((((((((((RowAt.nil G9).snoc (a := 4) (b := 5) m1).snoc (a := 5) (b := 6) m2).snoc (a := 1) (b := 4) m3).snoc (a := 2) (b := 5) m4).snoc (a := 3) (b := 6) m5).snoc (a := 1) (b := 5) m6).snoc (a := 2) (b := 6) m7).snoc (a := 1) (b := 7) m8).snoc (a := 2) (b := 7) m9).snoc (a := 3) (b := 7) m10).snoc (a := 4) (b := 7) m11).net meq
           have sE := (((((((((((same_upd (o := .lst [.int 4, .int 5]) (Same.refl G9) m1).trans (same_upd (o := .lst [.int 5, .int 6]) (Same.refl _) m2)).trans (same_upd (o := .lst [.int 1, .int 4]) (Same.refl _) m3)).trans (same_upd (o := .lst [.int 2, .int 5]) (Same.refl _) m4)).trans (same_upd (o := .lst [.int 3, .int 6]) (Same.refl _) m5)).trans (same_upd (o := .lst [.int 1, .int 5]) (Same.refl _) m6)).trans (same_upd (o := .lst [.int 2, .int 6]) (Same.refl _) m7)).trans (same_upd (o := .lst [.int 1, .int 7]) (Same.refl _) m8)).trans (same_upd (o := .lst [.int 2, .int 7]) (Same.refl _) m9)).trans (same_upd (o := .lst [.int 3, .int 7]) (Same.refl _) m10)).trans (same_upd (o := .lst [.int 4, .int 7]) (Same.refl _) m11)).trans (same_upd (o := .lst [.ref e1, .ref e2, .ref e3, .ref e4, .ref e5, .ref e6, .ref e7, .ref e8, .ref e9, .ref e10, .ref e11]) (Same.refl _) meq)
           have hR5 := hR4.same sE
           generalize upd _ eq (.lst [.ref e1, .ref e2, .ref e3, .ref e4, .ref e5, .ref e6, .ref e7, .ref e8, .ref e9, .ref e10, .ref e11]) = G11 at *
           clear sE meq m1 m2 m3 m4 m5 m6 m7 m8 m9 m10 m11 hR4
           refine Or.inr ⟨qr, eq, _, _, rfl, rfl, hR5.hD, hSv.hD, Nat.le_trans (m := 100) (show 3 + 11 ≤ 100 by decide) (by decide), fun z2 nz2 => ?_⟩
           have hcat := hR5.cat hSv nz2
           have hR6 := hR5.same (same_upd (o := .lst ([r1, r2, r3].map V.ref ++ [e1, e2, e3, e4, e5, e6, e7, e8, e9, e10, e11].map V.ref)) (Same.refl _) nz2)
           generalize upd G11 z2 _ = G12 at *
           clear nz2 hSv hR5
           wtm_at "fo r"
           refine call_draws (fun d2 ca cb nd2 => ?_)
           have hd2' : Dr (upd G12 d2 (.lst [.int ca, .int 0, .bl cb])) d2 0 := ⟨ca, cb, upd_same, Int.le_refl _⟩
           have sd2 := same_upd (o := .lst [.int ca, .int 0, .bl cb]) (Same.refl _) nd2
           wtm_at "fo r"
           refine call_rir (n := 4) (es := row4) hd2' (by decide) (by decide) (by decide) (hR6.same sd2).pairs simp_row4 (by decide) (fun G13 k13 sb13 hd13 hk13 => ?_)
           have s13 : Same G12 G13 := fun b o e => sb13 b o (ne_of_none e nd2) (sd2 _ _ e)
           refine ⟨true, rfl, ?_⟩
           refine ifF rfl ?_
           have hcat3 := hcat.same s13
           have hR7 := hR6.same s13
           clear hcat hR6 s13 sb13 sd2 hd2' hd13
           wtm_at "fo r"
           refine call_draws (fun d3 ca3 cb3 nd3 => ?_)
           have hd3' : Dr (upd G13 d3 (.lst [.int ca3, .int 0, .bl cb3])) d3 0 := ⟨ca3, cb3, upd_same, Int.le_refl _⟩
           have sd3 := same_upd (o := .lst [.int ca3, .int 0, .bl cb3]) (Same.refl _) nd3
           wtm_at "fo r"
           refine call_rir (n := 7) (es := row4 ++ seven11) hd3' (by decide) (by decide) (by decide) (hcat3.same sd3).pairs simp_seven (by decide) (fun G14 k14 sb14 hd14 hk14 => ?_)
           have s14 : Same G13 G14 := fun b o e => sb14 b o (ne_of_none e nd3) (sd3 _ _ e)
           refine ⟨true, rfl, ?_⟩
           refine ifF rfl ?_
           have hR8 := hR7.same s14
           clear hcat3 hR7 s14 sb14 sd3 hd3' hd14
           wtm_at "fo r"
           refine call_draws (fun d4 ca4 cb4 nd4 => ?_)
           have hd4' : Dr (upd G14 d4 (.lst [.int ca4, .int 0, .bl cb4])) d4 0 := ⟨ca4, cb4, upd_same, Int.le_refl _⟩
           have sd4 := same_upd (o := .lst [.int ca4, .int 0, .bl cb4]) (Same.refl _) nd4
           have hR9 := hR8.same sd4
           generalize upd G14 d4 (.lst [.int ca4, .int 0, .bl cb4]) = G15 at *
           wtm_at "fo r"
           rename_i w1 nw1 w2 nw2
           have hW : PsAt (upd _ w2 (.lst [.ref w1])) w2 [w1] [(4, 1)] := ((RowAt.nil G15).snoc (a := 4) (b := 1) nw1).net nw2
           have s56 := (same_upd (o := .lst [.int 4, .int 1]) (Same.refl _) nw1).trans (same_upd (o := .lst [.ref w1]) (Same.refl _) nw2)
           have hL6 := hR9.same s56
           refine Or.inr ⟨qr, w2, _, _, rfl, rfl, hL6.hD, hW.hD, Nat.le_trans (m := 100) (show 3 + 1 ≤ 100 by decide) (by decide), fun z1 nz1 => ?_⟩
           have hcat := hL6.cat hW nz1
           exact call_rir (n := 4) (es := row4 ++ [(4, 1)]) ((hd4'.same s56).same (same_upd (Same.refl _) nz1)) (by decide) (by decide) (by decide) hcat.pairs simp_ring4 (by decide) (fun G16 k16 _ _ _ => fin G16)
end
/-! piece ZE -/
section
/-! ### what the top has written -/
def HasDef (K : PySem.W.Frag) (x : Str) (st : Stmt) (f : Addr) (fd : FuncData) : Prop := PySem.W.nsIn K mainGlobals x = some (some (.ref f)) ∧ Fun K x x st f fd
theorem hasDef_mk {K : PySem.W.Frag} {x : Str} {st : Stmt} {f : Addr} {oc : Value} {od an : Option Addr} {osl : Array (Option Value)} {kV doc pm cdv ct : Value} (a : PySem.W.nsIn K mainGlobals x = some (some (.ref f)))
    (l : K.lookup f = some ⟨oc, od, .func (PySem.W.fnOf x x (defArgs st) (defBody st) (defScope st) .none kV doc pm an cdv ct), osl⟩) (c : PySem.W.codeIn K cdv x = true) (k : PySem.W.keepIn K (.ref f) = true) :
    ∃ f fd, HasDef K x st f fd := ⟨f, _, a, fun_mk l c k⟩
theorem cal_of {P : Program} {w : World} {K : PySem.W.Frag} {mg : Str → Option Value} {base h : Heap} {x : Str} {st : Stmt} {f : Addr} {fd : FuncData} {k : Nat} {ps : List Str} {sp : Sp} (X : K.In h) (G : h.Ns mainGlobals mg) (D : HasDef K x st f fd)
    (hb : Binds K fd ps []) (F : FnOk P w K mg base CX0 k f fd ps sp) : Cal P w K mg base x k ps sp := ⟨f, fd, F, PySem.W.mg_of X G D.1, D.2.kp, hb⟩
theorem calG_of {P : Program} {w : World} {K : PySem.W.Frag} {mg : Str → Option Value} {base h : Heap} {x : Str} {st : Stmt} {f : Addr} {fd : FuncData} {k : Nat} {ps : List Str} {sp : Sp} (X : K.In h) (G : h.Ns mainGlobals mg) (D : HasDef K x st f fd)
    (hb : Binds K fd ps []) (F : FnG P w K mg base CX0 k f fd ps sp) : CalG P w K mg base x k ps sp := ⟨f, fd, F, PySem.W.mg_of X G D.1, D.2.kp, hb⟩
theorem kcal_of {P : Program} {w : World} {K : PySem.W.Frag} {mg : Str → Option Value} {base h : Heap} {x : Str} {st : Stmt} {f : Addr} {fd : FuncData} {k : Nat} {ps ks : List Str} {g : List Value → List Value → List Value} {gV : List V → List V → List V} {sp : Sp} (X : K.In h) (G : h.Ns mainGlobals mg) (D : HasDef K x st f fd)
    (hb : KBinds K fd ps ks g gV) (F : FnOk P w K mg base CX0 k f fd ps sp) : KCal P w K mg base x k ps ks g gV sp := ⟨f, fd, F, PySem.W.mg_of X G D.1, D.2.kp, hb⟩
theorem vals_g2 : ∀ {vs : List V} {us : List Value} {zs : List V} {ws : List Value}, Vals vs us → Vals zs ws → Vals (g2 vs zs) (g2 us ws)
  | _, _, _, _, .nil, .cons a (.cons b .nil) => .cons b (.cons a .nil)
  | _, _, _, _, .nil, .nil => .nil
  | _, _, _, _, .nil, .cons _ .nil => .nil
  | _, _, _, _, .nil, .cons _ (.cons _ (.cons _ _)) => .nil
  | _, _, _, _, .cons _ _, _ => .nil
theorem vals_g4k : ∀ {vs : List V} {us : List Value} {zs : List V} {ws : List Value}, Vals vs us → Vals zs ws → Vals (g4k vs zs) (g4k us ws)
  | _, _, _, _, .nil, .cons a (.cons b (.cons c (.cons d .nil))) => .cons d (.cons c (.cons b (.cons a .nil)))
  | _, _, _, _, .nil, .nil => .nil
  | _, _, _, _, .nil, .cons _ .nil => .nil
  | _, _, _, _, .nil, .cons _ (.cons _ .nil) => .nil
  | _, _, _, _, .nil, .cons _ (.cons _ (.cons _ .nil)) => .nil
  | _, _, _, _, .nil, .cons _ (.cons _ (.cons _ (.cons _ (.cons _ _)))) => .nil
  | _, _, _, _, .cons _ _, _ => .nil
theorem kb_turns_to_catch {K : PySem.W.Frag} {f : Addr} {fd : FuncData} (F : Fun K "turns_to_catch" "turns_to_catch" s_turns_to_catch f fd) : KBinds K fd ["places", "lines", "seeker", "fleer"] ["fleer", "seeker", "lines", "places"] g4k g4k := by
  obtain ⟨oc, od, kV, doc, pm, an, cdv, ct, osl, rfl, lk, hcd⟩ := F.ex
  refine ⟨fun s us ws _ hl => ?_, vals_g4k⟩
  match us, ws, hl with
  | [], [a, b, c, d], _ => exact .of_eq rfl
theorem kb_seeker_goes {K : PySem.W.Frag} {f : Addr} {fd : FuncData} (F : Fun K "seeker_goes" "seeker_goes" s_seeker_goes f fd) : KBinds K fd ["places", "lines", "seeker", "fleer"] ["fleer", "seeker", "lines", "places"] g4k g4k := by
  obtain ⟨oc, od, kV, doc, pm, an, cdv, ct, osl, rfl, lk, hcd⟩ := F.ex
  refine ⟨fun s us ws _ hl => ?_, vals_g4k⟩
  match us, ws, hl with
  | [], [a, b, c, d], _ => exact .of_eq rfl
theorem kb_best_starts {K : PySem.W.Frag} {f : Addr} {fd : FuncData} (F : Fun K "best_starts" "best_starts" s_best_starts f fd) : KBinds K fd ["places", "lines"] ["lines", "places"] g2 g2 := by
  obtain ⟨oc, od, kV, doc, pm, an, cdv, ct, osl, rfl, lk, hcd⟩ := F.ex
  refine ⟨fun s us ws _ hl => ?_, vals_g2⟩
  match us, ws, hl with
  | [], [a, b], _ => exact .of_eq rfl
set_option maxHeartbeats 0 in
theorem all_mk {l : PySem.W.OpenLaw} {w : World} {K : PySem.W.Frag} {h : Heap} {mg : Str → Option Value} {fa : Addr} {tk : Tok} (X : K.In h) (G : h.Ns mainGlobals mg) (hfa : mg "law" = some (.ref fa))
    (d_is_place : ∃ f fd, HasDef K "is_place" s_is_place f fd)
    (d_read_net : ∃ f fd, HasDef K "read_net" s_read_net f fd)
    (d_check_place : ∃ f fd, HasDef K "check_place" s_check_place f fd)
    (d_whole_lot : ∃ f fd, HasDef K "whole_lot" s_whole_lot f fd)
    (d_members : ∃ f fd, HasDef K "members" s_members f fd)
    (d_first_target : ∃ f fd, HasDef K "first_target" s_first_target f fd)
    (d_fold_around : ∃ f fd, HasDef K "fold_around" s_fold_around f fd)
    (d_turns_to_catch : ∃ f fd, HasDef K "turns_to_catch" s_turns_to_catch f fd)
    (d_best_starts : ∃ f fd, HasDef K "best_starts" s_best_starts f fd)
    (d_seeker_goes : ∃ f fd, HasDef K "seeker_goes" s_seeker_goes f fd)
    (d_read_both : ∃ f fd, HasDef K "_read_both" s_read_both f fd)
    (d_best_going : ∃ f fd, HasDef K "_best_going" s_best_going f fd)
    (d_same_places : ∃ f fd, HasDef K "_same_places" s_same_places f fd)
    (d_traps : ∃ f fd, HasDef K "_traps" s_traps f fd)
    (d_one_turn_ahead : ∃ f fd, HasDef K "_one_turn_ahead" s_one_turn_ahead f fd)
    (d_common : ∃ f fd, HasDef K "_common" s_common f fd)
    (d_full_order : ∃ f fd, HasDef K "full_order" s_full_order f fd)
    (d_end_size : ∃ f fd, HasDef K "end_size" s_end_size f fd)
    (d_order_around : ∃ f fd, HasDef K "_order_around" s_order_around f fd)
    (d_all_lead : ∃ f fd, HasDef K "all_lead" s_all_lead f fd)
    (d_law_draws : ∃ f fd, HasDef K "_law_draws" s_law_draws f fd)
    (d_law_next : ∃ f fd, HasDef K "_law_next" s_law_next f fd)
    (d_law_mixed : ∃ f fd, HasDef K "_law_mixed" s_law_mixed f fd)
    (d_law_net : ∃ f fd, HasDef K "_law_net" s_law_net f fd)
    (d_law_near : ∃ f fd, HasDef K "_law_near" s_law_near f fd)
    (d_law_onto : ∃ f fd, HasDef K "_law_onto" s_law_onto f fd)
    (d_law_full : ∃ f fd, HasDef K "_law_full" s_law_full f fd)
    (d_law_table : ∃ f fd, HasDef K "_law_table" s_law_table f fd)
    (d_law_good : ∃ f fd, HasDef K "_law_good" s_law_good f fd)
    (d_law_right : ∃ f fd, HasDef K "_law_right" s_law_right f fd)
    (d_law_starts_right : ∃ f fd, HasDef K "_law_starts_right" s_law_starts_right f fd)
    (d_law : ∃ f fd, HasDef K "law" s_law f fd)
    (z_int : PySem.W.nsIn K mainGlobals "int" = some none)
    (z_range : PySem.W.nsIn K mainGlobals "range" = some none)
    (z_list : PySem.W.nsIn K mainGlobals "list" = some none)
    (z_len : PySem.W.nsIn K mainGlobals "len" = some none)
    (z_repr : PySem.W.nsIn K mainGlobals "repr" = some none)
    (z_enumerate : PySem.W.nsIn K mainGlobals "enumerate" = some none)
    (z_isinstance : PySem.W.nsIn K mainGlobals "isinstance" = some none)
    (z_max : PySem.W.nsIn K mainGlobals "max" = some none)
    (z_min : PySem.W.nsIn K mainGlobals "min" = some none)
    (z_most : PySem.W.nsIn K mainGlobals "MOST_PLACES" = some (some (.int 12 tk))) :
    ∃ fd : FuncData, (∀ (s : Shared) (v : Value), BindsTo s fd ⟨[v], []⟩ [("_law_script", v)]) ∧ ∀ base : Heap, K.In base → base.Ns mainGlobals mg → FnG l.prog w K mg base CX0 9 fa fd ["_law_script"] (spLawW K) := by
  obtain ⟨f_is_place, fd_is_place, e_is_place⟩ := d_is_place
  have b_is_place := e_is_place.2.binds (ps := ["place", "places"]) fun _ _ _ _ _ _ us hl => match us, hl with | [_, _], _ => rfl
  obtain ⟨f_read_net, fd_read_net, e_read_net⟩ := d_read_net
  have b_read_net := e_read_net.2.binds (ps := ["places", "lines"]) fun _ _ _ _ _ _ us hl => match us, hl with | [_, _], _ => rfl
  obtain ⟨f_check_place, fd_check_place, e_check_place⟩ := d_check_place
  have b_check_place := e_check_place.2.binds (ps := ["near", "place"]) fun _ _ _ _ _ _ us hl => match us, hl with | [_, _], _ => rfl
  obtain ⟨f_whole_lot, fd_whole_lot, e_whole_lot⟩ := d_whole_lot
  have b_whole_lot := e_whole_lot.2.binds (ps := ["near"]) fun _ _ _ _ _ _ us hl => match us, hl with | [_], _ => rfl
  obtain ⟨f_members, fd_members, e_members⟩ := d_members
  have b_members := e_members.2.binds (ps := ["lot"]) fun _ _ _ _ _ _ us hl => match us, hl with | [_], _ => rfl
  obtain ⟨f_first_target, fd_first_target, e_first_target⟩ := d_first_target
  have b_first_target := e_first_target.2.binds (ps := ["near", "lot", "place"]) fun _ _ _ _ _ _ us hl => match us, hl with | [_, _, _], _ => rfl
  obtain ⟨f_fold_around, fd_fold_around, e_fold_around⟩ := d_fold_around
  have b_fold_around := e_fold_around.2.binds (ps := ["near", "held"]) fun _ _ _ _ _ _ us hl => match us, hl with | [_, _], _ => rfl
  obtain ⟨f_turns_to_catch, fd_turns_to_catch, e_turns_to_catch⟩ := d_turns_to_catch
  have b_turns_to_catch := e_turns_to_catch.2.binds (ps := ["places", "lines", "seeker", "fleer"]) fun _ _ _ _ _ _ us hl => match us, hl with | [_, _, _, _], _ => rfl
  obtain ⟨f_best_starts, fd_best_starts, e_best_starts⟩ := d_best_starts
  have b_best_starts := e_best_starts.2.binds (ps := ["places", "lines"]) fun _ _ _ _ _ _ us hl => match us, hl with | [_, _], _ => rfl
  obtain ⟨f_seeker_goes, fd_seeker_goes, e_seeker_goes⟩ := d_seeker_goes
  have b_seeker_goes := e_seeker_goes.2.binds (ps := ["places", "lines", "seeker", "fleer"]) fun _ _ _ _ _ _ us hl => match us, hl with | [_, _, _, _], _ => rfl
  obtain ⟨f_read_both, fd_read_both, e_read_both⟩ := d_read_both
  have b_read_both := e_read_both.2.binds (ps := ["places", "lines", "seeker", "fleer"]) fun _ _ _ _ _ _ us hl => match us, hl with | [_, _, _, _], _ => rfl
  obtain ⟨f_best_going, fd_best_going, e_best_going⟩ := d_best_going
  have b_best_going := e_best_going.2.binds (ps := ["near", "seeker", "fleer"]) fun _ _ _ _ _ _ us hl => match us, hl with | [_, _, _], _ => rfl
  obtain ⟨f_same_places, fd_same_places, e_same_places⟩ := d_same_places
  have b_same_places := e_same_places.2.binds (ps := ["near"]) fun _ _ _ _ _ _ us hl => match us, hl with | [_], _ => rfl
  obtain ⟨f_traps, fd_traps, e_traps⟩ := d_traps
  have b_traps := e_traps.2.binds (ps := ["answers", "sure"]) fun _ _ _ _ _ _ us hl => match us, hl with | [_, _], _ => rfl
  obtain ⟨f_one_turn_ahead, fd_one_turn_ahead, e_one_turn_ahead⟩ := d_one_turn_ahead
  have b_one_turn_ahead := e_one_turn_ahead.2.binds (ps := ["near", "traps"]) fun _ _ _ _ _ _ us hl => match us, hl with | [_, _], _ => rfl
  obtain ⟨f_common, fd_common, e_common⟩ := d_common
  have b_common := e_common.2.binds (ps := ["lots", "places"]) fun _ _ _ _ _ _ us hl => match us, hl with | [_, _], _ => rfl
  obtain ⟨f_full_order, fd_full_order, e_full_order⟩ := d_full_order
  have b_full_order := e_full_order.2.binds (ps := ["places", "lines"]) fun _ _ _ _ _ _ us hl => match us, hl with | [_, _], _ => rfl
  obtain ⟨f_end_size, fd_end_size, e_end_size⟩ := d_end_size
  have b_end_size := e_end_size.2.binds (ps := ["places", "lines"]) fun _ _ _ _ _ _ us hl => match us, hl with | [_, _], _ => rfl
  obtain ⟨f_order_around, fd_order_around, e_order_around⟩ := d_order_around
  have b_order_around := e_order_around.2.binds (ps := ["near", "held"]) fun _ _ _ _ _ _ us hl => match us, hl with | [_, _], _ => rfl
  obtain ⟨f_all_lead, fd_all_lead, e_all_lead⟩ := d_all_lead
  have b_all_lead := e_all_lead.2.binds (ps := ["places", "lines"]) fun _ _ _ _ _ _ us hl => match us, hl with | [_, _], _ => rfl
  obtain ⟨f_law_draws, fd_law_draws, e_law_draws⟩ := d_law_draws
  have b_law_draws := e_law_draws.2.binds (ps := ["_law_cell"]) fun _ _ _ _ _ _ us hl => match us, hl with | [_], _ => rfl
  obtain ⟨f_law_next, fd_law_next, e_law_next⟩ := d_law_next
  have b_law_next := e_law_next.2.binds (ps := ["_law_draws_here"]) fun _ _ _ _ _ _ us hl => match us, hl with | [_], _ => rfl
  obtain ⟨f_law_mixed, fd_law_mixed, e_law_mixed⟩ := d_law_mixed
  have b_law_mixed := e_law_mixed.2.binds (ps := ["_law_draws_here", "_law_things"]) fun _ _ _ _ _ _ us hl => match us, hl with | [_, _], _ => rfl
  obtain ⟨f_law_net, fd_law_net, e_law_net⟩ := d_law_net
  have b_law_net := e_law_net.2.binds (ps := ["_law_draws_here", "_law_most"]) fun _ _ _ _ _ _ us hl => match us, hl with | [_, _], _ => rfl
  obtain ⟨f_law_near, fd_law_near, e_law_near⟩ := d_law_near
  have b_law_near := e_law_near.2.binds (ps := ["_law_size", "_law_sides"]) fun _ _ _ _ _ _ us hl => match us, hl with | [_, _], _ => rfl
  obtain ⟨f_law_onto, fd_law_onto, e_law_onto⟩ := d_law_onto
  have b_law_onto := e_law_onto.2.binds (ps := ["_law_near_here", "_law_stay", "_law_spot"]) fun _ _ _ _ _ _ us hl => match us, hl with | [_, _, _], _ => rfl
  obtain ⟨f_law_full, fd_law_full, e_law_full⟩ := d_law_full
  have b_law_full := e_law_full.2.binds (ps := ["_law_draws_here", "_law_near_here", "_law_size"]) fun _ _ _ _ _ _ us hl => match us, hl with | [_, _, _], _ => rfl
  obtain ⟨f_law_table, fd_law_table, e_law_table⟩ := d_law_table
  have b_law_table := e_law_table.2.binds (ps := ["_law_near_here", "_law_size"]) fun _ _ _ _ _ _ us hl => match us, hl with | [_, _], _ => rfl
  obtain ⟨f_law_good, fd_law_good, e_law_good⟩ := d_law_good
  have b_law_good := e_law_good.2.binds (ps := ["_law_near_here", "_law_told", "_law_here", "_law_there"]) fun _ _ _ _ _ _ us hl => match us, hl with | [_, _, _, _], _ => rfl
  obtain ⟨f_law_right, fd_law_right, e_law_right⟩ := d_law_right
  have b_law_right := e_law_right.2.binds (ps := ["_law_draws_here", "_law_size", "_law_sides"]) fun _ _ _ _ _ _ us hl => match us, hl with | [_, _, _], _ => rfl
  obtain ⟨f_law_starts_right, fd_law_starts_right, e_law_starts_right⟩ := d_law_starts_right
  have b_law_starts_right := e_law_starts_right.2.binds (ps := ["_law_draws_here", "_law_size", "_law_sides", "_law_table_here"]) fun _ _ _ _ _ _ us hl => match us, hl with | [_, _, _, _], _ => rfl
  obtain ⟨f_law, fd_law, e_law⟩ := d_law
  have b_law := e_law.2.binds (ps := ["_law_script"]) fun _ _ _ _ _ _ us hl => match us, hl with | [_], _ => rfl
  have m_int := PySem.W.mg_none_of X G z_int
  have m_range := PySem.W.mg_none_of X G z_range
  have m_list := PySem.W.mg_none_of X G z_list
  have m_len := PySem.W.mg_none_of X G z_len
  have m_repr := PySem.W.mg_none_of X G z_repr
  have m_enumerate := PySem.W.mg_none_of X G z_enumerate
  have m_isinstance := PySem.W.mg_none_of X G z_isinstance
  have m_max := PySem.W.mg_none_of X G z_max
  have m_min := PySem.W.mg_none_of X G z_min
  have m_most := PySem.W.mg_of X G z_most
  have e := hfa.symm.trans (PySem.W.mg_of X G e_law.1)
  cases e
  refine ⟨fd_law, fun s v => ?_, fun base _ _ => ?_⟩
  · obtain ⟨oc, od, kV, doc, pm, an, cdv, ct, osl, rfl, lk, hcd⟩ := e_law.2.ex
    exact .of_eq rfl
  have c_next := cal_of X G e_law_next b_law_next (ok_next (P := l.prog) (w := w) (K := K) (mg := mg) (base := base) e_law_next.2 m_int)
  have c_draws := cal_of X G e_law_draws b_law_draws (ok_draws (P := l.prog) (w := w) (K := K) (mg := mg) (base := base) e_law_draws.2 m_int)
  have c_shuf := cal_of X G e_law_mixed b_law_mixed (ok_shuf (P := l.prog) (w := w) (K := K) (mg := mg) (base := base) e_law_mixed.2 m_int m_list m_len c_next)
  have c_isp := cal_of X G e_is_place b_is_place (ok_isplace (P := l.prog) (w := w) (K := K) (mg := mg) (base := base) e_is_place.2 m_isinstance m_int)
  have c_mem := cal_of X G e_members b_members (ok_members (P := l.prog) (w := w) (K := K) (mg := mg) (base := base) e_members.2 m_range)
  have c_read := cal_of X G e_read_net b_read_net (ok_read (P := l.prog) (w := w) (K := K) (mg := mg) (base := base) e_read_net.2 m_isinstance m_int m_list m_range m_enumerate m_len m_most c_isp)
  have c_whole := cal_of X G e_whole_lot b_whole_lot (ok_whole (P := l.prog) (w := w) (K := K) (mg := mg) (base := base) e_whole_lot.2 m_len)
  have c_first := cal_of X G e_first_target b_first_target (ok_first (P := l.prog) (w := w) (K := K) (mg := mg) (base := base) e_first_target.2 m_enumerate)
  have c_around := cal_of X G e_fold_around b_fold_around (ok_around (P := l.prog) (w := w) (K := K) (mg := mg) (base := base) e_fold_around.2 c_whole c_first c_mem)
  have c_oa := cal_of X G e_order_around b_order_around (ok_oa (P := l.prog) (w := w) (K := K) (mg := mg) (base := base) e_order_around.2 c_around)
  have c_full := cal_of X G e_full_order b_full_order (ok_full (P := l.prog) (w := w) (K := K) (mg := mg) (base := base) e_full_order.2 c_read c_oa)
  have c_size := cal_of X G e_end_size b_end_size (ok_size (P := l.prog) (w := w) (K := K) (mg := mg) (base := base) e_end_size.2 m_len c_full)
  have c_alllead := cal_of X G e_all_lead b_all_lead (ok_alllead (P := l.prog) (w := w) (K := K) (mg := mg) (base := base) e_all_lead.2 c_size)
  have c_cpl := cal_of X G e_check_place b_check_place (ok_cpl (P := l.prog) (w := w) (K := K) (mg := mg) (base := base) e_check_place.2 m_len c_isp)
  have c_both := cal_of X G e_read_both b_read_both (ok_both (P := l.prog) (w := w) (K := K) (mg := mg) (base := base) e_read_both.2 c_read c_cpl)
  have c_samep := cal_of X G e_same_places b_same_places (ok_samep (P := l.prog) (w := w) (K := K) (mg := mg) (base := base) e_same_places.2 m_range m_len)
  have c_common := cal_of X G e_common b_common (ok_common (P := l.prog) (w := w) (K := K) (mg := mg) (base := base) e_common.2 )
  have c_traps := cal_of X G e_traps b_traps (ok_traps (P := l.prog) (w := w) (K := K) (mg := mg) (base := base) e_traps.2 m_range m_len c_common)
  have c_ahead := cal_of X G e_one_turn_ahead b_one_turn_ahead (ok_ahead (P := l.prog) (w := w) (K := K) (mg := mg) (base := base) e_one_turn_ahead.2 c_mem)
  have c_going := cal_of X G e_best_going b_best_going (ok_going (P := l.prog) (w := w) (K := K) (mg := mg) (base := base) e_best_going.2 c_mem c_samep c_traps c_ahead)
  have c_turns := cal_of X G e_turns_to_catch b_turns_to_catch (ok_turns (P := l.prog) (w := w) (K := K) (mg := mg) (base := base) e_turns_to_catch.2 c_both c_going)
  have c_goes := cal_of X G e_seeker_goes b_seeker_goes (ok_goes (P := l.prog) (w := w) (K := K) (mg := mg) (base := base) e_seeker_goes.2 c_both c_going)
  have c_starts := cal_of X G e_best_starts b_best_starts (ok_starts (P := l.prog) (w := w) (K := K) (mg := mg) (base := base) e_best_starts.2 m_range m_list c_read c_mem c_samep c_traps c_ahead c_common)
  have k_turns := kcal_of X G e_turns_to_catch (kb_turns_to_catch e_turns_to_catch.2) (ok_turns (P := l.prog) (w := w) (K := K) (mg := mg) (base := base) e_turns_to_catch.2 c_both c_going)
  have k_goes := kcal_of X G e_seeker_goes (kb_seeker_goes e_seeker_goes.2) (ok_goes (P := l.prog) (w := w) (K := K) (mg := mg) (base := base) e_seeker_goes.2 c_both c_going)
  have k_starts := kcal_of X G e_best_starts (kb_best_starts e_best_starts.2) (ok_starts (P := l.prog) (w := w) (K := K) (mg := mg) (base := base) e_best_starts.2 m_range m_list c_read c_mem c_samep c_traps c_ahead c_common)
  have c_near := cal_of X G e_law_near b_law_near (ok_near (P := l.prog) (w := w) (K := K) (mg := mg) (base := base) e_law_near.2 m_range)
  have c_onto := cal_of X G e_law_onto b_law_onto (ok_onto (P := l.prog) (w := w) (K := K) (mg := mg) (base := base) e_law_onto.2 )
  have c_lfull := cal_of X G e_law_full b_law_full (ok_lfull (P := l.prog) (w := w) (K := K) (mg := mg) (base := base) e_law_full.2 m_range m_list m_int m_len c_next c_onto)
  have c_net := cal_of X G e_law_net b_law_net (ok_net (P := l.prog) (w := w) (K := K) (mg := mg) (base := base) e_law_net.2 m_range m_int m_list c_next c_shuf)
  have c_good := cal_of X G e_law_good b_law_good (ok_good (P := l.prog) (w := w) (K := K) (mg := mg) (base := base) e_law_good.2 )
  have c_table := cal_of X G e_law_table b_law_table (ok_table (P := l.prog) (w := w) (K := K) (mg := mg) (base := base) e_law_table.2 m_range m_list c_good)
  have c_startsr := calG_of X G e_law_starts_right b_law_starts_right (ok_startsR (P := l.prog) (w := w) (K := K) (mg := mg) (base := base) e_law_starts_right.2 m_repr m_range m_len m_max m_min c_near c_lfull c_alllead c_starts k_starts)
  have c_right := calG_of X G e_law_right b_law_right (ok_right (P := l.prog) (w := w) (K := K) (mg := mg) (base := base) e_law_right.2 m_repr m_range m_int m_max c_near c_table c_turns k_turns c_goes k_goes c_next c_startsr)
  exact ok_law (P := l.prog) (w := w) (K := K) (mg := mg) (base := base) e_law.2 m_range c_draws c_net c_near c_table c_right c_startsr c_turns c_goes c_starts
theorem walkL {l : PySem.W.OpenLaw} {q : Program} {loose : List Str} {XP : (Str → Option Value) → Heap → Prop} {YP : World → Heap → Prop} {d : DefRec} {K : Params → PySem.W.Frag} (hn : l.most = some 63) (hdf : d.params.defaults = [])
    (hY : ∀ (w : World) (h : Heap), YP w h → (K w.params).In h)
    (F : ∀ (w : World) (mg : Str → Option Value) (fa : Addr) (h : Heap), (K w.params).In h → h.Ns mainGlobals mg → mg d.name = some (.ref fa) →
      ∃ fd : FuncData, (∀ (s : Shared) (u : Value), BindsTo s fd ⟨[u], []⟩ [("_law_script", u)]) ∧ ∀ base : Heap, (K w.params).In base → base.Ns mainGlobals mg → FnG l.prog w (K w.params) mg base CX0 9 fa fd ["_law_script"] (spLawW (K w.params))) :
    PySem.W.WalkO q loose XP YP l.row.toRowW d [] (fun f vs => PySem.call f vs) :=
  walkW (n := 63) (k := 9) (x := "_law_script") (sp := fun w => spLawW (K w.params)) hn (by decide) hdf ⟨rfl, by decide, by decide⟩ hY F fun w H a ns hl _ hS => by
    unfold spLawW
    exact ⟨a, ns, rfl, hS, Nat.le_trans hl (by decide), fun _ => rfl⟩
end
end Fo
open PySem PySem.W PyProof.Rows
set_option maxHeartbeats 0 in
theorem PySem.Challenge.cw_foldednets_k50_whole_catching_holds : PySem.Challenge.rw_foldednets_k50_whole_catching.Holds := by
  w_on; o_law; k_head; (case hw => w_witness2)
  k_fill
  refine Fo.walkL (l := PySem.Challenge.rw_foldednets_k50_whole_catching) rfl rfl (fun w h Y => PySem.W.kIn_of Y) ?F
  case F =>
    intro w mg fa h KX G hmg
    refine' Fo.all_mk KX G hmg ?d0 ?d1 ?d2 ?d3 ?d4 ?d5 ?d6 ?d7 ?d8 ?d9 ?d10 ?d11 ?d12 ?d13 ?d14 ?d15 ?d16 ?d17 ?d18 ?d19 ?d20 ?d21 ?d22 ?d23 ?d24 ?d25 ?d26 ?d27 ?d28 ?d29 ?d30 ?d31 ?z_int ?z_range ?z_list ?z_len ?z_repr ?z_enumerate ?z_isinstance ?z_max ?z_min ?z_most
    (case d0 => refine' Fo.hasDef_mk ?a ?l ?c ?k; (case a => k_is); (case l => k_is); (case c => k_is); (case k => k_is))
    (case d1 => refine' Fo.hasDef_mk ?a ?l ?c ?k; (case a => k_is); (case l => k_is); (case c => k_is); (case k => k_is))
    (case d2 => refine' Fo.hasDef_mk ?a ?l ?c ?k; (case a => k_is); (case l => k_is); (case c => k_is); (case k => k_is))
    (case d3 => refine' Fo.hasDef_mk ?a ?l ?c ?k; (case a => k_is); (case l => k_is); (case c => k_is); (case k => k_is))
    (case d4 => refine' Fo.hasDef_mk ?a ?l ?c ?k; (case a => k_is); (case l => k_is); (case c => k_is); (case k => k_is))
    (case d5 => refine' Fo.hasDef_mk ?a ?l ?c ?k; (case a => k_is); (case l => k_is); (case c => k_is); (case k => k_is))
    (case d6 => refine' Fo.hasDef_mk ?a ?l ?c ?k; (case a => k_is); (case l => k_is); (case c => k_is); (case k => k_is))
    (case d7 => refine' Fo.hasDef_mk ?a ?l ?c ?k; (case a => k_is); (case l => k_is); (case c => k_is); (case k => k_is))
    (case d8 => refine' Fo.hasDef_mk ?a ?l ?c ?k; (case a => k_is); (case l => k_is); (case c => k_is); (case k => k_is))
    (case d9 => refine' Fo.hasDef_mk ?a ?l ?c ?k; (case a => k_is); (case l => k_is); (case c => k_is); (case k => k_is))
    (case d10 => refine' Fo.hasDef_mk ?a ?l ?c ?k; (case a => k_is); (case l => k_is); (case c => k_is); (case k => k_is))
    (case d11 => refine' Fo.hasDef_mk ?a ?l ?c ?k; (case a => k_is); (case l => k_is); (case c => k_is); (case k => k_is))
    (case d12 => refine' Fo.hasDef_mk ?a ?l ?c ?k; (case a => k_is); (case l => k_is); (case c => k_is); (case k => k_is))
    (case d13 => refine' Fo.hasDef_mk ?a ?l ?c ?k; (case a => k_is); (case l => k_is); (case c => k_is); (case k => k_is))
    (case d14 => refine' Fo.hasDef_mk ?a ?l ?c ?k; (case a => k_is); (case l => k_is); (case c => k_is); (case k => k_is))
    (case d15 => refine' Fo.hasDef_mk ?a ?l ?c ?k; (case a => k_is); (case l => k_is); (case c => k_is); (case k => k_is))
    (case d16 => refine' Fo.hasDef_mk ?a ?l ?c ?k; (case a => k_is); (case l => k_is); (case c => k_is); (case k => k_is))
    (case d17 => refine' Fo.hasDef_mk ?a ?l ?c ?k; (case a => k_is); (case l => k_is); (case c => k_is); (case k => k_is))
    (case d18 => refine' Fo.hasDef_mk ?a ?l ?c ?k; (case a => k_is); (case l => k_is); (case c => k_is); (case k => k_is))
    (case d19 => refine' Fo.hasDef_mk ?a ?l ?c ?k; (case a => k_is); (case l => k_is); (case c => k_is); (case k => k_is))
    (case d20 => refine' Fo.hasDef_mk ?a ?l ?c ?k; (case a => k_is); (case l => k_is); (case c => k_is); (case k => k_is))
    (case d21 => refine' Fo.hasDef_mk ?a ?l ?c ?k; (case a => k_is); (case l => k_is); (case c => k_is); (case k => k_is))
    (case d22 => refine' Fo.hasDef_mk ?a ?l ?c ?k; (case a => k_is); (case l => k_is); (case c => k_is); (case k => k_is))
    (case d23 => refine' Fo.hasDef_mk ?a ?l ?c ?k; (case a => k_is); (case l => k_is); (case c => k_is); (case k => k_is))
    (case d24 => refine' Fo.hasDef_mk ?a ?l ?c ?k; (case a => k_is); (case l => k_is); (case c => k_is); (case k => k_is))
    (case d25 => refine' Fo.hasDef_mk ?a ?l ?c ?k; (case a => k_is); (case l => k_is); (case c => k_is); (case k => k_is))
    (case d26 => refine' Fo.hasDef_mk ?a ?l ?c ?k; (case a => k_is); (case l => k_is); (case c => k_is); (case k => k_is))
    (case d27 => refine' Fo.hasDef_mk ?a ?l ?c ?k; (case a => k_is); (case l => k_is); (case c => k_is); (case k => k_is))
    (case d28 => refine' Fo.hasDef_mk ?a ?l ?c ?k; (case a => k_is); (case l => k_is); (case c => k_is); (case k => k_is))
    (case d29 => refine' Fo.hasDef_mk ?a ?l ?c ?k; (case a => k_is); (case l => k_is); (case c => k_is); (case k => k_is))
    (case d30 => refine' Fo.hasDef_mk ?a ?l ?c ?k; (case a => k_is); (case l => k_is); (case c => k_is); (case k => k_is))
    (case d31 => refine' Fo.hasDef_mk ?a ?l ?c ?k; (case a => k_is); (case l => k_is); (case c => k_is); (case k => k_is))
    (case z_int => k_is)
    (case z_range => k_is)
    (case z_list => k_is)
    (case z_len => k_is)
    (case z_repr => k_is)
    (case z_enumerate => k_is)
    (case z_isinstance => k_is)
    (case z_max => k_is)
    (case z_min => k_is)
    (case z_most => k_is)
#print axioms PySem.Challenge.cw_foldednets_k50_whole_catching_holds
