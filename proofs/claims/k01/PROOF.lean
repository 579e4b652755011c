import PyProof.Rows.All
import Wide.All
import OpenK.AllK
import Wide.FinOn
import HandS.Base
import HandS.Call
import HandS.List
import HandS.Comp
import HandS.Ends
import HandS.Words
import HandS.WordsList
import HandS.Dict
import HandS.Iter
import PyProof.ReprRoads
import HandS.ForMost
import HandS.Wide
import HandS.DictComp
import HandS.IsInst
import HandS.NoneIn
import HandS.Conv
import HandS.SortInts
import HandS.WideBits
import HandS.Style
import HandS.Codes
import PySem.Challenge.RW_foldednets_k01_nets_and_products
set_option Elab.async false
set_option linter.all false
set_option maxRecDepth 100000
/-! piece Aux1 -/
namespace Fo
open PySem PySem.Spec PyProof.Rows L2
abbrev Sl := L2.St

/-! ## calls while no repr is under way -/
structure FnG (P : Program) (w : World) (K : PySem.W.Frag) (mg : Str → Option Value) (base : Heap)
    (CX : CXT) (k : Nat) (f : Addr) (fd : FuncData) (ps : List Str) (sp : Sp) : Prop where
  arity : ∀ vs H Q E, sp vs H Q E → vs.length = ps.length
  go : ∀ (A : Around) (outer : List Env) (s : Shared) (H : Hp) (args : Args) (us : List Value)
      (vs : List V) (Q : VK) (E : XK), Room k A → A.guards = some [] →
      Env0 P w K mg base A outer s H → BindsTo s fd args (ps.zip us) → Vals vs us → sp vs H Q E →
      codeAny (model P w) A (.call (.ref f) args) (CR CX outer P w H s Q E) s

theorem FnG.of {P : Program} {w : World} {K : PySem.W.Frag} {mg : Str → Option Value} {base : Heap}
    {CX : CXT} {k : Nat} {f : Addr} {fd : FuncData} {ps : List Str} {sp : Sp}
    (F : FnOk P w K mg base CX k f fd ps sp) : FnG P w K mg base CX k f fd ps sp :=
  ⟨F.len, fun A outer s H args us vs Q E hr _ => F.run A outer s H args us vs Q E hr⟩

section
variable {X : Cx} {CX : CXT} {k : Nat} {f : Addr} {fd : FuncData} {ps : List Str} {sp : Sp}
  {dvs : List V} {ds : List Value} {E : XK} {x : Str} {p pos : Pos} {e : Expr} {es : List Expr} {t : TA}
theorem go_fn {pins : List (Addr × Obj)} {σ : L2.St} {H : Hp} {s : Shared} {Q : VK} {us : List Value} {vs : List V}
    (F : FnG X.prog X.w X.K X.mg X.base CX k f fd ps sp) (hr : Room k X.A) (hgd : X.A.guards = some [])
    (hb : Binds X.K fd ps ds) (hd : Vals dvs ds) (hx : Passes CX X E)
    (I : Inv X pins σ H s) (r : Vals vs us) (h : sp (vs ++ dvs) H Q E) :
    wpAny (model X.prog X.w) X.A (call (.ref f) us) (EP X pins σ Q) X.xe s := by
  have rr := Vals.append r hd
  have hlen : (us ++ ds).length = ps.length := rr.length.symm.trans (F.arity _ _ _ _ h)
  have step := F.go X.A X.stack s H ⟨us, []⟩ (us ++ ds) (vs ++ dvs) Q E hr hgd I.env0 (hb s us I.kIn hlen) rr h
  refine wpAny_call (codeAny_mono step ?_)
  intro out s' hq
  match out, hq with
  | .error e, hq => exact hx pins σ H s e s' I hq
  | .ok (.ret u), hq => exact I.after hq
  | .ok .next, hq => exact hq.elim
  | .ok .brk, hq => exact hq.elim
  | .ok .cont, hq => exact hq.elim

theorem pe_callG (F : FnG X.prog X.w X.K X.mg X.base CX k f fd ps sp) (hr : Room k X.A) (hgd : X.A.guards = some [])
    (hg : Gl X x) (hm : X.mg x = some (.ref f)) (hk : PySem.W.keepIn X.K (.ref f) = true)
    (hb : Binds X.K fd ps ds) (hd : Vals dvs ds) (hx : Passes CX X E) (ha : PA X (e :: es) t)
    (hdb : (x == ("__debug__" : Str)) = false := by decide)
    (he : starEach (e :: es) X.env = (false, eval e X.env) :: starEach es X.env := by rfl)
    (hpl : (backTo pos (starEach es X.env)).any (·.1) = false := by rfl) :
    PE X (.Call (.Name x p) (e :: es) [] pos) (tCall sp dvs E t) := by
  constructor
  intro pins s σ H Q I h
  apply wpAny_Call_Name_kw
  apply ld_glob I hg hm _ hdb
  refine PySem.W.callWith_K (h₀ := X.base) I.ok.mod.kin hk (thn (ha.run pos pins s σ H _ I h) ?_) he hpl
  rintro us s1 ⟨vs, H1, I1, r, q⟩
  exact ⟨I1.kIn, go_fn F hr hgd hb hd hx I1 r q⟩

/-- f(k = v, ..), keywords alone -/
theorem pe_callK0 {ks : List Str} {kws : List Keyword} {tk : TA} {g : List Value → List Value → List Value}
    {gV : List V → List V → List V} (F : FnOk X.prog X.w X.K X.mg X.base CX k f fd ps sp) (hr : Room k X.A)
    (hg : Gl X x) (hm : X.mg x = some (.ref f)) (hk : PySem.W.keepIn X.K (.ref f) = true)
    (hb : KBinds X.K fd ps ks g gV) (hx : Passes CX X E) (hkw : PK X kws tk)
    (hall : (backToKw pos (keywordEach kws X.env)).all (·.1.isSome) = true := by rfl)
    (hks : (backToKw pos (keywordEach kws X.env)).filterMap (·.1) = ks := by rfl)
    (hdb : (x == ("__debug__" : Str)) = false := by decide)
    (hpl : ((backTo pos (starEach [] X.env)).any (·.1) || (backToKw pos (keywordEach kws X.env)).any (·.1.isNone)) = false := by rfl) :
    PE X (.Call (.Name x p) [] kws pos) (tCallK sp gV E tNil tk) := by
  constructor
  intro pins s σ H Q I h
  apply wpAny_Call_Name_kw
  apply ld_glob I hg hm _ hdb
  refine PySem.W.callWith_KW0 (h₀ := X.base) I.ok.mod.kin hk hall (thn (hkw.run pos pins s σ H _ I h) ?_) hpl
  rintro ws s2 ⟨zs, H2, I2, rz, q2⟩
  refine ⟨I2.kIn, ?_⟩
  rw [hks]
  exact run_fnk (us := []) F hr hb hx I2 .nil rz q2
end

section
variable {P : Program} {w : World} {K : PySem.W.Frag} {mg : Str → Option Value} {base : Heap}
/-- a def's body, where no repr is under way -/
theorem okG {x qual : Str} {st : Stmt} {f : Addr} {fd : FuncData} {N ps : List Str} {k : Nat} {sp : Sp}
    (F : Fun K x qual st f fd) (S : FnScope N ps (defScope st)) (len : ∀ vs H Q E, sp vs H Q E → vs.length = ps.length)
    (hbody : ∀ (cdv : Value) (A : Around) (outer : List Env) (s : Shared) (H : Hp) (vs : List V) (Q : VK) (E : XK),
      Room k (A.deeper (envOfC qual (defScope st) s.heap.objs.size f cdv)) → A.guards = some [] → sp vs H Q E →
      ∃ t, PSs (cxOf CX0 P w K mg base N qual (defScope st) f cdv A outer s H E).nox (defBody st) t ∧
        t { nx := fun _ H' => Q .non H', rt := Q } (start N vs) H) :
    FnG P w K mg base CX0 (k + 1) f fd ps sp := by
  obtain ⟨oc, od, kV, doc, pm, an, cdv, ct, osl, rfl, lk, hcd⟩ := F.ex
  constructor
  · exact len
  intro A outer s H args us vs Q E hr hgd e0 hb r hsp
  have keepB : ∀ b o, base.get? b = some o → s.heap.get? b = some o := fun b o e => (e0.bs b o e).1
  have inK : K.In s.heap := e0.mod.kin.keeps keepB
  have noLim : s.heap.NoLimit := e0.mod.nolimit.keeps keepB
  have kinds : ∀ y ∈ ps.zip us, (defScope st).names.lookup y.1 = some .local ∨
      ((defScope st).names.lookup y.1 = some .cell ∧
        ((cellsFrom (s.heap.objs.size + 1) (defScope st).names []).lookup y.1).isSome = true) := by
    rintro ⟨n, v⟩ hy
    cases S.par n (List.of_mem_zip hy).1 with
    | inl q => exact Or.inl q
    | inr q => exact Or.inr ⟨q, PySem.W.cellsFrom_some _ _ _ (Or.inl q)⟩
  refine codeAny_call_function hr.depth (inK _ _ lk) rfl S.co S.gen rfl (PySem.W.codeRec_of inK hcd) (hb _ _ _ _ ?_)
  apply wpAny_newFunctionEnv_cells S.kind kinds
  intro env henv s1 inC
  subst henv
  refine ⟨noLim.keeps inC.toInCall.keep, codeAny_func ?_⟩
  obtain ⟨t, ht, hq⟩ := hbody cdv A outer s H vs Q E (hr.deeper _) hgd hsp
  have I0 : Inv (cxOf CX0 P w K mg base N qual (defScope st) f cdv A outer s H E) [] (start N vs) H s1 :=
    inv_start S hr.hd e0 (len _ _ _ _ hsp) r inC
  refine wpAny_mono (ht.nox.run [] s1 (start N vs) H _ I0 hq) ?_ (fun _ _ z => z)
  intro fl s' hs
  match fl, hs with
  | .ret u, hs =>
    obtain ⟨v, σ', H', J, rv, q⟩ := hs
    exact ⟨v, H', J.os, J.bare, J.base, J.hok, rv, q⟩
  | .next, hs =>
    obtain ⟨σ', H', J, q⟩ := hs
    exact ⟨.non, H', J.os, J.bare, J.base, J.hok, rfl, q⟩
  | .brk, hs =>
    obtain ⟨_, _, _, q⟩ := hs
    exact q.elim
  | .cont, hs =>
    obtain ⟨_, _, _, q⟩ := hs
    exact q.elim
end

/-! ## repr of data -/
section
variable {X : Cx}
theorem call_reprD (hgd : X.A.guards = some []) (hu : X.A.units + 64 < cLine) :
    CallR X (.builtin "repr") (fun xs H Q => ∃ a d, xs = [.ref a] ∧ Dp X.K H (.ref a) d ∧ d.showable = true ∧
      d.hasDict = false ∧ d.depth ≤ 60 ∧ d.shown.length ≤ sizeLine ∧ Q (.str d.shown) H) := by
  intro pins s σ H xs us Q I r h
  obtain ⟨a, d, rfl, hd, hs, hn, hdp, hz, q⟩ := h
  obtain ⟨u, rfl, ru⟩ := vals1 r
  cases ru
  obtain ⟨as, rd⟩ := Dp.reads I d _ _ hd rfl
  exact repr_of_reads' rd hs (PyData.noDict_hsm hn) hgd (by omega) (fun _ _ z => z)
    (fun h' u tk hk => ⟨.str d.shown, H, I.kept hk, ⟨_, rfl⟩, q⟩) hz

/-! ## great powers -/
theorem op_powW : OpR X (binaryOp .Pow) (rI (fun i j => 0 ≤ j ∧ (Builtin.Int.intBits i : Int) * j ≤ 2 ^ 27) fun i j => .int (i ^ j.toNat)) :=
  opI fun _ _ _ _ _ _ _ hc q => pow_int hc.1 hc.2 q

/-! ## xs[::k], k 1 or -1 -/
def stepV (o : Option Int) (xs : List V) : List V := if o = some (-1) then xs.reverse else xs
def tStep (K : PySem.W.Frag) (te tk : TE) : TE := fun σ H Q => te σ H fun x H1 => tPart tk σ H1 fun o H2 =>
  ∃ a xs, x = .ref a ∧ (o = some 1 ∨ o = some (-1)) ∧ SqL K H2 a xs ∧ ∀ p, H2 p = none → Q (.ref p) (upd H2 p (.lst (stepV o xs)))
theorem slicePick_one (its : List Value) : slicePick its.toArray none none (some 1) = its.toArray := by
  have h := slicePick_cut its none none
  have e : slicePick its.toArray none none (some 1) = slicePick its.toArray none none none := rfl
  rw [e, h]
  simp [HT.sIx]

theorem pe_step {e st : Expr} {te tk : TE} {p3 pos : Pos} (he : PE X e te) (hst : PE X st tk)
    (hgo : ∀ v sl, subscripted (.Slice none none (some st) p3) false v sl = operate [v, sl] (getItem v sl) := by intro _ _; rfl)
    (hlt : ∀ v r, letTemporaryGo e v r = pure () := by intro _ _; rfl) :
    PE X (.Subscript e (.Slice none none (some st) p3) pos) (tStep X.K te tk) := by
  constructor
  intro pins s σ H Q I h
  apply Subscript_
  refine thn (he.run pins s σ H _ I h) ?_
  rintro v s1 ⟨x, H1, I1, r1, q1⟩
  apply wpAny_Slice
  refine thn (po_none.run pins s1 σ H1 (fun o H2 => o = none ∧ H2 = H1) I1 ⟨rfl, rfl⟩) ?_
  rintro vl s2 ⟨l, H2, I2, pl, rfl, rfl⟩
  refine thn (po_none.run pins s2 σ H2 (fun o H3 => o = none ∧ H3 = H2) I2 ⟨rfl, rfl⟩) ?_
  rintro vu s3 ⟨u, H3, I3, pu, rfl, rfl⟩
  refine thn ((po_some hst).run pins s3 σ H3 _ I3 q1) ?_
  rintro vs s4 ⟨o, H4, I4, ps, a, xs, rfl, hk, hx, q⟩
  cases r1
  have I5 : Inv X pins σ H4 { s4 with heap := s4.heap.push { cls := .type "slice", data := .fields #[vl, vu, vs] } } :=
    I4.kept (t' := s4.toks) fun b ob z => Heap.get?_push_of_some _ z
  obtain ⟨its, r, ht, hz⟩ := I5.list hx
  have hlen := r.length
  have fin : ∀ (ys : List V) (its' : List Value), Vals ys its' → ys.length ≤ sizeLine → (∀ p, H4 p = none → Q (.ref p) (upd H4 p (.lst ys))) →
      EP X pins σ Q (.ref (s4.heap.push { cls := .type "slice", data := .fields #[vl, vu, vs] }).objs.size)
        { s4 with heap := (s4.heap.push { cls := .type "slice", data := .fields #[vl, vu, vs] }).push { cls := .type "list", data := .seq its'.toArray } } := by
    intro ys its' rv hz' hq
    refine ⟨.ref _, _, I5.laid (t' := s4.toks) (o := .lst ys) (fun b ob z => Heap.get?_push_of_some _ z) (Nat.le_refl _) ?_, rfl, hq _ (I5.hok.fresh (Nat.le_refl _))⟩
    exact ⟨hz', its', 0, rv, Heap.get?_push_size _ rfl⟩
  have hgo' := hgo (.ref a) (.ref s4.heap.objs.size)
  refine tail_any (ops := [.ref a, .ref s4.heap.objs.size]) ht.isList.typeIs (PySem.slot_list_getitem.lookup) ?_ hgo'
  refine wpAny_getItem_list_slice ht.isList (Heap.IsSliceOf.new _ vl vu vs) pl pu ps (by rcases hk with rfl | rfl <;> decide) ?_ (by rw [List.size_toArray]; omega)
  rcases hk with rfl | rfl
  · rw [slicePick_one]
    have e : stepV (some 1) xs = xs := by simp [stepV]
    rw [e] at q
    exact fin xs its r hz q
  · rw [PySem.W.krv_pick]
    have e : stepV (some (-1)) xs = xs.reverse := by simp [stepV]
    rw [e] at q
    exact fin xs.reverse its.reverse (Vals.reverse r) (by rw [List.length_reverse]; exact hz) q

/-! ## count of a flat thing; d[k] |= e -/
def rCnt (K : PySem.W.Frag) : V → List V → Hp → VK → Prop := fun x vs H Q => ∃ (p : Addr) (xs : List V) (y : V),
  x = .ref p ∧ vs = [y] ∧ SqL K H p xs ∧ flatV y = true ∧ xs.all flatV = true ∧ Q (.int ((xs.countP fun z => eqV z y : Nat) : Int)) H
theorem countP_eqU {x : V} : ∀ {xs : List V} {us : List Value}, Vals xs us → xs.all flatV = true → us.countP (eqU x) = xs.countP fun y => eqV y x
  | _, _, .nil, _ => rfl
  | y :: xs, u :: us, .cons r t, hf => by
    rw [List.all_cons, Bool.and_eq_true] at hf
    rw [List.countP_cons, List.countP_cons, countP_eqU t hf.2, eqU_of r hf.1]
theorem mt_cnt : MtR X "list.count" (rCnt X.K) := by
  intro pins s σ H x xs v us Q I rx rxs h
  obtain ⟨p, ys, y, rfl, rfl, hs, hy, hf, q⟩ := h
  cases rx
  obtain ⟨u, rfl, ru⟩ := rxs.one
  obtain ⟨its, rv, ⟨⟨cls, dd, data, sl⟩, n, ho, hc, hdn, hd⟩, hlen⟩ := I.list hs
  simp only at hc hd
  subst hc hd
  refine call_meets PySem.F.slot_list_count ⟨_, ho, rfl⟩ PySem.F.entry_list_count (PySem.F.args_list_count_2 _ _)
    (SeqAt.list_countAt p its.toArray n dd sl u (eqU y)) ⟨ho, fun z hz => mem_eqAt ru hy rv hf z (by simpa using hz), ?_⟩
  refine ⟨.int ((ys.countP fun z => eqV z y : Nat) : Int), H, I.tok _, ⟨s.toks, ?_⟩, q⟩
  show Value.int ((its.toArray.toList.countP (eqU y) : Nat) : Int) s.toks = Value.int ((ys.countP fun z => eqV z y : Nat) : Int) s.toks
  rw [show its.toArray.toList = its from rfl, countP_eqU rv hf]
theorem in_or : InOp X .BitOr (rI0 fun i j => .int (Builtin.bitOr i j)) := by
  rintro pins s σ H x y u v Q I rx ry ⟨i, j, rfl, rfl, q⟩
  obtain ⟨t, rfl⟩ := (show ∃ t, u = Value.int i t from rx)
  obtain ⟨t', rfl⟩ := (show ∃ t', v = Value.int j t' from ry)
  exact ior_int ⟨.int _, H, I.tok _, ⟨_, rfl⟩, q⟩
end

/-! ## the end of a law whose def is a FnG -/
theorem law_callG {P : Program} {w : World} {K : PySem.W.Frag} {mg mb : Str → Option Value} {k : Nat} {fa a : Addr} {fd : FuncData} {x : Str} {sp : Sp} {s1 : Shared}
    {vs : List Value} {ns : List Int} (inK : K.In s1.heap) (gn : s1.heap.Ns mainGlobals mg) (bn : s1.heap.Ns builtinsNs mb)
    (bb : ∀ x : Str, x ≠ "__name__" → mb x = bootBuiltins x) (nl : s1.heap.NoLimit) (g0 : s1.gens = #[])
    (ha : s1.heap.get? a = some { cls := .type "list", data := .seq vs.toArray }) (hi : IntsAre vs ns) (hl : ns.length ≤ sizeLine) (hr : Room k callerA)
    (F : ∀ base : Heap, K.In base → base.Ns mainGlobals mg → FnG P w K mg base CX0 k fa fd [x] sp)
    (bnd : ∀ (s : Shared) (u : Value), BindsTo s fd ⟨[u], []⟩ [(x, u)])
    (hsp : ∀ H : Hp, Only H → SqL K H a (ns.map V.int) → sp [.ref a] H (fun v _ => v = .bl true) fun _ _ _ => False) :
    codeAny (model P w) callerA (.call (.ref fa) ⟨[.ref a], []⟩) (fun r s' => r = .ok (.ret (.bool true)) ∧ OldK s1.heap s'.heap ∧ s'.os = s1.os ∧ AllBare s'.gens) s1 := by
  have rel := vals_ints hi
  have vlen := hi.length
  have main : ∀ H : Hp, Only H → SqL K H a (ns.map V.int) → HOk P w H s1.heap → (∀ b u, H b = some u → b = a ∧ K.lookup a = none) →
      codeAny (model P w) callerA (.call (.ref fa) ⟨[.ref a], []⟩) (fun r s' => r = .ok (.ret (.bool true)) ∧ OldK s1.heap s'.heap ∧ s'.os = s1.os ∧ AllBare s'.gens) s1 := by
    intro H only hS hok own
    have undict : ∀ {b : Addr} {o : Obj} {es : Array DictEntry} {ep : Nat}, s1.heap.get? b = some o → o.data = .dict es ep → H b = none := by
      intro b o es ep e d
      match q : H b with
      | none => rfl
      | some u =>
        obtain ⟨rfl, _⟩ := own b u q
        rw [ha] at e
        cases e
        have d' : Data.seq vs.toArray _ = Data.dict es ep := d
        cases d'
    have nsOf : ∀ {b : Addr} {m : Str → Option Value}, s1.heap.Ns b m → (hidT s1.heap H).Ns b m :=
      fun ⟨o, es, ep, e, d, r⟩ => ⟨o, es, ep, hidT_get e (undict e d), d, r⟩
    have kIn : K.In (hidT s1.heap H) := by
      intro b o e
      refine hidT_get (inK b o e) ?_
      match q : H b with
      | none => rfl
      | some u =>
        obtain ⟨rfl, hk⟩ := own b u q
        rw [hk] at e
        cases e
    have modOk : Mod K mg (hidT s1.heap H) :=
      ⟨kIn, nsOf gn, ⟨mb, nsOf bn, bb⟩, let ⟨mc, h1, h2⟩ := nl; ⟨mc, nsOf h1, h2⟩⟩
    have env0 : Env0 P w K mg (hidT s1.heap H) callerA [] s1 H :=
      ⟨rfl, modOk, fun b o e => of_hidT e, Nat.le_of_eq (hidT_size _ _), trivial, fun b hb => absurd (show b ∈ ([] : List Addr) from hb) (by simp), hok, .of_eq g0⟩
    refine codeAny_mono ((F _ kIn (nsOf gn)).go callerA [] s1 H ⟨[.ref a], []⟩ [.ref a] [.ref a] _ _ hr rfl env0 (bnd s1 (.ref a)) (.cons rfl .nil) (hsp H only hS)) ?_
    intro r s' h
    match r, h with
    | .error e, h => exact h.elim
    | .ok .next, h => exact h.elim
    | .ok .brk, h => exact h.elim
    | .ok .cont, h => exact h.elim
    | .ok (.ret u), h =>
      obtain ⟨v, H', os, bare, un, hok', r', q⟩ := h
      obtain rfl : v = .bl true := q
      obtain rfl : u = Value.bool true := r'
      refine ⟨rfl, OldK.of_keep ?_, os, bare⟩
      intro b o e
      match q : H b with
      | none => exact un.keep b o e q (by intro z; exact absurd (show b ∈ ([] : List Addr) from z) (by simp)) (by simp)
      | some u =>
        rcases only b with z | ⟨ob, xs, z⟩
        · rw [q] at z; cases z
        · have e1 := (hok b _ z).1
          have e2 := (hok' b _ (un.frzs b ob _ z)).1
          rw [e] at e1
          cases e1
          exact e2
  match hk : K.lookup a with
  | some o =>
    have e := inK a o hk
    rw [ha] at e
    cases e
    refine main (fun _ => none) (fun _ => .inl rfl) (.inr ⟨_, vs.toArray, _, hk, rfl, rfl, rfl, by rw [List.size_toArray, vlen]; exact hl, by simpa using rel⟩) ?_ ?_
    · intro b u z
      have z' : (none : Option HO) = some u := z
      cases z'
    · intro b u z
      have z' : (none : Option HO) = some u := z
      cases z'
  | none =>
    let ob : Obj := { cls := .type "list", data := .seq vs.toArray }
    have at_a : ∀ {b : Addr} {u : HO}, (if b = a then some (HO.frz ob (.lst (ns.map V.int))) else none) = some u → b = a ∧ u = .frz ob (.lst (ns.map V.int)) := by
      intro b u z
      by_cases hb : b = a
      · rw [if_pos hb] at z
        exact ⟨hb, (Option.some.inj z).symm⟩
      · rw [if_neg hb] at z
        cases z
    refine main (fun b => if b = a then some (.frz ob (.lst (ns.map V.int))) else none) ?_ (.inl (.inr ⟨ob, if_pos rfl⟩)) ?_ ?_
    · intro b
      by_cases hb : b = a
      · exact .inr ⟨_, _, if_pos hb⟩
      · exact .inl (if_neg hb)
    · intro b u z
      obtain ⟨rfl, rfl⟩ := at_a z
      exact ⟨ha, by rw [List.length_map]; exact hl, vs, _, rel, ha⟩
    · intro b u z
      exact ⟨(at_a z).1, hk⟩

theorem walkG {l : PySem.W.OpenLaw} {n k : Nat} {q : Program} {loose : List Str} {XP : (Str → Option Value) → Heap → Prop} {YP : World → Heap → Prop} {d : DefRec} {K : Params → PySem.W.Frag} {sp : World → Sp} {x : Str}
    (hn : l.most = some n) (hn2 : n ≤ sizeLine) (hdf : d.params.defaults = []) (hr : Room k callerA)
    (hY : ∀ (w : World) (h : Heap), YP w h → (K w.params).In h)
    (F : ∀ (w : World) (mg : Str → Option Value) (fa : Addr) (h : Heap), (K w.params).In h → h.Ns mainGlobals mg → mg d.name = some (.ref fa) →
      ∃ fd : FuncData, (∀ (s : Shared) (u : Value), BindsTo s fd ⟨[u], []⟩ [(x, u)]) ∧
        ∀ base : Heap, (K w.params).In base → base.Ns mainGlobals mg → FnG l.prog w (K w.params) mg base CX0 k fa fd [x] (sp w))
    (hsp : ∀ (w : World) (H : Hp) (a : Addr) (ns : List Int), ns.length ≤ n → Only H → SqL (K w.params) H a (ns.map V.int) → sp w [.ref a] H (fun v _ => v = .bl true) fun _ _ _ => False) :
    PySem.W.WalkO q loose XP YP l.row.toRowW d [] (fun f vs => PySem.call f vs) := by
  apply Att.attach_call hn hdf
  intro w s0 s1 mg mb fa o pm cd doc a vs ns G Y ho hd hcd hmg hobj hints hlen hg
  obtain ⟨fd, hb, hF⟩ := F w mg fa _ (hY w _ Y) G.T.g hmg
  exact law_callG (hY w _ Y) G.T.g G.T.b G.T.builtins G.T.nolimit hg hobj hints (Nat.le_trans hlen hn2) hr hF hb fun H hO hS => hsp w H a ns hlen hO hS
end Fo

/-! piece Aux2 -/
namespace Fo
open PySem PySem.Spec PyProof.Rows L2
/-- a def of the text that may be called by its name -/
structure Cal (P : Program) (w : World) (K : PySem.W.Frag) (mg : Str → Option Value) (base : Heap) (x : Str) (k : Nat) (ps : List Str) (sp : Sp) : Prop where
  ex : ∃ (f : Addr) (fd : FuncData), FnOk P w K mg base CX0 k f fd ps sp ∧ mg x = some (.ref f) ∧ PySem.W.keepIn K (.ref f) = true ∧ Binds K fd ps []
section
variable {X : Cx} {x : Str} {p pos : Pos} {e : Expr} {es : List Expr} {t : TA} {k j : Nat} {ps : List Str} {sp : Sp}
theorem pe_cal (C : Cal X.prog X.w X.K X.mg X.base x k ps sp) (hr : Room j X.A) (hkj : k ≤ j) (hg : Gl X x) (ha : PA X (e :: es) t)
    (hdb : (x == ("__debug__" : Str)) = false := by decide)
    (he : starEach (e :: es) X.env = (false, eval e X.env) :: starEach es X.env := by rfl)
    (hpl : (backTo pos (starEach es X.env)).any (·.1) = false := by rfl) :
    PE X (.Call (.Name x p) (e :: es) [] pos) (tCall sp [] E0 t) := by
  obtain ⟨f, fd, F, hm, hk, hb⟩ := C.ex
  exact pe_call F (hr.mono hkj) hg hm hk hb .nil pass0 ha hdb he hpl
end
theorem opAdd {X : Cx} : OpR X (binaryOp .Add) (fun x y H Q => rI0 (fun i j => .int (i + j)) x y H Q ∨ rCat x y H Q) := op_add.or op_cat
end Fo
namespace Fo
open PySem PySem.Spec PyProof.Rows L2
theorem mk_body {X : Cx} {b : List Stmt} {t : TS} {D : Ends} {σ : L2.St} {H : Hp} (h : PSs X b t) (r : t D σ H) : ∃ t, PSs X b t ∧ t D σ H := ⟨t, h, r⟩
end Fo
namespace Fo
open PySem PySem.Spec PyProof.Rows L2
def gOr (g g' : TG) : TG := fun v σ H Q => g v σ H Q ∨ g' v σ H Q
theorem PG_or {X : Cx} {tg : Expr} {g g' : TG} (h : PG X tg g) (h' : PG X tg g') : PG X tg (gOr g g') := by
  constructor
  intro pins s σ H v u Q I r q
  rcases q with q | q
  · exact h.run pins s σ H v u Q I r q
  · exact h'.run pins s σ H v u Q I r q
end Fo
namespace Fo
open PySem PySem.Spec PyProof.Rows L2
def ownOf (N : List Str) (sc : Scope) : List (Str × Nat) := sc.names.filterMap fun y => match y.2 with
  | .local => (N.idxOf? y.1).map fun i => (y.1, i)
  | .cell => (N.idxOf? y.1).map fun i => (y.1, i)
  | _ => none
section
variable {X : Cx}
theorem pe_lcO {N ps : List Str} {sc : Scope} {elt tg iter : Expr} {ifs : List Expr} {scope : Scope} {pos : Pos} {wi : TI} {g : TG} {tt : TT} {te : TE} {vs : List Nat}
    (S : FnScope N ps sc) (hXN : X.N = N) (hXs : X.env.scope = sc)
    (hv : (ownOf N scope).map (·.2) = vs) (hb : blkC N sc scope (ownOf N scope) = true) (hc : X.calm = true) (hi : PI X tg iter wi)
    (hg : ∀ (s : Shared) (H : Hp) (C : Addr) (cl : List (Str × Addr)) (fp : List Addr), PG (X.blk s H scope (compEnvC scope cl C X.env) fp) tg g)
    (ht : ∀ (s : Shared) (H : Hp) (C : Addr) (cl : List (Str × Addr)) (fp : List Addr), PTs (X.blk s H scope (compEnvC scope cl C X.env) fp) ifs tt)
    (he : ∀ (s : Shared) (H : Hp) (C : Addr) (cl : List (Str × Addr)) (fp : List Addr), PE (X.blk s H scope (compEnvC scope cl C X.env) fp) elt te)
    (hs : ∀ x, foldedSetIterable iter X.env x = pure x := by intro _; rfl) :
    PE X (.ListComp elt [⟨tg, iter, ifs, 0⟩] scope pos) (tLc wi g tt te vs) := by
  subst hv
  refine pe_lc hc (by rw [hXN]; exact S.nd) hi ?_ hg ht he hs
  rw [hXN, hXs]
  exact blkOk_by hb
theorem ps_setLcO {N ps : List Str} {sc : Scope} {i : Nat} {y : Str} {py : Pos} {elt tg iter : Expr} {ifs : List Expr} {scope : Scope} {pos spos : Pos} {wi : TI} {g : TG} {tt : TT} {te : TE} {vs : List Nat}
    (S : FnScope N ps sc) (hXN : X.N = N) (hXs : X.env.scope = sc)
    (hv : (ownOf N scope).map (·.2) = vs) (hb : blkC N sc scope (ownOf N scope) = true) (hc : X.calm = true) (hy : X.N[i]? = some y)
    (hyl : X.env.scope.names.lookup y = some .local)
    (hsw : swapsWith (.ListComp elt [⟨tg, iter, ifs, 0⟩] scope pos) (some (.Name y py)) spos.line X.env = pure true) (hi : PI X tg iter wi)
    (hg : ∀ (s : Shared) (H : Hp) (C : Addr) (cl : List (Str × Addr)) (fp : List Addr), PG (X.blk s H scope (compEnvC scope cl C X.env) fp) tg g)
    (ht : ∀ (s : Shared) (H : Hp) (C : Addr) (cl : List (Str × Addr)) (fp : List Addr), PTs (X.blk s H scope (compEnvC scope cl C X.env) fp) ifs tt)
    (he : ∀ (s : Shared) (H : Hp) (C : Addr) (cl : List (Str × Addr)) (fp : List Addr), PE (X.blk s H scope (compEnvC scope cl C X.env) fp) elt te)
    (hs : ∀ x, foldedSetIterable iter X.env x = pure x := by intro _; rfl) :
    PS X (.Assign [.Name y py] (.ListComp elt [⟨tg, iter, ifs, 0⟩] scope pos) spos) (tAsg (tLc wi g tt te vs) (gName i)) := by
  subst hv
  refine ps_setLc hc (by rw [hXN]; exact S.nd) hy hyl hsw hi ?_ hg ht he hs
  rw [hXN, hXs]
  exact blkOk_by hb
end
end Fo
namespace Fo
open PySem PySem.Spec PyProof.Rows L2
/-! rules whose reading names the written part by a letter of its own, for a comprehension's block -/
structure KMark (K : PySem.W.Frag) : Prop where
  mk ::
section
variable {X : Cx} {K : PySem.W.Frag}
theorem ix_seqK (_ : KMark K) (h : X.K = K) : IxR X (rIx K) := h ▸ ix_seq
theorem op_inK (_ : KMark K) (h : X.K = K) : OpR X (compareOp .In) (rIn K false) := h ▸ op_in_seq
theorem op_notInK (_ : KMark K) (h : X.K = K) : OpR X (compareOp .NotIn) (rIn K true) := h ▸ op_notIn_seq
def rEqB (K : PySem.W.Frag) : R2 := fun x y H Q => rEq x y H Q ∨ rEqD K x y H Q
def rNeB (K : PySem.W.Frag) : R2 := fun x y H Q => rNe x y H Q ∨ rNeD K x y H Q
theorem op_eqK (_ : KMark K) (h : X.K = K) (hu : X.A.units + 64 < cLine) : OpR X (compareOp .Eq) (rEqB K) := h ▸ op_eq.or (op_eqD hu)
theorem op_neK (_ : KMark K) (h : X.K = K) (hu : X.A.units + 64 < cLine) : OpR X (compareOp .NotEq) (rNeB K) := h ▸ op_ne.or (op_neD hu)
def cListOf (K : PySem.W.Frag) : List V → Hp → VK → Prop := fun xs H Q => ∃ p ys, xs = [.ref p] ∧ (SqL K H p ys ∨ SqT K H p ys) ∧ ∀ l, H l = none → Q (.ref l) (upd H l (.lst ys))
def cLen (K : PySem.W.Frag) : List V → Hp → VK → Prop := fun xs H Q => ∃ p ys, xs = [.ref p] ∧ (SqL K H p ys ∨ SqT K H p ys) ∧ Q (.int ys.length) H
theorem call_listK (_ : KMark K) (h : X.K = K) : CallR X (.type "list") (cListOf K) := h ▸ call_list_of
theorem call_lenK (_ : KMark K) (h : X.K = K) : CallR X (.builtin "len") (cLen K) := h ▸ call_len_seq
theorem cr_sortedK (_ : KMark K) (h : X.K = K) : CallR X (.builtin "sorted") (rSorted K) := h ▸ cr_sorted
def cRepr (K : PySem.W.Frag) : List V → Hp → VK → Prop := fun xs H Q => ∃ a d, xs = [.ref a] ∧ Dp K H (.ref a) d ∧ d.showable = true ∧ d.hasDict = false ∧ d.depth ≤ 60 ∧ d.shown.length ≤ sizeLine ∧ Q (.str d.shown) H
theorem call_reprK (_ : KMark K) (h : X.K = K) (hgd : X.A.guards = some []) (hu : X.A.units + 64 < cLine) : CallR X (.builtin "repr") (cRepr K) := h ▸ call_reprD hgd hu
def rAddB : R2 := fun x y H Q => rI0 (fun i j => .int (i + j)) x y H Q ∨ rCat x y H Q
theorem opAddB : OpR X (binaryOp .Add) rAddB := op_add.or op_cat
theorem pi_listK {tg l : Expr} {tl : TE} (_ : KMark K) (h : X.K = K) (hl : PE X l tl) : PI X tg l (iList K tl) := h ▸ pi_list hl
theorem pg_tup2 {a b : Expr} {k : Nat} {pos : Pos} {t : TGs} (_ : KMark K) (h : X.K = K) (hc : X.calm = true) (hg : PGs X [a, b] t)
    (hn : (assignEach [a, b] X.env).length = 2 := by rfl) (hst : (assignEach [a, b] X.env).findIdx? (·.1) = none := by rfl) : PG X (.Tuple [a, b] k pos) (gTup K 2 t) := h ▸ pg_tup hc hg hn hst
theorem pg_unl2 {a b : Expr} {k : Nat} {pos : Pos} {t : TGs} (_ : KMark K) (h : X.K = K) (hc : X.calm = true) (hg : PGs X [a, b] t)
    (hn : (assignEach [a, b] X.env).length = 2 := by rfl) (hst : (assignEach [a, b] X.env).findIdx? (·.1) = none := by rfl) : PG X (.Tuple [a, b] k pos) (gUnl K 2 t) := h ▸ pg_unl hc hg hn hst
theorem pe_stepK {e st : Expr} {te tk : TE} {p3 pos : Pos} (_ : KMark K) (h : X.K = K) (he : PE X e te) (hst : PE X st tk)
    (hgo : ∀ v sl, subscripted (.Slice none none (some st) p3) false v sl = operate [v, sl] (getItem v sl) := by intro _ _; rfl)
    (hlt : ∀ v r, letTemporaryGo e v r = pure () := by intro _ _; rfl) : PE X (.Subscript e (.Slice none none (some st) p3) pos) (tStep K te tk) := h ▸ pe_step he hst hgo hlt
theorem sl_listK (_ : KMark K) (h : X.K = K) : SlR X (rSlL K) := h ▸ sl_list
theorem mt_cntK (_ : KMark K) (h : X.K = K) : MtR X "list.count" (rCnt K) := h ▸ mt_cnt
def tTruth (K : PySem.W.Frag) (ta : TE) : TT := fun σ H Q => ta σ H fun x H' => ∃ k, TruV K x H' k ∧ Q k H'
theorem pt_truthK {a : Expr} {ta : TE} (_ : KMark K) (h : X.K = K) (ha : PE X a ta) (he : ∀ whole, isTrue a X.env whole = (do let v ← whole; standAt a.pos; holding [v] (truthy v))) : PT X a (tTruth K ta) := h ▸ pt_truth ha he
def cInt : List V → Hp → VK → Prop := fun xs H Q => (∃ i, xs = [.int i] ∧ Q (.int i) H) ∨ ∃ k, xs = [.bl k] ∧ Q (.int (if k then 1 else 0)) H
theorem call_intB : CallR X (.type "int") cInt := call_int1
end
end Fo

/-! piece Aux3 -/
namespace Fo
open PySem PySem.Spec PyProof.Rows L2
section
variable {X : Cx}
/-! ## x is not True -/
def isTrueV (x : V) : Bool := match x with
  | .bl true => true
  | _ => false
def rNotT : R2 := fun x y H Q => y = .bl true ∧ Q (.bl (!isTrueV x)) H
theorem op_notT : OpR X (compareOp .IsNot) rNotT := by
  intro pins s σ H x y v u Q I rx ry h
  obtain ⟨rfl, q⟩ := h
  cases (show u = Value.bool true from ry)
  have fin : ∀ b : Bool, b = !isTrueV x → EP X pins σ Q (.bool b) s := fun b e => ⟨.bl b, H, I, rfl, by rw [e]; exact q⟩
  cases x with
  | bl b =>
    cases (show v = Value.bool b from rx)
    cases b with
    | true => exact wpAny_isNot_self rfl (fin false rfl)
    | false => exact wpAny_isNot_other rfl (fun z => nomatch z) (fin true rfl)
  | non => cases (show v = Value.none from rx); exact wpAny_isNot_other rfl (fun z => nomatch z) (fin true rfl)
  | ty n => cases (show v = Value.type n from rx); exact wpAny_isNot_other rfl (fun z => nomatch z) (fin true rfl)
  | ref a => cases (show v = Value.ref a from rx); exact wpAny_isNot_other rfl (fun z => nomatch z) (fin true rfl)
  | int i => obtain ⟨t, rfl⟩ := (show ∃ t, v = Value.int i t from rx); exact wpAny_isNot_other rfl (fun z => nomatch z) (fin true rfl)
  | str i => obtain ⟨t, rfl⟩ := (show ∃ t, v = Value.str i t from rx); exact wpAny_isNot_other rfl (fun z => nomatch z) (fin true rfl)
  | byt i => obtain ⟨t, rfl⟩ := (show ∃ t, v = Value.bytes i t from rx); exact wpAny_isNot_other rfl (fun z => nomatch z) (fin true rfl)
  | flt i => obtain ⟨t, rfl⟩ := (show ∃ t, v = Value.float i t from rx); exact wpAny_isNot_other rfl (fun z => nomatch z) (fin true rfl)
/-! ## a test of three comparisons in a row -/
section
variable {a b c d : Expr} {pos : Pos} {ta tb tc td : TE}
def tChain3 (r r' r'' : R2) (ta tb tc td : TE) : TT := fun σ H Q => ta σ H fun x H1 => tb σ H1 fun y H2 => r x y H2 fun z H3 => ∃ k, z = .bl k ∧
  (if k = true then tc σ H3 fun w' H4 => r' y w' H4 fun z2 H5 => ∃ k2, z2 = .bl k2 ∧ (if k2 = true then td σ H5 fun w2 H6 => r'' w' w2 H6 fun z3 H7 => ∃ k3, z3 = .bl k3 ∧ Q k3 H7 else Q false H5) else Q false H3)
theorem pt_chain3 {op op' op'' : CmpOp} {r r' r'' : R2} (ho : OpR X (compareOp op) r) (ho' : OpR X (compareOp op') r') (ho'' : OpR X (compareOp op'') r'') (ha : PE X a ta) (hb : PE X b tb) (hc : PE X c tc) (hd : PE X d td)
    (hm : lastMarks [op, op', op''] [b, c, d] = false := by with_unfolding_all rfl) : PT X (.Compare a [op, op', op''] [b, c, d] pos) (tChain3 r r' r'' ta tb tc td) := by
  refine ⟨fun pins s σ H Q I h => ?_⟩
  refine isTrue_chain (thn (ha.run pins s σ H _ I h) fun v s1 ⟨x, H1, I1, r1, q1⟩ => test_link (thn (hb.run pins s1 σ H1 _ I1 q1) fun u s2 ⟨y, H2, I2, r2, q2⟩ =>
    thn (ho pins s2 σ H2 x y v u _ I2 r1 r2 q2) fun d s3 ⟨z, H3, I3, r3, k, e, q3⟩ => ?_)) hm
  subst e
  cases r3
  refine wpAny_truthy_bool ?_
  cases k with
  | false => exact ite_ff ⟨H3, I3, q3⟩
  | true =>
    refine ite_tt (test_link (thn (hc.run pins s3 σ H3 _ I3 q3) fun w' s4 ⟨z', H4, I4, r4, q4⟩ => thn (ho' pins s4 σ H4 y z' u w' _ I4 r2 r4 q4) fun d' s5 ⟨z2, H5, I5, r5, k2, e2, q5⟩ => ?_))
    subst e2
    cases r5
    refine wpAny_truthy_bool ?_
    cases k2 with
    | false => exact ite_ff ⟨H5, I5, q5⟩
    | true =>
      refine ite_tt (test_last (thn (hd.run pins s5 σ H5 _ I5 q5) fun w2 s6 ⟨z6, H6, I6, r6, q6⟩ => thn (ho'' pins s6 σ H6 z' z6 w' w2 _ I6 r4 r6 q6) fun d2 s7 ⟨z7, H7, I7, r7, k7, e7, q7⟩ => ?_))
      subst e7
      cases r7
      exact wpAny_truthy_bool ⟨H7, I7, q7⟩
end
/-! ## a[i] |= e of a list of ints -/
def rGetL : V → V → Hp → VK → Prop := fun o i H Q => ∃ p xs k j y, o = .ref p ∧ i = .int k ∧ H p = some (.lst xs) ∧ 0 ≤ k ∧ k.toNat = j ∧ xs[j]? = some y ∧ Q y H
theorem get_list : PGet X rGetL := by
  intro pins s σ H o i ov iv Q I ro ri h
  obtain ⟨p, xs, k, j, y, rfl, rfl, hp, h0, hj, hy, q⟩ := h
  cases ro
  obtain ⟨t, rfl⟩ := (show ∃ t, iv = Value.int k t from ri)
  obtain ⟨its, n, r, ho, hz⟩ := I.lst hp
  obtain ⟨w, ew, rw'⟩ := r.get hy
  have hl := r.length
  have hn := line63
  have hjl : j < xs.length := (List.getElem?_eq_some_iff.mp hy).1
  obtain ⟨its2, r2, pl, _⟩ := I.list (SqL.of hp)
  obtain ⟨w2, ew2, rw2⟩ := r2.get hy
  have fin : EP X pins σ Q w2 s := ⟨y, H, I, rw2, q⟩
  exact wpAny_mono (wpAny_getItem_list (Q := fun r s' => r = w2 ∧ EP X pins σ Q r s') pl.isList h0 (by omega) (by rw [hj]; simpa using ew2) ⟨rfl, fin⟩) (fun v s' z => z.2) (fun _ _ z => z)
theorem ip_or : PIp X .BitOr (ipI fun i j => Builtin.bitOr i j) := by
  intro pins s σ H x y v u Q I r1 r2 h
  obtain ⟨i, j, e1, e2, q⟩ := h
  subst e1; subst e2
  obtain ⟨t, rfl⟩ := r1
  obtain ⟨t', rfl⟩ := r2
  exact ior_int ⟨.int _, H, I.tok _, ⟨_, rfl⟩, q⟩
theorem ip_and : PIp X .BitAnd (ipI fun i j => Builtin.bitAnd i j) := by
  intro pins s σ H x y v u Q I r1 r2 h
  obtain ⟨i, j, e1, e2, q⟩ := h
  subst e1; subst e2
  obtain ⟨t, rfl⟩ := r1
  obtain ⟨t', rfl⟩ := r2
  exact iand_int ⟨.int _, H, I.tok _, ⟨_, rfl⟩, q⟩
theorem ip_xor : PIp X .BitXor (ipI fun i j => Builtin.bitXor i j) := by
  intro pins s σ H x y v u Q I r1 r2 h
  obtain ⟨i, j, e1, e2, q⟩ := h
  subst e1; subst e2
  obtain ⟨t, rfl⟩ := r1
  obtain ⟨t', rfl⟩ := r2
  exact ixor_int ⟨.int _, H, I.tok _, ⟨_, rfl⟩, q⟩
/-! ## bits of natural numbers -/
theorem bAnd (a b : Nat) : Builtin.bitAnd (a : Int) (b : Int) = ((a &&& b : Nat) : Int) := by
  rw [bitAnd_pp (Int.natCast_nonneg a) (Int.natCast_nonneg b)]
  rfl
theorem bOr (a b : Nat) : Builtin.bitOr (a : Int) (b : Int) = ((a ||| b : Nat) : Int) := by
  rw [bitOr_nn (Int.natCast_nonneg a) (Int.natCast_nonneg b)]
  rfl
theorem bit_test (v k : Nat) : (Builtin.bitAnd ((v : Int) / 2 ^ k) 1 != 0) = v.testBit k := by
  have e : (v : Int) / 2 ^ k = ((v / 2 ^ k : Nat) : Int) := by rw [Int.natCast_ediv, Int.natCast_pow]; rfl
  rw [e, show Builtin.bitAnd ((v / 2 ^ k : Nat) : Int) 1 = ((v / 2 ^ k &&& 1 : Nat) : Int) from bAnd _ 1, Nat.testBit_eq_decide_div_mod_eq, Nat.and_one_is_mod]
  rcases Nat.mod_two_eq_zero_or_one (v / 2 ^ k) with h | h <;> rw [h] <;> rfl
end
end Fo
namespace Fo
open PySem PySem.Spec PyProof.Rows L2
theorem cut_1 (xs : List V) : cutV xs (some 1) none = xs.drop 1 := by
  unfold cutV
  rw [show HT.sIx xs.length 0 (some 1) = min 1 xs.length from HT.sIx_nat xs.length 0 1, HT.sIx_none]
  cases xs with
  | nil => rfl
  | cons x r =>
    rw [show min 1 (x :: r).length = 1 from Nat.min_eq_left (by rw [List.length_cons]; omega), List.drop_succ_cons, List.drop_zero, List.length_cons, Nat.add_sub_cancel, List.take_length]
end Fo

/-! piece Text1 -/
namespace Fo
open PySem PySem.Spec PyProof.Rows L2
def topS (i : Nat) : Stmt := PySem.Challenge.pw_foldednets_k01_nets_and_products.main.body.getD i (.Pass ⟨0, 0, 0, 0⟩)
abbrev s_is_place : Stmt := topS 6
theorem sc_is_place : FnScope ["place", "places"] ["place", "places"] (defScope s_is_place) := ⟨rfl, rfl, rfl, by decide +kernel, rfl, by decide +kernel, by decide +kernel⟩
abbrev s_read_net : Stmt := topS 7
theorem sc_read_net : FnScope ["places", "lines", "bits", "place", "near", "at", "line", "low", "high"] ["places", "lines"] (defScope s_read_net) := ⟨rfl, rfl, rfl, by decide +kernel, rfl, by decide +kernel, by decide +kernel⟩
abbrev s_check_place : Stmt := topS 8
theorem sc_check_place : FnScope ["near", "place"] ["near", "place"] (defScope s_check_place) := ⟨rfl, rfl, rfl, by decide +kernel, rfl, by decide +kernel, by decide +kernel⟩
abbrev s_members : Stmt := topS 9
theorem sc_members : FnScope ["lot", "place"] ["lot"] (defScope s_members) := ⟨rfl, rfl, rfl, by decide +kernel, rfl, by decide +kernel, by decide +kernel⟩
abbrev s_beside : Stmt := topS 11
theorem sc_beside : FnScope ["places", "lines", "place", "near"] ["places", "lines", "place"] (defScope s_beside) := ⟨rfl, rfl, rfl, by decide +kernel, rfl, by decide +kernel, by decide +kernel⟩
abbrev s_product : Stmt := topS 12
theorem sc_product : FnScope ["places", "lines", "more", "ties", "near", "near_more"] ["places", "lines", "more", "ties"] (defScope s_product) := ⟨rfl, rfl, rfl, by decide +kernel, rfl, by decide +kernel, by decide +kernel⟩
abbrev s_product_lines : Stmt := topS 13
theorem sc_product_lines : FnScope ["near", "near_more", "more", "firsts", "lot", "seconds", "lines", "first", "rows", "one", "second", "low", "row", "two"] ["near", "near_more"] (defScope s_product_lines) := ⟨rfl, rfl, rfl, by decide +kernel, rfl, by decide +kernel, by decide +kernel⟩
abbrev s_law_draws : Stmt := topS 15
theorem sc_law_draws : FnScope ["_law_cell"] ["_law_cell"] (defScope s_law_draws) := ⟨rfl, rfl, rfl, by decide +kernel, rfl, by decide +kernel, by decide +kernel⟩
abbrev s_law_next : Stmt := topS 16
theorem sc_law_next : FnScope ["_law_draws_here", "_law_k", "_law_drawn"] ["_law_draws_here"] (defScope s_law_next) := ⟨rfl, rfl, rfl, by decide +kernel, rfl, by decide +kernel, by decide +kernel⟩
abbrev s_law_shuffled : Stmt := topS 17
theorem sc_law_shuffled : FnScope ["_law_draws_here", "_law_things", "_law_left", "_law_told"] ["_law_draws_here", "_law_things"] (defScope s_law_shuffled) := ⟨rfl, rfl, rfl, by decide +kernel, rfl, by decide +kernel, by decide +kernel⟩
abbrev s_law_grown : Stmt := topS 18
theorem sc_law_grown : FnScope ["_law_draws_here", "_law_size", "_law_sides", "_law_start", "_law_told", "_law_side", "_law_spot", "_law_goal", "_law_some", "_law_low", "_law_high", "_law_mate"] ["_law_draws_here", "_law_size", "_law_sides", "_law_start"] (defScope s_law_grown) := ⟨rfl, rfl, rfl, by decide +kernel, rfl, by decide +kernel, by decide +kernel⟩
abbrev s_law_web : Stmt := topS 19
theorem sc_law_web : FnScope ["_law_draws_here", "_law_size", "_law_kind", "_law_step", "_law_told", "_law_low", "_law_high", "_law_far", "_law_ring", "_law_spot", "_law_names", "_law_side"] ["_law_draws_here", "_law_size", "_law_kind"] (defScope s_law_web) := ⟨rfl, rfl, rfl, by decide +kernel, rfl, by decide +kernel, by decide +kernel⟩
abbrev s_law_near : Stmt := topS 20
theorem sc_law_near : FnScope ["_law_size", "_law_sides", "_law_told", "_law_spot", "_law_low", "_law_high"] ["_law_size", "_law_sides"] (defScope s_law_near) := ⟨rfl, rfl, rfl, by decide +kernel, rfl, by decide +kernel, by decide +kernel⟩
abbrev s_law_onto : Stmt := topS 21
theorem sc_law_onto : FnScope ["_law_near_here", "_law_left", "_law_spot", "_law_some", "_law_mate", "_law_one"] ["_law_near_here", "_law_left", "_law_spot"] (defScope s_law_onto) := ⟨rfl, rfl, rfl, by decide +kernel, rfl, by decide +kernel, by decide +kernel⟩
abbrev s_law_foldable : Stmt := topS 22
theorem sc_law_foldable : FnScope ["_law_near_here", "_law_left", "_law_spot"] ["_law_near_here", "_law_left"] (defScope s_law_foldable) := ⟨rfl, rfl, rfl, by decide +kernel, rfl, by decide +kernel, by decide +kernel⟩
abbrev s_law_right : Stmt := topS 23
theorem sc_law_right : FnScope ["_law_size", "_law_sides", "_law_before", "_law_near_here", "_law_spot", "_law_due", "_law_told"] ["_law_size", "_law_sides"] (defScope s_law_right) := ⟨rfl, rfl, rfl, by decide +kernel, rfl, by decide +kernel, by decide +kernel⟩
abbrev s_law_product : Stmt := topS 24
theorem sc_law_product : FnScope ["_law_size", "_law_sides", "_law_far", "_law_bars", "_law_near_here", "_law_beyond", "_law_spots", "_law_one", "_law_two", "_law_told", "_law_at", "_law_pair", "_law_later", "_law_mate"] ["_law_size", "_law_sides", "_law_far", "_law_bars"] (defScope s_law_product) := ⟨rfl, rfl, rfl, by decide +kernel, rfl, by decide +kernel, by decide +kernel⟩
abbrev s_law_product_right : Stmt := topS 25
theorem sc_law_product_right : FnScope ["_law_size", "_law_sides", "_law_far", "_law_bars", "_law_before", "_law_due", "_law_told", "_law_side"] ["_law_size", "_law_sides", "_law_far", "_law_bars"] (defScope s_law_product_right) := ⟨rfl, rfl, rfl, by decide +kernel, rfl, by decide +kernel, by decide +kernel⟩
abbrev s_law : Stmt := topS 26
theorem sc_law : FnScope ["_law_script", "_law_draws_here", "_law_cell", "_law_kind", "_law_size", "_law_sides", "_law_far", "_law_bars", "_law_ring"] ["_law_script"] (defScope s_law) := ⟨rfl, rfl, rfl, by decide +kernel, rfl, by decide +kernel, by decide +kernel⟩
end Fo

/-! piece Dat -/
namespace Fo
open PySem PySem.Spec PyProof.Rows L2
/-! ## plain data: may be compared and shown -/
structure DOk (n b : Nat) (d : PyData) : Prop where
  lay : d.canLay0 = true
  dep : d.depth ≤ n
  sh : d.showable = true
  nd : d.hasDict = false
  len : d.shown.length ≤ b
theorem DOk.mono {n m b c : Nat} {d : PyData} (h : DOk n b d) (hn : n ≤ m) (hb : b ≤ c) : DOk m c d :=
  ⟨h.lay, Nat.le_trans h.dep hn, h.sh, h.nd, Nat.le_trans h.len hb⟩
theorem DOk.shaped {n b : Nat} {d : PyData} (h : DOk n b d) (hn : n ≤ 64) : SeqAt.shaped d = true := by
  unfold SeqAt.shaped
  rw [h.lay, decide_eq_true (Nat.le_trans h.dep hn)]
  rfl
theorem dok_none : DOk 0 4 .none := ⟨rfl, Nat.le_refl _, rfl, rfl, by decide⟩
theorem dok_bool (k : Bool) : DOk 0 5 (.bool k) := by cases k <;> exact ⟨rfl, Nat.le_refl _, rfl, rfl, by decide⟩
theorem natLen : ∀ n : Fin 1000, (PyData.shown (.int (Int.ofNat n.val))).length ≤ 4 ∧ (PyData.shown (.int (Int.negSucc n.val))).length ≤ 5 := by decide +kernel
theorem dok_int {i : Int} (h : i.natAbs < 1000) : DOk 0 5 (.int i) := by
  refine ⟨rfl, Nat.le_refl _, ?_, rfl, ?_⟩
  · unfold PyData.showable
    apply decide_eq_true
    have h1 : i.natAbs.log2 ≤ i.natAbs := Nat.log2_le_self _
    omega
  · cases i with
    | ofNat n => exact Nat.le_trans (natLen ⟨n, h⟩).1 (by decide)
    | negSucc n => exact (natLen ⟨n, by simp [Int.natAbs_negSucc] at h; omega⟩).2
theorem textFrom_le : ∀ (ts : List Str) (k : Nat) (acc : Str), (textFrom k acc ts).length ≤ acc.length + piled ts
  | [], k, acc => by
    show acc.length ≤ acc.length + piled []
    rw [piled_nil]
    exact Nat.le_refl _
  | t :: r, k, acc => by
    have h := textFrom_le r (k + 1) (acc ++ (if k > 0 then ", " else "" : String) ++ t)
    have e : (acc ++ (if k > 0 then ", " else "" : String) ++ t).length ≤ acc.length + 2 + t.length := by
      rw [strLen_append, strLen_append]
      split
      · exact Nat.le_refl _
      · exact Nat.add_le_add_right (Nat.add_le_add_left (Nat.zero_le _) _) _
    rw [piled_cons]
    show (textFrom (k + 1) _ r).length ≤ _
    omega
theorem listText_le (ts : List Str) : (listText ts).length ≤ 2 + piled ts := by
  have h := textFrom_le ts 0 "["
  unfold listText
  rw [strLen_append]
  have e1 : (Str.ofString "[").length = 1 := rfl
  have e2 : (Str.ofString "]").length = 1 := rfl
  omega
theorem tupleText_le (ts : List Str) : (tupleText ts).length ≤ 3 + piled ts := by
  unfold tupleText
  rw [strLen_append, strLen_append]
  have e1 : (Str.ofString "(").length = 1 := rfl
  have e3 : (Str.ofString (if ts.length == 1 then ",)" else ")")).length ≤ 2 := by split <;> decide
  by_cases h : ts = []
  · subst h
    have : (Str.join ", " ([] : List Str)).length = 0 := rfl
    omega
  · have := join_length_add ts h
    omega
theorem all_of {n b : Nat} : ∀ {xs : List PyData}, (∀ x ∈ xs, DOk n b x) → PyData.canLayAll0 xs = true ∧ PyData.depthAll xs ≤ n ∧ PyData.showableAll xs = true ∧ PyData.hasDictAll xs = false ∧ piled (PyData.shownAll xs) ≤ xs.length * (b + 2)
  | [], _ => ⟨rfl, Nat.zero_le _, rfl, rfl, by show piled [] ≤ _; rw [piled_nil]; exact Nat.zero_le _⟩
  | x :: xs, h => by
    obtain ⟨h1, h2, h3, h4, h5⟩ := all_of (xs := xs) fun y hy => h y (List.mem_cons_of_mem _ hy)
    have hx := h x (List.mem_cons_self ..)
    refine ⟨?_, ?_, ?_, ?_, ?_⟩
    · unfold PyData.canLayAll0; rw [hx.lay, h1]; rfl
    · unfold PyData.depthAll; exact Nat.max_le.mpr ⟨hx.dep, h2⟩
    · unfold PyData.showableAll; rw [hx.sh, h3]; rfl
    · unfold PyData.hasDictAll; rw [hx.nd, h4]; rfl
    · show piled (PyData.shown x :: PyData.shownAll xs) ≤ (xs.length + 1) * (b + 2)
      rw [piled_cons, Nat.succ_mul]
      have := hx.len
      omega
theorem dok_list {n b : Nat} {xs : List PyData} (h : ∀ x ∈ xs, DOk n b x) : DOk (n + 1) (2 + xs.length * (b + 2)) (.list xs) := by
  obtain ⟨h1, h2, h3, h4, h5⟩ := all_of h
  refine ⟨?_, ?_, ?_, ?_, ?_⟩
  · unfold PyData.canLay0; exact h1
  · unfold PyData.depth; omega
  · unfold PyData.showable; exact h3
  · unfold PyData.hasDict; exact h4
  · unfold PyData.shown; exact Nat.le_trans (listText_le _) (by omega)
theorem dok_tuple {n b : Nat} {xs : List PyData} (h : ∀ x ∈ xs, DOk n b x) : DOk (n + 1) (3 + xs.length * (b + 2)) (.tuple xs) := by
  obtain ⟨h1, h2, h3, h4, h5⟩ := all_of h
  refine ⟨?_, ?_, ?_, ?_, ?_⟩
  · unfold PyData.canLay0; exact h1
  · unfold PyData.depth; omega
  · unfold PyData.showable; exact h3
  · unfold PyData.hasDict; exact h4
  · unfold PyData.shown; exact Nat.le_trans (tupleText_le _) (by omega)
theorem eqv_list_nil (ds : List PyData) : PyData.eqv (.list ds) (.list []) = ds.isEmpty := by
  cases ds <;> simp [PyData.eqv, PyData.eqvAll]

section
variable {K : PySem.W.Frag} {H H' : Hp}
theorem dp_ints : ∀ xs : List Int, DpAll K H (xs.map V.int) (xs.map PyData.int)
  | [] => .nil
  | x :: xs => .cons (.int x) (dp_ints xs)
theorem dpAll_of {f : V → PyData} : ∀ {xs : List V}, (∀ x ∈ xs, Dp K H x (f x)) → DpAll K H xs (xs.map f)
  | [], _ => .nil
  | x :: xs, h => .cons (h x (List.mem_cons_self ..)) (dpAll_of fun y hy => h y (List.mem_cons_of_mem _ hy))
end
end Fo
namespace Fo
open PySem PySem.Spec PyProof.Rows L2
theorem ifF {b : Bool} {A B : Prop} (e : b = false) (h : B) : if b = true then A else B := by
  rw [e, if_neg Bool.false_ne_true]
  exact h
theorem ifT {b : Bool} {A B : Prop} (e : b = true) (h : A) : if b = true then A else B := by
  rw [if_pos e]
  exact h
theorem perm_erase {α : Type} : ∀ {l : List α} {j : Nat} {y : α}, l[j]? = some y → (y :: l.eraseIdx j).Perm l
  | [], _, _, h => by simp at h
  | a :: r, 0, y, h => by
    simp at h
    subst h
    exact List.Perm.refl _
  | a :: r, j + 1, y, h => by
    simp only [List.getElem?_cons_succ] at h
    exact (List.Perm.swap a y _).trans (List.Perm.cons a (perm_erase h))
theorem perm_move {α : Type} {ts ls xs : List α} {j : Nat} {y : α} (h : ls[j]? = some y) (p : (ts ++ ls).Perm xs) : ((ts ++ [y]) ++ ls.eraseIdx j).Perm xs := by
  refine List.Perm.trans ?_ p
  rw [List.append_assoc]
  exact List.Perm.append_left ts (perm_erase h)
/-- an index that is a remainder by the length -/
theorem mod_ix {n : Int} {len : Nat} (h : 0 < len) : ∃ j, j < len ∧ n % (len : Int) = (j : Int) := by
  have h1 := Int.emod_nonneg n (show (len : Int) ≠ 0 by omega)
  have h2 := Int.emod_lt_of_pos n (show (0 : Int) < len by omega)
  exact ⟨(n % (len : Int)).toNat, by omega, by omega⟩
theorem seqIx {j len : Nat} (h : j < len) : PySem.seqIndex? (j : Int) len = some j := by
  have h1 : ixN len (j : Int) = some j := by
    unfold ixN
    rw [if_pos (by omega), if_pos (by omega)]
    rfl
  exact (ixN_seq h1).1
end Fo
namespace Fo
open PySem PySem.Spec PyProof.Rows L2
theorem same_upd {H0 H : Hp} {r : Addr} {o : HO} (s : Same H0 H) (h : H0 r = none) : Same H0 (upd H r o) := fun b x e => by
  rw [upd_ne (ne_of_none e h)]
  exact s b x e
/-- lists of numbers of our own, in a list of our own -/
structure LsAt (H0 H : Hp) (D : Addr) (rs : List Addr) (ts : List (List Int)) : Prop where
  hD : H D = some (.lst (rs.map V.ref))
  nd : rs.Nodup
  len : rs.length = ts.length
  at_ : ∀ (i : Nat) (r : Addr) (t : List Int), rs[i]? = some r → ts[i]? = some t → H r = some (.lst (t.map V.int))
  fr : ∀ r ∈ rs, H0 r = none
  nD : D ∉ rs
theorem LsAt.trk {H0 H : Hp} {D : Addr} {rs : List Addr} {ts : List (List Int)} (L : LsAt H0 H D rs ts) {r : Addr} (h : r ∈ rs) : ∃ o, H r = some o := by
  obtain ⟨i, hi⟩ := List.getElem?_of_mem h
  have hl : i < ts.length := by rw [← L.len]; exact (List.getElem?_eq_some_iff.mp hi).1
  exact ⟨_, L.at_ i r _ hi (List.getElem?_eq_getElem hl)⟩
theorem LsAt.nil {H0 H : Hp} {D : Addr} (h : H D = some (.lst [])) : LsAt H0 H D [] [] :=
  ⟨h, List.nodup_nil, rfl, (fun i r t h _ => by simp at h), (fun r h => nomatch h), (fun h => nomatch h)⟩
theorem LsAt.push {H0 H : Hp} {D r : Addr} {rs : List Addr} {ts : List (List Int)} {t : List Int} (L : LsAt H0 H D rs ts) (nr : H r = none) (n0 : H0 r = none) :
    LsAt H0 (upd (upd H r (.lst (t.map V.int))) D (.lst (rs.map V.ref ++ [V.ref r]))) D (rs ++ [r]) (ts ++ [t]) := by
  have hDr : D ≠ r := ne_of_none L.hD nr
  have hrn : r ∉ rs := fun h => by
    obtain ⟨o, e⟩ := L.trk h
    rw [nr] at e
    cases e
  refine ⟨?_, ?_, ?_, ?_, ?_, ?_⟩
  · rw [upd_same, List.map_append]
    rfl
  · rw [List.nodup_append]
    refine ⟨L.nd, by simp, ?_⟩
    intro a ha b hb
    simp at hb
    subst hb
    rintro rfl
    exact hrn ha
  · rw [List.length_append, List.length_append, L.len]
    rfl
  · intro i a u ha hu
    by_cases hi : i < rs.length
    · rw [List.getElem?_append_left hi] at ha
      rw [List.getElem?_append_left (by rw [← L.len]; exact hi)] at hu
      have hm := List.mem_of_getElem? ha
      rw [upd_ne (show a ≠ D from fun e => L.nD (by rw [← e]; exact hm)), upd_ne (show a ≠ r from fun e => hrn (by rw [← e]; exact hm))]
      exact L.at_ i a u ha hu
    · rw [List.getElem?_append_right (by omega)] at ha
      rw [List.getElem?_append_right (by rw [← L.len]; omega), ← L.len] at hu
      have e0 : i - rs.length = 0 := by
        have := (List.getElem?_eq_some_iff.mp ha).1
        simp at this
        omega
      rw [e0] at ha hu
      simp at ha hu
      subst ha hu
      rw [upd_ne hDr.symm, upd_same]
  · intro a ha
    rcases List.mem_append.mp ha with ha | ha
    · exact L.fr a ha
    · simp at ha
      subst ha
      exact n0
  · intro h
    rcases List.mem_append.mp h with h | h
    · exact L.nD h
    · simp at h
      exact hDr h
theorem LsAt.modify {H0 H : Hp} {D r : Addr} {rs : List Addr} {ts : List (List Int)} {j : Nat} {t : List Int} {v : Int} (L : LsAt H0 H D rs ts) (hr : rs[j]? = some r) (ht : ts[j]? = some t) :
    LsAt H0 (upd H r (.lst (t.map V.int ++ [V.int v]))) D rs (ts.modify j (· ++ [v])) := by
  have hm := List.mem_of_getElem? hr
  refine ⟨?_, L.nd, ?_, ?_, L.fr, L.nD⟩
  · rw [upd_ne (fun e => L.nD (by rw [e]; exact hm))]
    exact L.hD
  · rw [List.length_modify]
    exact L.len
  · intro i a u ha hu
    rw [List.getElem?_modify] at hu
    by_cases hij : i = j
    · subst hij
      rw [hr] at ha
      cases ha
      rw [ht] at hu
      simp at hu
      subst hu
      rw [upd_same, List.map_append]
      rfl
    · have hne : a ≠ r := fun e => by
        subst e
        exact hij (nd_ix L.nd ha hr)
      rw [upd_ne hne]
      simp only [if_neg (Ne.symm hij)] at hu
      exact L.at_ i a u ha (by simpa using hu)
theorem LsAt.fr_none {H0 H : Hp} {D : Addr} {rs : List Addr} {ts : List (List Int)} (L : LsAt H0 H D rs ts) (h : H0 D = none) : H0 D = none := h
theorem LsAt.but {H0 H : Hp} {D r : Addr} {rs : List Addr} {ts : List (List Int)} {o : HO} (L : LsAt H0 H D rs ts) (nr : H r = none) : LsAt H0 (upd H r o) D rs ts := by
  refine ⟨by rw [upd_ne (ne_of_none L.hD nr)]; exact L.hD, L.nd, L.len, ?_, L.fr, L.nD⟩
  intro i a u ha hu
  rw [upd_ne (ne_of_none (L.at_ i a u ha hu) nr)]
  exact L.at_ i a u ha hu
theorem LsAt.same {H0 H H' : Hp} {D : Addr} {rs : List Addr} {ts : List (List Int)} (L : LsAt H0 H D rs ts) (s : Same H H') : LsAt H0 H' D rs ts :=
  ⟨s _ _ L.hD, L.nd, L.len, fun i r t h1 h2 => s _ _ (L.at_ i r t h1 h2), L.fr, L.nD⟩
end Fo

/-! piece D1 -/
namespace Fo
open PySem PySem.Spec PyProof.Rows L2
local macro_rules | `(tactic| wtm_at "fo a") => `(tactic| first
  | exact pa_nil
  | (refine' pa_cons ?k1 ?k2; (case k1 => wtm_at "fo e"); (case k2 => wtm_at "fo a"))
  | fail "no")
local macro_rules | `(tactic| wtm_at "fo v") => `(tactic| first
  | exact pv 0
  | exact pv 1
  | exact pv 2
  | exact pv 3
  | exact pv 4
  | exact pv 5
  | exact pv 6
  | exact pv 7
  | exact pv 8
  | exact pv 9
  | exact pv 10
  | exact pv 11
  | exact pv 12
  | exact pv 13
  | exact pv 14
  | exact pv 15
  | fail "no")
local macro_rules | `(tactic| wtm_at "fo e") => `(tactic| first
  | with_reducible exact pe_int
  | with_reducible exact pe_bl
  | with_reducible exact pe_non
  | with_reducible exact pe_str
  | ((with_reducible show PE _ (.Name _ _) _); wtm_at "fo v")
  | ((with_reducible show PE _ (.BinOp _ .Add _ _) _); apply pe_op opAddB <;> wtm_at "fo e")
  | ((with_reducible show PE _ (.BinOp _ .Sub _ _) _); apply pe_op op_sub <;> wtm_at "fo e")
  | ((with_reducible show PE _ (.BinOp _ .Mult _ _) _); apply pe_op op_mul <;> wtm_at "fo e")
  | ((with_reducible show PE _ (.BinOp _ .Mod _ _) _); apply pe_op op_mod <;> wtm_at "fo e")
  | ((with_reducible show PE _ (.BinOp _ .FloorDiv _ _) _); apply pe_op op_fdiv <;> wtm_at "fo e")
  | ((with_reducible show PE _ (.BinOp _ .Pow _ _) _); apply pe_op op_powW <;> wtm_at "fo e")
  | ((with_reducible show PE _ (.BinOp _ .LShift _ _) _); apply pe_op op_shl <;> wtm_at "fo e")
  | ((with_reducible show PE _ (.BinOp _ .RShift _ _) _); apply pe_op op_shr <;> wtm_at "fo e")
  | ((with_reducible show PE _ (.BinOp _ .BitAnd _ _) _); apply pe_op op_and <;> wtm_at "fo e")
  | ((with_reducible show PE _ (.List _ _) _); apply pe_lst; wtm_at "fo a")
  | ((with_reducible show PE _ (.Tuple _ _ _) _); apply pe_tup; wtm_at "fo a")
  | ((with_reducible show PE _ (.ListComp _ [_] _ _) _); wtm_at "fo lc")
  | ((with_reducible show PE _ (.IfExp _ _ _ _) _); apply pe_ifExp; (· wtm_at "fo t"); (· wtm_at "fo e"); (· wtm_at "fo e"))
  | ((with_reducible show PE _ (.UnaryOp .USub _ _) _); apply pe_un un_neg; wtm_at "fo e")
  | ((with_reducible show PE _ (.Call (.Name _ _) [] (_ :: _) _) _); wtm_at "fo kcall")
  | ((with_reducible show PE _ (.Call (.Name _ _) _ _ _) _); wtm_at "fo call")
  | ((with_reducible show PE _ (.Call (.Attribute _ _ _) _ _ _) _); wtm_at "fo meth")
  | ((with_reducible show PE _ (.Compare _ _ _ _) _); wtm_at "fo cmp")
  | ((with_reducible show PE _ (.Subscript _ (.Slice _ _ _ _) _) _); wtm_at "fo slice")
  | ((with_reducible show PE _ (.Subscript _ _ _) _); refine' pe_ix (ix_seqK (by assumption) (by exact rfl)) ?ka ?kb (fun _ _ => rfl); (case ka => wtm_at "fo e"); (case kb => wtm_at "fo e"))
  | fail "no")
local macro_rules | `(tactic| wtm_at "fo own") => `(tactic| first
  | ((show _ = [0]); kernel_rfl!)
  | ((show _ = [1]); kernel_rfl!)
  | ((show _ = [2]); kernel_rfl!)
  | ((show _ = [3]); kernel_rfl!)
  | ((show _ = [4]); kernel_rfl!)
  | ((show _ = [5]); kernel_rfl!)
  | ((show _ = [6]); kernel_rfl!)
  | ((show _ = [7]); kernel_rfl!)
  | ((show _ = [8]); kernel_rfl!)
  | ((show _ = [9]); kernel_rfl!)
  | ((show _ = [10]); kernel_rfl!)
  | ((show _ = [11]); kernel_rfl!)
  | ((show _ = [12]); kernel_rfl!)
  | ((show _ = [13]); kernel_rfl!)
  | ((show _ = [14]); kernel_rfl!)
  | ((show _ = [15]); kernel_rfl!)
  | ((show _ = [0, 1]); kernel_rfl!)
  | ((show _ = [1, 2]); kernel_rfl!)
  | ((show _ = [2, 3]); kernel_rfl!)
  | ((show _ = [3, 4]); kernel_rfl!)
  | ((show _ = [4, 5]); kernel_rfl!)
  | ((show _ = [5, 6]); kernel_rfl!)
  | ((show _ = [6, 7]); kernel_rfl!)
  | ((show _ = [7, 8]); kernel_rfl!)
  | ((show _ = [8, 9]); kernel_rfl!)
  | ((show _ = [9, 10]); kernel_rfl!)
  | ((show _ = [10, 11]); kernel_rfl!)
  | ((show _ = [11, 12]); kernel_rfl!)
  | ((show _ = [12, 13]); kernel_rfl!)
  | ((show _ = [13, 14]); kernel_rfl!)
  | ((show _ = [14, 15]); kernel_rfl!)
  | fail "no")
local macro_rules | `(tactic| wtm_at "fo ts") => `(tactic| first
  | exact pts_nil
  | (apply pts_one; wtm_at "fo t")
  | fail "no")
local macro_rules | `(tactic| wtm_at "fo lc") => `(tactic| first
  | (refine' pe_lcO (by assumption) (by exact rfl) (by exact rfl) (by wtm_at "fo own") (by decide +kernel) rfl ?ki ?kg ?kt ?ke; (case ki => wtm_at "fo i"); (case kg => (intro _ _ _ _ _; wtm_at "fo g")); (case kt => (intro _ _ _ _ _; wtm_at "fo ts")); (case ke => (intro _ _ _ _ _; wtm_at "fo e")))
  | fail "no")
local macro_rules | `(tactic| wtm_at "fo part") => `(tactic| first
  | exact po_none
  | (apply po_some; wtm_at "fo e")
  | fail "no")
local macro_rules | `(tactic| wtm_at "fo slice") => `(tactic| first
  | ((with_reducible show PE _ (.Subscript _ (.Slice _ _ none _) _) _); refine' pe_slice (sl_listK (by assumption) (by exact rfl)) ?ka ?kb ?kc; (case ka => wtm_at "fo e"); (case kb => wtm_at "fo part"); (case kc => wtm_at "fo part"))
  | ((with_reducible show PE _ (.Subscript _ (.Slice none none (some _) _) _) _); refine' pe_stepK (by assumption) (by exact rfl) ?ka ?kb; (case ka => wtm_at "fo e"); (case kb => wtm_at "fo e"))
  | fail "no")
local macro_rules | `(tactic| wtm_at "fo cmp") => `(tactic| first
  | ((with_reducible show PE _ (.Compare _ [.Lt] _ _) _); refine' pe_cmpR op_lt ?ka ?kb (nomark _); (case ka => wtm_at "fo e"); (case kb => wtm_at "fo e"))
  | ((with_reducible show PE _ (.Compare _ [.LtE] _ _) _); refine' pe_cmpR op_le ?ka ?kb (nomark _); (case ka => wtm_at "fo e"); (case kb => wtm_at "fo e"))
  | ((with_reducible show PE _ (.Compare _ [.Gt] _ _) _); refine' pe_cmpR op_gt ?ka ?kb (nomark _); (case ka => wtm_at "fo e"); (case kb => wtm_at "fo e"))
  | ((with_reducible show PE _ (.Compare _ [.GtE] _ _) _); refine' pe_cmpR op_ge ?ka ?kb (nomark _); (case ka => wtm_at "fo e"); (case kb => wtm_at "fo e"))
  | ((with_reducible show PE _ (.Compare _ [.Eq] _ _) _); refine' pe_cmpR (op_eqK (by assumption) (by exact rfl) (Room.units (by assumption))) ?ka ?kb (nomark _); (case ka => wtm_at "fo e"); (case kb => wtm_at "fo e"))
  | ((with_reducible show PE _ (.Compare _ [.NotEq] _ _) _); refine' pe_cmpR (op_neK (by assumption) (by exact rfl) (Room.units (by assumption))) ?ka ?kb (nomark _); (case ka => wtm_at "fo e"); (case kb => wtm_at "fo e"))
  | fail "no")
local macro_rules | `(tactic| wtm_at "fo tcmp") => `(tactic| first
  | ((with_reducible show PT _ (.Compare _ [.Lt] _ _) _); refine' pt_cmpR op_lt ?ka ?kb (nomark _); (case ka => wtm_at "fo e"); (case kb => wtm_at "fo e"))
  | ((with_reducible show PT _ (.Compare _ [.LtE] _ _) _); refine' pt_cmpR op_le ?ka ?kb (nomark _); (case ka => wtm_at "fo e"); (case kb => wtm_at "fo e"))
  | ((with_reducible show PT _ (.Compare _ [.Gt] _ _) _); refine' pt_cmpR op_gt ?ka ?kb (nomark _); (case ka => wtm_at "fo e"); (case kb => wtm_at "fo e"))
  | ((with_reducible show PT _ (.Compare _ [.GtE] _ _) _); refine' pt_cmpR op_ge ?ka ?kb (nomark _); (case ka => wtm_at "fo e"); (case kb => wtm_at "fo e"))
  | ((with_reducible show PT _ (.Compare _ [.Eq] _ _) _); refine' pt_cmpR (op_eqK (by assumption) (by exact rfl) (Room.units (by assumption))) ?ka ?kb (nomark _); (case ka => wtm_at "fo e"); (case kb => wtm_at "fo e"))
  | ((with_reducible show PT _ (.Compare _ [.NotEq] _ _) _); refine' pt_cmpR (op_neK (by assumption) (by exact rfl) (Room.units (by assumption))) ?ka ?kb (nomark _); (case ka => wtm_at "fo e"); (case kb => wtm_at "fo e"))
  | ((with_reducible show PT _ (.Compare _ [.In] _ _) _); refine' pt_cmpR (op_inK (by assumption) (by exact rfl)) ?ka ?kb rfl; (case ka => wtm_at "fo e"); (case kb => wtm_at "fo e"))
  | ((with_reducible show PT _ (.Compare _ [.NotIn] _ _) _); refine' pt_cmpR (op_notInK (by assumption) (by exact rfl)) ?ka ?kb rfl; (case ka => wtm_at "fo e"); (case kb => wtm_at "fo e"))
  | fail "no")
local macro_rules | `(tactic| wtm_at "fo w") => `(tactic| first
  | ((with_reducible show PW _ (.BoolOp .And [_] _) _); apply pw_and1; wtm_at "fo t")
  | ((with_reducible show PW _ (.BoolOp .And _ _) _); apply pw_and; (· wtm_at "fo t"); (· wtm_at "fo w"))
  | ((with_reducible show PW _ (.BoolOp .Or [_] _) _); apply pw_or1; wtm_at "fo t")
  | ((with_reducible show PW _ (.BoolOp .Or _ _) _); apply pw_or; (· wtm_at "fo t"); (· wtm_at "fo w"))
  | fail "no")
local macro_rules | `(tactic| wtm_at "fo meth") => `(tactic| first
  | ((with_reducible show PE _ (.Call (.Attribute _ (Str.ofString "append") _) _ _ _) _); refine' pe_bm PySem.F.plainAttrs_list PySem.F.slot_list_append PySem.F.type_list_append mt_append ?ka ?kb; (case ka => wtm_at "fo e"); (case kb => wtm_at "fo a"))
  | ((with_reducible show PE _ (.Call (.Attribute _ (Str.ofString "pop") _) [_] _ _) _); refine' pe_bm PySem.F.plainAttrs_list PySem.F.slot_list_pop PySem.F.type_list_pop mt_popAt ?ka ?kb; (case ka => wtm_at "fo e"); (case kb => wtm_at "fo a"))
  | ((with_reducible show PE _ (.Call (.Attribute _ (Str.ofString "pop") _) [] _ _) _); refine' pe_bm0 PySem.F.plainAttrs_list PySem.F.slot_list_pop PySem.F.type_list_pop mt_pop ?ka; (case ka => wtm_at "fo e"))
  | fail "no")
local macro_rules | `(tactic| wtm_at "fo k") => `(tactic| first
  | exact pk_nil
  | (refine' pk_cons ?k1 ?k2; (case k1 => wtm_at "fo e"); (case k2 => wtm_at "fo k"))
  | fail "no")
local macro_rules | `(tactic| wtm_at "fo kcall") => `(tactic| first
  | (refine' pe_kcal (by assumption) (by assumption) (by decide) (by rfl) ?ka; (case ka => wtm_at "fo k"))
  | fail "no")
local macro_rules | `(tactic| wtm_at "fo call") => `(tactic| first
  | ((with_reducible show PE _ (.Call (.Name (Str.ofString "int") _) _ _ _) _); refine' pe_callTy call_intB (by rfl) (by assumption) (by decide +kernel) ?ka; (case ka => wtm_at "fo a"))
  | ((with_reducible show PE _ (.Call (.Name (Str.ofString "len") _) _ _ _) _); refine' pe_callB (call_lenK (by assumption) (by exact rfl)) (by rfl) (by assumption) PySem.boot_len ?ka; (case ka => wtm_at "fo a"))
  | ((with_reducible show PE _ (.Call (.Name (Str.ofString "list") _) [.Call (.Name (Str.ofString "range") _) [_, _] _ _] _ _) _); refine' pe_listRg rfl (by rfl) (by assumption) (prg_2 (by rfl) (by assumption) ?ka ?kb); (case ka => wtm_at "fo e"); (case kb => wtm_at "fo e"))
  | ((with_reducible show PE _ (.Call (.Name (Str.ofString "list") _) _ _ _) _); refine' pe_callTy (call_listK (by assumption) (by exact rfl)) (by rfl) (by assumption) (by decide +kernel) ?ka; (case ka => wtm_at "fo a"))
  | ((with_reducible show PE _ (.Call (.Name (Str.ofString "min") _) [_, _] _ _) _); refine' pe_callB (call_min2 rfl) (by rfl) (by assumption) (by decide +kernel) ?ka; (case ka => wtm_at "fo a"))
  | ((with_reducible show PE _ (.Call (.Name (Str.ofString "sorted") _) [_] _ _) _); refine' pe_callB (cr_sortedK (by assumption) (by exact rfl)) (by rfl) (by assumption) (by decide +kernel) ?ka; (case ka => wtm_at "fo a"))
  | ((with_reducible show PE _ (.Call (.Name (Str.ofString "repr") _) [_] _ _) _); refine' pe_callB (call_reprK (by assumption) (by exact rfl) (by assumption) (Room.units (by assumption))) (by rfl) (by assumption) (by decide +kernel) ?ka; (case ka => wtm_at "fo a"))
  | (refine' pe_cal (by assumption) (by assumption) (by decide) (by rfl) ?ka; (case ka => wtm_at "fo a"))
  | fail "no")
local macro_rules | `(tactic| wtm_at "fo setlc") => `(tactic| first
  | (refine' ps_setLcO (i := 0) (by assumption) (by exact rfl) (by exact rfl) (by wtm_at "fo own") (by decide +kernel) rfl rfl rfl (sw_true rfl rfl rfl (by decide +kernel)) ?ki ?kg ?kt ?ke; (case ki => wtm_at "fo i"); (case kg => (intro _ _ _ _ _; wtm_at "fo g")); (case kt => (intro _ _ _ _ _; wtm_at "fo ts")); (case ke => (intro _ _ _ _ _; wtm_at "fo e")))
  | (refine' ps_setLcO (i := 1) (by assumption) (by exact rfl) (by exact rfl) (by wtm_at "fo own") (by decide +kernel) rfl rfl rfl (sw_true rfl rfl rfl (by decide +kernel)) ?ki ?kg ?kt ?ke; (case ki => wtm_at "fo i"); (case kg => (intro _ _ _ _ _; wtm_at "fo g")); (case kt => (intro _ _ _ _ _; wtm_at "fo ts")); (case ke => (intro _ _ _ _ _; wtm_at "fo e")))
  | (refine' ps_setLcO (i := 2) (by assumption) (by exact rfl) (by exact rfl) (by wtm_at "fo own") (by decide +kernel) rfl rfl rfl (sw_true rfl rfl rfl (by decide +kernel)) ?ki ?kg ?kt ?ke; (case ki => wtm_at "fo i"); (case kg => (intro _ _ _ _ _; wtm_at "fo g")); (case kt => (intro _ _ _ _ _; wtm_at "fo ts")); (case ke => (intro _ _ _ _ _; wtm_at "fo e")))
  | (refine' ps_setLcO (i := 3) (by assumption) (by exact rfl) (by exact rfl) (by wtm_at "fo own") (by decide +kernel) rfl rfl rfl (sw_true rfl rfl rfl (by decide +kernel)) ?ki ?kg ?kt ?ke; (case ki => wtm_at "fo i"); (case kg => (intro _ _ _ _ _; wtm_at "fo g")); (case kt => (intro _ _ _ _ _; wtm_at "fo ts")); (case ke => (intro _ _ _ _ _; wtm_at "fo e")))
  | (refine' ps_setLcO (i := 4) (by assumption) (by exact rfl) (by exact rfl) (by wtm_at "fo own") (by decide +kernel) rfl rfl rfl (sw_true rfl rfl rfl (by decide +kernel)) ?ki ?kg ?kt ?ke; (case ki => wtm_at "fo i"); (case kg => (intro _ _ _ _ _; wtm_at "fo g")); (case kt => (intro _ _ _ _ _; wtm_at "fo ts")); (case ke => (intro _ _ _ _ _; wtm_at "fo e")))
  | (refine' ps_setLcO (i := 5) (by assumption) (by exact rfl) (by exact rfl) (by wtm_at "fo own") (by decide +kernel) rfl rfl rfl (sw_true rfl rfl rfl (by decide +kernel)) ?ki ?kg ?kt ?ke; (case ki => wtm_at "fo i"); (case kg => (intro _ _ _ _ _; wtm_at "fo g")); (case kt => (intro _ _ _ _ _; wtm_at "fo ts")); (case ke => (intro _ _ _ _ _; wtm_at "fo e")))
  | (refine' ps_setLcO (i := 6) (by assumption) (by exact rfl) (by exact rfl) (by wtm_at "fo own") (by decide +kernel) rfl rfl rfl (sw_true rfl rfl rfl (by decide +kernel)) ?ki ?kg ?kt ?ke; (case ki => wtm_at "fo i"); (case kg => (intro _ _ _ _ _; wtm_at "fo g")); (case kt => (intro _ _ _ _ _; wtm_at "fo ts")); (case ke => (intro _ _ _ _ _; wtm_at "fo e")))
  | (refine' ps_setLcO (i := 7) (by assumption) (by exact rfl) (by exact rfl) (by wtm_at "fo own") (by decide +kernel) rfl rfl rfl (sw_true rfl rfl rfl (by decide +kernel)) ?ki ?kg ?kt ?ke; (case ki => wtm_at "fo i"); (case kg => (intro _ _ _ _ _; wtm_at "fo g")); (case kt => (intro _ _ _ _ _; wtm_at "fo ts")); (case ke => (intro _ _ _ _ _; wtm_at "fo e")))
  | (refine' ps_setLcO (i := 8) (by assumption) (by exact rfl) (by exact rfl) (by wtm_at "fo own") (by decide +kernel) rfl rfl rfl (sw_true rfl rfl rfl (by decide +kernel)) ?ki ?kg ?kt ?ke; (case ki => wtm_at "fo i"); (case kg => (intro _ _ _ _ _; wtm_at "fo g")); (case kt => (intro _ _ _ _ _; wtm_at "fo ts")); (case ke => (intro _ _ _ _ _; wtm_at "fo e")))
  | (refine' ps_setLcO (i := 9) (by assumption) (by exact rfl) (by exact rfl) (by wtm_at "fo own") (by decide +kernel) rfl rfl rfl (sw_true rfl rfl rfl (by decide +kernel)) ?ki ?kg ?kt ?ke; (case ki => wtm_at "fo i"); (case kg => (intro _ _ _ _ _; wtm_at "fo g")); (case kt => (intro _ _ _ _ _; wtm_at "fo ts")); (case ke => (intro _ _ _ _ _; wtm_at "fo e")))
  | (refine' ps_setLcO (i := 10) (by assumption) (by exact rfl) (by exact rfl) (by wtm_at "fo own") (by decide +kernel) rfl rfl rfl (sw_true rfl rfl rfl (by decide +kernel)) ?ki ?kg ?kt ?ke; (case ki => wtm_at "fo i"); (case kg => (intro _ _ _ _ _; wtm_at "fo g")); (case kt => (intro _ _ _ _ _; wtm_at "fo ts")); (case ke => (intro _ _ _ _ _; wtm_at "fo e")))
  | (refine' ps_setLcO (i := 11) (by assumption) (by exact rfl) (by exact rfl) (by wtm_at "fo own") (by decide +kernel) rfl rfl rfl (sw_true rfl rfl rfl (by decide +kernel)) ?ki ?kg ?kt ?ke; (case ki => wtm_at "fo i"); (case kg => (intro _ _ _ _ _; wtm_at "fo g")); (case kt => (intro _ _ _ _ _; wtm_at "fo ts")); (case ke => (intro _ _ _ _ _; wtm_at "fo e")))
  | (refine' ps_setLcO (i := 12) (by assumption) (by exact rfl) (by exact rfl) (by wtm_at "fo own") (by decide +kernel) rfl rfl rfl (sw_true rfl rfl rfl (by decide +kernel)) ?ki ?kg ?kt ?ke; (case ki => wtm_at "fo i"); (case kg => (intro _ _ _ _ _; wtm_at "fo g")); (case kt => (intro _ _ _ _ _; wtm_at "fo ts")); (case ke => (intro _ _ _ _ _; wtm_at "fo e")))
  | (refine' ps_setLcO (i := 13) (by assumption) (by exact rfl) (by exact rfl) (by wtm_at "fo own") (by decide +kernel) rfl rfl rfl (sw_true rfl rfl rfl (by decide +kernel)) ?ki ?kg ?kt ?ke; (case ki => wtm_at "fo i"); (case kg => (intro _ _ _ _ _; wtm_at "fo g")); (case kt => (intro _ _ _ _ _; wtm_at "fo ts")); (case ke => (intro _ _ _ _ _; wtm_at "fo e")))
  | (refine' ps_setLcO (i := 14) (by assumption) (by exact rfl) (by exact rfl) (by wtm_at "fo own") (by decide +kernel) rfl rfl rfl (sw_true rfl rfl rfl (by decide +kernel)) ?ki ?kg ?kt ?ke; (case ki => wtm_at "fo i"); (case kg => (intro _ _ _ _ _; wtm_at "fo g")); (case kt => (intro _ _ _ _ _; wtm_at "fo ts")); (case ke => (intro _ _ _ _ _; wtm_at "fo e")))
  | (refine' ps_setLcO (i := 15) (by assumption) (by exact rfl) (by exact rfl) (by wtm_at "fo own") (by decide +kernel) rfl rfl rfl (sw_true rfl rfl rfl (by decide +kernel)) ?ki ?kg ?kt ?ke; (case ki => wtm_at "fo i"); (case kg => (intro _ _ _ _ _; wtm_at "fo g")); (case kt => (intro _ _ _ _ _; wtm_at "fo ts")); (case ke => (intro _ _ _ _ _; wtm_at "fo e")))
  | fail "no")
local macro_rules | `(tactic| wtm_at "fo set") => `(tactic| first
  | (refine' ps_set (i := 0) (by assumption) rfl (by first | exact Or.inl rfl | exact Or.inr rfl) ?ka; (case ka => wtm_at "fo e"))
  | (refine' ps_set (i := 1) (by assumption) rfl (by first | exact Or.inl rfl | exact Or.inr rfl) ?ka; (case ka => wtm_at "fo e"))
  | (refine' ps_set (i := 2) (by assumption) rfl (by first | exact Or.inl rfl | exact Or.inr rfl) ?ka; (case ka => wtm_at "fo e"))
  | (refine' ps_set (i := 3) (by assumption) rfl (by first | exact Or.inl rfl | exact Or.inr rfl) ?ka; (case ka => wtm_at "fo e"))
  | (refine' ps_set (i := 4) (by assumption) rfl (by first | exact Or.inl rfl | exact Or.inr rfl) ?ka; (case ka => wtm_at "fo e"))
  | (refine' ps_set (i := 5) (by assumption) rfl (by first | exact Or.inl rfl | exact Or.inr rfl) ?ka; (case ka => wtm_at "fo e"))
  | (refine' ps_set (i := 6) (by assumption) rfl (by first | exact Or.inl rfl | exact Or.inr rfl) ?ka; (case ka => wtm_at "fo e"))
  | (refine' ps_set (i := 7) (by assumption) rfl (by first | exact Or.inl rfl | exact Or.inr rfl) ?ka; (case ka => wtm_at "fo e"))
  | (refine' ps_set (i := 8) (by assumption) rfl (by first | exact Or.inl rfl | exact Or.inr rfl) ?ka; (case ka => wtm_at "fo e"))
  | (refine' ps_set (i := 9) (by assumption) rfl (by first | exact Or.inl rfl | exact Or.inr rfl) ?ka; (case ka => wtm_at "fo e"))
  | (refine' ps_set (i := 10) (by assumption) rfl (by first | exact Or.inl rfl | exact Or.inr rfl) ?ka; (case ka => wtm_at "fo e"))
  | (refine' ps_set (i := 11) (by assumption) rfl (by first | exact Or.inl rfl | exact Or.inr rfl) ?ka; (case ka => wtm_at "fo e"))
  | (refine' ps_set (i := 12) (by assumption) rfl (by first | exact Or.inl rfl | exact Or.inr rfl) ?ka; (case ka => wtm_at "fo e"))
  | (refine' ps_set (i := 13) (by assumption) rfl (by first | exact Or.inl rfl | exact Or.inr rfl) ?ka; (case ka => wtm_at "fo e"))
  | fail "no")
local macro_rules | `(tactic| wtm_at "fo t") => `(tactic| first
  | ((with_reducible show PT _ (.BoolOp _ _ _) _); apply PW.pt; wtm_at "fo w")
  | ((with_reducible show PT _ (.UnaryOp .Not _ _) _); apply pt_not; wtm_at "fo t")
  | ((with_reducible show PT _ (.Compare _ _ _ _) _); wtm_at "fo tcmp")
  | (refine' pt_truthK (by assumption) (by exact rfl) ?ka (by intro _; rfl); (case ka => wtm_at "fo e"))
  | fail "no")
local macro_rules | `(tactic| wtm_at "fo gn") => `(tactic| first
  | exact pg_name (i := 0) (by assumption) rfl (by first | exact Or.inl rfl | exact Or.inr rfl)
  | exact pg_name (i := 1) (by assumption) rfl (by first | exact Or.inl rfl | exact Or.inr rfl)
  | exact pg_name (i := 2) (by assumption) rfl (by first | exact Or.inl rfl | exact Or.inr rfl)
  | exact pg_name (i := 3) (by assumption) rfl (by first | exact Or.inl rfl | exact Or.inr rfl)
  | exact pg_name (i := 4) (by assumption) rfl (by first | exact Or.inl rfl | exact Or.inr rfl)
  | exact pg_name (i := 5) (by assumption) rfl (by first | exact Or.inl rfl | exact Or.inr rfl)
  | exact pg_name (i := 6) (by assumption) rfl (by first | exact Or.inl rfl | exact Or.inr rfl)
  | exact pg_name (i := 7) (by assumption) rfl (by first | exact Or.inl rfl | exact Or.inr rfl)
  | exact pg_name (i := 8) (by assumption) rfl (by first | exact Or.inl rfl | exact Or.inr rfl)
  | exact pg_name (i := 9) (by assumption) rfl (by first | exact Or.inl rfl | exact Or.inr rfl)
  | exact pg_name (i := 10) (by assumption) rfl (by first | exact Or.inl rfl | exact Or.inr rfl)
  | exact pg_name (i := 11) (by assumption) rfl (by first | exact Or.inl rfl | exact Or.inr rfl)
  | exact pg_name (i := 12) (by assumption) rfl (by first | exact Or.inl rfl | exact Or.inr rfl)
  | exact pg_name (i := 13) (by assumption) rfl (by first | exact Or.inl rfl | exact Or.inr rfl)
  | exact pg_name (i := 14) (by assumption) rfl (by first | exact Or.inl rfl | exact Or.inr rfl)
  | exact pg_name (i := 15) (by assumption) rfl (by first | exact Or.inl rfl | exact Or.inr rfl)
  | fail "no")
local macro_rules | `(tactic| wtm_at "fo par") => `(tactic| first
  | (refine' ps_par (i := 0) (j := 1) rfl (by assumption) rfl rfl (by decide) rfl rfl ?ka (by rfl); (case ka => wtm_at "fo a"))
  | (refine' ps_par (i := 1) (j := 2) rfl (by assumption) rfl rfl (by decide) rfl rfl ?ka (by rfl); (case ka => wtm_at "fo a"))
  | (refine' ps_par (i := 2) (j := 3) rfl (by assumption) rfl rfl (by decide) rfl rfl ?ka (by rfl); (case ka => wtm_at "fo a"))
  | (refine' ps_par (i := 3) (j := 4) rfl (by assumption) rfl rfl (by decide) rfl rfl ?ka (by rfl); (case ka => wtm_at "fo a"))
  | (refine' ps_par (i := 4) (j := 5) rfl (by assumption) rfl rfl (by decide) rfl rfl ?ka (by rfl); (case ka => wtm_at "fo a"))
  | (refine' ps_par (i := 5) (j := 6) rfl (by assumption) rfl rfl (by decide) rfl rfl ?ka (by rfl); (case ka => wtm_at "fo a"))
  | (refine' ps_par (i := 6) (j := 7) rfl (by assumption) rfl rfl (by decide) rfl rfl ?ka (by rfl); (case ka => wtm_at "fo a"))
  | (refine' ps_par (i := 7) (j := 8) rfl (by assumption) rfl rfl (by decide) rfl rfl ?ka (by rfl); (case ka => wtm_at "fo a"))
  | (refine' ps_par (i := 8) (j := 9) rfl (by assumption) rfl rfl (by decide) rfl rfl ?ka (by rfl); (case ka => wtm_at "fo a"))
  | (refine' ps_par (i := 9) (j := 10) rfl (by assumption) rfl rfl (by decide) rfl rfl ?ka (by rfl); (case ka => wtm_at "fo a"))
  | (refine' ps_par (i := 10) (j := 11) rfl (by assumption) rfl rfl (by decide) rfl rfl ?ka (by rfl); (case ka => wtm_at "fo a"))
  | (refine' ps_par (i := 11) (j := 12) rfl (by assumption) rfl rfl (by decide) rfl rfl ?ka (by rfl); (case ka => wtm_at "fo a"))
  | (refine' ps_par (i := 12) (j := 13) rfl (by assumption) rfl rfl (by decide) rfl rfl ?ka (by rfl); (case ka => wtm_at "fo a"))
  | (refine' ps_par (i := 13) (j := 14) rfl (by assumption) rfl rfl (by decide) rfl rfl ?ka (by rfl); (case ka => wtm_at "fo a"))
  | (refine' ps_par (i := 14) (j := 15) rfl (by assumption) rfl rfl (by decide) rfl rfl ?ka (by rfl); (case ka => wtm_at "fo a"))
  | fail "no")
local macro_rules | `(tactic| wtm_at "fo g") => `(tactic| first
  | ((with_reducible show PG _ (.Name _ _) _); wtm_at "fo gn")
  | ((with_reducible show PG _ (.Tuple _ _ _) _); apply PG_or; (· refine' pg_tup2 (by assumption) (by exact rfl) rfl ?kg; (case kg => wtm_at "fo gs")); (· refine' pg_unl2 (by assumption) (by exact rfl) rfl ?kg; (case kg => wtm_at "fo gs")))
  | fail "no")
local macro_rules | `(tactic| wtm_at "fo gs") => `(tactic| first
  | exact pgs_nil
  | (refine' pgs_cons ?k1 ?k2; (case k1 => wtm_at "fo g"); (case k2 => wtm_at "fo gs"))
  | fail "no")
local macro_rules | `(tactic| wtm_at "fo i") => `(tactic| first
  | ((with_reducible show PI _ _ (.Call (.Name (Str.ofString "range") _) [_] _ _) _); refine' pi_range1 (by rfl) (by assumption) ?ka; (case ka => wtm_at "fo a"))
  | ((with_reducible show PI _ _ (.Call (.Name (Str.ofString "range") _) [_, _] _ _) _); refine' pi_range2 (by rfl) (by assumption) ?ka; (case ka => wtm_at "fo a"))
  | ((with_reducible show PI _ _ (.Call (.Name (Str.ofString "enumerate") _) [_] _ _) _); refine' pi_enum (by rfl) (by assumption) ?ka; (case ka => wtm_at "fo a"))
  | (refine' pi_listK (by assumption) (by exact rfl) ?ka; (case ka => wtm_at "fo e"))
  | fail "no")
local macro_rules | `(tactic| wtm_at "fo s") => `(tactic| first
  | ((with_reducible show PS _ (.While _ _ _ _) _); refine' ps_while PassesOwn.never ?kt ?kb; (case kt => wtm_at "fo t"); (case kb => wtm_at "fo ss"))
  | ((with_reducible show PS _ (.For _ _ _ _ _) _); refine' ps_for PassesOwn.never rfl ?ki ?kg ?kb; (case ki => wtm_at "fo i"); (case kg => wtm_at "fo g"); (case kb => wtm_at "fo ss"))
  | ((with_reducible show PS _ (.Assign [.Name _ _] (.ListComp _ [_] _ _) _) _); wtm_at "fo setlc")
  | ((with_reducible show PS _ (.Assign [.Name _ _] _ _) _); wtm_at "fo set")
  | ((with_reducible show PS _ (.Assign [.Tuple [.Name _ _, .Name _ _] _ _] (.Tuple [_, _] _ _) _) _); wtm_at "fo par")
  | ((with_reducible show PS _ (.Assign [.Subscript _ _ _] _ _) _); refine' ps_asg ?ka (pg_sub ?kb ?kc set_list); (case ka => wtm_at "fo e"); (case kb => wtm_at "fo e"); (case kc => wtm_at "fo e"))
  | ((with_reducible show PS _ (.Return (some _) _) _); apply ps_ret; wtm_at "fo e")
  | ((with_reducible show PS _ (.Expr _ _) _); refine' ps_expr ?ka; (case ka => wtm_at "fo e"))
  | ((with_reducible show PS _ (.If _ _ _ _) _); apply ps_if; (· wtm_at "fo t"); (· wtm_at "fo ss"); (· wtm_at "fo ss"))
  | fail "no")
local macro_rules | `(tactic| wtm_at "fo ss") => `(tactic| first
  | with_reducible exact pss_nil
  | ((with_reducible show PSs _ [_] _); apply pss_one; wtm_at "fo s")
  | (apply pss_cons; (· wtm_at "fo s"); (· wtm_at "fo ss"))
  | fail "no")
local macro_rules | `(tactic| wtm_at "fo hp") => `(tactic| first
  | assumption
  | exact upd_same
  | (refine (upd_ne ?ne).trans ?hp; (case ne => wtm_at "fo ne"); (case hp => wtm_at "fo hp"))
  | fail "no")
local macro_rules | `(tactic| wtm_at "fo ne") => `(tactic| first
  | assumption
  | (apply Ne.symm; assumption)
  | exact ne_of_none (by assumption) (by assumption)
  | exact Ne.symm (ne_of_none (by assumption) (by assumption))
  | fail "no")
local macro_rules | `(tactic| wtm_at "fo sz") => `(tactic| first
  | exact (Nat.le_of_ble_eq_true rfl : _ ≤ sizeLine)
  | exact (Nat.le_of_ble_eq_true rfl : _ < sizeLine)
  | exact Nat.lt_of_le_of_lt (m := 100000) (by first | assumption | omega | (simp; omega)) (by decide)
  | exact Nat.le_trans (m := 100000) (by first | assumption | omega | (simp; omega)) (by decide)
  | fail "no")
local macro_rules | `(tactic| wtm_at "fo r1") => `(tactic| first
  | refine ⟨(Nat.le_of_ble_eq_true rfl : _ ≤ sizeLine), fun p np => ?_⟩
  | (refine' ⟨_, _, rfl, Or.inl (SqL.of ?h), ?_⟩; (case h => wtm_at "fo hp"))
  | refine ⟨_, rfl, ?_⟩
  | refine ⟨_, _, rfl, rfl, ?_⟩
  | refine ⟨_, _, rfl, ⟨by omega, by omega, by omega, by omega⟩, ?_⟩
  | refine ⟨_, rfl, by omega, by omega, ?_⟩
  | refine Or.inl ⟨_, rfl, ?_⟩
  | refine Or.inl ⟨rfl, ?_⟩
  | refine Or.inl ⟨_, _, rfl, rfl, ?_⟩
  | (refine' Or.inl ⟨_, _, _, _, rfl, rfl, SqL.of ?h, ?a, ?_⟩; (case h => wtm_at "fo hp"); (case a => rfl))
  | (refine' ⟨_, _, _, _, rfl, rfl, ?h, ?a, ?_⟩; (case h => wtm_at "fo hp"); (case a => rfl))
  | (refine' ⟨.inl ⟨rfl, _, SqL.of ?h⟩, ?_⟩; (case h => wtm_at "fo hp"))
  | (refine' ⟨_, _, _, rfl, rfl, ?h, ?z, ?_⟩; (case h => wtm_at "fo hp"); (case z => wtm_at "fo sz"))
  | (refine' ⟨_, rfl, ⟨_, SqL.of ?h⟩, ?_⟩; (case h => wtm_at "fo hp"))
  | fail "no")
local macro_rules | `(tactic| wtm_at "fo side") => `(tactic| ((try dsimp only [CMul, CDiv]); first
  | assumption
  | decide
  | omega
  | exact ⟨by decide, by decide⟩
  | exact ⟨by omega, by omega⟩
  | decide +kernel
  | fail "no"))
local macro_rules | `(tactic| wtm_at "fo r2") => `(tactic| first
  | wtm_at "fo r1"
  | refine And.intro (by wtm_at "fo side") ?_
  | fail "no")
local macro_rules | `(tactic| wtm_at "fo r") => `(tactic| repeat wtm_at "fo r2")
def Dr (H : Hp) (d : Addr) (k : Int) : Prop := ∃ a b, H d = some (.lst [.int a, .int k, .bl b]) ∧ 0 ≤ k
def SameBut (d : Addr) (H H' : Hp) : Prop := ∀ b o, b ≠ d → H b = some o → H' b = some o
@[irreducible] def spNext : Sp := fun vs H Q _ => ∃ d k, vs = [.ref d] ∧ Dr H d k ∧ k < 2 ^ 40 ∧
  ∀ n H', 0 ≤ n → SameBut d H H' → Dr H' d (k + 1) → Q (.int n) H'
theorem call_next {d : Addr} {k : Int} {H : Hp} {Q : VK} {E : XK} (hd : Dr H d k) (hk : k < 2 ^ 40) (q : ∀ n H', 0 ≤ n → SameBut d H H' → Dr H' d (k + 1) → Q (.int n) H') : spNext [.ref d] H Q E := by
  unfold spNext
  exact ⟨d, k, rfl, hd, hk, q⟩
variable {P : Program} {w : World} {K : PySem.W.Frag} {mg : Str → Option Value} {base : Heap}
set_option maxHeartbeats 2000000 in
theorem ok_next {f : Addr} {fd : FuncData} (F : Fun K "_law_next" "_law_next" s_law_next f fd) (mi : mg "int" = none) :
    FnOk P w K mg base CX0 1 f fd ["_law_draws_here"] spNext := by
  refine F.ok sc_law_next (fun vs H Q E h => ?_) (fun cdv A outer s H vs Q E hr h => ?_)
  · unfold spNext at h
    obtain ⟨d, k, rfl, _⟩ := h
    rfl
  · have nd := sc_law_next.nd
    have hS := sc_law_next
    have hKM : KMark K := ⟨⟩
    have hmi : (cxOf CX0 P w K mg base ["_law_draws_here", "_law_k", "_law_drawn"] "_law_next" (defScope s_law_next) f cdv A outer s H E).nox.mg "int" = none := mi
    refine' mk_body ?body ?rd
    case body =>
      show PSs _ [_, _, _, _, _, _] _
      wtm_at "fo ss"
    case rd =>
     unfold spNext at h
     obtain ⟨d, k, rfl, ⟨a, b, hd, hk⟩, hk2, q⟩ := h
     wtm_at "fo r"
     refine ite2 (fun hb => ?_) (fun hb => ?_)
     · wtm_at "fo r"
       refine q _ _ (Int.emod_nonneg _ (by decide)) ?_ ⟨_, _, upd_same, by omega⟩
       intro c o hc e
       rw [upd_ne hc, upd_ne hc]
       exact e
     · wtm_at "fo r"
       refine q _ _ (by omega) ?_ ⟨_, _, upd_same, by omega⟩
       intro c o hc e
       rw [upd_ne hc]
       exact e

end Fo

/-! piece D2 -/
namespace Fo
open PySem PySem.Spec PyProof.Rows L2
local macro_rules | `(tactic| wtm_at "fo a") => `(tactic| first
  | exact pa_nil
  | (refine' pa_cons ?k1 ?k2; (case k1 => wtm_at "fo e"); (case k2 => wtm_at "fo a"))
  | fail "no")
local macro_rules | `(tactic| wtm_at "fo v") => `(tactic| first
  | exact pv 0
  | exact pv 1
  | exact pv 2
  | exact pv 3
  | exact pv 4
  | exact pv 5
  | exact pv 6
  | exact pv 7
  | exact pv 8
  | exact pv 9
  | exact pv 10
  | exact pv 11
  | exact pv 12
  | exact pv 13
  | exact pv 14
  | exact pv 15
  | fail "no")
local macro_rules | `(tactic| wtm_at "fo e") => `(tactic| first
  | with_reducible exact pe_int
  | with_reducible exact pe_bl
  | with_reducible exact pe_non
  | with_reducible exact pe_str
  | ((with_reducible show PE _ (.Name _ _) _); wtm_at "fo v")
  | ((with_reducible show PE _ (.BinOp _ .Add _ _) _); apply pe_op opAddB <;> wtm_at "fo e")
  | ((with_reducible show PE _ (.BinOp _ .Sub _ _) _); apply pe_op op_sub <;> wtm_at "fo e")
  | ((with_reducible show PE _ (.BinOp _ .Mult _ _) _); apply pe_op op_mul <;> wtm_at "fo e")
  | ((with_reducible show PE _ (.BinOp _ .Mod _ _) _); apply pe_op op_mod <;> wtm_at "fo e")
  | ((with_reducible show PE _ (.BinOp _ .FloorDiv _ _) _); apply pe_op op_fdiv <;> wtm_at "fo e")
  | ((with_reducible show PE _ (.BinOp _ .Pow _ _) _); apply pe_op op_powW <;> wtm_at "fo e")
  | ((with_reducible show PE _ (.BinOp _ .LShift _ _) _); apply pe_op op_shl <;> wtm_at "fo e")
  | ((with_reducible show PE _ (.BinOp _ .RShift _ _) _); apply pe_op op_shr <;> wtm_at "fo e")
  | ((with_reducible show PE _ (.BinOp _ .BitAnd _ _) _); apply pe_op op_and <;> wtm_at "fo e")
  | ((with_reducible show PE _ (.List _ _) _); apply pe_lst; wtm_at "fo a")
  | ((with_reducible show PE _ (.Tuple _ _ _) _); apply pe_tup; wtm_at "fo a")
  | ((with_reducible show PE _ (.ListComp _ [_] _ _) _); wtm_at "fo lc")
  | ((with_reducible show PE _ (.IfExp _ _ _ _) _); apply pe_ifExp; (· wtm_at "fo t"); (· wtm_at "fo e"); (· wtm_at "fo e"))
  | ((with_reducible show PE _ (.UnaryOp .USub _ _) _); apply pe_un un_neg; wtm_at "fo e")
  | ((with_reducible show PE _ (.Call (.Name _ _) [] (_ :: _) _) _); wtm_at "fo kcall")
  | ((with_reducible show PE _ (.Call (.Name _ _) _ _ _) _); wtm_at "fo call")
  | ((with_reducible show PE _ (.Call (.Attribute _ _ _) _ _ _) _); wtm_at "fo meth")
  | ((with_reducible show PE _ (.Compare _ _ _ _) _); wtm_at "fo cmp")
  | ((with_reducible show PE _ (.Subscript _ (.Slice _ _ _ _) _) _); wtm_at "fo slice")
  | ((with_reducible show PE _ (.Subscript _ _ _) _); refine' pe_ix (ix_seqK (by assumption) (by exact rfl)) ?ka ?kb (fun _ _ => rfl); (case ka => wtm_at "fo e"); (case kb => wtm_at "fo e"))
  | fail "no")
local macro_rules | `(tactic| wtm_at "fo own") => `(tactic| first
  | ((show _ = [0]); kernel_rfl!)
  | ((show _ = [1]); kernel_rfl!)
  | ((show _ = [2]); kernel_rfl!)
  | ((show _ = [3]); kernel_rfl!)
  | ((show _ = [4]); kernel_rfl!)
  | ((show _ = [5]); kernel_rfl!)
  | ((show _ = [6]); kernel_rfl!)
  | ((show _ = [7]); kernel_rfl!)
  | ((show _ = [8]); kernel_rfl!)
  | ((show _ = [9]); kernel_rfl!)
  | ((show _ = [10]); kernel_rfl!)
  | ((show _ = [11]); kernel_rfl!)
  | ((show _ = [12]); kernel_rfl!)
  | ((show _ = [13]); kernel_rfl!)
  | ((show _ = [14]); kernel_rfl!)
  | ((show _ = [15]); kernel_rfl!)
  | ((show _ = [0, 1]); kernel_rfl!)
  | ((show _ = [1, 2]); kernel_rfl!)
  | ((show _ = [2, 3]); kernel_rfl!)
  | ((show _ = [3, 4]); kernel_rfl!)
  | ((show _ = [4, 5]); kernel_rfl!)
  | ((show _ = [5, 6]); kernel_rfl!)
  | ((show _ = [6, 7]); kernel_rfl!)
  | ((show _ = [7, 8]); kernel_rfl!)
  | ((show _ = [8, 9]); kernel_rfl!)
  | ((show _ = [9, 10]); kernel_rfl!)
  | ((show _ = [10, 11]); kernel_rfl!)
  | ((show _ = [11, 12]); kernel_rfl!)
  | ((show _ = [12, 13]); kernel_rfl!)
  | ((show _ = [13, 14]); kernel_rfl!)
  | ((show _ = [14, 15]); kernel_rfl!)
  | fail "no")
local macro_rules | `(tactic| wtm_at "fo ts") => `(tactic| first
  | exact pts_nil
  | (apply pts_one; wtm_at "fo t")
  | fail "no")
local macro_rules | `(tactic| wtm_at "fo lc") => `(tactic| first
  | (refine' pe_lcO (by assumption) (by exact rfl) (by exact rfl) (by wtm_at "fo own") (by decide +kernel) rfl ?ki ?kg ?kt ?ke; (case ki => wtm_at "fo i"); (case kg => (intro _ _ _ _ _; wtm_at "fo g")); (case kt => (intro _ _ _ _ _; wtm_at "fo ts")); (case ke => (intro _ _ _ _ _; wtm_at "fo e")))
  | fail "no")
local macro_rules | `(tactic| wtm_at "fo part") => `(tactic| first
  | exact po_none
  | (apply po_some; wtm_at "fo e")
  | fail "no")
local macro_rules | `(tactic| wtm_at "fo slice") => `(tactic| first
  | ((with_reducible show PE _ (.Subscript _ (.Slice _ _ none _) _) _); refine' pe_slice (sl_listK (by assumption) (by exact rfl)) ?ka ?kb ?kc; (case ka => wtm_at "fo e"); (case kb => wtm_at "fo part"); (case kc => wtm_at "fo part"))
  | ((with_reducible show PE _ (.Subscript _ (.Slice none none (some _) _) _) _); refine' pe_stepK (by assumption) (by exact rfl) ?ka ?kb; (case ka => wtm_at "fo e"); (case kb => wtm_at "fo e"))
  | fail "no")
local macro_rules | `(tactic| wtm_at "fo cmp") => `(tactic| first
  | ((with_reducible show PE _ (.Compare _ [.Lt] _ _) _); refine' pe_cmpR op_lt ?ka ?kb (nomark _); (case ka => wtm_at "fo e"); (case kb => wtm_at "fo e"))
  | ((with_reducible show PE _ (.Compare _ [.LtE] _ _) _); refine' pe_cmpR op_le ?ka ?kb (nomark _); (case ka => wtm_at "fo e"); (case kb => wtm_at "fo e"))
  | ((with_reducible show PE _ (.Compare _ [.Gt] _ _) _); refine' pe_cmpR op_gt ?ka ?kb (nomark _); (case ka => wtm_at "fo e"); (case kb => wtm_at "fo e"))
  | ((with_reducible show PE _ (.Compare _ [.GtE] _ _) _); refine' pe_cmpR op_ge ?ka ?kb (nomark _); (case ka => wtm_at "fo e"); (case kb => wtm_at "fo e"))
  | ((with_reducible show PE _ (.Compare _ [.Eq] _ _) _); refine' pe_cmpR (op_eqK (by assumption) (by exact rfl) (Room.units (by assumption))) ?ka ?kb (nomark _); (case ka => wtm_at "fo e"); (case kb => wtm_at "fo e"))
  | ((with_reducible show PE _ (.Compare _ [.NotEq] _ _) _); refine' pe_cmpR (op_neK (by assumption) (by exact rfl) (Room.units (by assumption))) ?ka ?kb (nomark _); (case ka => wtm_at "fo e"); (case kb => wtm_at "fo e"))
  | fail "no")
local macro_rules | `(tactic| wtm_at "fo tcmp") => `(tactic| first
  | ((with_reducible show PT _ (.Compare _ [.Lt] _ _) _); refine' pt_cmpR op_lt ?ka ?kb (nomark _); (case ka => wtm_at "fo e"); (case kb => wtm_at "fo e"))
  | ((with_reducible show PT _ (.Compare _ [.LtE] _ _) _); refine' pt_cmpR op_le ?ka ?kb (nomark _); (case ka => wtm_at "fo e"); (case kb => wtm_at "fo e"))
  | ((with_reducible show PT _ (.Compare _ [.Gt] _ _) _); refine' pt_cmpR op_gt ?ka ?kb (nomark _); (case ka => wtm_at "fo e"); (case kb => wtm_at "fo e"))
  | ((with_reducible show PT _ (.Compare _ [.GtE] _ _) _); refine' pt_cmpR op_ge ?ka ?kb (nomark _); (case ka => wtm_at "fo e"); (case kb => wtm_at "fo e"))
  | ((with_reducible show PT _ (.Compare _ [.Eq] _ _) _); refine' pt_cmpR (op_eqK (by assumption) (by exact rfl) (Room.units (by assumption))) ?ka ?kb (nomark _); (case ka => wtm_at "fo e"); (case kb => wtm_at "fo e"))
  | ((with_reducible show PT _ (.Compare _ [.NotEq] _ _) _); refine' pt_cmpR (op_neK (by assumption) (by exact rfl) (Room.units (by assumption))) ?ka ?kb (nomark _); (case ka => wtm_at "fo e"); (case kb => wtm_at "fo e"))
  | ((with_reducible show PT _ (.Compare _ [.In] _ _) _); refine' pt_cmpR (op_inK (by assumption) (by exact rfl)) ?ka ?kb rfl; (case ka => wtm_at "fo e"); (case kb => wtm_at "fo e"))
  | ((with_reducible show PT _ (.Compare _ [.NotIn] _ _) _); refine' pt_cmpR (op_notInK (by assumption) (by exact rfl)) ?ka ?kb rfl; (case ka => wtm_at "fo e"); (case kb => wtm_at "fo e"))
  | fail "no")
local macro_rules | `(tactic| wtm_at "fo w") => `(tactic| first
  | ((with_reducible show PW _ (.BoolOp .And [_] _) _); apply pw_and1; wtm_at "fo t")
  | ((with_reducible show PW _ (.BoolOp .And _ _) _); apply pw_and; (· wtm_at "fo t"); (· wtm_at "fo w"))
  | ((with_reducible show PW _ (.BoolOp .Or [_] _) _); apply pw_or1; wtm_at "fo t")
  | ((with_reducible show PW _ (.BoolOp .Or _ _) _); apply pw_or; (· wtm_at "fo t"); (· wtm_at "fo w"))
  | fail "no")
local macro_rules | `(tactic| wtm_at "fo meth") => `(tactic| first
  | ((with_reducible show PE _ (.Call (.Attribute _ (Str.ofString "append") _) _ _ _) _); refine' pe_bm PySem.F.plainAttrs_list PySem.F.slot_list_append PySem.F.type_list_append mt_append ?ka ?kb; (case ka => wtm_at "fo e"); (case kb => wtm_at "fo a"))
  | ((with_reducible show PE _ (.Call (.Attribute _ (Str.ofString "pop") _) [_] _ _) _); refine' pe_bm PySem.F.plainAttrs_list PySem.F.slot_list_pop PySem.F.type_list_pop mt_popAt ?ka ?kb; (case ka => wtm_at "fo e"); (case kb => wtm_at "fo a"))
  | ((with_reducible show PE _ (.Call (.Attribute _ (Str.ofString "pop") _) [] _ _) _); refine' pe_bm0 PySem.F.plainAttrs_list PySem.F.slot_list_pop PySem.F.type_list_pop mt_pop ?ka; (case ka => wtm_at "fo e"))
  | fail "no")
local macro_rules | `(tactic| wtm_at "fo k") => `(tactic| first
  | exact pk_nil
  | (refine' pk_cons ?k1 ?k2; (case k1 => wtm_at "fo e"); (case k2 => wtm_at "fo k"))
  | fail "no")
local macro_rules | `(tactic| wtm_at "fo kcall") => `(tactic| first
  | (refine' pe_kcal (by assumption) (by assumption) (by decide) (by rfl) ?ka; (case ka => wtm_at "fo k"))
  | fail "no")
local macro_rules | `(tactic| wtm_at "fo call") => `(tactic| first
  | ((with_reducible show PE _ (.Call (.Name (Str.ofString "int") _) _ _ _) _); refine' pe_callTy call_intB (by rfl) (by assumption) (by decide +kernel) ?ka; (case ka => wtm_at "fo a"))
  | ((with_reducible show PE _ (.Call (.Name (Str.ofString "len") _) _ _ _) _); refine' pe_callB (call_lenK (by assumption) (by exact rfl)) (by rfl) (by assumption) PySem.boot_len ?ka; (case ka => wtm_at "fo a"))
  | ((with_reducible show PE _ (.Call (.Name (Str.ofString "list") _) [.Call (.Name (Str.ofString "range") _) [_, _] _ _] _ _) _); refine' pe_listRg rfl (by rfl) (by assumption) (prg_2 (by rfl) (by assumption) ?ka ?kb); (case ka => wtm_at "fo e"); (case kb => wtm_at "fo e"))
  | ((with_reducible show PE _ (.Call (.Name (Str.ofString "list") _) _ _ _) _); refine' pe_callTy (call_listK (by assumption) (by exact rfl)) (by rfl) (by assumption) (by decide +kernel) ?ka; (case ka => wtm_at "fo a"))
  | ((with_reducible show PE _ (.Call (.Name (Str.ofString "min") _) [_, _] _ _) _); refine' pe_callB (call_min2 rfl) (by rfl) (by assumption) (by decide +kernel) ?ka; (case ka => wtm_at "fo a"))
  | ((with_reducible show PE _ (.Call (.Name (Str.ofString "sorted") _) [_] _ _) _); refine' pe_callB (cr_sortedK (by assumption) (by exact rfl)) (by rfl) (by assumption) (by decide +kernel) ?ka; (case ka => wtm_at "fo a"))
  | ((with_reducible show PE _ (.Call (.Name (Str.ofString "repr") _) [_] _ _) _); refine' pe_callB (call_reprK (by assumption) (by exact rfl) (by assumption) (Room.units (by assumption))) (by rfl) (by assumption) (by decide +kernel) ?ka; (case ka => wtm_at "fo a"))
  | (refine' pe_cal (by assumption) (by assumption) (by decide) (by rfl) ?ka; (case ka => wtm_at "fo a"))
  | fail "no")
local macro_rules | `(tactic| wtm_at "fo setlc") => `(tactic| first
  | (refine' ps_setLcO (i := 0) (by assumption) (by exact rfl) (by exact rfl) (by wtm_at "fo own") (by decide +kernel) rfl rfl rfl (sw_true rfl rfl rfl (by decide +kernel)) ?ki ?kg ?kt ?ke; (case ki => wtm_at "fo i"); (case kg => (intro _ _ _ _ _; wtm_at "fo g")); (case kt => (intro _ _ _ _ _; wtm_at "fo ts")); (case ke => (intro _ _ _ _ _; wtm_at "fo e")))
  | (refine' ps_setLcO (i := 1) (by assumption) (by exact rfl) (by exact rfl) (by wtm_at "fo own") (by decide +kernel) rfl rfl rfl (sw_true rfl rfl rfl (by decide +kernel)) ?ki ?kg ?kt ?ke; (case ki => wtm_at "fo i"); (case kg => (intro _ _ _ _ _; wtm_at "fo g")); (case kt => (intro _ _ _ _ _; wtm_at "fo ts")); (case ke => (intro _ _ _ _ _; wtm_at "fo e")))
  | (refine' ps_setLcO (i := 2) (by assumption) (by exact rfl) (by exact rfl) (by wtm_at "fo own") (by decide +kernel) rfl rfl rfl (sw_true rfl rfl rfl (by decide +kernel)) ?ki ?kg ?kt ?ke; (case ki => wtm_at "fo i"); (case kg => (intro _ _ _ _ _; wtm_at "fo g")); (case kt => (intro _ _ _ _ _; wtm_at "fo ts")); (case ke => (intro _ _ _ _ _; wtm_at "fo e")))
  | (refine' ps_setLcO (i := 3) (by assumption) (by exact rfl) (by exact rfl) (by wtm_at "fo own") (by decide +kernel) rfl rfl rfl (sw_true rfl rfl rfl (by decide +kernel)) ?ki ?kg ?kt ?ke; (case ki => wtm_at "fo i"); (case kg => (intro _ _ _ _ _; wtm_at "fo g")); (case kt => (intro _ _ _ _ _; wtm_at "fo ts")); (case ke => (intro _ _ _ _ _; wtm_at "fo e")))
  | (refine' ps_setLcO (i := 4) (by assumption) (by exact rfl) (by exact rfl) (by wtm_at "fo own") (by decide +kernel) rfl rfl rfl (sw_true rfl rfl rfl (by decide +kernel)) ?ki ?kg ?kt ?ke; (case ki => wtm_at "fo i"); (case kg => (intro _ _ _ _ _; wtm_at "fo g")); (case kt => (intro _ _ _ _ _; wtm_at "fo ts")); (case ke => (intro _ _ _ _ _; wtm_at "fo e")))
  | (refine' ps_setLcO (i := 5) (by assumption) (by exact rfl) (by exact rfl) (by wtm_at "fo own") (by decide +kernel) rfl rfl rfl (sw_true rfl rfl rfl (by decide +kernel)) ?ki ?kg ?kt ?ke; (case ki => wtm_at "fo i"); (case kg => (intro _ _ _ _ _; wtm_at "fo g")); (case kt => (intro _ _ _ _ _; wtm_at "fo ts")); (case ke => (intro _ _ _ _ _; wtm_at "fo e")))
  | (refine' ps_setLcO (i := 6) (by assumption) (by exact rfl) (by exact rfl) (by wtm_at "fo own") (by decide +kernel) rfl rfl rfl (sw_true rfl rfl rfl (by decide +kernel)) ?ki ?kg ?kt ?ke; (case ki => wtm_at "fo i"); (case kg => (intro _ _ _ _ _; wtm_at "fo g")); (case kt => (intro _ _ _ _ _; wtm_at "fo ts")); (case ke => (intro _ _ _ _ _; wtm_at "fo e")))
  | (refine' ps_setLcO (i := 7) (by assumption) (by exact rfl) (by exact rfl) (by wtm_at "fo own") (by decide +kernel) rfl rfl rfl (sw_true rfl rfl rfl (by decide +kernel)) ?ki ?kg ?kt ?ke; (case ki => wtm_at "fo i"); (case kg => (intro _ _ _ _ _; wtm_at "fo g")); (case kt => (intro _ _ _ _ _; wtm_at "fo ts")); (case ke => (intro _ _ _ _ _; wtm_at "fo e")))
  | (refine' ps_setLcO (i := 8) (by assumption) (by exact rfl) (by exact rfl) (by wtm_at "fo own") (by decide +kernel) rfl rfl rfl (sw_true rfl rfl rfl (by decide +kernel)) ?ki ?kg ?kt ?ke; (case ki => wtm_at "fo i"); (case kg => (intro _ _ _ _ _; wtm_at "fo g")); (case kt => (intro _ _ _ _ _; wtm_at "fo ts")); (case ke => (intro _ _ _ _ _; wtm_at "fo e")))
  | (refine' ps_setLcO (i := 9) (by assumption) (by exact rfl) (by exact rfl) (by wtm_at "fo own") (by decide +kernel) rfl rfl rfl (sw_true rfl rfl rfl (by decide +kernel)) ?ki ?kg ?kt ?ke; (case ki => wtm_at "fo i"); (case kg => (intro _ _ _ _ _; wtm_at "fo g")); (case kt => (intro _ _ _ _ _; wtm_at "fo ts")); (case ke => (intro _ _ _ _ _; wtm_at "fo e")))
  | (refine' ps_setLcO (i := 10) (by assumption) (by exact rfl) (by exact rfl) (by wtm_at "fo own") (by decide +kernel) rfl rfl rfl (sw_true rfl rfl rfl (by decide +kernel)) ?ki ?kg ?kt ?ke; (case ki => wtm_at "fo i"); (case kg => (intro _ _ _ _ _; wtm_at "fo g")); (case kt => (intro _ _ _ _ _; wtm_at "fo ts")); (case ke => (intro _ _ _ _ _; wtm_at "fo e")))
  | (refine' ps_setLcO (i := 11) (by assumption) (by exact rfl) (by exact rfl) (by wtm_at "fo own") (by decide +kernel) rfl rfl rfl (sw_true rfl rfl rfl (by decide +kernel)) ?ki ?kg ?kt ?ke; (case ki => wtm_at "fo i"); (case kg => (intro _ _ _ _ _; wtm_at "fo g")); (case kt => (intro _ _ _ _ _; wtm_at "fo ts")); (case ke => (intro _ _ _ _ _; wtm_at "fo e")))
  | (refine' ps_setLcO (i := 12) (by assumption) (by exact rfl) (by exact rfl) (by wtm_at "fo own") (by decide +kernel) rfl rfl rfl (sw_true rfl rfl rfl (by decide +kernel)) ?ki ?kg ?kt ?ke; (case ki => wtm_at "fo i"); (case kg => (intro _ _ _ _ _; wtm_at "fo g")); (case kt => (intro _ _ _ _ _; wtm_at "fo ts")); (case ke => (intro _ _ _ _ _; wtm_at "fo e")))
  | (refine' ps_setLcO (i := 13) (by assumption) (by exact rfl) (by exact rfl) (by wtm_at "fo own") (by decide +kernel) rfl rfl rfl (sw_true rfl rfl rfl (by decide +kernel)) ?ki ?kg ?kt ?ke; (case ki => wtm_at "fo i"); (case kg => (intro _ _ _ _ _; wtm_at "fo g")); (case kt => (intro _ _ _ _ _; wtm_at "fo ts")); (case ke => (intro _ _ _ _ _; wtm_at "fo e")))
  | (refine' ps_setLcO (i := 14) (by assumption) (by exact rfl) (by exact rfl) (by wtm_at "fo own") (by decide +kernel) rfl rfl rfl (sw_true rfl rfl rfl (by decide +kernel)) ?ki ?kg ?kt ?ke; (case ki => wtm_at "fo i"); (case kg => (intro _ _ _ _ _; wtm_at "fo g")); (case kt => (intro _ _ _ _ _; wtm_at "fo ts")); (case ke => (intro _ _ _ _ _; wtm_at "fo e")))
  | (refine' ps_setLcO (i := 15) (by assumption) (by exact rfl) (by exact rfl) (by wtm_at "fo own") (by decide +kernel) rfl rfl rfl (sw_true rfl rfl rfl (by decide +kernel)) ?ki ?kg ?kt ?ke; (case ki => wtm_at "fo i"); (case kg => (intro _ _ _ _ _; wtm_at "fo g")); (case kt => (intro _ _ _ _ _; wtm_at "fo ts")); (case ke => (intro _ _ _ _ _; wtm_at "fo e")))
  | fail "no")
local macro_rules | `(tactic| wtm_at "fo set") => `(tactic| first
  | (refine' ps_set (i := 0) (by assumption) rfl (by first | exact Or.inl rfl | exact Or.inr rfl) ?ka; (case ka => wtm_at "fo e"))
  | (refine' ps_set (i := 1) (by assumption) rfl (by first | exact Or.inl rfl | exact Or.inr rfl) ?ka; (case ka => wtm_at "fo e"))
  | (refine' ps_set (i := 2) (by assumption) rfl (by first | exact Or.inl rfl | exact Or.inr rfl) ?ka; (case ka => wtm_at "fo e"))
  | (refine' ps_set (i := 3) (by assumption) rfl (by first | exact Or.inl rfl | exact Or.inr rfl) ?ka; (case ka => wtm_at "fo e"))
  | (refine' ps_set (i := 4) (by assumption) rfl (by first | exact Or.inl rfl | exact Or.inr rfl) ?ka; (case ka => wtm_at "fo e"))
  | (refine' ps_set (i := 5) (by assumption) rfl (by first | exact Or.inl rfl | exact Or.inr rfl) ?ka; (case ka => wtm_at "fo e"))
  | (refine' ps_set (i := 6) (by assumption) rfl (by first | exact Or.inl rfl | exact Or.inr rfl) ?ka; (case ka => wtm_at "fo e"))
  | (refine' ps_set (i := 7) (by assumption) rfl (by first | exact Or.inl rfl | exact Or.inr rfl) ?ka; (case ka => wtm_at "fo e"))
  | (refine' ps_set (i := 8) (by assumption) rfl (by first | exact Or.inl rfl | exact Or.inr rfl) ?ka; (case ka => wtm_at "fo e"))
  | (refine' ps_set (i := 9) (by assumption) rfl (by first | exact Or.inl rfl | exact Or.inr rfl) ?ka; (case ka => wtm_at "fo e"))
  | (refine' ps_set (i := 10) (by assumption) rfl (by first | exact Or.inl rfl | exact Or.inr rfl) ?ka; (case ka => wtm_at "fo e"))
  | (refine' ps_set (i := 11) (by assumption) rfl (by first | exact Or.inl rfl | exact Or.inr rfl) ?ka; (case ka => wtm_at "fo e"))
  | (refine' ps_set (i := 12) (by assumption) rfl (by first | exact Or.inl rfl | exact Or.inr rfl) ?ka; (case ka => wtm_at "fo e"))
  | (refine' ps_set (i := 13) (by assumption) rfl (by first | exact Or.inl rfl | exact Or.inr rfl) ?ka; (case ka => wtm_at "fo e"))
  | fail "no")
local macro_rules | `(tactic| wtm_at "fo t") => `(tactic| first
  | ((with_reducible show PT _ (.BoolOp _ _ _) _); apply PW.pt; wtm_at "fo w")
  | ((with_reducible show PT _ (.UnaryOp .Not _ _) _); apply pt_not; wtm_at "fo t")
  | ((with_reducible show PT _ (.Compare _ _ _ _) _); wtm_at "fo tcmp")
  | (refine' pt_truthK (by assumption) (by exact rfl) ?ka (by intro _; rfl); (case ka => wtm_at "fo e"))
  | fail "no")
local macro_rules | `(tactic| wtm_at "fo gn") => `(tactic| first
  | exact pg_name (i := 0) (by assumption) rfl (by first | exact Or.inl rfl | exact Or.inr rfl)
  | exact pg_name (i := 1) (by assumption) rfl (by first | exact Or.inl rfl | exact Or.inr rfl)
  | exact pg_name (i := 2) (by assumption) rfl (by first | exact Or.inl rfl | exact Or.inr rfl)
  | exact pg_name (i := 3) (by assumption) rfl (by first | exact Or.inl rfl | exact Or.inr rfl)
  | exact pg_name (i := 4) (by assumption) rfl (by first | exact Or.inl rfl | exact Or.inr rfl)
  | exact pg_name (i := 5) (by assumption) rfl (by first | exact Or.inl rfl | exact Or.inr rfl)
  | exact pg_name (i := 6) (by assumption) rfl (by first | exact Or.inl rfl | exact Or.inr rfl)
  | exact pg_name (i := 7) (by assumption) rfl (by first | exact Or.inl rfl | exact Or.inr rfl)
  | exact pg_name (i := 8) (by assumption) rfl (by first | exact Or.inl rfl | exact Or.inr rfl)
  | exact pg_name (i := 9) (by assumption) rfl (by first | exact Or.inl rfl | exact Or.inr rfl)
  | exact pg_name (i := 10) (by assumption) rfl (by first | exact Or.inl rfl | exact Or.inr rfl)
  | exact pg_name (i := 11) (by assumption) rfl (by first | exact Or.inl rfl | exact Or.inr rfl)
  | exact pg_name (i := 12) (by assumption) rfl (by first | exact Or.inl rfl | exact Or.inr rfl)
  | exact pg_name (i := 13) (by assumption) rfl (by first | exact Or.inl rfl | exact Or.inr rfl)
  | exact pg_name (i := 14) (by assumption) rfl (by first | exact Or.inl rfl | exact Or.inr rfl)
  | exact pg_name (i := 15) (by assumption) rfl (by first | exact Or.inl rfl | exact Or.inr rfl)
  | fail "no")
local macro_rules | `(tactic| wtm_at "fo par") => `(tactic| first
  | (refine' ps_par (i := 0) (j := 1) rfl (by assumption) rfl rfl (by decide) rfl rfl ?ka (by rfl); (case ka => wtm_at "fo a"))
  | (refine' ps_par (i := 1) (j := 2) rfl (by assumption) rfl rfl (by decide) rfl rfl ?ka (by rfl); (case ka => wtm_at "fo a"))
  | (refine' ps_par (i := 2) (j := 3) rfl (by assumption) rfl rfl (by decide) rfl rfl ?ka (by rfl); (case ka => wtm_at "fo a"))
  | (refine' ps_par (i := 3) (j := 4) rfl (by assumption) rfl rfl (by decide) rfl rfl ?ka (by rfl); (case ka => wtm_at "fo a"))
  | (refine' ps_par (i := 4) (j := 5) rfl (by assumption) rfl rfl (by decide) rfl rfl ?ka (by rfl); (case ka => wtm_at "fo a"))
  | (refine' ps_par (i := 5) (j := 6) rfl (by assumption) rfl rfl (by decide) rfl rfl ?ka (by rfl); (case ka => wtm_at "fo a"))
  | (refine' ps_par (i := 6) (j := 7) rfl (by assumption) rfl rfl (by decide) rfl rfl ?ka (by rfl); (case ka => wtm_at "fo a"))
  | (refine' ps_par (i := 7) (j := 8) rfl (by assumption) rfl rfl (by decide) rfl rfl ?ka (by rfl); (case ka => wtm_at "fo a"))
  | (refine' ps_par (i := 8) (j := 9) rfl (by assumption) rfl rfl (by decide) rfl rfl ?ka (by rfl); (case ka => wtm_at "fo a"))
  | (refine' ps_par (i := 9) (j := 10) rfl (by assumption) rfl rfl (by decide) rfl rfl ?ka (by rfl); (case ka => wtm_at "fo a"))
  | (refine' ps_par (i := 10) (j := 11) rfl (by assumption) rfl rfl (by decide) rfl rfl ?ka (by rfl); (case ka => wtm_at "fo a"))
  | (refine' ps_par (i := 11) (j := 12) rfl (by assumption) rfl rfl (by decide) rfl rfl ?ka (by rfl); (case ka => wtm_at "fo a"))
  | (refine' ps_par (i := 12) (j := 13) rfl (by assumption) rfl rfl (by decide) rfl rfl ?ka (by rfl); (case ka => wtm_at "fo a"))
  | (refine' ps_par (i := 13) (j := 14) rfl (by assumption) rfl rfl (by decide) rfl rfl ?ka (by rfl); (case ka => wtm_at "fo a"))
  | (refine' ps_par (i := 14) (j := 15) rfl (by assumption) rfl rfl (by decide) rfl rfl ?ka (by rfl); (case ka => wtm_at "fo a"))
  | fail "no")
local macro_rules | `(tactic| wtm_at "fo g") => `(tactic| first
  | ((with_reducible show PG _ (.Name _ _) _); wtm_at "fo gn")
  | ((with_reducible show PG _ (.Tuple _ _ _) _); apply PG_or; (· refine' pg_tup2 (by assumption) (by exact rfl) rfl ?kg; (case kg => wtm_at "fo gs")); (· refine' pg_unl2 (by assumption) (by exact rfl) rfl ?kg; (case kg => wtm_at "fo gs")))
  | fail "no")
local macro_rules | `(tactic| wtm_at "fo gs") => `(tactic| first
  | exact pgs_nil
  | (refine' pgs_cons ?k1 ?k2; (case k1 => wtm_at "fo g"); (case k2 => wtm_at "fo gs"))
  | fail "no")
local macro_rules | `(tactic| wtm_at "fo i") => `(tactic| first
  | ((with_reducible show PI _ _ (.Call (.Name (Str.ofString "range") _) [_] _ _) _); refine' pi_range1 (by rfl) (by assumption) ?ka; (case ka => wtm_at "fo a"))
  | ((with_reducible show PI _ _ (.Call (.Name (Str.ofString "range") _) [_, _] _ _) _); refine' pi_range2 (by rfl) (by assumption) ?ka; (case ka => wtm_at "fo a"))
  | ((with_reducible show PI _ _ (.Call (.Name (Str.ofString "enumerate") _) [_] _ _) _); refine' pi_enum (by rfl) (by assumption) ?ka; (case ka => wtm_at "fo a"))
  | (refine' pi_listK (by assumption) (by exact rfl) ?ka; (case ka => wtm_at "fo e"))
  | fail "no")
local macro_rules | `(tactic| wtm_at "fo s") => `(tactic| first
  | ((with_reducible show PS _ (.While _ _ _ _) _); refine' ps_while PassesOwn.never ?kt ?kb; (case kt => wtm_at "fo t"); (case kb => wtm_at "fo ss"))
  | ((with_reducible show PS _ (.For _ _ _ _ _) _); refine' ps_for PassesOwn.never rfl ?ki ?kg ?kb; (case ki => wtm_at "fo i"); (case kg => wtm_at "fo g"); (case kb => wtm_at "fo ss"))
  | ((with_reducible show PS _ (.Assign [.Name _ _] (.ListComp _ [_] _ _) _) _); wtm_at "fo setlc")
  | ((with_reducible show PS _ (.Assign [.Name _ _] _ _) _); wtm_at "fo set")
  | ((with_reducible show PS _ (.Assign [.Tuple [.Name _ _, .Name _ _] _ _] (.Tuple [_, _] _ _) _) _); wtm_at "fo par")
  | ((with_reducible show PS _ (.Assign [.Subscript _ _ _] _ _) _); refine' ps_asg ?ka (pg_sub ?kb ?kc set_list); (case ka => wtm_at "fo e"); (case kb => wtm_at "fo e"); (case kc => wtm_at "fo e"))
  | ((with_reducible show PS _ (.Return (some _) _) _); apply ps_ret; wtm_at "fo e")
  | ((with_reducible show PS _ (.Expr _ _) _); refine' ps_expr ?ka; (case ka => wtm_at "fo e"))
  | ((with_reducible show PS _ (.If _ _ _ _) _); apply ps_if; (· wtm_at "fo t"); (· wtm_at "fo ss"); (· wtm_at "fo ss"))
  | fail "no")
local macro_rules | `(tactic| wtm_at "fo ss") => `(tactic| first
  | with_reducible exact pss_nil
  | ((with_reducible show PSs _ [_] _); apply pss_one; wtm_at "fo s")
  | (apply pss_cons; (· wtm_at "fo s"); (· wtm_at "fo ss"))
  | fail "no")
local macro_rules | `(tactic| wtm_at "fo hp") => `(tactic| first
  | assumption
  | exact upd_same
  | (refine (upd_ne ?ne).trans ?hp; (case ne => wtm_at "fo ne"); (case hp => wtm_at "fo hp"))
  | fail "no")
local macro_rules | `(tactic| wtm_at "fo ne") => `(tactic| first
  | assumption
  | (apply Ne.symm; assumption)
  | exact ne_of_none (by assumption) (by assumption)
  | exact Ne.symm (ne_of_none (by assumption) (by assumption))
  | fail "no")
local macro_rules | `(tactic| wtm_at "fo sz") => `(tactic| first
  | exact (Nat.le_of_ble_eq_true rfl : _ ≤ sizeLine)
  | exact (Nat.le_of_ble_eq_true rfl : _ < sizeLine)
  | exact Nat.lt_of_le_of_lt (m := 100000) (by first | assumption | omega | (simp; omega)) (by decide)
  | exact Nat.le_trans (m := 100000) (by first | assumption | omega | (simp; omega)) (by decide)
  | fail "no")
local macro_rules | `(tactic| wtm_at "fo r1") => `(tactic| first
  | refine ⟨(Nat.le_of_ble_eq_true rfl : _ ≤ sizeLine), fun p np => ?_⟩
  | (refine' ⟨_, _, rfl, Or.inl (SqL.of ?h), ?_⟩; (case h => wtm_at "fo hp"))
  | refine ⟨_, rfl, ?_⟩
  | refine ⟨_, _, rfl, rfl, ?_⟩
  | refine ⟨_, _, rfl, ⟨by omega, by omega, by omega, by omega⟩, ?_⟩
  | refine ⟨_, rfl, by omega, by omega, ?_⟩
  | refine Or.inl ⟨_, rfl, ?_⟩
  | refine Or.inl ⟨rfl, ?_⟩
  | refine Or.inl ⟨_, _, rfl, rfl, ?_⟩
  | (refine' Or.inl ⟨_, _, _, _, rfl, rfl, SqL.of ?h, ?a, ?_⟩; (case h => wtm_at "fo hp"); (case a => rfl))
  | (refine' ⟨_, _, _, _, rfl, rfl, ?h, ?a, ?_⟩; (case h => wtm_at "fo hp"); (case a => rfl))
  | (refine' ⟨.inl ⟨rfl, _, SqL.of ?h⟩, ?_⟩; (case h => wtm_at "fo hp"))
  | (refine' ⟨_, _, _, rfl, rfl, ?h, ?z, ?_⟩; (case h => wtm_at "fo hp"); (case z => wtm_at "fo sz"))
  | (refine' ⟨_, rfl, ⟨_, SqL.of ?h⟩, ?_⟩; (case h => wtm_at "fo hp"))
  | fail "no")
local macro_rules | `(tactic| wtm_at "fo side") => `(tactic| ((try dsimp only [CMul, CDiv]); first
  | assumption
  | decide
  | omega
  | exact ⟨by decide, by decide⟩
  | exact ⟨by omega, by omega⟩
  | decide +kernel
  | fail "no"))
local macro_rules | `(tactic| wtm_at "fo r2") => `(tactic| first
  | wtm_at "fo r1"
  | refine And.intro (by wtm_at "fo side") ?_
  | fail "no")
local macro_rules | `(tactic| wtm_at "fo r") => `(tactic| repeat wtm_at "fo r2")
@[irreducible] def spDraws : Sp := fun vs H Q _ => ∃ c : Int, vs = [.int c] ∧
  ∀ p a b, H p = none → Q (.ref p) (upd H p (.lst [.int a, .int 0, .bl b]))
theorem call_draws {c : Int} {H : Hp} {Q : VK} {E : XK} (q : ∀ p a b, H p = none → Q (.ref p) (upd H p (.lst [.int a, .int 0, .bl b]))) : spDraws [.int c] H Q E := by
  unfold spDraws
  exact ⟨c, rfl, q⟩
variable {P : Program} {w : World} {K : PySem.W.Frag} {mg : Str → Option Value} {base : Heap}
set_option maxHeartbeats 2000000 in
theorem ok_draws {f : Addr} {fd : FuncData} (F : Fun K "_law_draws" "_law_draws" s_law_draws f fd) (mi : mg "int" = none) :
    FnOk P w K mg base CX0 1 f fd ["_law_cell"] spDraws := by
  refine F.ok sc_law_draws (fun vs H Q E h => ?_) (fun cdv A outer s H vs Q E hr h => ?_)
  · unfold spDraws at h
    obtain ⟨c, rfl, _⟩ := h
    rfl
  · have nd := sc_law_draws.nd
    have hS := sc_law_draws
    have hKM : KMark K := ⟨⟩
    refine' mk_body ?body ?rd
    case body =>
      show PSs _ [_] _
      wtm_at "fo ss"
    case rd =>
     unfold spDraws at h
     obtain ⟨c, rfl, q⟩ := h
     wtm_at "fo r"
     exact q _ _ _ (by assumption)


end Fo

/-! piece D3 -/
namespace Fo
open PySem PySem.Spec PyProof.Rows L2
local macro_rules | `(tactic| wtm_at "fo a") => `(tactic| first
  | exact pa_nil
  | (refine' pa_cons ?k1 ?k2; (case k1 => wtm_at "fo e"); (case k2 => wtm_at "fo a"))
  | fail "no")
local macro_rules | `(tactic| wtm_at "fo v") => `(tactic| first
  | exact pv 0
  | exact pv 1
  | exact pv 2
  | exact pv 3
  | exact pv 4
  | exact pv 5
  | exact pv 6
  | exact pv 7
  | exact pv 8
  | exact pv 9
  | exact pv 10
  | exact pv 11
  | exact pv 12
  | exact pv 13
  | exact pv 14
  | exact pv 15
  | fail "no")
local macro_rules | `(tactic| wtm_at "fo e") => `(tactic| first
  | with_reducible exact pe_int
  | with_reducible exact pe_bl
  | with_reducible exact pe_non
  | with_reducible exact pe_str
  | ((with_reducible show PE _ (.Name _ _) _); wtm_at "fo v")
  | ((with_reducible show PE _ (.BinOp _ .Add _ _) _); apply pe_op opAddB <;> wtm_at "fo e")
  | ((with_reducible show PE _ (.BinOp _ .Sub _ _) _); apply pe_op op_sub <;> wtm_at "fo e")
  | ((with_reducible show PE _ (.BinOp _ .Mult _ _) _); apply pe_op op_mul <;> wtm_at "fo e")
  | ((with_reducible show PE _ (.BinOp _ .Mod _ _) _); apply pe_op op_mod <;> wtm_at "fo e")
  | ((with_reducible show PE _ (.BinOp _ .FloorDiv _ _) _); apply pe_op op_fdiv <;> wtm_at "fo e")
  | ((with_reducible show PE _ (.BinOp _ .Pow _ _) _); apply pe_op op_powW <;> wtm_at "fo e")
  | ((with_reducible show PE _ (.BinOp _ .LShift _ _) _); apply pe_op op_shl <;> wtm_at "fo e")
  | ((with_reducible show PE _ (.BinOp _ .RShift _ _) _); apply pe_op op_shr <;> wtm_at "fo e")
  | ((with_reducible show PE _ (.BinOp _ .BitAnd _ _) _); apply pe_op op_and <;> wtm_at "fo e")
  | ((with_reducible show PE _ (.List _ _) _); apply pe_lst; wtm_at "fo a")
  | ((with_reducible show PE _ (.Tuple _ _ _) _); apply pe_tup; wtm_at "fo a")
  | ((with_reducible show PE _ (.ListComp _ [_] _ _) _); wtm_at "fo lc")
  | ((with_reducible show PE _ (.IfExp _ _ _ _) _); apply pe_ifExp; (· wtm_at "fo t"); (· wtm_at "fo e"); (· wtm_at "fo e"))
  | ((with_reducible show PE _ (.UnaryOp .USub _ _) _); apply pe_un un_neg; wtm_at "fo e")
  | ((with_reducible show PE _ (.Call (.Name _ _) [] (_ :: _) _) _); wtm_at "fo kcall")
  | ((with_reducible show PE _ (.Call (.Name _ _) _ _ _) _); wtm_at "fo call")
  | ((with_reducible show PE _ (.Call (.Attribute _ _ _) _ _ _) _); wtm_at "fo meth")
  | ((with_reducible show PE _ (.Compare _ _ _ _) _); wtm_at "fo cmp")
  | ((with_reducible show PE _ (.Subscript _ (.Slice _ _ _ _) _) _); wtm_at "fo slice")
  | ((with_reducible show PE _ (.Subscript _ _ _) _); refine' pe_ix (ix_seqK (by assumption) (by exact rfl)) ?ka ?kb (fun _ _ => rfl); (case ka => wtm_at "fo e"); (case kb => wtm_at "fo e"))
  | fail "no")
local macro_rules | `(tactic| wtm_at "fo own") => `(tactic| first
  | ((show _ = [0]); kernel_rfl!)
  | ((show _ = [1]); kernel_rfl!)
  | ((show _ = [2]); kernel_rfl!)
  | ((show _ = [3]); kernel_rfl!)
  | ((show _ = [4]); kernel_rfl!)
  | ((show _ = [5]); kernel_rfl!)
  | ((show _ = [6]); kernel_rfl!)
  | ((show _ = [7]); kernel_rfl!)
  | ((show _ = [8]); kernel_rfl!)
  | ((show _ = [9]); kernel_rfl!)
  | ((show _ = [10]); kernel_rfl!)
  | ((show _ = [11]); kernel_rfl!)
  | ((show _ = [12]); kernel_rfl!)
  | ((show _ = [13]); kernel_rfl!)
  | ((show _ = [14]); kernel_rfl!)
  | ((show _ = [15]); kernel_rfl!)
  | ((show _ = [0, 1]); kernel_rfl!)
  | ((show _ = [1, 2]); kernel_rfl!)
  | ((show _ = [2, 3]); kernel_rfl!)
  | ((show _ = [3, 4]); kernel_rfl!)
  | ((show _ = [4, 5]); kernel_rfl!)
  | ((show _ = [5, 6]); kernel_rfl!)
  | ((show _ = [6, 7]); kernel_rfl!)
  | ((show _ = [7, 8]); kernel_rfl!)
  | ((show _ = [8, 9]); kernel_rfl!)
  | ((show _ = [9, 10]); kernel_rfl!)
  | ((show _ = [10, 11]); kernel_rfl!)
  | ((show _ = [11, 12]); kernel_rfl!)
  | ((show _ = [12, 13]); kernel_rfl!)
  | ((show _ = [13, 14]); kernel_rfl!)
  | ((show _ = [14, 15]); kernel_rfl!)
  | fail "no")
local macro_rules | `(tactic| wtm_at "fo ts") => `(tactic| first
  | exact pts_nil
  | (apply pts_one; wtm_at "fo t")
  | fail "no")
local macro_rules | `(tactic| wtm_at "fo lc") => `(tactic| first
  | (refine' pe_lcO (by assumption) (by exact rfl) (by exact rfl) (by wtm_at "fo own") (by decide +kernel) rfl ?ki ?kg ?kt ?ke; (case ki => wtm_at "fo i"); (case kg => (intro _ _ _ _ _; wtm_at "fo g")); (case kt => (intro _ _ _ _ _; wtm_at "fo ts")); (case ke => (intro _ _ _ _ _; wtm_at "fo e")))
  | fail "no")
local macro_rules | `(tactic| wtm_at "fo part") => `(tactic| first
  | exact po_none
  | (apply po_some; wtm_at "fo e")
  | fail "no")
local macro_rules | `(tactic| wtm_at "fo slice") => `(tactic| first
  | ((with_reducible show PE _ (.Subscript _ (.Slice _ _ none _) _) _); refine' pe_slice (sl_listK (by assumption) (by exact rfl)) ?ka ?kb ?kc; (case ka => wtm_at "fo e"); (case kb => wtm_at "fo part"); (case kc => wtm_at "fo part"))
  | ((with_reducible show PE _ (.Subscript _ (.Slice none none (some _) _) _) _); refine' pe_stepK (by assumption) (by exact rfl) ?ka ?kb; (case ka => wtm_at "fo e"); (case kb => wtm_at "fo e"))
  | fail "no")
local macro_rules | `(tactic| wtm_at "fo cmp") => `(tactic| first
  | ((with_reducible show PE _ (.Compare _ [.Lt] _ _) _); refine' pe_cmpR op_lt ?ka ?kb (nomark _); (case ka => wtm_at "fo e"); (case kb => wtm_at "fo e"))
  | ((with_reducible show PE _ (.Compare _ [.LtE] _ _) _); refine' pe_cmpR op_le ?ka ?kb (nomark _); (case ka => wtm_at "fo e"); (case kb => wtm_at "fo e"))
  | ((with_reducible show PE _ (.Compare _ [.Gt] _ _) _); refine' pe_cmpR op_gt ?ka ?kb (nomark _); (case ka => wtm_at "fo e"); (case kb => wtm_at "fo e"))
  | ((with_reducible show PE _ (.Compare _ [.GtE] _ _) _); refine' pe_cmpR op_ge ?ka ?kb (nomark _); (case ka => wtm_at "fo e"); (case kb => wtm_at "fo e"))
  | ((with_reducible show PE _ (.Compare _ [.Eq] _ _) _); refine' pe_cmpR (op_eqK (by assumption) (by exact rfl) (Room.units (by assumption))) ?ka ?kb (nomark _); (case ka => wtm_at "fo e"); (case kb => wtm_at "fo e"))
  | ((with_reducible show PE _ (.Compare _ [.NotEq] _ _) _); refine' pe_cmpR (op_neK (by assumption) (by exact rfl) (Room.units (by assumption))) ?ka ?kb (nomark _); (case ka => wtm_at "fo e"); (case kb => wtm_at "fo e"))
  | fail "no")
local macro_rules | `(tactic| wtm_at "fo tcmp") => `(tactic| first
  | ((with_reducible show PT _ (.Compare _ [.Lt] _ _) _); refine' pt_cmpR op_lt ?ka ?kb (nomark _); (case ka => wtm_at "fo e"); (case kb => wtm_at "fo e"))
  | ((with_reducible show PT _ (.Compare _ [.LtE] _ _) _); refine' pt_cmpR op_le ?ka ?kb (nomark _); (case ka => wtm_at "fo e"); (case kb => wtm_at "fo e"))
  | ((with_reducible show PT _ (.Compare _ [.Gt] _ _) _); refine' pt_cmpR op_gt ?ka ?kb (nomark _); (case ka => wtm_at "fo e"); (case kb => wtm_at "fo e"))
  | ((with_reducible show PT _ (.Compare _ [.GtE] _ _) _); refine' pt_cmpR op_ge ?ka ?kb (nomark _); (case ka => wtm_at "fo e"); (case kb => wtm_at "fo e"))
  | ((with_reducible show PT _ (.Compare _ [.Eq] _ _) _); refine' pt_cmpR (op_eqK (by assumption) (by exact rfl) (Room.units (by assumption))) ?ka ?kb (nomark _); (case ka => wtm_at "fo e"); (case kb => wtm_at "fo e"))
  | ((with_reducible show PT _ (.Compare _ [.NotEq] _ _) _); refine' pt_cmpR (op_neK (by assumption) (by exact rfl) (Room.units (by assumption))) ?ka ?kb (nomark _); (case ka => wtm_at "fo e"); (case kb => wtm_at "fo e"))
  | ((with_reducible show PT _ (.Compare _ [.In] _ _) _); refine' pt_cmpR (op_inK (by assumption) (by exact rfl)) ?ka ?kb rfl; (case ka => wtm_at "fo e"); (case kb => wtm_at "fo e"))
  | ((with_reducible show PT _ (.Compare _ [.NotIn] _ _) _); refine' pt_cmpR (op_notInK (by assumption) (by exact rfl)) ?ka ?kb rfl; (case ka => wtm_at "fo e"); (case kb => wtm_at "fo e"))
  | fail "no")
local macro_rules | `(tactic| wtm_at "fo w") => `(tactic| first
  | ((with_reducible show PW _ (.BoolOp .And [_] _) _); apply pw_and1; wtm_at "fo t")
  | ((with_reducible show PW _ (.BoolOp .And _ _) _); apply pw_and; (· wtm_at "fo t"); (· wtm_at "fo w"))
  | ((with_reducible show PW _ (.BoolOp .Or [_] _) _); apply pw_or1; wtm_at "fo t")
  | ((with_reducible show PW _ (.BoolOp .Or _ _) _); apply pw_or; (· wtm_at "fo t"); (· wtm_at "fo w"))
  | fail "no")
local macro_rules | `(tactic| wtm_at "fo meth") => `(tactic| first
  | ((with_reducible show PE _ (.Call (.Attribute _ (Str.ofString "append") _) _ _ _) _); refine' pe_bm PySem.F.plainAttrs_list PySem.F.slot_list_append PySem.F.type_list_append mt_append ?ka ?kb; (case ka => wtm_at "fo e"); (case kb => wtm_at "fo a"))
  | ((with_reducible show PE _ (.Call (.Attribute _ (Str.ofString "pop") _) [_] _ _) _); refine' pe_bm PySem.F.plainAttrs_list PySem.F.slot_list_pop PySem.F.type_list_pop mt_popAt ?ka ?kb; (case ka => wtm_at "fo e"); (case kb => wtm_at "fo a"))
  | ((with_reducible show PE _ (.Call (.Attribute _ (Str.ofString "pop") _) [] _ _) _); refine' pe_bm0 PySem.F.plainAttrs_list PySem.F.slot_list_pop PySem.F.type_list_pop mt_pop ?ka; (case ka => wtm_at "fo e"))
  | fail "no")
local macro_rules | `(tactic| wtm_at "fo k") => `(tactic| first
  | exact pk_nil
  | (refine' pk_cons ?k1 ?k2; (case k1 => wtm_at "fo e"); (case k2 => wtm_at "fo k"))
  | fail "no")
local macro_rules | `(tactic| wtm_at "fo kcall") => `(tactic| first
  | (refine' pe_kcal (by assumption) (by assumption) (by decide) (by rfl) ?ka; (case ka => wtm_at "fo k"))
  | fail "no")
local macro_rules | `(tactic| wtm_at "fo call") => `(tactic| first
  | ((with_reducible show PE _ (.Call (.Name (Str.ofString "int") _) _ _ _) _); refine' pe_callTy call_intB (by rfl) (by assumption) (by decide +kernel) ?ka; (case ka => wtm_at "fo a"))
  | ((with_reducible show PE _ (.Call (.Name (Str.ofString "len") _) _ _ _) _); refine' pe_callB (call_lenK (by assumption) (by exact rfl)) (by rfl) (by assumption) PySem.boot_len ?ka; (case ka => wtm_at "fo a"))
  | ((with_reducible show PE _ (.Call (.Name (Str.ofString "list") _) [.Call (.Name (Str.ofString "range") _) [_, _] _ _] _ _) _); refine' pe_listRg rfl (by rfl) (by assumption) (prg_2 (by rfl) (by assumption) ?ka ?kb); (case ka => wtm_at "fo e"); (case kb => wtm_at "fo e"))
  | ((with_reducible show PE _ (.Call (.Name (Str.ofString "list") _) _ _ _) _); refine' pe_callTy (call_listK (by assumption) (by exact rfl)) (by rfl) (by assumption) (by decide +kernel) ?ka; (case ka => wtm_at "fo a"))
  | ((with_reducible show PE _ (.Call (.Name (Str.ofString "min") _) [_, _] _ _) _); refine' pe_callB (call_min2 rfl) (by rfl) (by assumption) (by decide +kernel) ?ka; (case ka => wtm_at "fo a"))
  | ((with_reducible show PE _ (.Call (.Name (Str.ofString "sorted") _) [_] _ _) _); refine' pe_callB (cr_sortedK (by assumption) (by exact rfl)) (by rfl) (by assumption) (by decide +kernel) ?ka; (case ka => wtm_at "fo a"))
  | ((with_reducible show PE _ (.Call (.Name (Str.ofString "repr") _) [_] _ _) _); refine' pe_callB (call_reprK (by assumption) (by exact rfl) (by assumption) (Room.units (by assumption))) (by rfl) (by assumption) (by decide +kernel) ?ka; (case ka => wtm_at "fo a"))
  | (refine' pe_cal (by assumption) (by assumption) (by decide) (by rfl) ?ka; (case ka => wtm_at "fo a"))
  | fail "no")
local macro_rules | `(tactic| wtm_at "fo setlc") => `(tactic| first
  | (refine' ps_setLcO (i := 0) (by assumption) (by exact rfl) (by exact rfl) (by wtm_at "fo own") (by decide +kernel) rfl rfl rfl (sw_true rfl rfl rfl (by decide +kernel)) ?ki ?kg ?kt ?ke; (case ki => wtm_at "fo i"); (case kg => (intro _ _ _ _ _; wtm_at "fo g")); (case kt => (intro _ _ _ _ _; wtm_at "fo ts")); (case ke => (intro _ _ _ _ _; wtm_at "fo e")))
  | (refine' ps_setLcO (i := 1) (by assumption) (by exact rfl) (by exact rfl) (by wtm_at "fo own") (by decide +kernel) rfl rfl rfl (sw_true rfl rfl rfl (by decide +kernel)) ?ki ?kg ?kt ?ke; (case ki => wtm_at "fo i"); (case kg => (intro _ _ _ _ _; wtm_at "fo g")); (case kt => (intro _ _ _ _ _; wtm_at "fo ts")); (case ke => (intro _ _ _ _ _; wtm_at "fo e")))
  | (refine' ps_setLcO (i := 2) (by assumption) (by exact rfl) (by exact rfl) (by wtm_at "fo own") (by decide +kernel) rfl rfl rfl (sw_true rfl rfl rfl (by decide +kernel)) ?ki ?kg ?kt ?ke; (case ki => wtm_at "fo i"); (case kg => (intro _ _ _ _ _; wtm_at "fo g")); (case kt => (intro _ _ _ _ _; wtm_at "fo ts")); (case ke => (intro _ _ _ _ _; wtm_at "fo e")))
  | (refine' ps_setLcO (i := 3) (by assumption) (by exact rfl) (by exact rfl) (by wtm_at "fo own") (by decide +kernel) rfl rfl rfl (sw_true rfl rfl rfl (by decide +kernel)) ?ki ?kg ?kt ?ke; (case ki => wtm_at "fo i"); (case kg => (intro _ _ _ _ _; wtm_at "fo g")); (case kt => (intro _ _ _ _ _; wtm_at "fo ts")); (case ke => (intro _ _ _ _ _; wtm_at "fo e")))
  | (refine' ps_setLcO (i := 4) (by assumption) (by exact rfl) (by exact rfl) (by wtm_at "fo own") (by decide +kernel) rfl rfl rfl (sw_true rfl rfl rfl (by decide +kernel)) ?ki ?kg ?kt ?ke; (case ki => wtm_at "fo i"); (case kg => (intro _ _ _ _ _; wtm_at "fo g")); (case kt => (intro _ _ _ _ _; wtm_at "fo ts")); (case ke => (intro _ _ _ _ _; wtm_at "fo e")))
  | (refine' ps_setLcO (i := 5) (by assumption) (by exact rfl) (by exact rfl) (by wtm_at "fo own") (by decide +kernel) rfl rfl rfl (sw_true rfl rfl rfl (by decide +kernel)) ?ki ?kg ?kt ?ke; (case ki => wtm_at "fo i"); (case kg => (intro _ _ _ _ _; wtm_at "fo g")); (case kt => (intro _ _ _ _ _; wtm_at "fo ts")); (case ke => (intro _ _ _ _ _; wtm_at "fo e")))
  | (refine' ps_setLcO (i := 6) (by assumption) (by exact rfl) (by exact rfl) (by wtm_at "fo own") (by decide +kernel) rfl rfl rfl (sw_true rfl rfl rfl (by decide +kernel)) ?ki ?kg ?kt ?ke; (case ki => wtm_at "fo i"); (case kg => (intro _ _ _ _ _; wtm_at "fo g")); (case kt => (intro _ _ _ _ _; wtm_at "fo ts")); (case ke => (intro _ _ _ _ _; wtm_at "fo e")))
  | (refine' ps_setLcO (i := 7) (by assumption) (by exact rfl) (by exact rfl) (by wtm_at "fo own") (by decide +kernel) rfl rfl rfl (sw_true rfl rfl rfl (by decide +kernel)) ?ki ?kg ?kt ?ke; (case ki => wtm_at "fo i"); (case kg => (intro _ _ _ _ _; wtm_at "fo g")); (case kt => (intro _ _ _ _ _; wtm_at "fo ts")); (case ke => (intro _ _ _ _ _; wtm_at "fo e")))
  | (refine' ps_setLcO (i := 8) (by assumption) (by exact rfl) (by exact rfl) (by wtm_at "fo own") (by decide +kernel) rfl rfl rfl (sw_true rfl rfl rfl (by decide +kernel)) ?ki ?kg ?kt ?ke; (case ki => wtm_at "fo i"); (case kg => (intro _ _ _ _ _; wtm_at "fo g")); (case kt => (intro _ _ _ _ _; wtm_at "fo ts")); (case ke => (intro _ _ _ _ _; wtm_at "fo e")))
  | (refine' ps_setLcO (i := 9) (by assumption) (by exact rfl) (by exact rfl) (by wtm_at "fo own") (by decide +kernel) rfl rfl rfl (sw_true rfl rfl rfl (by decide +kernel)) ?ki ?kg ?kt ?ke; (case ki => wtm_at "fo i"); (case kg => (intro _ _ _ _ _; wtm_at "fo g")); (case kt => (intro _ _ _ _ _; wtm_at "fo ts")); (case ke => (intro _ _ _ _ _; wtm_at "fo e")))
  | (refine' ps_setLcO (i := 10) (by assumption) (by exact rfl) (by exact rfl) (by wtm_at "fo own") (by decide +kernel) rfl rfl rfl (sw_true rfl rfl rfl (by decide +kernel)) ?ki ?kg ?kt ?ke; (case ki => wtm_at "fo i"); (case kg => (intro _ _ _ _ _; wtm_at "fo g")); (case kt => (intro _ _ _ _ _; wtm_at "fo ts")); (case ke => (intro _ _ _ _ _; wtm_at "fo e")))
  | (refine' ps_setLcO (i := 11) (by assumption) (by exact rfl) (by exact rfl) (by wtm_at "fo own") (by decide +kernel) rfl rfl rfl (sw_true rfl rfl rfl (by decide +kernel)) ?ki ?kg ?kt ?ke; (case ki => wtm_at "fo i"); (case kg => (intro _ _ _ _ _; wtm_at "fo g")); (case kt => (intro _ _ _ _ _; wtm_at "fo ts")); (case ke => (intro _ _ _ _ _; wtm_at "fo e")))
  | (refine' ps_setLcO (i := 12) (by assumption) (by exact rfl) (by exact rfl) (by wtm_at "fo own") (by decide +kernel) rfl rfl rfl (sw_true rfl rfl rfl (by decide +kernel)) ?ki ?kg ?kt ?ke; (case ki => wtm_at "fo i"); (case kg => (intro _ _ _ _ _; wtm_at "fo g")); (case kt => (intro _ _ _ _ _; wtm_at "fo ts")); (case ke => (intro _ _ _ _ _; wtm_at "fo e")))
  | (refine' ps_setLcO (i := 13) (by assumption) (by exact rfl) (by exact rfl) (by wtm_at "fo own") (by decide +kernel) rfl rfl rfl (sw_true rfl rfl rfl (by decide +kernel)) ?ki ?kg ?kt ?ke; (case ki => wtm_at "fo i"); (case kg => (intro _ _ _ _ _; wtm_at "fo g")); (case kt => (intro _ _ _ _ _; wtm_at "fo ts")); (case ke => (intro _ _ _ _ _; wtm_at "fo e")))
  | (refine' ps_setLcO (i := 14) (by assumption) (by exact rfl) (by exact rfl) (by wtm_at "fo own") (by decide +kernel) rfl rfl rfl (sw_true rfl rfl rfl (by decide +kernel)) ?ki ?kg ?kt ?ke; (case ki => wtm_at "fo i"); (case kg => (intro _ _ _ _ _; wtm_at "fo g")); (case kt => (intro _ _ _ _ _; wtm_at "fo ts")); (case ke => (intro _ _ _ _ _; wtm_at "fo e")))
  | (refine' ps_setLcO (i := 15) (by assumption) (by exact rfl) (by exact rfl) (by wtm_at "fo own") (by decide +kernel) rfl rfl rfl (sw_true rfl rfl rfl (by decide +kernel)) ?ki ?kg ?kt ?ke; (case ki => wtm_at "fo i"); (case kg => (intro _ _ _ _ _; wtm_at "fo g")); (case kt => (intro _ _ _ _ _; wtm_at "fo ts")); (case ke => (intro _ _ _ _ _; wtm_at "fo e")))
  | fail "no")
local macro_rules | `(tactic| wtm_at "fo set") => `(tactic| first
  | (refine' ps_set (i := 0) (by assumption) rfl (by first | exact Or.inl rfl | exact Or.inr rfl) ?ka; (case ka => wtm_at "fo e"))
  | (refine' ps_set (i := 1) (by assumption) rfl (by first | exact Or.inl rfl | exact Or.inr rfl) ?ka; (case ka => wtm_at "fo e"))
  | (refine' ps_set (i := 2) (by assumption) rfl (by first | exact Or.inl rfl | exact Or.inr rfl) ?ka; (case ka => wtm_at "fo e"))
  | (refine' ps_set (i := 3) (by assumption) rfl (by first | exact Or.inl rfl | exact Or.inr rfl) ?ka; (case ka => wtm_at "fo e"))
  | (refine' ps_set (i := 4) (by assumption) rfl (by first | exact Or.inl rfl | exact Or.inr rfl) ?ka; (case ka => wtm_at "fo e"))
  | (refine' ps_set (i := 5) (by assumption) rfl (by first | exact Or.inl rfl | exact Or.inr rfl) ?ka; (case ka => wtm_at "fo e"))
  | (refine' ps_set (i := 6) (by assumption) rfl (by first | exact Or.inl rfl | exact Or.inr rfl) ?ka; (case ka => wtm_at "fo e"))
  | (refine' ps_set (i := 7) (by assumption) rfl (by first | exact Or.inl rfl | exact Or.inr rfl) ?ka; (case ka => wtm_at "fo e"))
  | (refine' ps_set (i := 8) (by assumption) rfl (by first | exact Or.inl rfl | exact Or.inr rfl) ?ka; (case ka => wtm_at "fo e"))
  | (refine' ps_set (i := 9) (by assumption) rfl (by first | exact Or.inl rfl | exact Or.inr rfl) ?ka; (case ka => wtm_at "fo e"))
  | (refine' ps_set (i := 10) (by assumption) rfl (by first | exact Or.inl rfl | exact Or.inr rfl) ?ka; (case ka => wtm_at "fo e"))
  | (refine' ps_set (i := 11) (by assumption) rfl (by first | exact Or.inl rfl | exact Or.inr rfl) ?ka; (case ka => wtm_at "fo e"))
  | (refine' ps_set (i := 12) (by assumption) rfl (by first | exact Or.inl rfl | exact Or.inr rfl) ?ka; (case ka => wtm_at "fo e"))
  | (refine' ps_set (i := 13) (by assumption) rfl (by first | exact Or.inl rfl | exact Or.inr rfl) ?ka; (case ka => wtm_at "fo e"))
  | fail "no")
local macro_rules | `(tactic| wtm_at "fo t") => `(tactic| first
  | ((with_reducible show PT _ (.BoolOp _ _ _) _); apply PW.pt; wtm_at "fo w")
  | ((with_reducible show PT _ (.UnaryOp .Not _ _) _); apply pt_not; wtm_at "fo t")
  | ((with_reducible show PT _ (.Compare _ _ _ _) _); wtm_at "fo tcmp")
  | (refine' pt_truthK (by assumption) (by exact rfl) ?ka (by intro _; rfl); (case ka => wtm_at "fo e"))
  | fail "no")
local macro_rules | `(tactic| wtm_at "fo gn") => `(tactic| first
  | exact pg_name (i := 0) (by assumption) rfl (by first | exact Or.inl rfl | exact Or.inr rfl)
  | exact pg_name (i := 1) (by assumption) rfl (by first | exact Or.inl rfl | exact Or.inr rfl)
  | exact pg_name (i := 2) (by assumption) rfl (by first | exact Or.inl rfl | exact Or.inr rfl)
  | exact pg_name (i := 3) (by assumption) rfl (by first | exact Or.inl rfl | exact Or.inr rfl)
  | exact pg_name (i := 4) (by assumption) rfl (by first | exact Or.inl rfl | exact Or.inr rfl)
  | exact pg_name (i := 5) (by assumption) rfl (by first | exact Or.inl rfl | exact Or.inr rfl)
  | exact pg_name (i := 6) (by assumption) rfl (by first | exact Or.inl rfl | exact Or.inr rfl)
  | exact pg_name (i := 7) (by assumption) rfl (by first | exact Or.inl rfl | exact Or.inr rfl)
  | exact pg_name (i := 8) (by assumption) rfl (by first | exact Or.inl rfl | exact Or.inr rfl)
  | exact pg_name (i := 9) (by assumption) rfl (by first | exact Or.inl rfl | exact Or.inr rfl)
  | exact pg_name (i := 10) (by assumption) rfl (by first | exact Or.inl rfl | exact Or.inr rfl)
  | exact pg_name (i := 11) (by assumption) rfl (by first | exact Or.inl rfl | exact Or.inr rfl)
  | exact pg_name (i := 12) (by assumption) rfl (by first | exact Or.inl rfl | exact Or.inr rfl)
  | exact pg_name (i := 13) (by assumption) rfl (by first | exact Or.inl rfl | exact Or.inr rfl)
  | exact pg_name (i := 14) (by assumption) rfl (by first | exact Or.inl rfl | exact Or.inr rfl)
  | exact pg_name (i := 15) (by assumption) rfl (by first | exact Or.inl rfl | exact Or.inr rfl)
  | fail "no")
local macro_rules | `(tactic| wtm_at "fo par") => `(tactic| first
  | (refine' ps_par (i := 0) (j := 1) rfl (by assumption) rfl rfl (by decide) rfl rfl ?ka (by rfl); (case ka => wtm_at "fo a"))
  | (refine' ps_par (i := 1) (j := 2) rfl (by assumption) rfl rfl (by decide) rfl rfl ?ka (by rfl); (case ka => wtm_at "fo a"))
  | (refine' ps_par (i := 2) (j := 3) rfl (by assumption) rfl rfl (by decide) rfl rfl ?ka (by rfl); (case ka => wtm_at "fo a"))
  | (refine' ps_par (i := 3) (j := 4) rfl (by assumption) rfl rfl (by decide) rfl rfl ?ka (by rfl); (case ka => wtm_at "fo a"))
  | (refine' ps_par (i := 4) (j := 5) rfl (by assumption) rfl rfl (by decide) rfl rfl ?ka (by rfl); (case ka => wtm_at "fo a"))
  | (refine' ps_par (i := 5) (j := 6) rfl (by assumption) rfl rfl (by decide) rfl rfl ?ka (by rfl); (case ka => wtm_at "fo a"))
  | (refine' ps_par (i := 6) (j := 7) rfl (by assumption) rfl rfl (by decide) rfl rfl ?ka (by rfl); (case ka => wtm_at "fo a"))
  | (refine' ps_par (i := 7) (j := 8) rfl (by assumption) rfl rfl (by decide) rfl rfl ?ka (by rfl); (case ka => wtm_at "fo a"))
  | (refine' ps_par (i := 8) (j := 9) rfl (by assumption) rfl rfl (by decide) rfl rfl ?ka (by rfl); (case ka => wtm_at "fo a"))
  | (refine' ps_par (i := 9) (j := 10) rfl (by assumption) rfl rfl (by decide) rfl rfl ?ka (by rfl); (case ka => wtm_at "fo a"))
  | (refine' ps_par (i := 10) (j := 11) rfl (by assumption) rfl rfl (by decide) rfl rfl ?ka (by rfl); (case ka => wtm_at "fo a"))
  | (refine' ps_par (i := 11) (j := 12) rfl (by assumption) rfl rfl (by decide) rfl rfl ?ka (by rfl); (case ka => wtm_at "fo a"))
  | (refine' ps_par (i := 12) (j := 13) rfl (by assumption) rfl rfl (by decide) rfl rfl ?ka (by rfl); (case ka => wtm_at "fo a"))
  | (refine' ps_par (i := 13) (j := 14) rfl (by assumption) rfl rfl (by decide) rfl rfl ?ka (by rfl); (case ka => wtm_at "fo a"))
  | (refine' ps_par (i := 14) (j := 15) rfl (by assumption) rfl rfl (by decide) rfl rfl ?ka (by rfl); (case ka => wtm_at "fo a"))
  | fail "no")
local macro_rules | `(tactic| wtm_at "fo g") => `(tactic| first
  | ((with_reducible show PG _ (.Name _ _) _); wtm_at "fo gn")
  | ((with_reducible show PG _ (.Tuple _ _ _) _); apply PG_or; (· refine' pg_tup2 (by assumption) (by exact rfl) rfl ?kg; (case kg => wtm_at "fo gs")); (· refine' pg_unl2 (by assumption) (by exact rfl) rfl ?kg; (case kg => wtm_at "fo gs")))
  | fail "no")
local macro_rules | `(tactic| wtm_at "fo gs") => `(tactic| first
  | exact pgs_nil
  | (refine' pgs_cons ?k1 ?k2; (case k1 => wtm_at "fo g"); (case k2 => wtm_at "fo gs"))
  | fail "no")
local macro_rules | `(tactic| wtm_at "fo i") => `(tactic| first
  | ((with_reducible show PI _ _ (.Call (.Name (Str.ofString "range") _) [_] _ _) _); refine' pi_range1 (by rfl) (by assumption) ?ka; (case ka => wtm_at "fo a"))
  | ((with_reducible show PI _ _ (.Call (.Name (Str.ofString "range") _) [_, _] _ _) _); refine' pi_range2 (by rfl) (by assumption) ?ka; (case ka => wtm_at "fo a"))
  | ((with_reducible show PI _ _ (.Call (.Name (Str.ofString "enumerate") _) [_] _ _) _); refine' pi_enum (by rfl) (by assumption) ?ka; (case ka => wtm_at "fo a"))
  | (refine' pi_listK (by assumption) (by exact rfl) ?ka; (case ka => wtm_at "fo e"))
  | fail "no")
local macro_rules | `(tactic| wtm_at "fo s") => `(tactic| first
  | ((with_reducible show PS _ (.While _ _ _ _) _); refine' ps_while PassesOwn.never ?kt ?kb; (case kt => wtm_at "fo t"); (case kb => wtm_at "fo ss"))
  | ((with_reducible show PS _ (.For _ _ _ _ _) _); refine' ps_for PassesOwn.never rfl ?ki ?kg ?kb; (case ki => wtm_at "fo i"); (case kg => wtm_at "fo g"); (case kb => wtm_at "fo ss"))
  | ((with_reducible show PS _ (.Assign [.Name _ _] (.ListComp _ [_] _ _) _) _); wtm_at "fo setlc")
  | ((with_reducible show PS _ (.Assign [.Name _ _] _ _) _); wtm_at "fo set")
  | ((with_reducible show PS _ (.Assign [.Tuple [.Name _ _, .Name _ _] _ _] (.Tuple [_, _] _ _) _) _); wtm_at "fo par")
  | ((with_reducible show PS _ (.Assign [.Subscript _ _ _] _ _) _); refine' ps_asg ?ka (pg_sub ?kb ?kc set_list); (case ka => wtm_at "fo e"); (case kb => wtm_at "fo e"); (case kc => wtm_at "fo e"))
  | ((with_reducible show PS _ (.Return (some _) _) _); apply ps_ret; wtm_at "fo e")
  | ((with_reducible show PS _ (.Expr _ _) _); refine' ps_expr ?ka; (case ka => wtm_at "fo e"))
  | ((with_reducible show PS _ (.If _ _ _ _) _); apply ps_if; (· wtm_at "fo t"); (· wtm_at "fo ss"); (· wtm_at "fo ss"))
  | fail "no")
local macro_rules | `(tactic| wtm_at "fo ss") => `(tactic| first
  | with_reducible exact pss_nil
  | ((with_reducible show PSs _ [_] _); apply pss_one; wtm_at "fo s")
  | (apply pss_cons; (· wtm_at "fo s"); (· wtm_at "fo ss"))
  | fail "no")
local macro_rules | `(tactic| wtm_at "fo hp") => `(tactic| first
  | assumption
  | exact upd_same
  | (refine (upd_ne ?ne).trans ?hp; (case ne => wtm_at "fo ne"); (case hp => wtm_at "fo hp"))
  | fail "no")
local macro_rules | `(tactic| wtm_at "fo ne") => `(tactic| first
  | assumption
  | (apply Ne.symm; assumption)
  | exact ne_of_none (by assumption) (by assumption)
  | exact Ne.symm (ne_of_none (by assumption) (by assumption))
  | fail "no")
local macro_rules | `(tactic| wtm_at "fo sz") => `(tactic| first
  | exact (Nat.le_of_ble_eq_true rfl : _ ≤ sizeLine)
  | exact (Nat.le_of_ble_eq_true rfl : _ < sizeLine)
  | exact Nat.lt_of_le_of_lt (m := 100000) (by first | assumption | omega | (simp; omega)) (by decide)
  | exact Nat.le_trans (m := 100000) (by first | assumption | omega | (simp; omega)) (by decide)
  | fail "no")
local macro_rules | `(tactic| wtm_at "fo r1") => `(tactic| first
  | refine ⟨(Nat.le_of_ble_eq_true rfl : _ ≤ sizeLine), fun p np => ?_⟩
  | (refine' ⟨_, _, rfl, Or.inl (SqL.of ?h), ?_⟩; (case h => wtm_at "fo hp"))
  | refine ⟨_, rfl, ?_⟩
  | refine ⟨_, _, rfl, rfl, ?_⟩
  | refine ⟨_, _, rfl, ⟨by omega, by omega, by omega, by omega⟩, ?_⟩
  | refine ⟨_, rfl, by omega, by omega, ?_⟩
  | refine Or.inl ⟨_, rfl, ?_⟩
  | refine Or.inl ⟨rfl, ?_⟩
  | refine Or.inl ⟨_, _, rfl, rfl, ?_⟩
  | (refine' Or.inl ⟨_, _, _, _, rfl, rfl, SqL.of ?h, ?a, ?_⟩; (case h => wtm_at "fo hp"); (case a => rfl))
  | (refine' ⟨_, _, _, _, rfl, rfl, ?h, ?a, ?_⟩; (case h => wtm_at "fo hp"); (case a => rfl))
  | (refine' ⟨.inl ⟨rfl, _, SqL.of ?h⟩, ?_⟩; (case h => wtm_at "fo hp"))
  | (refine' ⟨_, _, _, rfl, rfl, ?h, ?z, ?_⟩; (case h => wtm_at "fo hp"); (case z => wtm_at "fo sz"))
  | (refine' ⟨_, rfl, ⟨_, SqL.of ?h⟩, ?_⟩; (case h => wtm_at "fo hp"))
  | fail "no")
local macro_rules | `(tactic| wtm_at "fo side") => `(tactic| ((try dsimp only [CMul, CDiv]); first
  | assumption
  | decide
  | omega
  | exact ⟨by decide, by decide⟩
  | exact ⟨by omega, by omega⟩
  | decide +kernel
  | fail "no"))
local macro_rules | `(tactic| wtm_at "fo r2") => `(tactic| first
  | wtm_at "fo r1"
  | refine And.intro (by wtm_at "fo side") ?_
  | fail "no")
local macro_rules | `(tactic| wtm_at "fo r") => `(tactic| repeat wtm_at "fo r2")
theorem SameBut.refl (d : Addr) (H : Hp) : SameBut d H H := fun _ _ _ h => h
theorem SameBut.trans {d : Addr} {H H1 H2 : Hp} (a : SameBut d H H1) (b : SameBut d H1 H2) : SameBut d H H2 := fun c o n e => b c o n (a c o n e)
theorem SameBut.new {d p : Addr} {H H1 : Hp} {o : HO} (a : SameBut d H H1) (np : H p = none) : SameBut d H (upd H1 p o) := fun c u n e => by
  rw [upd_ne (ne_of_none e np)]
  exact a c u n e
theorem SameBut.at {d p : Addr} {H H1 : Hp} {o u : HO} (a : SameBut d H H1) (hp : H p = some o) (hd : H d = some u) (ne : o ≠ u) : H1 p = some o :=
  a p o (ne_of hp hd ne) hp
/-- a thing that may be shuffled: a small number, or a pair of such -/
def Item (H : Hp) (x : V) : Prop := (∃ i : Int, x = .int i ∧ i.natAbs < 1000) ∨ ∃ r i j, x = .ref r ∧ H r = some (.lst [.int i, .int j]) ∧ i.natAbs < 1000 ∧ j.natAbs < 1000
theorem Dr.ne_pair {H : Hp} {d r : Addr} {k i j : Int} (h : Dr H d k) (hr : H r = some (.lst [.int i, .int j])) : r ≠ d := by
  obtain ⟨a, b, hd, _⟩ := h
  exact ne_of hr hd (by intro e; injection e with e; simp at e)
theorem Item.but {d : Addr} {H H' : Hp} {x : V} {k : Int} (h : Item H x) (s : SameBut d H H') (hd : Dr H d k) : Item H' x := by
  rcases h with h | ⟨r, i, j, rfl, hr, h1, h2⟩
  · exact .inl h
  · exact .inr ⟨r, i, j, rfl, s r _ (hd.ne_pair hr) hr, h1, h2⟩
theorem Item.dp {K : PySem.W.Frag} {H : Hp} {x : V} (h : Item H x) : ∃ e, Dp K H x e ∧ DOk 1 20 e := by
  rcases h with ⟨i, rfl, hi⟩ | ⟨r, i, j, rfl, hr, h1, h2⟩
  · exact ⟨_, .int i, (dok_int hi).mono (by decide) (by decide)⟩
  · refine ⟨.list [.int i, .int j], .lst (SqL.of hr) (.cons (.int i) (.cons (.int j) .nil)), (dok_list (n := 0) (b := 5) ?_).mono (by decide) (by simp)⟩
    intro x hx
    simp only [List.mem_cons, List.not_mem_nil, or_false] at hx
    rcases hx with rfl | rfl
    · exact dok_int h1
    · exact dok_int h2
theorem items_dp {K : PySem.W.Frag} {H : Hp} : ∀ {xs : List V}, (∀ x ∈ xs, Item H x) → ∃ ds, DpAll K H xs ds ∧ (∀ e ∈ ds, DOk 1 20 e) ∧ ds.length = xs.length
  | [], _ => ⟨[], .nil, (fun _ h => nomatch h), rfl⟩
  | x :: xs, h => by
    obtain ⟨ds, h1, h2, h3⟩ := items_dp (K := K) (xs := xs) fun y hy => h y (List.mem_cons_of_mem _ hy)
    obtain ⟨e, h4, h5⟩ := (h x (List.mem_cons_self ..)).dp (K := K)
    refine ⟨e :: ds, .cons h4 h1, ?_, by simp [h3]⟩
    intro u hu
    rcases List.mem_cons.mp hu with rfl | hu
    · exact h5
    · exact h2 u hu
@[irreducible] def spShuf : Sp := fun vs H Q _ => ∃ d q k xs, vs = [.ref d, .ref q] ∧ Dr H d k ∧ k ≤ 1000000 ∧ H q = some (.lst xs) ∧ xs.length ≤ 200 ∧ (∀ x ∈ xs, Item H x) ∧
  ∀ p ys H' k', ys.Perm xs → SameBut d H H' → H p = none → H' p = some (.lst ys) → Dr H' d k' → k' ≤ k + 200 → Q (.ref p) H'
theorem call_shuf {d q : Addr} {k : Int} {xs : List V} {H : Hp} {Q : VK} {E : XK} (hd : Dr H d k) (hk : k ≤ 1000000) (hq : H q = some (.lst xs)) (hl : xs.length ≤ 200) (hi : ∀ x ∈ xs, Item H x)
    (fin : ∀ p ys H' k', ys.Perm xs → SameBut d H H' → H p = none → H' p = some (.lst ys) → Dr H' d k' → k' ≤ k + 200 → Q (.ref p) H') : spShuf [.ref d, .ref q] H Q E := by
  unfold spShuf
  exact ⟨d, q, k, xs, rfl, hd, hk, hq, hl, hi, fin⟩
variable {P : Program} {w : World} {K : PySem.W.Frag} {mg : Str → Option Value} {base : Heap}
set_option maxHeartbeats 4000000 in
theorem ok_shuf {f : Addr} {fd : FuncData} (F : Fun K "_law_shuffled" "_law_shuffled" s_law_shuffled f fd) (mi : mg "int" = none) (ml : mg "list" = none) (mn : mg "len" = none)
    (C : Cal P w K mg base "_law_next" 1 ["_law_draws_here"] spNext) :
    FnOk P w K mg base CX0 2 f fd ["_law_draws_here", "_law_things"] spShuf := by
  refine F.ok sc_law_shuffled (fun vs H Q E h => ?_) (fun cdv A outer s H vs Q E hr h => ?_)
  · unfold spShuf at h
    obtain ⟨d, q, k, xs, rfl, _⟩ := h
    rfl
  · have nd := sc_law_shuffled.nd
    have hS := sc_law_shuffled
    have hKM : KMark K := ⟨⟩
    refine' mk_body ?body ?rd
    case body =>
      show PSs _ [_, _, _, _] _
      wtm_at "fo ss"
    case rd =>
     unfold spShuf at h
     obtain ⟨d, q, k, xs, rfl, hd, hk, hq, hlen, hit, fin⟩ := h
     wtm_at "fo r"
     intro l nl
     wtm_at "fo r"
     rename_i t nt
     have nl' : l ≠ d := by
       obtain ⟨a, b, e, _⟩ := hd
       exact (ne_of_none e nl).symm
     have tl : t ≠ l := (ne_of_none (upd_same (H := H) (a := l) (o := HO.lst xs)) nt).symm
     have nt0 : H t = none := by rw [upd_ne tl] at nt; exact nt
     have nt' : t ≠ d := by
       obtain ⟨a, b, e, _⟩ := hd
       exact (ne_of_none e nt0).symm
     let W : Nat → Sl → Hp → Prop := fun m σ H1 => ∃ ls ts k1, σ = [some (.ref d), some (.ref q), some (.ref l), some (.ref t)] ∧ m = ls.length ∧ H1 l = some (.lst ls) ∧ H1 t = some (.lst ts) ∧
       (ts ++ ls).Perm xs ∧ Dr H1 d k1 ∧ k1 + ls.length = k + xs.length ∧ SameBut d H H1
     refine ⟨W, ⟨xs.length, xs, [], k, rfl, rfl, ?_, upd_same, .refl _, ?_, rfl, ?_⟩, fun m σ H1 hW => ?_⟩
     · rw [upd_ne tl.symm]
       exact upd_same
     · obtain ⟨a, b, e, h0⟩ := hd
       exact ⟨a, b, by rw [upd_ne nt'.symm, upd_ne nl'.symm]; exact e, h0⟩
     · exact ((SameBut.refl d H).new nl).new nt0
     obtain ⟨ls, ts, k1, rfl, rfl, hl, ht, hp, hd1, hk1, sb⟩ := hW
     have hlen2 : ts.length + ls.length = xs.length := by rw [← List.length_append]; exact hp.length_eq
     have hit1 : ∀ x ∈ ls, Item H1 x := fun x hx => (hit x (hp.mem_iff.mp (List.mem_append_right _ hx))).but sb hd
     wtm_at "fo r"
     rename_i e ne
     have le : l ≠ e := ne_of_none hl ne
     have te : t ≠ e := ne_of_none ht ne
     have hd2 : Dr (upd H1 e (HO.lst [])) d k1 := by
       obtain ⟨a, b, h1, h2⟩ := hd1
       exact ⟨a, b, by rw [upd_ne (ne_of_none h1 ne)]; exact h1, h2⟩
     have hit2 : ∀ x ∈ ls, Item (upd H1 e (HO.lst [])) x := fun x hx => (hit1 x hx).but (SameBut.new (.refl d H1) ne) hd1
     obtain ⟨ds, h1, h2, h3⟩ := items_dp (K := K) hit2
     have hl2 : (upd H1 e (HO.lst [])) l = some (.lst ls) := by rw [upd_ne le]; exact hl
     have ht2 : (upd H1 e (HO.lst [])) t = some (.lst ts) := by rw [upd_ne te]; exact ht
     refine Or.inr ⟨.list ds, .list [], .lst (SqL.of hl2) h1, .lst (SqL.of upd_same) .nil, (dok_list h2).shaped (by decide), rfl, ?_⟩
     refine ⟨_, rfl, ?_⟩
     rcases ls with _ | ⟨y0, r0⟩
     · have : ds = [] := by cases ds with | nil => rfl | cons _ _ => simp at h3
       subst this
       refine ifF (by rw [eqv_list_nil]; rfl) ?_
       wtm_at "fo r"
       refine fin t ts _ k1 (by simpa using hp) ((sb.trans (SameBut.new (.refl d H1) ne))) nt0 ht2 hd2 ?_
       simp at hk1 hlen2
       omega
     · have : ds.isEmpty = false := by cases ds with | nil => simp at h3 | cons _ _ => rfl
       refine ifT (by rw [eqv_list_nil, this]; rfl) ?_
       generalize hls : y0 :: r0 = ls at *
       have hpos : 0 < ls.length := by rw [← hls]; simp
       refine ⟨fun σ' H' => ∃ m', m' < ls.length ∧ W m' σ' H', fun _ _ h => h, ?_⟩
       wtm_at "fo r"
       refine call_next hd2 (by omega) (fun n H3 hn sb3 hd3 => ?_)
       have hl3 : H3 l = some (.lst ls) := sb3 l _ nl' hl2
       have ht3 : H3 t = some (.lst ts) := sb3 t _ nt' ht2
       wtm_at "fo r"
       obtain ⟨j, hj, ej⟩ := mod_ix (n := n) hpos
       have hy : ls[j]? = some ls[j] := List.getElem?_eq_getElem hj
       refine ⟨l, ls, _, j, ls[j], rfl, rfl, hl3, ?_, ?_, ?_, hy, ?_⟩
       · show _
         rw [ej]
         omega
       · show _
         rw [ej]
         omega
       · show _
         rw [ej]
         exact seqIx hj
       have ht4 : (upd H3 l (.lst (ls.eraseIdx j))) t = some (.lst ts) := by rw [upd_ne tl]; exact ht3
       refine ⟨t, ts, _, rfl, rfl, ht4, Nat.lt_of_le_of_lt (m := 1000) (by omega) (by decide), ?_⟩
       have hlen3 : (ls.eraseIdx j).length + 1 = ls.length := by rw [List.length_eraseIdx, if_pos hj]; omega
       refine ⟨(ls.eraseIdx j).length, by omega, ls.eraseIdx j, ts ++ [ls[j]], k1 + 1, rfl, rfl, ?_, upd_same, perm_move hy hp, ?_, by omega, ?_⟩
       · rw [upd_ne tl.symm]
         exact upd_same
       · obtain ⟨a, b, e1, h0⟩ := hd3
         exact ⟨a, b, by rw [upd_ne nt'.symm, upd_ne nl'.symm]; exact e1, h0⟩
       · exact (((sb.trans (SameBut.new (.refl d H1) ne)).trans sb3).new nl).new nt0

end Fo

/-! piece D4 -/
namespace Fo
open PySem PySem.Spec PyProof.Rows L2
local macro_rules | `(tactic| wtm_at "fo a") => `(tactic| first
  | exact pa_nil
  | (refine' pa_cons ?k1 ?k2; (case k1 => wtm_at "fo e"); (case k2 => wtm_at "fo a"))
  | fail "no")
local macro_rules | `(tactic| wtm_at "fo v") => `(tactic| first
  | exact pv 0
  | exact pv 1
  | exact pv 2
  | exact pv 3
  | exact pv 4
  | exact pv 5
  | exact pv 6
  | exact pv 7
  | exact pv 8
  | exact pv 9
  | exact pv 10
  | exact pv 11
  | exact pv 12
  | exact pv 13
  | exact pv 14
  | exact pv 15
  | fail "no")
local macro_rules | `(tactic| wtm_at "fo e") => `(tactic| first
  | with_reducible exact pe_int
  | with_reducible exact pe_bl
  | with_reducible exact pe_non
  | with_reducible exact pe_str
  | ((with_reducible show PE _ (.Name _ _) _); wtm_at "fo v")
  | ((with_reducible show PE _ (.BinOp _ .Add _ _) _); apply pe_op opAddB <;> wtm_at "fo e")
  | ((with_reducible show PE _ (.BinOp _ .Sub _ _) _); apply pe_op op_sub <;> wtm_at "fo e")
  | ((with_reducible show PE _ (.BinOp _ .Mult _ _) _); apply pe_op op_mul <;> wtm_at "fo e")
  | ((with_reducible show PE _ (.BinOp _ .Mod _ _) _); apply pe_op op_mod <;> wtm_at "fo e")
  | ((with_reducible show PE _ (.BinOp _ .FloorDiv _ _) _); apply pe_op op_fdiv <;> wtm_at "fo e")
  | ((with_reducible show PE _ (.BinOp _ .Pow _ _) _); apply pe_op op_powW <;> wtm_at "fo e")
  | ((with_reducible show PE _ (.BinOp _ .LShift _ _) _); apply pe_op op_shl <;> wtm_at "fo e")
  | ((with_reducible show PE _ (.BinOp _ .RShift _ _) _); apply pe_op op_shr <;> wtm_at "fo e")
  | ((with_reducible show PE _ (.BinOp _ .BitAnd _ _) _); apply pe_op op_and <;> wtm_at "fo e")
  | ((with_reducible show PE _ (.List _ _) _); apply pe_lst; wtm_at "fo a")
  | ((with_reducible show PE _ (.Tuple _ _ _) _); apply pe_tup; wtm_at "fo a")
  | ((with_reducible show PE _ (.ListComp _ [_] _ _) _); wtm_at "fo lc")
  | ((with_reducible show PE _ (.IfExp _ _ _ _) _); apply pe_ifExp; (· wtm_at "fo t"); (· wtm_at "fo e"); (· wtm_at "fo e"))
  | ((with_reducible show PE _ (.UnaryOp .USub _ _) _); apply pe_un un_neg; wtm_at "fo e")
  | ((with_reducible show PE _ (.Call (.Name _ _) [] (_ :: _) _) _); wtm_at "fo kcall")
  | ((with_reducible show PE _ (.Call (.Name _ _) _ _ _) _); wtm_at "fo call")
  | ((with_reducible show PE _ (.Call (.Attribute _ _ _) _ _ _) _); wtm_at "fo meth")
  | ((with_reducible show PE _ (.Compare _ _ _ _) _); wtm_at "fo cmp")
  | ((with_reducible show PE _ (.Subscript _ (.Slice _ _ _ _) _) _); wtm_at "fo slice")
  | ((with_reducible show PE _ (.Subscript _ _ _) _); refine' pe_ix (ix_seqK (by assumption) (by exact rfl)) ?ka ?kb (fun _ _ => rfl); (case ka => wtm_at "fo e"); (case kb => wtm_at "fo e"))
  | fail "no")
local macro_rules | `(tactic| wtm_at "fo own") => `(tactic| first
  | ((show _ = [0]); kernel_rfl!)
  | ((show _ = [1]); kernel_rfl!)
  | ((show _ = [2]); kernel_rfl!)
  | ((show _ = [3]); kernel_rfl!)
  | ((show _ = [4]); kernel_rfl!)
  | ((show _ = [5]); kernel_rfl!)
  | ((show _ = [6]); kernel_rfl!)
  | ((show _ = [7]); kernel_rfl!)
  | ((show _ = [8]); kernel_rfl!)
  | ((show _ = [9]); kernel_rfl!)
  | ((show _ = [10]); kernel_rfl!)
  | ((show _ = [11]); kernel_rfl!)
  | ((show _ = [12]); kernel_rfl!)
  | ((show _ = [13]); kernel_rfl!)
  | ((show _ = [14]); kernel_rfl!)
  | ((show _ = [15]); kernel_rfl!)
  | ((show _ = [0, 1]); kernel_rfl!)
  | ((show _ = [1, 2]); kernel_rfl!)
  | ((show _ = [2, 3]); kernel_rfl!)
  | ((show _ = [3, 4]); kernel_rfl!)
  | ((show _ = [4, 5]); kernel_rfl!)
  | ((show _ = [5, 6]); kernel_rfl!)
  | ((show _ = [6, 7]); kernel_rfl!)
  | ((show _ = [7, 8]); kernel_rfl!)
  | ((show _ = [8, 9]); kernel_rfl!)
  | ((show _ = [9, 10]); kernel_rfl!)
  | ((show _ = [10, 11]); kernel_rfl!)
  | ((show _ = [11, 12]); kernel_rfl!)
  | ((show _ = [12, 13]); kernel_rfl!)
  | ((show _ = [13, 14]); kernel_rfl!)
  | ((show _ = [14, 15]); kernel_rfl!)
  | fail "no")
local macro_rules | `(tactic| wtm_at "fo ts") => `(tactic| first
  | exact pts_nil
  | (apply pts_one; wtm_at "fo t")
  | fail "no")
local macro_rules | `(tactic| wtm_at "fo lc") => `(tactic| first
  | (refine' pe_lcO (by assumption) (by exact rfl) (by exact rfl) (by wtm_at "fo own") (by decide +kernel) rfl ?ki ?kg ?kt ?ke; (case ki => wtm_at "fo i"); (case kg => (intro _ _ _ _ _; wtm_at "fo g")); (case kt => (intro _ _ _ _ _; wtm_at "fo ts")); (case ke => (intro _ _ _ _ _; wtm_at "fo e")))
  | fail "no")
local macro_rules | `(tactic| wtm_at "fo part") => `(tactic| first
  | exact po_none
  | (apply po_some; wtm_at "fo e")
  | fail "no")
local macro_rules | `(tactic| wtm_at "fo slice") => `(tactic| first
  | ((with_reducible show PE _ (.Subscript _ (.Slice _ _ none _) _) _); refine' pe_slice (sl_listK (by assumption) (by exact rfl)) ?ka ?kb ?kc; (case ka => wtm_at "fo e"); (case kb => wtm_at "fo part"); (case kc => wtm_at "fo part"))
  | ((with_reducible show PE _ (.Subscript _ (.Slice none none (some _) _) _) _); refine' pe_stepK (by assumption) (by exact rfl) ?ka ?kb; (case ka => wtm_at "fo e"); (case kb => wtm_at "fo e"))
  | fail "no")
local macro_rules | `(tactic| wtm_at "fo cmp") => `(tactic| first
  | ((with_reducible show PE _ (.Compare _ [.Lt] _ _) _); refine' pe_cmpR op_lt ?ka ?kb (nomark _); (case ka => wtm_at "fo e"); (case kb => wtm_at "fo e"))
  | ((with_reducible show PE _ (.Compare _ [.LtE] _ _) _); refine' pe_cmpR op_le ?ka ?kb (nomark _); (case ka => wtm_at "fo e"); (case kb => wtm_at "fo e"))
  | ((with_reducible show PE _ (.Compare _ [.Gt] _ _) _); refine' pe_cmpR op_gt ?ka ?kb (nomark _); (case ka => wtm_at "fo e"); (case kb => wtm_at "fo e"))
  | ((with_reducible show PE _ (.Compare _ [.GtE] _ _) _); refine' pe_cmpR op_ge ?ka ?kb (nomark _); (case ka => wtm_at "fo e"); (case kb => wtm_at "fo e"))
  | ((with_reducible show PE _ (.Compare _ [.Eq] _ _) _); refine' pe_cmpR (op_eqK (by assumption) (by exact rfl) (Room.units (by assumption))) ?ka ?kb (nomark _); (case ka => wtm_at "fo e"); (case kb => wtm_at "fo e"))
  | ((with_reducible show PE _ (.Compare _ [.NotEq] _ _) _); refine' pe_cmpR (op_neK (by assumption) (by exact rfl) (Room.units (by assumption))) ?ka ?kb (nomark _); (case ka => wtm_at "fo e"); (case kb => wtm_at "fo e"))
  | fail "no")
local macro_rules | `(tactic| wtm_at "fo tcmp") => `(tactic| first
  | ((with_reducible show PT _ (.Compare _ [.Lt] _ _) _); refine' pt_cmpR op_lt ?ka ?kb (nomark _); (case ka => wtm_at "fo e"); (case kb => wtm_at "fo e"))
  | ((with_reducible show PT _ (.Compare _ [.LtE] _ _) _); refine' pt_cmpR op_le ?ka ?kb (nomark _); (case ka => wtm_at "fo e"); (case kb => wtm_at "fo e"))
  | ((with_reducible show PT _ (.Compare _ [.Gt] _ _) _); refine' pt_cmpR op_gt ?ka ?kb (nomark _); (case ka => wtm_at "fo e"); (case kb => wtm_at "fo e"))
  | ((with_reducible show PT _ (.Compare _ [.GtE] _ _) _); refine' pt_cmpR op_ge ?ka ?kb (nomark _); (case ka => wtm_at "fo e"); (case kb => wtm_at "fo e"))
  | ((with_reducible show PT _ (.Compare _ [.Eq] _ _) _); refine' pt_cmpR (op_eqK (by assumption) (by exact rfl) (Room.units (by assumption))) ?ka ?kb (nomark _); (case ka => wtm_at "fo e"); (case kb => wtm_at "fo e"))
  | ((with_reducible show PT _ (.Compare _ [.NotEq] _ _) _); refine' pt_cmpR (op_neK (by assumption) (by exact rfl) (Room.units (by assumption))) ?ka ?kb (nomark _); (case ka => wtm_at "fo e"); (case kb => wtm_at "fo e"))
  | ((with_reducible show PT _ (.Compare _ [.In] _ _) _); refine' pt_cmpR (op_inK (by assumption) (by exact rfl)) ?ka ?kb rfl; (case ka => wtm_at "fo e"); (case kb => wtm_at "fo e"))
  | ((with_reducible show PT _ (.Compare _ [.NotIn] _ _) _); refine' pt_cmpR (op_notInK (by assumption) (by exact rfl)) ?ka ?kb rfl; (case ka => wtm_at "fo e"); (case kb => wtm_at "fo e"))
  | fail "no")
local macro_rules | `(tactic| wtm_at "fo w") => `(tactic| first
  | ((with_reducible show PW _ (.BoolOp .And [_] _) _); apply pw_and1; wtm_at "fo t")
  | ((with_reducible show PW _ (.BoolOp .And _ _) _); apply pw_and; (· wtm_at "fo t"); (· wtm_at "fo w"))
  | ((with_reducible show PW _ (.BoolOp .Or [_] _) _); apply pw_or1; wtm_at "fo t")
  | ((with_reducible show PW _ (.BoolOp .Or _ _) _); apply pw_or; (· wtm_at "fo t"); (· wtm_at "fo w"))
  | fail "no")
local macro_rules | `(tactic| wtm_at "fo meth") => `(tactic| first
  | ((with_reducible show PE _ (.Call (.Attribute _ (Str.ofString "append") _) _ _ _) _); refine' pe_bm PySem.F.plainAttrs_list PySem.F.slot_list_append PySem.F.type_list_append mt_append ?ka ?kb; (case ka => wtm_at "fo e"); (case kb => wtm_at "fo a"))
  | ((with_reducible show PE _ (.Call (.Attribute _ (Str.ofString "pop") _) [_] _ _) _); refine' pe_bm PySem.F.plainAttrs_list PySem.F.slot_list_pop PySem.F.type_list_pop mt_popAt ?ka ?kb; (case ka => wtm_at "fo e"); (case kb => wtm_at "fo a"))
  | ((with_reducible show PE _ (.Call (.Attribute _ (Str.ofString "pop") _) [] _ _) _); refine' pe_bm0 PySem.F.plainAttrs_list PySem.F.slot_list_pop PySem.F.type_list_pop mt_pop ?ka; (case ka => wtm_at "fo e"))
  | fail "no")
local macro_rules | `(tactic| wtm_at "fo k") => `(tactic| first
  | exact pk_nil
  | (refine' pk_cons ?k1 ?k2; (case k1 => wtm_at "fo e"); (case k2 => wtm_at "fo k"))
  | fail "no")
local macro_rules | `(tactic| wtm_at "fo kcall") => `(tactic| first
  | (refine' pe_kcal (by assumption) (by assumption) (by decide) (by rfl) ?ka; (case ka => wtm_at "fo k"))
  | fail "no")
local macro_rules | `(tactic| wtm_at "fo call") => `(tactic| first
  | ((with_reducible show PE _ (.Call (.Name (Str.ofString "int") _) _ _ _) _); refine' pe_callTy call_intB (by rfl) (by assumption) (by decide +kernel) ?ka; (case ka => wtm_at "fo a"))
  | ((with_reducible show PE _ (.Call (.Name (Str.ofString "len") _) _ _ _) _); refine' pe_callB (call_lenK (by assumption) (by exact rfl)) (by rfl) (by assumption) PySem.boot_len ?ka; (case ka => wtm_at "fo a"))
  | ((with_reducible show PE _ (.Call (.Name (Str.ofString "list") _) [.Call (.Name (Str.ofString "range") _) [_, _] _ _] _ _) _); refine' pe_listRg rfl (by rfl) (by assumption) (prg_2 (by rfl) (by assumption) ?ka ?kb); (case ka => wtm_at "fo e"); (case kb => wtm_at "fo e"))
  | ((with_reducible show PE _ (.Call (.Name (Str.ofString "list") _) _ _ _) _); refine' pe_callTy (call_listK (by assumption) (by exact rfl)) (by rfl) (by assumption) (by decide +kernel) ?ka; (case ka => wtm_at "fo a"))
  | ((with_reducible show PE _ (.Call (.Name (Str.ofString "min") _) [_, _] _ _) _); refine' pe_callB (call_min2 rfl) (by rfl) (by assumption) (by decide +kernel) ?ka; (case ka => wtm_at "fo a"))
  | ((with_reducible show PE _ (.Call (.Name (Str.ofString "sorted") _) [_] _ _) _); refine' pe_callB (cr_sortedK (by assumption) (by exact rfl)) (by rfl) (by assumption) (by decide +kernel) ?ka; (case ka => wtm_at "fo a"))
  | ((with_reducible show PE _ (.Call (.Name (Str.ofString "repr") _) [_] _ _) _); refine' pe_callB (call_reprK (by assumption) (by exact rfl) (by assumption) (Room.units (by assumption))) (by rfl) (by assumption) (by decide +kernel) ?ka; (case ka => wtm_at "fo a"))
  | (refine' pe_cal (by assumption) (by assumption) (by decide) (by rfl) ?ka; (case ka => wtm_at "fo a"))
  | fail "no")
local macro_rules | `(tactic| wtm_at "fo setlc") => `(tactic| first
  | (refine' ps_setLcO (i := 0) (by assumption) (by exact rfl) (by exact rfl) (by wtm_at "fo own") (by decide +kernel) rfl rfl rfl (sw_true rfl rfl rfl (by decide +kernel)) ?ki ?kg ?kt ?ke; (case ki => wtm_at "fo i"); (case kg => (intro _ _ _ _ _; wtm_at "fo g")); (case kt => (intro _ _ _ _ _; wtm_at "fo ts")); (case ke => (intro _ _ _ _ _; wtm_at "fo e")))
  | (refine' ps_setLcO (i := 1) (by assumption) (by exact rfl) (by exact rfl) (by wtm_at "fo own") (by decide +kernel) rfl rfl rfl (sw_true rfl rfl rfl (by decide +kernel)) ?ki ?kg ?kt ?ke; (case ki => wtm_at "fo i"); (case kg => (intro _ _ _ _ _; wtm_at "fo g")); (case kt => (intro _ _ _ _ _; wtm_at "fo ts")); (case ke => (intro _ _ _ _ _; wtm_at "fo e")))
  | (refine' ps_setLcO (i := 2) (by assumption) (by exact rfl) (by exact rfl) (by wtm_at "fo own") (by decide +kernel) rfl rfl rfl (sw_true rfl rfl rfl (by decide +kernel)) ?ki ?kg ?kt ?ke; (case ki => wtm_at "fo i"); (case kg => (intro _ _ _ _ _; wtm_at "fo g")); (case kt => (intro _ _ _ _ _; wtm_at "fo ts")); (case ke => (intro _ _ _ _ _; wtm_at "fo e")))
  | (refine' ps_setLcO (i := 3) (by assumption) (by exact rfl) (by exact rfl) (by wtm_at "fo own") (by decide +kernel) rfl rfl rfl (sw_true rfl rfl rfl (by decide +kernel)) ?ki ?kg ?kt ?ke; (case ki => wtm_at "fo i"); (case kg => (intro _ _ _ _ _; wtm_at "fo g")); (case kt => (intro _ _ _ _ _; wtm_at "fo ts")); (case ke => (intro _ _ _ _ _; wtm_at "fo e")))
  | (refine' ps_setLcO (i := 4) (by assumption) (by exact rfl) (by exact rfl) (by wtm_at "fo own") (by decide +kernel) rfl rfl rfl (sw_true rfl rfl rfl (by decide +kernel)) ?ki ?kg ?kt ?ke; (case ki => wtm_at "fo i"); (case kg => (intro _ _ _ _ _; wtm_at "fo g")); (case kt => (intro _ _ _ _ _; wtm_at "fo ts")); (case ke => (intro _ _ _ _ _; wtm_at "fo e")))
  | (refine' ps_setLcO (i := 5) (by assumption) (by exact rfl) (by exact rfl) (by wtm_at "fo own") (by decide +kernel) rfl rfl rfl (sw_true rfl rfl rfl (by decide +kernel)) ?ki ?kg ?kt ?ke; (case ki => wtm_at "fo i"); (case kg => (intro _ _ _ _ _; wtm_at "fo g")); (case kt => (intro _ _ _ _ _; wtm_at "fo ts")); (case ke => (intro _ _ _ _ _; wtm_at "fo e")))
  | (refine' ps_setLcO (i := 6) (by assumption) (by exact rfl) (by exact rfl) (by wtm_at "fo own") (by decide +kernel) rfl rfl rfl (sw_true rfl rfl rfl (by decide +kernel)) ?ki ?kg ?kt ?ke; (case ki => wtm_at "fo i"); (case kg => (intro _ _ _ _ _; wtm_at "fo g")); (case kt => (intro _ _ _ _ _; wtm_at "fo ts")); (case ke => (intro _ _ _ _ _; wtm_at "fo e")))
  | (refine' ps_setLcO (i := 7) (by assumption) (by exact rfl) (by exact rfl) (by wtm_at "fo own") (by decide +kernel) rfl rfl rfl (sw_true rfl rfl rfl (by decide +kernel)) ?ki ?kg ?kt ?ke; (case ki => wtm_at "fo i"); (case kg => (intro _ _ _ _ _; wtm_at "fo g")); (case kt => (intro _ _ _ _ _; wtm_at "fo ts")); (case ke => (intro _ _ _ _ _; wtm_at "fo e")))
  | (refine' ps_setLcO (i := 8) (by assumption) (by exact rfl) (by exact rfl) (by wtm_at "fo own") (by decide +kernel) rfl rfl rfl (sw_true rfl rfl rfl (by decide +kernel)) ?ki ?kg ?kt ?ke; (case ki => wtm_at "fo i"); (case kg => (intro _ _ _ _ _; wtm_at "fo g")); (case kt => (intro _ _ _ _ _; wtm_at "fo ts")); (case ke => (intro _ _ _ _ _; wtm_at "fo e")))
  | (refine' ps_setLcO (i := 9) (by assumption) (by exact rfl) (by exact rfl) (by wtm_at "fo own") (by decide +kernel) rfl rfl rfl (sw_true rfl rfl rfl (by decide +kernel)) ?ki ?kg ?kt ?ke; (case ki => wtm_at "fo i"); (case kg => (intro _ _ _ _ _; wtm_at "fo g")); (case kt => (intro _ _ _ _ _; wtm_at "fo ts")); (case ke => (intro _ _ _ _ _; wtm_at "fo e")))
  | (refine' ps_setLcO (i := 10) (by assumption) (by exact rfl) (by exact rfl) (by wtm_at "fo own") (by decide +kernel) rfl rfl rfl (sw_true rfl rfl rfl (by decide +kernel)) ?ki ?kg ?kt ?ke; (case ki => wtm_at "fo i"); (case kg => (intro _ _ _ _ _; wtm_at "fo g")); (case kt => (intro _ _ _ _ _; wtm_at "fo ts")); (case ke => (intro _ _ _ _ _; wtm_at "fo e")))
  | (refine' ps_setLcO (i := 11) (by assumption) (by exact rfl) (by exact rfl) (by wtm_at "fo own") (by decide +kernel) rfl rfl rfl (sw_true rfl rfl rfl (by decide +kernel)) ?ki ?kg ?kt ?ke; (case ki => wtm_at "fo i"); (case kg => (intro _ _ _ _ _; wtm_at "fo g")); (case kt => (intro _ _ _ _ _; wtm_at "fo ts")); (case ke => (intro _ _ _ _ _; wtm_at "fo e")))
  | (refine' ps_setLcO (i := 12) (by assumption) (by exact rfl) (by exact rfl) (by wtm_at "fo own") (by decide +kernel) rfl rfl rfl (sw_true rfl rfl rfl (by decide +kernel)) ?ki ?kg ?kt ?ke; (case ki => wtm_at "fo i"); (case kg => (intro _ _ _ _ _; wtm_at "fo g")); (case kt => (intro _ _ _ _ _; wtm_at "fo ts")); (case ke => (intro _ _ _ _ _; wtm_at "fo e")))
  | (refine' ps_setLcO (i := 13) (by assumption) (by exact rfl) (by exact rfl) (by wtm_at "fo own") (by decide +kernel) rfl rfl rfl (sw_true rfl rfl rfl (by decide +kernel)) ?ki ?kg ?kt ?ke; (case ki => wtm_at "fo i"); (case kg => (intro _ _ _ _ _; wtm_at "fo g")); (case kt => (intro _ _ _ _ _; wtm_at "fo ts")); (case ke => (intro _ _ _ _ _; wtm_at "fo e")))
  | (refine' ps_setLcO (i := 14) (by assumption) (by exact rfl) (by exact rfl) (by wtm_at "fo own") (by decide +kernel) rfl rfl rfl (sw_true rfl rfl rfl (by decide +kernel)) ?ki ?kg ?kt ?ke; (case ki => wtm_at "fo i"); (case kg => (intro _ _ _ _ _; wtm_at "fo g")); (case kt => (intro _ _ _ _ _; wtm_at "fo ts")); (case ke => (intro _ _ _ _ _; wtm_at "fo e")))
  | (refine' ps_setLcO (i := 15) (by assumption) (by exact rfl) (by exact rfl) (by wtm_at "fo own") (by decide +kernel) rfl rfl rfl (sw_true rfl rfl rfl (by decide +kernel)) ?ki ?kg ?kt ?ke; (case ki => wtm_at "fo i"); (case kg => (intro _ _ _ _ _; wtm_at "fo g")); (case kt => (intro _ _ _ _ _; wtm_at "fo ts")); (case ke => (intro _ _ _ _ _; wtm_at "fo e")))
  | fail "no")
local macro_rules | `(tactic| wtm_at "fo set") => `(tactic| first
  | (refine' ps_set (i := 0) (by assumption) rfl (by first | exact Or.inl rfl | exact Or.inr rfl) ?ka; (case ka => wtm_at "fo e"))
  | (refine' ps_set (i := 1) (by assumption) rfl (by first | exact Or.inl rfl | exact Or.inr rfl) ?ka; (case ka => wtm_at "fo e"))
  | (refine' ps_set (i := 2) (by assumption) rfl (by first | exact Or.inl rfl | exact Or.inr rfl) ?ka; (case ka => wtm_at "fo e"))
  | (refine' ps_set (i := 3) (by assumption) rfl (by first | exact Or.inl rfl | exact Or.inr rfl) ?ka; (case ka => wtm_at "fo e"))
  | (refine' ps_set (i := 4) (by assumption) rfl (by first | exact Or.inl rfl | exact Or.inr rfl) ?ka; (case ka => wtm_at "fo e"))
  | (refine' ps_set (i := 5) (by assumption) rfl (by first | exact Or.inl rfl | exact Or.inr rfl) ?ka; (case ka => wtm_at "fo e"))
  | (refine' ps_set (i := 6) (by assumption) rfl (by first | exact Or.inl rfl | exact Or.inr rfl) ?ka; (case ka => wtm_at "fo e"))
  | (refine' ps_set (i := 7) (by assumption) rfl (by first | exact Or.inl rfl | exact Or.inr rfl) ?ka; (case ka => wtm_at "fo e"))
  | (refine' ps_set (i := 8) (by assumption) rfl (by first | exact Or.inl rfl | exact Or.inr rfl) ?ka; (case ka => wtm_at "fo e"))
  | (refine' ps_set (i := 9) (by assumption) rfl (by first | exact Or.inl rfl | exact Or.inr rfl) ?ka; (case ka => wtm_at "fo e"))
  | (refine' ps_set (i := 10) (by assumption) rfl (by first | exact Or.inl rfl | exact Or.inr rfl) ?ka; (case ka => wtm_at "fo e"))
  | (refine' ps_set (i := 11) (by assumption) rfl (by first | exact Or.inl rfl | exact Or.inr rfl) ?ka; (case ka => wtm_at "fo e"))
  | (refine' ps_set (i := 12) (by assumption) rfl (by first | exact Or.inl rfl | exact Or.inr rfl) ?ka; (case ka => wtm_at "fo e"))
  | (refine' ps_set (i := 13) (by assumption) rfl (by first | exact Or.inl rfl | exact Or.inr rfl) ?ka; (case ka => wtm_at "fo e"))
  | fail "no")
local macro_rules | `(tactic| wtm_at "fo t") => `(tactic| first
  | ((with_reducible show PT _ (.BoolOp _ _ _) _); apply PW.pt; wtm_at "fo w")
  | ((with_reducible show PT _ (.UnaryOp .Not _ _) _); apply pt_not; wtm_at "fo t")
  | ((with_reducible show PT _ (.Compare _ _ _ _) _); wtm_at "fo tcmp")
  | (refine' pt_truthK (by assumption) (by exact rfl) ?ka (by intro _; rfl); (case ka => wtm_at "fo e"))
  | fail "no")
local macro_rules | `(tactic| wtm_at "fo gn") => `(tactic| first
  | exact pg_name (i := 0) (by assumption) rfl (by first | exact Or.inl rfl | exact Or.inr rfl)
  | exact pg_name (i := 1) (by assumption) rfl (by first | exact Or.inl rfl | exact Or.inr rfl)
  | exact pg_name (i := 2) (by assumption) rfl (by first | exact Or.inl rfl | exact Or.inr rfl)
  | exact pg_name (i := 3) (by assumption) rfl (by first | exact Or.inl rfl | exact Or.inr rfl)
  | exact pg_name (i := 4) (by assumption) rfl (by first | exact Or.inl rfl | exact Or.inr rfl)
  | exact pg_name (i := 5) (by assumption) rfl (by first | exact Or.inl rfl | exact Or.inr rfl)
  | exact pg_name (i := 6) (by assumption) rfl (by first | exact Or.inl rfl | exact Or.inr rfl)
  | exact pg_name (i := 7) (by assumption) rfl (by first | exact Or.inl rfl | exact Or.inr rfl)
  | exact pg_name (i := 8) (by assumption) rfl (by first | exact Or.inl rfl | exact Or.inr rfl)
  | exact pg_name (i := 9) (by assumption) rfl (by first | exact Or.inl rfl | exact Or.inr rfl)
  | exact pg_name (i := 10) (by assumption) rfl (by first | exact Or.inl rfl | exact Or.inr rfl)
  | exact pg_name (i := 11) (by assumption) rfl (by first | exact Or.inl rfl | exact Or.inr rfl)
  | exact pg_name (i := 12) (by assumption) rfl (by first | exact Or.inl rfl | exact Or.inr rfl)
  | exact pg_name (i := 13) (by assumption) rfl (by first | exact Or.inl rfl | exact Or.inr rfl)
  | exact pg_name (i := 14) (by assumption) rfl (by first | exact Or.inl rfl | exact Or.inr rfl)
  | exact pg_name (i := 15) (by assumption) rfl (by first | exact Or.inl rfl | exact Or.inr rfl)
  | fail "no")
local macro_rules | `(tactic| wtm_at "fo par") => `(tactic| first
  | (refine' ps_par (i := 0) (j := 1) rfl (by assumption) rfl rfl (by decide) rfl rfl ?ka (by rfl); (case ka => wtm_at "fo a"))
  | (refine' ps_par (i := 1) (j := 2) rfl (by assumption) rfl rfl (by decide) rfl rfl ?ka (by rfl); (case ka => wtm_at "fo a"))
  | (refine' ps_par (i := 2) (j := 3) rfl (by assumption) rfl rfl (by decide) rfl rfl ?ka (by rfl); (case ka => wtm_at "fo a"))
  | (refine' ps_par (i := 3) (j := 4) rfl (by assumption) rfl rfl (by decide) rfl rfl ?ka (by rfl); (case ka => wtm_at "fo a"))
  | (refine' ps_par (i := 4) (j := 5) rfl (by assumption) rfl rfl (by decide) rfl rfl ?ka (by rfl); (case ka => wtm_at "fo a"))
  | (refine' ps_par (i := 5) (j := 6) rfl (by assumption) rfl rfl (by decide) rfl rfl ?ka (by rfl); (case ka => wtm_at "fo a"))
  | (refine' ps_par (i := 6) (j := 7) rfl (by assumption) rfl rfl (by decide) rfl rfl ?ka (by rfl); (case ka => wtm_at "fo a"))
  | (refine' ps_par (i := 7) (j := 8) rfl (by assumption) rfl rfl (by decide) rfl rfl ?ka (by rfl); (case ka => wtm_at "fo a"))
  | (refine' ps_par (i := 8) (j := 9) rfl (by assumption) rfl rfl (by decide) rfl rfl ?ka (by rfl); (case ka => wtm_at "fo a"))
  | (refine' ps_par (i := 9) (j := 10) rfl (by assumption) rfl rfl (by decide) rfl rfl ?ka (by rfl); (case ka => wtm_at "fo a"))
  | (refine' ps_par (i := 10) (j := 11) rfl (by assumption) rfl rfl (by decide) rfl rfl ?ka (by rfl); (case ka => wtm_at "fo a"))
  | (refine' ps_par (i := 11) (j := 12) rfl (by assumption) rfl rfl (by decide) rfl rfl ?ka (by rfl); (case ka => wtm_at "fo a"))
  | (refine' ps_par (i := 12) (j := 13) rfl (by assumption) rfl rfl (by decide) rfl rfl ?ka (by rfl); (case ka => wtm_at "fo a"))
  | (refine' ps_par (i := 13) (j := 14) rfl (by assumption) rfl rfl (by decide) rfl rfl ?ka (by rfl); (case ka => wtm_at "fo a"))
  | (refine' ps_par (i := 14) (j := 15) rfl (by assumption) rfl rfl (by decide) rfl rfl ?ka (by rfl); (case ka => wtm_at "fo a"))
  | fail "no")
local macro_rules | `(tactic| wtm_at "fo g") => `(tactic| first
  | ((with_reducible show PG _ (.Name _ _) _); wtm_at "fo gn")
  | ((with_reducible show PG _ (.Tuple _ _ _) _); apply PG_or; (· refine' pg_tup2 (by assumption) (by exact rfl) rfl ?kg; (case kg => wtm_at "fo gs")); (· refine' pg_unl2 (by assumption) (by exact rfl) rfl ?kg; (case kg => wtm_at "fo gs")))
  | fail "no")
local macro_rules | `(tactic| wtm_at "fo gs") => `(tactic| first
  | exact pgs_nil
  | (refine' pgs_cons ?k1 ?k2; (case k1 => wtm_at "fo g"); (case k2 => wtm_at "fo gs"))
  | fail "no")
local macro_rules | `(tactic| wtm_at "fo i") => `(tactic| first
  | ((with_reducible show PI _ _ (.Call (.Name (Str.ofString "range") _) [_] _ _) _); refine' pi_range1 (by rfl) (by assumption) ?ka; (case ka => wtm_at "fo a"))
  | ((with_reducible show PI _ _ (.Call (.Name (Str.ofString "range") _) [_, _] _ _) _); refine' pi_range2 (by rfl) (by assumption) ?ka; (case ka => wtm_at "fo a"))
  | ((with_reducible show PI _ _ (.Call (.Name (Str.ofString "enumerate") _) [_] _ _) _); refine' pi_enum (by rfl) (by assumption) ?ka; (case ka => wtm_at "fo a"))
  | (refine' pi_listK (by assumption) (by exact rfl) ?ka; (case ka => wtm_at "fo e"))
  | fail "no")
local macro_rules | `(tactic| wtm_at "fo s") => `(tactic| first
  | ((with_reducible show PS _ (.While _ _ _ _) _); refine' ps_while PassesOwn.never ?kt ?kb; (case kt => wtm_at "fo t"); (case kb => wtm_at "fo ss"))
  | ((with_reducible show PS _ (.For _ _ _ _ _) _); refine' ps_for PassesOwn.never rfl ?ki ?kg ?kb; (case ki => wtm_at "fo i"); (case kg => wtm_at "fo g"); (case kb => wtm_at "fo ss"))
  | ((with_reducible show PS _ (.Assign [.Name _ _] (.ListComp _ [_] _ _) _) _); wtm_at "fo setlc")
  | ((with_reducible show PS _ (.Assign [.Name _ _] _ _) _); wtm_at "fo set")
  | ((with_reducible show PS _ (.Assign [.Tuple [.Name _ _, .Name _ _] _ _] (.Tuple [_, _] _ _) _) _); wtm_at "fo par")
  | ((with_reducible show PS _ (.Assign [.Subscript _ _ _] _ _) _); refine' ps_asg ?ka (pg_sub ?kb ?kc set_list); (case ka => wtm_at "fo e"); (case kb => wtm_at "fo e"); (case kc => wtm_at "fo e"))
  | ((with_reducible show PS _ (.Return (some _) _) _); apply ps_ret; wtm_at "fo e")
  | ((with_reducible show PS _ (.Expr _ _) _); refine' ps_expr ?ka; (case ka => wtm_at "fo e"))
  | ((with_reducible show PS _ (.If _ _ _ _) _); apply ps_if; (· wtm_at "fo t"); (· wtm_at "fo ss"); (· wtm_at "fo ss"))
  | fail "no")
local macro_rules | `(tactic| wtm_at "fo ss") => `(tactic| first
  | with_reducible exact pss_nil
  | ((with_reducible show PSs _ [_] _); apply pss_one; wtm_at "fo s")
  | (apply pss_cons; (· wtm_at "fo s"); (· wtm_at "fo ss"))
  | fail "no")
local macro_rules | `(tactic| wtm_at "fo hp") => `(tactic| first
  | assumption
  | exact upd_same
  | (refine (upd_ne ?ne).trans ?hp; (case ne => wtm_at "fo ne"); (case hp => wtm_at "fo hp"))
  | fail "no")
local macro_rules | `(tactic| wtm_at "fo ne") => `(tactic| first
  | assumption
  | (apply Ne.symm; assumption)
  | exact ne_of_none (by assumption) (by assumption)
  | exact Ne.symm (ne_of_none (by assumption) (by assumption))
  | fail "no")
local macro_rules | `(tactic| wtm_at "fo sz") => `(tactic| first
  | exact (Nat.le_of_ble_eq_true rfl : _ ≤ sizeLine)
  | exact (Nat.le_of_ble_eq_true rfl : _ < sizeLine)
  | exact Nat.lt_of_le_of_lt (m := 100000) (by first | assumption | omega | (simp; omega)) (by decide)
  | exact Nat.le_trans (m := 100000) (by first | assumption | omega | (simp; omega)) (by decide)
  | fail "no")
local macro_rules | `(tactic| wtm_at "fo r1") => `(tactic| first
  | refine ⟨(Nat.le_of_ble_eq_true rfl : _ ≤ sizeLine), fun p np => ?_⟩
  | (refine' ⟨_, _, rfl, Or.inl (SqL.of ?h), ?_⟩; (case h => wtm_at "fo hp"))
  | refine ⟨_, rfl, ?_⟩
  | refine ⟨_, _, rfl, rfl, ?_⟩
  | refine ⟨_, _, rfl, ⟨by omega, by omega, by omega, by omega⟩, ?_⟩
  | refine ⟨_, rfl, by omega, by omega, ?_⟩
  | refine Or.inl ⟨_, rfl, ?_⟩
  | refine Or.inl ⟨rfl, ?_⟩
  | refine Or.inl ⟨_, _, rfl, rfl, ?_⟩
  | (refine' Or.inl ⟨_, _, _, _, rfl, rfl, SqL.of ?h, ?a, ?_⟩; (case h => wtm_at "fo hp"); (case a => rfl))
  | (refine' ⟨_, _, _, _, rfl, rfl, ?h, ?a, ?_⟩; (case h => wtm_at "fo hp"); (case a => rfl))
  | (refine' ⟨.inl ⟨rfl, _, SqL.of ?h⟩, ?_⟩; (case h => wtm_at "fo hp"))
  | (refine' ⟨_, _, _, rfl, rfl, ?h, ?z, ?_⟩; (case h => wtm_at "fo hp"); (case z => wtm_at "fo sz"))
  | (refine' ⟨_, rfl, ⟨_, SqL.of ?h⟩, ?_⟩; (case h => wtm_at "fo hp"))
  | fail "no")
local macro_rules | `(tactic| wtm_at "fo side") => `(tactic| ((try dsimp only [CMul, CDiv]); first
  | assumption
  | decide
  | omega
  | exact ⟨by decide, by decide⟩
  | exact ⟨by omega, by omega⟩
  | decide +kernel
  | fail "no"))
local macro_rules | `(tactic| wtm_at "fo r2") => `(tactic| first
  | wtm_at "fo r1"
  | refine And.intro (by wtm_at "fo side") ?_
  | fail "no")
local macro_rules | `(tactic| wtm_at "fo r") => `(tactic| repeat wtm_at "fo r2")
/-! ### what is beside, by the law -/
def near0 (n : Nat) : List (List Int) := [] :: (List.range n).map fun (i : Nat) => [((i : Int) + 1)]
def addE (t : List (List Int)) (e : Int × Int) : List (List Int) := (t.modify e.1.toNat (· ++ [e.2])).modify e.2.toNat (· ++ [e.1])
def nearM (n : Nat) (es : List (Int × Int)) : List (List Int) := es.foldl addE (near0 n)
def Pairs (H : Hp) (p : Addr) (es : List (Int × Int)) : Prop := ∃ rs : List Addr, H p = some (.lst (rs.map V.ref)) ∧ rs.length = es.length ∧
  ∀ (i : Nat) (r : Addr) (e : Int × Int), rs[i]? = some r → es[i]? = some e → H r = some (.lst [.int e.1, .int e.2])
def Lists (H : Hp) (p : Addr) (ts : List (List Int)) : Prop := ∃ rs : List Addr, H p = some (.lst (rs.map V.ref)) ∧ rs.Nodup ∧ rs.length = ts.length ∧
  ∀ (i : Nat) (r : Addr) (t : List Int), rs[i]? = some r → ts[i]? = some t → H r = some (.lst (t.map V.int))
theorem addE_length (t : List (List Int)) (e : Int × Int) : (addE t e).length = t.length := by
  unfold addE
  rw [List.length_modify, List.length_modify]
theorem foldl_addE_length : ∀ (es : List (Int × Int)) (t : List (List Int)), (es.foldl addE t).length = t.length
  | [], _ => rfl
  | e :: es, t => by
    rw [List.foldl_cons, foldl_addE_length es, addE_length]
theorem mem_modify {α : Type} {f : α → α} {l : List α} {i : Nat} {x : α} (h : x ∈ l.modify i f) : x ∈ l ∨ ∃ y ∈ l, x = f y := by
  obtain ⟨j, hj⟩ := List.getElem?_of_mem h
  rw [List.getElem?_modify] at hj
  cases hl : l[j]? with
  | none => rw [hl] at hj; simp at hj
  | some y =>
    rw [hl] at hj
    have hm := List.mem_of_getElem? hl
    by_cases e : i = j
    · simp [e] at hj
      exact .inr ⟨y, hm, hj.symm⟩
    · simp [e] at hj
      exact .inl (hj ▸ hm)
theorem addE_bound {t : List (List Int)} {b : Nat} (h : ∀ u ∈ t, u.length ≤ b) (e : Int × Int) : ∀ u ∈ addE t e, u.length ≤ b + 2 := by
  intro u hu
  unfold addE at hu
  rcases mem_modify hu with hu | ⟨v, hv, rfl⟩
  · rcases mem_modify hu with hu | ⟨v, hv, rfl⟩
    · exact Nat.le_trans (h u hu) (by omega)
    · have := h v hv
      simp; omega
  · rcases mem_modify hv with hv | ⟨x, hx, rfl⟩
    · have := h v hv
      simp; omega
    · have := h x hx
      simp; omega
theorem foldl_addE_bound : ∀ (es : List (Int × Int)) (t : List (List Int)) (b : Nat), (∀ u ∈ t, u.length ≤ b) → ∀ u ∈ es.foldl addE t, u.length ≤ b + 2 * es.length
  | [], _, _, h => h
  | e :: es, t, b, h => fun u hu => by
    have := foldl_addE_bound es (addE t e) (b + 2) (addE_bound h e) u hu
    rw [List.length_cons]
    omega
theorem near0_length (n : Nat) : (near0 n).length = n + 1 := by simp [near0]
theorem near0_bound (n : Nat) : ∀ u ∈ near0 n, u.length ≤ 1 := by
  intro u hu
  simp [near0] at hu
  rcases hu with rfl | ⟨i, _, rfl⟩ <;> simp
@[irreducible] def spNear : Sp := fun vs H Q _ => ∃ (n : Nat) (q : Addr) (es : List (Int × Int)), vs = [.int n, .ref q] ∧ n ≤ 12 ∧ Pairs H q es ∧ es.length ≤ 200 ∧ (∀ e ∈ es, 1 ≤ e.1 ∧ e.1 ≤ n ∧ 1 ≤ e.2 ∧ e.2 ≤ n) ∧
  ∀ p H', Same H H' → H p = none → Lists H' p (nearM n es) → Q (.ref p) H'
theorem call_near {n : Nat} {q : Addr} {es : List (Int × Int)} {H : Hp} {Q : VK} {E : XK} (hn : n ≤ 12) (hq : Pairs H q es) (hl : es.length ≤ 200) (he : ∀ e ∈ es, 1 ≤ e.1 ∧ e.1 ≤ n ∧ 1 ≤ e.2 ∧ e.2 ≤ n)
    (fin : ∀ p H', Same H H' → H p = none → Lists H' p (nearM n es) → Q (.ref p) H') : spNear [.int n, .ref q] H Q E := by
  unfold spNear
  exact ⟨n, q, es, rfl, hn, hq, hl, he, fin⟩
variable {P : Program} {w : World} {K : PySem.W.Frag} {mg : Str → Option Value} {base : Heap}
set_option maxHeartbeats 4000000 in
theorem ok_near {f : Addr} {fd : FuncData} (F : Fun K "_law_near" "_law_near" s_law_near f fd) (mr : mg "range" = none) :
    FnOk P w K mg base CX0 1 f fd ["_law_size", "_law_sides"] spNear := by
  refine F.ok sc_law_near (fun vs H Q E h => ?_) (fun cdv A outer s H vs Q E hr h => ?_)
  · unfold spNear at h
    obtain ⟨n, q, es, rfl, _⟩ := h
    rfl
  · have nd := sc_law_near.nd
    have hS := sc_law_near
    have hKM : KMark K := ⟨⟩
    refine' mk_body ?body ?rd
    case body =>
      show PSs _ [_, _, _] _
      wtm_at "fo ss"
    case rd =>
     unfold spNear at h
     obtain ⟨n, q, es, rfl, hn, hq, hl, he, fin⟩ := h
     wtm_at "fo r"
     rename_i p0 np0 p1 np1
     have h10 : p0 ≠ p1 := ne_of_none (upd_same (H := H) (a := p0) (o := HO.lst [])) np1
     have np1' : H p1 = none := by rw [upd_ne h10.symm] at np1; exact np1
     refine fun D nD => ?_
     have hD0 : p0 ≠ D := ne_of_none (H := upd (upd H p0 (.lst [])) p1 (.lst [V.ref p0])) (by rw [upd_ne h10]; exact upd_same) nD
     have hD1 : p1 ≠ D := ne_of_none (upd_same (H := upd H p0 (.lst []))) nD
     have nD' : H D = none := by
       rw [upd_ne hD1.symm, upd_ne hD0.symm] at nD
       exact nD
     have hN : ((n : Int) + 1 - 1).toNat = n := by omega
     refine lc_range (fun i H1 => i ≤ n ∧ Same H H1 ∧ H1 p0 = some (.lst []) ∧ H1 p1 = some (.lst [V.ref p0]) ∧ ∃ rs, LsAt H H1 D rs ((List.range i).map fun (i : Nat) => [((i : Int) + 1)]) ∧ p0 ∉ rs) ?_ ?_ ?_
     · refine ⟨Nat.zero_le _, same_upd (same_upd (same_upd (Same.refl H) np0) np1') nD', ?_, ?_, [], LsAt.nil upd_same, by simp⟩
       · rw [upd_ne hD0, upd_ne h10]
         exact upd_same
       · rw [upd_ne hD1]
         exact upd_same
     · rintro i H1 hi ⟨hin, sm, e0, e1, rs, L, h0⟩
       rw [hN] at hi
       refine ⟨rfl, ?_⟩
       wtm_at "fo r"
       rename_i r nr
       have nr0 : H r = none := sm.free nr
       have a1 : p0 ≠ r := ne_of_none e0 nr
       have a2 : p1 ≠ r := ne_of_none e1 nr
       have e3 : (1 : Int) + (i : Int) = (i : Int) + 1 := by omega
       have L2 := L.push (t := [(i : Int) + 1]) nr nr0
       refine ⟨rs.map V.ref, ?_, ?_, by omega, ?_, ?_, ?_, rs ++ [r], ?_, ?_⟩
       · rw [upd_ne (ne_of_none L.hD nr)]
         exact L.hD
       · rw [List.length_map, L.len, List.length_map, List.length_range]
         exact Nat.lt_of_le_of_lt (m := 100) (by omega) (by decide)
       · exact same_upd (same_upd sm nr0) nD'
       · rw [upd_ne hD0, upd_ne a1]
         exact e0
       · rw [upd_ne hD1, upd_ne a2]
         exact e1
       · rw [e3, List.range_succ, List.map_append]
         exact L2
       · intro h
         rcases List.mem_append.mp h with h | h
         · exact h0 h
         · simp at h
           exact a1 h
     · rintro H1 ⟨hin, sm, e0, e1, rs, L, h0⟩
       rw [hN] at L
       refine Or.inr ⟨_, _, _, _, rfl, rfl, e1, L.hD, ?_, fun p2 np2 => ?_⟩
       · have : rs.length = n := by rw [L.len, List.length_map, List.length_range]
         rw [List.length_map, this]
         show 1 + n ≤ sizeLine
         exact Nat.le_trans (m := 100) (by omega) (by decide)
       have L0 : LsAt H (upd H1 p2 (.lst ([V.ref p0] ++ rs.map V.ref))) p2 (p0 :: rs) (near0 n) := by
         have h02 : p0 ≠ p2 := ne_of_none e0 np2
         have L' := L.but (o := HO.lst ([V.ref p0] ++ rs.map V.ref)) np2
         refine ⟨upd_same, List.nodup_cons.mpr ⟨h0, L.nd⟩, by simp [near0, L.len], ?_, ?_, ?_⟩
         · intro i r t hr ht
           cases i with
           | zero =>
             simp [near0] at hr ht
             subst hr ht
             rw [upd_ne h02]
             exact e0
           | succ i =>
             simp only [List.getElem?_cons_succ] at hr
             have ht' : ((List.range n).map fun (i : Nat) => [((i : Int) + 1)])[i]? = some t := ht
             exact L'.at_ i r t hr ht'
         · intro r hr
           rcases List.mem_cons.mp hr with rfl | hr
           · exact np0
           · exact L.fr r hr
         · intro h
           rcases List.mem_cons.mp h with h | h
           · exact h02 h.symm
           · obtain ⟨o, ho⟩ := L.trk h
             rw [np2] at ho
             cases ho
       have np2' : H p2 = none := sm.free np2
       have sm2 : Same H (upd H1 p2 (.lst ([V.ref p0] ++ rs.map V.ref))) := same_upd sm (sm.free np2)
       generalize upd H1 p2 (.lst ([V.ref p0] ++ rs.map V.ref)) = H2 at L0 sm2
       generalize p0 :: rs = ps at L0
       obtain ⟨qs, hq1, hq2, hq3⟩ := hq
       have hq' : H2 q = some (.lst (qs.map V.ref)) := sm2 _ _ hq1
       refine ⟨_, rfl, q, rfl, ⟨_, SqL.of hq'⟩, ?_⟩
       refine for_list (K := K) (xs := qs.map V.ref) (fun i σ H3 => ∃ y4 y5, σ = [some (.int n), some (.ref q), some (.ref p2), none, y4, y5] ∧ Same H H3 ∧ LsAt H H3 p2 ps ((es.take i).foldl addE (near0 n)))
         ⟨none, none, rfl, sm2, L0⟩ ?_ ?_ ?_
       · rintro i σ H3 hi ⟨y4, y5, rfl, sm3, L3⟩
         exact SqL.of (sm3 _ _ hq1)
       · rintro i x σ H3 hx ⟨y4, y5, rfl, sm3, L3⟩
         obtain ⟨r, hr, rfl⟩ : ∃ r, qs[i]? = some r ∧ x = V.ref r := by
           rw [List.getElem?_map] at hx
           cases hq : qs[i]? with
           | none => rw [hq] at hx; cases hx
           | some r => rw [hq] at hx; exact ⟨r, rfl, (Option.some.inj hx).symm⟩
         have hi : i < es.length := by rw [← hq2]; exact (List.getElem?_eq_some_iff.mp hr).1
         have hes : es[i]? = some es[i] := List.getElem?_eq_getElem hi
         have htk : (es.take (i + 1)).foldl addE (near0 n) = addE ((es.take i).foldl addE (near0 n)) es[i] := by
           rw [List.take_add_one, hes, List.foldl_append]
           rfl
         have hb := foldl_addE_bound (es.take i) (near0 n) 1 (near0_bound n)
         have hlt : ((es.take i).foldl addE (near0 n)).length = n + 1 := by rw [foldl_addE_length, near0_length]
         have htl : (es.take i).length ≤ 200 := Nat.le_trans (List.length_take_le ..) (by omega)
         generalize (es.take i).foldl addE (near0 n) = ts at *
         obtain ⟨h1, h2, h3, h4⟩ := he es[i] (List.getElem_mem hi)
         have hre := sm3 _ _ (hq3 i r es[i] hr hes)
         generalize es[i] = e at *
         obtain ⟨ea, eb⟩ := e
         simp only at h1 h2 h3 h4 hre
         have hpl : ps.length = n + 1 := by rw [L3.len, hlt]
         have g1 : ea.toNat < ps.length := by omega
         have g2 : eb.toNat < ps.length := by omega
         have k1 : ps[ea.toNat]? = some ps[ea.toNat] := List.getElem?_eq_getElem g1
         have k2 : ps[eb.toNat]? = some ps[eb.toNat] := List.getElem?_eq_getElem g2
         have u1 : ts[ea.toNat]? = some ts[ea.toNat] := List.getElem?_eq_getElem (by omega)
         have hA := L3.at_ _ _ _ k1 u1
         have b1 := hb _ (List.getElem_mem (show ea.toNat < ts.length by omega))
         have L4 := L3.modify (v := eb) k1 u1
         have sm4 : Same H (upd H3 ps[ea.toNat] (.lst (ts[ea.toNat].map V.int ++ [V.int eb]))) := same_upd sm3 (L3.fr _ (List.mem_of_getElem? k1))
         refine Or.inr ⟨r, [.int ea, .int eb], rfl, SqL.of hre, rfl, .int ea, [.int eb], rfl, .int eb, [], rfl, rfl, ?_⟩
         wtm_at "fo r"
         refine Or.inl ⟨p2, ps.map V.ref, ea, .ref ps[ea.toNat], rfl, rfl, SqL.of L3.hD, at_of (j := ea.toNat) (by omega) (by rw [List.getElem?_map, k1]; rfl), ?_⟩
         refine ⟨.inl ⟨rfl, _, SqL.of hA⟩, _, rfl, _, _, _, rfl, rfl, hA, ?_, ?_⟩
         · rw [List.length_map]
           exact Nat.lt_of_le_of_lt (m := 1000) (by omega) (by decide)
         wtm_at "fo r"
         have hlt2 : (ts.modify ea.toNat (· ++ [eb])).length = n + 1 := by rw [List.length_modify, hlt]
         have u2 : (ts.modify ea.toNat (· ++ [eb]))[eb.toNat]? = some (ts.modify ea.toNat (· ++ [eb]))[eb.toNat] := List.getElem?_eq_getElem (by omega)
         have hB := L4.at_ _ _ _ k2 u2
         have b2 : ((ts.modify ea.toNat (· ++ [eb]))[eb.toNat]).length ≤ 500 := by
           rcases mem_modify (List.mem_of_getElem? u2) with hu | ⟨v, hv, e⟩
           · exact Nat.le_trans (hb _ hu) (by omega)
           · have := hb _ hv
             rw [e]
             simp; omega
         have L5 := L4.modify (v := ea) k2 u2
         refine Or.inl ⟨p2, ps.map V.ref, eb, .ref ps[eb.toNat], rfl, rfl, SqL.of L4.hD, at_of (j := eb.toNat) (by omega) (by rw [List.getElem?_map, k2]; rfl), ?_⟩
         refine ⟨.inl ⟨rfl, _, SqL.of hB⟩, _, rfl, _, _, _, rfl, rfl, hB, ?_, ?_⟩
         · rw [List.length_map]
           exact Nat.lt_of_le_of_lt (m := 1000) (by omega) (by decide)
         refine ⟨_, _, rfl, same_upd sm4 (L3.fr _ (List.mem_of_getElem? k2)), ?_⟩
         rw [htk]
         exact L5
       · rintro σ H3 ⟨y4, y5, rfl, sm3, L3⟩
         rw [List.length_map, hq2, List.take_length] at L3
         wtm_at "fo r"
         exact fin p2 H3 sm3 np2' ⟨ps, L3.hD, L3.nd, L3.len, L3.at_⟩

end Fo

/-! piece D5m -/
namespace Fo
open PySem PySem.Spec PyProof.Rows L2
/-! ### nets in lists of pairs -/
abbrev Edge := Int × Int
def Apart (a b : Edge) : Prop := a ≠ b ∧ a ≠ (b.2, b.1)
structure Simp (n : Int) (es : List Edge) : Prop where
  rng : ∀ e ∈ es, 1 ≤ e.1 ∧ e.1 ≤ n ∧ 1 ≤ e.2 ∧ e.2 ≤ n ∧ e.1 ≠ e.2
  ap : es.Pairwise Apart
theorem Apart.symm {a b : Edge} (h : Apart a b) : Apart b a := ⟨fun e => h.1 e.symm, fun e => h.2 (by rw [e])⟩
structure PsAt (H : Hp) (D : Addr) (rs : List Addr) (es : List Edge) : Prop where
  hD : H D = some (.lst (rs.map V.ref))
  len : rs.length = es.length
  at_ : ∀ (i : Nat) (r : Addr) (e : Edge), rs[i]? = some r → es[i]? = some e → H r = some (.lst [.int e.1, .int e.2])
theorem PsAt.pairs {H : Hp} {D : Addr} {rs : List Addr} {es : List Edge} (h : PsAt H D rs es) : Pairs H D es := ⟨rs, h.hD, h.len, h.at_⟩
theorem PsAt.of {H : Hp} {D : Addr} {es : List Edge} (h : Pairs H D es) : ∃ rs, PsAt H D rs es := by
  obtain ⟨rs, a, b, c⟩ := h
  exact ⟨rs, a, b, c⟩
theorem PsAt.mem {H : Hp} {D : Addr} {rs : List Addr} {es : List Edge} (h : PsAt H D rs es) {r : Addr} (hr : r ∈ rs) : ∃ e ∈ es, H r = some (.lst [.int e.1, .int e.2]) := by
  obtain ⟨i, hi⟩ := List.getElem?_of_mem hr
  have hl : i < es.length := by rw [← h.len]; exact (List.getElem?_eq_some_iff.mp hi).1
  exact ⟨es[i], List.getElem_mem hl, h.at_ i r _ hi (List.getElem?_eq_getElem hl)⟩
theorem PsAt.ne {H : Hp} {D : Addr} {rs : List Addr} {es : List Edge} (h : PsAt H D rs es) {r : Addr} (hr : r ∈ rs) : r ≠ D := by
  obtain ⟨e, _, he⟩ := h.mem hr
  refine ne_of he h.hD ?_
  intro q
  injection q with q
  cases rs with
  | nil => simp at q
  | cons a l => simp at q
theorem PsAt.nil {H : Hp} {D : Addr} (h : H D = some (.lst [])) : PsAt H D [] [] := ⟨h, rfl, fun i r e h _ => by simp at h⟩
theorem PsAt.same {H H' : Hp} {D : Addr} {rs : List Addr} {es : List Edge} (h : PsAt H D rs es) (s : Same H H') : PsAt H' D rs es :=
  ⟨s _ _ h.hD, h.len, fun i r e a b => s _ _ (h.at_ i r e a b)⟩
theorem Dr.ne_refs {H : Hp} {d D : Addr} {k : Int} {rs : List Addr} (h : Dr H d k) (hr : H D = some (.lst (rs.map V.ref))) : D ≠ d := by
  obtain ⟨a, b, hd, _⟩ := h
  refine ne_of hr hd ?_
  intro e
  injection e with e
  cases rs with
  | nil => simp at e
  | cons x l => simp at e
theorem Dr.ne_ints {H : Hp} {d D : Addr} {k : Int} {xs : List Int} (h : Dr H d k) (hr : H D = some (.lst (xs.map V.int))) : D ≠ d := by
  obtain ⟨a, b, hd, _⟩ := h
  refine ne_of hr hd ?_
  intro e
  injection e with e
  cases xs with
  | nil => simp at e
  | cons x l => cases l with
    | nil => simp at e
    | cons y l => cases l with
      | nil => simp at e
      | cons z l => simp at e
theorem PsAt.but {H H' : Hp} {d D : Addr} {k : Int} {rs : List Addr} {es : List Edge} (h : PsAt H D rs es) (s : SameBut d H H') (hd : Dr H d k) : PsAt H' D rs es :=
  ⟨s _ _ (hd.ne_refs h.hD) h.hD, h.len, fun i r e a b => s _ _ (hd.ne_pair (h.at_ i r e a b)) (h.at_ i r e a b)⟩
theorem PsAt.push {H : Hp} {D r : Addr} {rs : List Addr} {es : List Edge} (h : PsAt H D rs es) (nr : H r = none) (e : Edge) :
    PsAt (upd (upd H r (.lst [.int e.1, .int e.2])) D (.lst (rs.map V.ref ++ [V.ref r]))) D (rs ++ [r]) (es ++ [e]) := by
  have hDr : D ≠ r := ne_of_none h.hD nr
  refine ⟨?_, ?_, ?_⟩
  · rw [upd_same, List.map_append]
    rfl
  · rw [List.length_append, List.length_append, h.len]
    rfl
  · intro i a u ha hu
    by_cases hi : i < rs.length
    · rw [List.getElem?_append_left hi] at ha
      rw [List.getElem?_append_left (by rw [← h.len]; exact hi)] at hu
      rw [upd_ne (h.ne (List.mem_of_getElem? ha)), upd_ne (ne_of_none (h.at_ i a u ha hu) nr)]
      exact h.at_ i a u ha hu
    · rw [List.getElem?_append_right (by omega)] at ha
      rw [List.getElem?_append_right (by rw [← h.len]; omega), ← h.len] at hu
      have e0 : i - rs.length = 0 := by
        have := (List.getElem?_eq_some_iff.mp ha).1
        simp at this
        omega
      rw [e0] at ha hu
      simp at ha hu
      subst ha hu
      rw [upd_ne hDr.symm, upd_same]
theorem PsAt.cat {H : Hp} {D D2 p : Addr} {rs rs2 : List Addr} {es es2 : List Edge} (h : PsAt H D rs es) (h2 : PsAt H D2 rs2 es2) (np : H p = none) :
    PsAt (upd H p (.lst (rs.map V.ref ++ rs2.map V.ref))) p (rs ++ rs2) (es ++ es2) := by
  refine ⟨by rw [upd_same, List.map_append], by rw [List.length_append, List.length_append, h.len, h2.len], ?_⟩
  intro i a u ha hu
  by_cases hi : i < rs.length
  · rw [List.getElem?_append_left hi] at ha
    rw [List.getElem?_append_left (by rw [← h.len]; exact hi)] at hu
    rw [upd_ne (ne_of_none (h.at_ i a u ha hu) np)]
    exact h.at_ i a u ha hu
  · rw [List.getElem?_append_right (by omega)] at ha
    rw [List.getElem?_append_right (by rw [← h.len]; omega), ← h.len] at hu
    rw [upd_ne (ne_of_none (h2.at_ _ a u ha hu) np)]
    exact h2.at_ _ a u ha hu
theorem PsAt.one {H : Hp} {D r : Addr} {e : Edge} (hD : H D = some (.lst [V.ref r])) (hr : H r = some (.lst [.int e.1, .int e.2])) : PsAt H D [r] [e] := by
  refine ⟨hD, rfl, ?_⟩
  intro i a u ha hu
  cases i with
  | zero => simp at ha hu; subst ha hu; exact hr
  | succ i => simp at ha
/-! numbers without repeats -/
theorem nodup_le : ∀ (n : Nat) (l : List Int), l.Nodup → (∀ x ∈ l, 1 ≤ x ∧ x ≤ n) → l.length ≤ n
  | 0, l, _, h => by
    cases l with
    | nil => exact Nat.le_refl _
    | cons a r => have := h a (List.mem_cons_self ..); omega
  | n + 1, l, nd, h => by
    have h1 : (l.erase ((n : Int) + 1)).length ≤ n := by
      apply nodup_le n _ (nd.erase _)
      intro x hx
      have hx2 := (List.Nodup.mem_erase_iff nd).mp hx
      have := h x hx2.2
      have := hx2.1
      omega
    have h2 : l.length ≤ (l.erase ((n : Int) + 1)).length + 1 := by
      rw [List.length_erase]
      split <;> omega
    omega
/-! the mates of a place in a list of pairs -/
def mates (g : Int) (es : List Edge) : List Int := es.filterMap fun e => if e.1 = g ∨ e.2 = g then some (e.1 + e.2 - g) else none
theorem mates_rng {n g : Int} {es : List Edge} (h : Simp n es) : ∀ m ∈ mates g es, 1 ≤ m ∧ m ≤ n ∧ m ≠ g := by
  intro m hm
  obtain ⟨e, he, hf⟩ := List.mem_filterMap.mp hm
  have := h.rng e he
  split at hf
  · rename_i hg
    cases hf
    rcases hg with rfl | rfl <;> omega
  · cases hf
theorem mates_nodup {n g : Int} {es : List Edge} (h : Simp n es) : (mates g es).Nodup := by
  unfold mates List.Nodup
  rw [List.pairwise_filterMap]
  refine h.ap.imp_of_mem ?_
  intro a b ha hb hab x hx y hy
  split at hx
  · rename_i h1
    split at hy
    · rename_i h2
      cases hx
      cases hy
      intro e
      obtain ⟨a1, a2⟩ := a
      obtain ⟨b1, b2⟩ := b
      have q1 := hab.1
      have q2 := hab.2
      simp only [ne_eq, Prod.mk.injEq] at q1 q2
      simp only at e h1 h2
      apply Classical.byContradiction
      intro _
      omega
    · cases hy
  · cases hx
theorem simp_grow {s g : Int} {es : List Edge} {fs : List Int} (h : Simp (s - 1) es) (g1 : 1 ≤ g) (g2 : g ≤ s - 1) (hf : fs.Sublist (mates g es)) : Simp s (es ++ (g, s) :: fs.map fun m => (m, s)) := by
  have hr : ∀ m ∈ g :: fs, 1 ≤ m ∧ m ≤ s - 1 := by
    intro m hm
    rcases List.mem_cons.mp hm with rfl | hm
    · exact ⟨g1, g2⟩
    · have := mates_rng h m (hf.subset hm)
      exact ⟨this.1, this.2.1⟩
  have hnd : (g :: fs).Nodup := by
    refine List.nodup_cons.mpr ⟨fun hg => ?_, (mates_nodup h).sublist hf⟩
    exact (mates_rng h g (hf.subset hg)).2.2 rfl
  have hm : (g, s) :: fs.map (fun m => (m, s)) = (g :: fs).map fun m => (m, s) := rfl
  rw [hm]
  generalize g :: fs = l at hr hnd
  refine ⟨?_, ?_⟩
  · intro e he
    rcases List.mem_append.mp he with he | he
    · have := h.rng e he
      omega
    · obtain ⟨m, hm, rfl⟩ := List.mem_map.mp he
      have := hr m hm
      simp only
      omega
  · rw [List.pairwise_append]
    refine ⟨h.ap, ?_, ?_⟩
    · rw [List.pairwise_map]
      refine hnd.imp_of_mem ?_
      intro a b ha hb hab
      have := hr a ha
      have := hr b hb
      refine ⟨fun e => hab ?_, fun e => ?_⟩
      · simp only [Prod.mk.injEq] at e; exact e.1
      · simp only [Prod.mk.injEq] at e; omega
    · intro a ha b hb
      obtain ⟨m, hm, rfl⟩ := List.mem_map.mp hb
      have q1 := h.rng a ha
      have q2 := hr m hm
      refine ⟨fun e => ?_, fun e => ?_⟩
      · have e1 := congrArg Prod.snd e
        simp only at e1
        omega
      · have e1 := congrArg Prod.fst e
        simp only at e1
        omega
theorem mates_len {s g : Int} {es : List Edge} {fs : List Int} (h : Simp (s - 1) es) (hs : s ≤ 13) (hf : fs.Sublist (mates g es)) : fs.length ≤ 12 := by
  apply nodup_le 12 fs ((mates_nodup h).sublist hf)
  intro m hm
  have := mates_rng h m (hf.subset hm)
  omega
theorem simp_mono {n m : Int} {es : List Edge} (h : Simp n es) (hm : n ≤ m) : Simp m es := ⟨fun e he => by have := h.rng e he; omega, h.ap⟩

theorem mates_snoc (g : Int) (es : List Edge) (e : Edge) : mates g (es ++ [e]) = mates g es ++ (if e.1 = g ∨ e.2 = g then [e.1 + e.2 - g] else []) := by
  unfold mates
  rw [List.filterMap_append]
  congr 1
  by_cases h : e.1 = g ∨ e.2 = g
  · simp [h]
  · simp [h]
theorem mates_length (g : Int) (es : List Edge) : (mates g es).length ≤ es.length := List.length_filterMap_le ..
theorem inV2 (g a b : Int) : inV (.int g) [.int a, .int b] = decide (a = g ∨ b = g) := by
  simp only [inV, List.any_cons, List.any_nil, Bool.or_false, eqV]
  by_cases h1 : a = g <;> by_cases h2 : b = g <;> simp [h1, h2]
theorem Dr.same {H H' : Hp} {d : Addr} {k : Int} (h : Dr H d k) (s : Same H H') : Dr H' d k := by
  obtain ⟨a, b, e, h0⟩ := h
  exact ⟨a, b, s _ _ e, h0⟩
theorem Same.but {H H' : Hp} (d : Addr) (s : Same H H') : SameBut d H H' := fun b o _ e => s b o e
theorem SameBut.none {d p : Addr} {H H' : Hp} {k : Int} (s : SameBut d H H') (hd : Dr H' d k) (np : H' p = none) : H p = none := by
  cases hq : H p with
  | none => rfl
  | some o =>
    obtain ⟨a, b, e, _⟩ := hd
    have hne : p ≠ d := (ne_of_none e np).symm
    rw [s p o hne hq] at np
    cases np

end Fo

/-! piece D5 -/
namespace Fo
open PySem PySem.Spec PyProof.Rows L2
local macro_rules | `(tactic| wtm_at "fo a") => `(tactic| first
  | exact pa_nil
  | (refine' pa_cons ?k1 ?k2; (case k1 => wtm_at "fo e"); (case k2 => wtm_at "fo a"))
  | fail "no")
local macro_rules | `(tactic| wtm_at "fo v") => `(tactic| first
  | exact pv 0
  | exact pv 1
  | exact pv 2
  | exact pv 3
  | exact pv 4
  | exact pv 5
  | exact pv 6
  | exact pv 7
  | exact pv 8
  | exact pv 9
  | exact pv 10
  | exact pv 11
  | exact pv 12
  | exact pv 13
  | exact pv 14
  | exact pv 15
  | fail "no")
local macro_rules | `(tactic| wtm_at "fo e") => `(tactic| first
  | with_reducible exact pe_int
  | with_reducible exact pe_bl
  | with_reducible exact pe_non
  | with_reducible exact pe_str
  | ((with_reducible show PE _ (.Name _ _) _); wtm_at "fo v")
  | ((with_reducible show PE _ (.BinOp _ .Add _ _) _); apply pe_op opAddB <;> wtm_at "fo e")
  | ((with_reducible show PE _ (.BinOp _ .Sub _ _) _); apply pe_op op_sub <;> wtm_at "fo e")
  | ((with_reducible show PE _ (.BinOp _ .Mult _ _) _); apply pe_op op_mul <;> wtm_at "fo e")
  | ((with_reducible show PE _ (.BinOp _ .Mod _ _) _); apply pe_op op_mod <;> wtm_at "fo e")
  | ((with_reducible show PE _ (.BinOp _ .FloorDiv _ _) _); apply pe_op op_fdiv <;> wtm_at "fo e")
  | ((with_reducible show PE _ (.BinOp _ .Pow _ _) _); apply pe_op op_powW <;> wtm_at "fo e")
  | ((with_reducible show PE _ (.BinOp _ .LShift _ _) _); apply pe_op op_shl <;> wtm_at "fo e")
  | ((with_reducible show PE _ (.BinOp _ .RShift _ _) _); apply pe_op op_shr <;> wtm_at "fo e")
  | ((with_reducible show PE _ (.BinOp _ .BitAnd _ _) _); apply pe_op op_and <;> wtm_at "fo e")
  | ((with_reducible show PE _ (.List _ _) _); apply pe_lst; wtm_at "fo a")
  | ((with_reducible show PE _ (.Tuple _ _ _) _); apply pe_tup; wtm_at "fo a")
  | ((with_reducible show PE _ (.ListComp _ [_] _ _) _); wtm_at "fo lc")
  | ((with_reducible show PE _ (.IfExp _ _ _ _) _); apply pe_ifExp; (· wtm_at "fo t"); (· wtm_at "fo e"); (· wtm_at "fo e"))
  | ((with_reducible show PE _ (.UnaryOp .USub _ _) _); apply pe_un un_neg; wtm_at "fo e")
  | ((with_reducible show PE _ (.Call (.Name _ _) [] (_ :: _) _) _); wtm_at "fo kcall")
  | ((with_reducible show PE _ (.Call (.Name _ _) _ _ _) _); wtm_at "fo call")
  | ((with_reducible show PE _ (.Call (.Attribute _ _ _) _ _ _) _); wtm_at "fo meth")
  | ((with_reducible show PE _ (.Compare _ _ _ _) _); wtm_at "fo cmp")
  | ((with_reducible show PE _ (.Subscript _ (.Slice _ _ _ _) _) _); wtm_at "fo slice")
  | ((with_reducible show PE _ (.Subscript _ _ _) _); refine' pe_ix (ix_seqK (by assumption) (by exact rfl)) ?ka ?kb (fun _ _ => rfl); (case ka => wtm_at "fo e"); (case kb => wtm_at "fo e"))
  | fail "no")
local macro_rules | `(tactic| wtm_at "fo own") => `(tactic| first
  | ((show _ = [0]); kernel_rfl!)
  | ((show _ = [1]); kernel_rfl!)
  | ((show _ = [2]); kernel_rfl!)
  | ((show _ = [3]); kernel_rfl!)
  | ((show _ = [4]); kernel_rfl!)
  | ((show _ = [5]); kernel_rfl!)
  | ((show _ = [6]); kernel_rfl!)
  | ((show _ = [7]); kernel_rfl!)
  | ((show _ = [8]); kernel_rfl!)
  | ((show _ = [9]); kernel_rfl!)
  | ((show _ = [10]); kernel_rfl!)
  | ((show _ = [11]); kernel_rfl!)
  | ((show _ = [12]); kernel_rfl!)
  | ((show _ = [13]); kernel_rfl!)
  | ((show _ = [14]); kernel_rfl!)
  | ((show _ = [15]); kernel_rfl!)
  | ((show _ = [0, 1]); kernel_rfl!)
  | ((show _ = [1, 2]); kernel_rfl!)
  | ((show _ = [2, 3]); kernel_rfl!)
  | ((show _ = [3, 4]); kernel_rfl!)
  | ((show _ = [4, 5]); kernel_rfl!)
  | ((show _ = [5, 6]); kernel_rfl!)
  | ((show _ = [6, 7]); kernel_rfl!)
  | ((show _ = [7, 8]); kernel_rfl!)
  | ((show _ = [8, 9]); kernel_rfl!)
  | ((show _ = [9, 10]); kernel_rfl!)
  | ((show _ = [10, 11]); kernel_rfl!)
  | ((show _ = [11, 12]); kernel_rfl!)
  | ((show _ = [12, 13]); kernel_rfl!)
  | ((show _ = [13, 14]); kernel_rfl!)
  | ((show _ = [14, 15]); kernel_rfl!)
  | fail "no")
local macro_rules | `(tactic| wtm_at "fo ts") => `(tactic| first
  | exact pts_nil
  | (apply pts_one; wtm_at "fo t")
  | fail "no")
local macro_rules | `(tactic| wtm_at "fo lc") => `(tactic| first
  | (refine' pe_lcO (by assumption) (by exact rfl) (by exact rfl) (by wtm_at "fo own") (by decide +kernel) rfl ?ki ?kg ?kt ?ke; (case ki => wtm_at "fo i"); (case kg => (intro _ _ _ _ _; wtm_at "fo g")); (case kt => (intro _ _ _ _ _; wtm_at "fo ts")); (case ke => (intro _ _ _ _ _; wtm_at "fo e")))
  | fail "no")
local macro_rules | `(tactic| wtm_at "fo part") => `(tactic| first
  | exact po_none
  | (apply po_some; wtm_at "fo e")
  | fail "no")
local macro_rules | `(tactic| wtm_at "fo slice") => `(tactic| first
  | ((with_reducible show PE _ (.Subscript _ (.Slice _ _ none _) _) _); refine' pe_slice (sl_listK (by assumption) (by exact rfl)) ?ka ?kb ?kc; (case ka => wtm_at "fo e"); (case kb => wtm_at "fo part"); (case kc => wtm_at "fo part"))
  | ((with_reducible show PE _ (.Subscript _ (.Slice none none (some _) _) _) _); refine' pe_stepK (by assumption) (by exact rfl) ?ka ?kb; (case ka => wtm_at "fo e"); (case kb => wtm_at "fo e"))
  | fail "no")
local macro_rules | `(tactic| wtm_at "fo cmp") => `(tactic| first
  | ((with_reducible show PE _ (.Compare _ [.Lt] _ _) _); refine' pe_cmpR op_lt ?ka ?kb (nomark _); (case ka => wtm_at "fo e"); (case kb => wtm_at "fo e"))
  | ((with_reducible show PE _ (.Compare _ [.LtE] _ _) _); refine' pe_cmpR op_le ?ka ?kb (nomark _); (case ka => wtm_at "fo e"); (case kb => wtm_at "fo e"))
  | ((with_reducible show PE _ (.Compare _ [.Gt] _ _) _); refine' pe_cmpR op_gt ?ka ?kb (nomark _); (case ka => wtm_at "fo e"); (case kb => wtm_at "fo e"))
  | ((with_reducible show PE _ (.Compare _ [.GtE] _ _) _); refine' pe_cmpR op_ge ?ka ?kb (nomark _); (case ka => wtm_at "fo e"); (case kb => wtm_at "fo e"))
  | ((with_reducible show PE _ (.Compare _ [.Eq] _ _) _); refine' pe_cmpR (op_eqK (by assumption) (by exact rfl) (Room.units (by assumption))) ?ka ?kb (nomark _); (case ka => wtm_at "fo e"); (case kb => wtm_at "fo e"))
  | ((with_reducible show PE _ (.Compare _ [.NotEq] _ _) _); refine' pe_cmpR (op_neK (by assumption) (by exact rfl) (Room.units (by assumption))) ?ka ?kb (nomark _); (case ka => wtm_at "fo e"); (case kb => wtm_at "fo e"))
  | fail "no")
local macro_rules | `(tactic| wtm_at "fo tcmp") => `(tactic| first
  | ((with_reducible show PT _ (.Compare _ [.Lt] _ _) _); refine' pt_cmpR op_lt ?ka ?kb (nomark _); (case ka => wtm_at "fo e"); (case kb => wtm_at "fo e"))
  | ((with_reducible show PT _ (.Compare _ [.LtE] _ _) _); refine' pt_cmpR op_le ?ka ?kb (nomark _); (case ka => wtm_at "fo e"); (case kb => wtm_at "fo e"))
  | ((with_reducible show PT _ (.Compare _ [.Gt] _ _) _); refine' pt_cmpR op_gt ?ka ?kb (nomark _); (case ka => wtm_at "fo e"); (case kb => wtm_at "fo e"))
  | ((with_reducible show PT _ (.Compare _ [.GtE] _ _) _); refine' pt_cmpR op_ge ?ka ?kb (nomark _); (case ka => wtm_at "fo e"); (case kb => wtm_at "fo e"))
  | ((with_reducible show PT _ (.Compare _ [.Eq] _ _) _); refine' pt_cmpR (op_eqK (by assumption) (by exact rfl) (Room.units (by assumption))) ?ka ?kb (nomark _); (case ka => wtm_at "fo e"); (case kb => wtm_at "fo e"))
  | ((with_reducible show PT _ (.Compare _ [.NotEq] _ _) _); refine' pt_cmpR (op_neK (by assumption) (by exact rfl) (Room.units (by assumption))) ?ka ?kb (nomark _); (case ka => wtm_at "fo e"); (case kb => wtm_at "fo e"))
  | ((with_reducible show PT _ (.Compare _ [.In] _ _) _); refine' pt_cmpR (op_inK (by assumption) (by exact rfl)) ?ka ?kb rfl; (case ka => wtm_at "fo e"); (case kb => wtm_at "fo e"))
  | ((with_reducible show PT _ (.Compare _ [.NotIn] _ _) _); refine' pt_cmpR (op_notInK (by assumption) (by exact rfl)) ?ka ?kb rfl; (case ka => wtm_at "fo e"); (case kb => wtm_at "fo e"))
  | fail "no")
local macro_rules | `(tactic| wtm_at "fo w") => `(tactic| first
  | ((with_reducible show PW _ (.BoolOp .And [_] _) _); apply pw_and1; wtm_at "fo t")
  | ((with_reducible show PW _ (.BoolOp .And _ _) _); apply pw_and; (· wtm_at "fo t"); (· wtm_at "fo w"))
  | ((with_reducible show PW _ (.BoolOp .Or [_] _) _); apply pw_or1; wtm_at "fo t")
  | ((with_reducible show PW _ (.BoolOp .Or _ _) _); apply pw_or; (· wtm_at "fo t"); (· wtm_at "fo w"))
  | fail "no")
local macro_rules | `(tactic| wtm_at "fo meth") => `(tactic| first
  | ((with_reducible show PE _ (.Call (.Attribute _ (Str.ofString "append") _) _ _ _) _); refine' pe_bm PySem.F.plainAttrs_list PySem.F.slot_list_append PySem.F.type_list_append mt_append ?ka ?kb; (case ka => wtm_at "fo e"); (case kb => wtm_at "fo a"))
  | ((with_reducible show PE _ (.Call (.Attribute _ (Str.ofString "pop") _) [_] _ _) _); refine' pe_bm PySem.F.plainAttrs_list PySem.F.slot_list_pop PySem.F.type_list_pop mt_popAt ?ka ?kb; (case ka => wtm_at "fo e"); (case kb => wtm_at "fo a"))
  | ((with_reducible show PE _ (.Call (.Attribute _ (Str.ofString "pop") _) [] _ _) _); refine' pe_bm0 PySem.F.plainAttrs_list PySem.F.slot_list_pop PySem.F.type_list_pop mt_pop ?ka; (case ka => wtm_at "fo e"))
  | fail "no")
local macro_rules | `(tactic| wtm_at "fo k") => `(tactic| first
  | exact pk_nil
  | (refine' pk_cons ?k1 ?k2; (case k1 => wtm_at "fo e"); (case k2 => wtm_at "fo k"))
  | fail "no")
local macro_rules | `(tactic| wtm_at "fo kcall") => `(tactic| first
  | (refine' pe_kcal (by assumption) (by assumption) (by decide) (by rfl) ?ka; (case ka => wtm_at "fo k"))
  | fail "no")
local macro_rules | `(tactic| wtm_at "fo call") => `(tactic| first
  | ((with_reducible show PE _ (.Call (.Name (Str.ofString "int") _) _ _ _) _); refine' pe_callTy call_intB (by rfl) (by assumption) (by decide +kernel) ?ka; (case ka => wtm_at "fo a"))
  | ((with_reducible show PE _ (.Call (.Name (Str.ofString "len") _) _ _ _) _); refine' pe_callB (call_lenK (by assumption) (by exact rfl)) (by rfl) (by assumption) PySem.boot_len ?ka; (case ka => wtm_at "fo a"))
  | ((with_reducible show PE _ (.Call (.Name (Str.ofString "list") _) [.Call (.Name (Str.ofString "range") _) [_, _] _ _] _ _) _); refine' pe_listRg rfl (by rfl) (by assumption) (prg_2 (by rfl) (by assumption) ?ka ?kb); (case ka => wtm_at "fo e"); (case kb => wtm_at "fo e"))
  | ((with_reducible show PE _ (.Call (.Name (Str.ofString "list") _) _ _ _) _); refine' pe_callTy (call_listK (by assumption) (by exact rfl)) (by rfl) (by assumption) (by decide +kernel) ?ka; (case ka => wtm_at "fo a"))
  | ((with_reducible show PE _ (.Call (.Name (Str.ofString "min") _) [_, _] _ _) _); refine' pe_callB (call_min2 rfl) (by rfl) (by assumption) (by decide +kernel) ?ka; (case ka => wtm_at "fo a"))
  | ((with_reducible show PE _ (.Call (.Name (Str.ofString "sorted") _) [_] _ _) _); refine' pe_callB (cr_sortedK (by assumption) (by exact rfl)) (by rfl) (by assumption) (by decide +kernel) ?ka; (case ka => wtm_at "fo a"))
  | ((with_reducible show PE _ (.Call (.Name (Str.ofString "repr") _) [_] _ _) _); refine' pe_callB (call_reprK (by assumption) (by exact rfl) (by assumption) (Room.units (by assumption))) (by rfl) (by assumption) (by decide +kernel) ?ka; (case ka => wtm_at "fo a"))
  | (refine' pe_cal (by assumption) (by assumption) (by decide) (by rfl) ?ka; (case ka => wtm_at "fo a"))
  | fail "no")
local macro_rules | `(tactic| wtm_at "fo setlc") => `(tactic| first
  | (refine' ps_setLcO (i := 0) (by assumption) (by exact rfl) (by exact rfl) (by wtm_at "fo own") (by decide +kernel) rfl rfl rfl (sw_true rfl rfl rfl (by decide +kernel)) ?ki ?kg ?kt ?ke; (case ki => wtm_at "fo i"); (case kg => (intro _ _ _ _ _; wtm_at "fo g")); (case kt => (intro _ _ _ _ _; wtm_at "fo ts")); (case ke => (intro _ _ _ _ _; wtm_at "fo e")))
  | (refine' ps_setLcO (i := 1) (by assumption) (by exact rfl) (by exact rfl) (by wtm_at "fo own") (by decide +kernel) rfl rfl rfl (sw_true rfl rfl rfl (by decide +kernel)) ?ki ?kg ?kt ?ke; (case ki => wtm_at "fo i"); (case kg => (intro _ _ _ _ _; wtm_at "fo g")); (case kt => (intro _ _ _ _ _; wtm_at "fo ts")); (case ke => (intro _ _ _ _ _; wtm_at "fo e")))
  | (refine' ps_setLcO (i := 2) (by assumption) (by exact rfl) (by exact rfl) (by wtm_at "fo own") (by decide +kernel) rfl rfl rfl (sw_true rfl rfl rfl (by decide +kernel)) ?ki ?kg ?kt ?ke; (case ki => wtm_at "fo i"); (case kg => (intro _ _ _ _ _; wtm_at "fo g")); (case kt => (intro _ _ _ _ _; wtm_at "fo ts")); (case ke => (intro _ _ _ _ _; wtm_at "fo e")))
  | (refine' ps_setLcO (i := 3) (by assumption) (by exact rfl) (by exact rfl) (by wtm_at "fo own") (by decide +kernel) rfl rfl rfl (sw_true rfl rfl rfl (by decide +kernel)) ?ki ?kg ?kt ?ke; (case ki => wtm_at "fo i"); (case kg => (intro _ _ _ _ _; wtm_at "fo g")); (case kt => (intro _ _ _ _ _; wtm_at "fo ts")); (case ke => (intro _ _ _ _ _; wtm_at "fo e")))
  | (refine' ps_setLcO (i := 4) (by assumption) (by exact rfl) (by exact rfl) (by wtm_at "fo own") (by decide +kernel) rfl rfl rfl (sw_true rfl rfl rfl (by decide +kernel)) ?ki ?kg ?kt ?ke; (case ki => wtm_at "fo i"); (case kg => (intro _ _ _ _ _; wtm_at "fo g")); (case kt => (intro _ _ _ _ _; wtm_at "fo ts")); (case ke => (intro _ _ _ _ _; wtm_at "fo e")))
  | (refine' ps_setLcO (i := 5) (by assumption) (by exact rfl) (by exact rfl) (by wtm_at "fo own") (by decide +kernel) rfl rfl rfl (sw_true rfl rfl rfl (by decide +kernel)) ?ki ?kg ?kt ?ke; (case ki => wtm_at "fo i"); (case kg => (intro _ _ _ _ _; wtm_at "fo g")); (case kt => (intro _ _ _ _ _; wtm_at "fo ts")); (case ke => (intro _ _ _ _ _; wtm_at "fo e")))
  | (refine' ps_setLcO (i := 6) (by assumption) (by exact rfl) (by exact rfl) (by wtm_at "fo own") (by decide +kernel) rfl rfl rfl (sw_true rfl rfl rfl (by decide +kernel)) ?ki ?kg ?kt ?ke; (case ki => wtm_at "fo i"); (case kg => (intro _ _ _ _ _; wtm_at "fo g")); (case kt => (intro _ _ _ _ _; wtm_at "fo ts")); (case ke => (intro _ _ _ _ _; wtm_at "fo e")))
  | (refine' ps_setLcO (i := 7) (by assumption) (by exact rfl) (by exact rfl) (by wtm_at "fo own") (by decide +kernel) rfl rfl rfl (sw_true rfl rfl rfl (by decide +kernel)) ?ki ?kg ?kt ?ke; (case ki => wtm_at "fo i"); (case kg => (intro _ _ _ _ _; wtm_at "fo g")); (case kt => (intro _ _ _ _ _; wtm_at "fo ts")); (case ke => (intro _ _ _ _ _; wtm_at "fo e")))
  | (refine' ps_setLcO (i := 8) (by assumption) (by exact rfl) (by exact rfl) (by wtm_at "fo own") (by decide +kernel) rfl rfl rfl (sw_true rfl rfl rfl (by decide +kernel)) ?ki ?kg ?kt ?ke; (case ki => wtm_at "fo i"); (case kg => (intro _ _ _ _ _; wtm_at "fo g")); (case kt => (intro _ _ _ _ _; wtm_at "fo ts")); (case ke => (intro _ _ _ _ _; wtm_at "fo e")))
  | (refine' ps_setLcO (i := 9) (by assumption) (by exact rfl) (by exact rfl) (by wtm_at "fo own") (by decide +kernel) rfl rfl rfl (sw_true rfl rfl rfl (by decide +kernel)) ?ki ?kg ?kt ?ke; (case ki => wtm_at "fo i"); (case kg => (intro _ _ _ _ _; wtm_at "fo g")); (case kt => (intro _ _ _ _ _; wtm_at "fo ts")); (case ke => (intro _ _ _ _ _; wtm_at "fo e")))
  | (refine' ps_setLcO (i := 10) (by assumption) (by exact rfl) (by exact rfl) (by wtm_at "fo own") (by decide +kernel) rfl rfl rfl (sw_true rfl rfl rfl (by decide +kernel)) ?ki ?kg ?kt ?ke; (case ki => wtm_at "fo i"); (case kg => (intro _ _ _ _ _; wtm_at "fo g")); (case kt => (intro _ _ _ _ _; wtm_at "fo ts")); (case ke => (intro _ _ _ _ _; wtm_at "fo e")))
  | (refine' ps_setLcO (i := 11) (by assumption) (by exact rfl) (by exact rfl) (by wtm_at "fo own") (by decide +kernel) rfl rfl rfl (sw_true rfl rfl rfl (by decide +kernel)) ?ki ?kg ?kt ?ke; (case ki => wtm_at "fo i"); (case kg => (intro _ _ _ _ _; wtm_at "fo g")); (case kt => (intro _ _ _ _ _; wtm_at "fo ts")); (case ke => (intro _ _ _ _ _; wtm_at "fo e")))
  | (refine' ps_setLcO (i := 12) (by assumption) (by exact rfl) (by exact rfl) (by wtm_at "fo own") (by decide +kernel) rfl rfl rfl (sw_true rfl rfl rfl (by decide +kernel)) ?ki ?kg ?kt ?ke; (case ki => wtm_at "fo i"); (case kg => (intro _ _ _ _ _; wtm_at "fo g")); (case kt => (intro _ _ _ _ _; wtm_at "fo ts")); (case ke => (intro _ _ _ _ _; wtm_at "fo e")))
  | (refine' ps_setLcO (i := 13) (by assumption) (by exact rfl) (by exact rfl) (by wtm_at "fo own") (by decide +kernel) rfl rfl rfl (sw_true rfl rfl rfl (by decide +kernel)) ?ki ?kg ?kt ?ke; (case ki => wtm_at "fo i"); (case kg => (intro _ _ _ _ _; wtm_at "fo g")); (case kt => (intro _ _ _ _ _; wtm_at "fo ts")); (case ke => (intro _ _ _ _ _; wtm_at "fo e")))
  | (refine' ps_setLcO (i := 14) (by assumption) (by exact rfl) (by exact rfl) (by wtm_at "fo own") (by decide +kernel) rfl rfl rfl (sw_true rfl rfl rfl (by decide +kernel)) ?ki ?kg ?kt ?ke; (case ki => wtm_at "fo i"); (case kg => (intro _ _ _ _ _; wtm_at "fo g")); (case kt => (intro _ _ _ _ _; wtm_at "fo ts")); (case ke => (intro _ _ _ _ _; wtm_at "fo e")))
  | (refine' ps_setLcO (i := 15) (by assumption) (by exact rfl) (by exact rfl) (by wtm_at "fo own") (by decide +kernel) rfl rfl rfl (sw_true rfl rfl rfl (by decide +kernel)) ?ki ?kg ?kt ?ke; (case ki => wtm_at "fo i"); (case kg => (intro _ _ _ _ _; wtm_at "fo g")); (case kt => (intro _ _ _ _ _; wtm_at "fo ts")); (case ke => (intro _ _ _ _ _; wtm_at "fo e")))
  | fail "no")
local macro_rules | `(tactic| wtm_at "fo set") => `(tactic| first
  | (refine' ps_set (i := 0) (by assumption) rfl (by first | exact Or.inl rfl | exact Or.inr rfl) ?ka; (case ka => wtm_at "fo e"))
  | (refine' ps_set (i := 1) (by assumption) rfl (by first | exact Or.inl rfl | exact Or.inr rfl) ?ka; (case ka => wtm_at "fo e"))
  | (refine' ps_set (i := 2) (by assumption) rfl (by first | exact Or.inl rfl | exact Or.inr rfl) ?ka; (case ka => wtm_at "fo e"))
  | (refine' ps_set (i := 3) (by assumption) rfl (by first | exact Or.inl rfl | exact Or.inr rfl) ?ka; (case ka => wtm_at "fo e"))
  | (refine' ps_set (i := 4) (by assumption) rfl (by first | exact Or.inl rfl | exact Or.inr rfl) ?ka; (case ka => wtm_at "fo e"))
  | (refine' ps_set (i := 5) (by assumption) rfl (by first | exact Or.inl rfl | exact Or.inr rfl) ?ka; (case ka => wtm_at "fo e"))
  | (refine' ps_set (i := 6) (by assumption) rfl (by first | exact Or.inl rfl | exact Or.inr rfl) ?ka; (case ka => wtm_at "fo e"))
  | (refine' ps_set (i := 7) (by assumption) rfl (by first | exact Or.inl rfl | exact Or.inr rfl) ?ka; (case ka => wtm_at "fo e"))
  | (refine' ps_set (i := 8) (by assumption) rfl (by first | exact Or.inl rfl | exact Or.inr rfl) ?ka; (case ka => wtm_at "fo e"))
  | (refine' ps_set (i := 9) (by assumption) rfl (by first | exact Or.inl rfl | exact Or.inr rfl) ?ka; (case ka => wtm_at "fo e"))
  | (refine' ps_set (i := 10) (by assumption) rfl (by first | exact Or.inl rfl | exact Or.inr rfl) ?ka; (case ka => wtm_at "fo e"))
  | (refine' ps_set (i := 11) (by assumption) rfl (by first | exact Or.inl rfl | exact Or.inr rfl) ?ka; (case ka => wtm_at "fo e"))
  | (refine' ps_set (i := 12) (by assumption) rfl (by first | exact Or.inl rfl | exact Or.inr rfl) ?ka; (case ka => wtm_at "fo e"))
  | (refine' ps_set (i := 13) (by assumption) rfl (by first | exact Or.inl rfl | exact Or.inr rfl) ?ka; (case ka => wtm_at "fo e"))
  | fail "no")
local macro_rules | `(tactic| wtm_at "fo t") => `(tactic| first
  | ((with_reducible show PT _ (.BoolOp _ _ _) _); apply PW.pt; wtm_at "fo w")
  | ((with_reducible show PT _ (.UnaryOp .Not _ _) _); apply pt_not; wtm_at "fo t")
  | ((with_reducible show PT _ (.Compare _ _ _ _) _); wtm_at "fo tcmp")
  | (refine' pt_truthK (by assumption) (by exact rfl) ?ka (by intro _; rfl); (case ka => wtm_at "fo e"))
  | fail "no")
local macro_rules | `(tactic| wtm_at "fo gn") => `(tactic| first
  | exact pg_name (i := 0) (by assumption) rfl (by first | exact Or.inl rfl | exact Or.inr rfl)
  | exact pg_name (i := 1) (by assumption) rfl (by first | exact Or.inl rfl | exact Or.inr rfl)
  | exact pg_name (i := 2) (by assumption) rfl (by first | exact Or.inl rfl | exact Or.inr rfl)
  | exact pg_name (i := 3) (by assumption) rfl (by first | exact Or.inl rfl | exact Or.inr rfl)
  | exact pg_name (i := 4) (by assumption) rfl (by first | exact Or.inl rfl | exact Or.inr rfl)
  | exact pg_name (i := 5) (by assumption) rfl (by first | exact Or.inl rfl | exact Or.inr rfl)
  | exact pg_name (i := 6) (by assumption) rfl (by first | exact Or.inl rfl | exact Or.inr rfl)
  | exact pg_name (i := 7) (by assumption) rfl (by first | exact Or.inl rfl | exact Or.inr rfl)
  | exact pg_name (i := 8) (by assumption) rfl (by first | exact Or.inl rfl | exact Or.inr rfl)
  | exact pg_name (i := 9) (by assumption) rfl (by first | exact Or.inl rfl | exact Or.inr rfl)
  | exact pg_name (i := 10) (by assumption) rfl (by first | exact Or.inl rfl | exact Or.inr rfl)
  | exact pg_name (i := 11) (by assumption) rfl (by first | exact Or.inl rfl | exact Or.inr rfl)
  | exact pg_name (i := 12) (by assumption) rfl (by first | exact Or.inl rfl | exact Or.inr rfl)
  | exact pg_name (i := 13) (by assumption) rfl (by first | exact Or.inl rfl | exact Or.inr rfl)
  | exact pg_name (i := 14) (by assumption) rfl (by first | exact Or.inl rfl | exact Or.inr rfl)
  | exact pg_name (i := 15) (by assumption) rfl (by first | exact Or.inl rfl | exact Or.inr rfl)
  | fail "no")
local macro_rules | `(tactic| wtm_at "fo par") => `(tactic| first
  | (refine' ps_par (i := 0) (j := 1) rfl (by assumption) rfl rfl (by decide) rfl rfl ?ka (by rfl); (case ka => wtm_at "fo a"))
  | (refine' ps_par (i := 1) (j := 2) rfl (by assumption) rfl rfl (by decide) rfl rfl ?ka (by rfl); (case ka => wtm_at "fo a"))
  | (refine' ps_par (i := 2) (j := 3) rfl (by assumption) rfl rfl (by decide) rfl rfl ?ka (by rfl); (case ka => wtm_at "fo a"))
  | (refine' ps_par (i := 3) (j := 4) rfl (by assumption) rfl rfl (by decide) rfl rfl ?ka (by rfl); (case ka => wtm_at "fo a"))
  | (refine' ps_par (i := 4) (j := 5) rfl (by assumption) rfl rfl (by decide) rfl rfl ?ka (by rfl); (case ka => wtm_at "fo a"))
  | (refine' ps_par (i := 5) (j := 6) rfl (by assumption) rfl rfl (by decide) rfl rfl ?ka (by rfl); (case ka => wtm_at "fo a"))
  | (refine' ps_par (i := 6) (j := 7) rfl (by assumption) rfl rfl (by decide) rfl rfl ?ka (by rfl); (case ka => wtm_at "fo a"))
  | (refine' ps_par (i := 7) (j := 8) rfl (by assumption) rfl rfl (by decide) rfl rfl ?ka (by rfl); (case ka => wtm_at "fo a"))
  | (refine' ps_par (i := 8) (j := 9) rfl (by assumption) rfl rfl (by decide) rfl rfl ?ka (by rfl); (case ka => wtm_at "fo a"))
  | (refine' ps_par (i := 9) (j := 10) rfl (by assumption) rfl rfl (by decide) rfl rfl ?ka (by rfl); (case ka => wtm_at "fo a"))
  | (refine' ps_par (i := 10) (j := 11) rfl (by assumption) rfl rfl (by decide) rfl rfl ?ka (by rfl); (case ka => wtm_at "fo a"))
  | (refine' ps_par (i := 11) (j := 12) rfl (by assumption) rfl rfl (by decide) rfl rfl ?ka (by rfl); (case ka => wtm_at "fo a"))
  | (refine' ps_par (i := 12) (j := 13) rfl (by assumption) rfl rfl (by decide) rfl rfl ?ka (by rfl); (case ka => wtm_at "fo a"))
  | (refine' ps_par (i := 13) (j := 14) rfl (by assumption) rfl rfl (by decide) rfl rfl ?ka (by rfl); (case ka => wtm_at "fo a"))
  | (refine' ps_par (i := 14) (j := 15) rfl (by assumption) rfl rfl (by decide) rfl rfl ?ka (by rfl); (case ka => wtm_at "fo a"))
  | fail "no")
local macro_rules | `(tactic| wtm_at "fo g") => `(tactic| first
  | ((with_reducible show PG _ (.Name _ _) _); wtm_at "fo gn")
  | ((with_reducible show PG _ (.Tuple _ _ _) _); apply PG_or; (· refine' pg_tup2 (by assumption) (by exact rfl) rfl ?kg; (case kg => wtm_at "fo gs")); (· refine' pg_unl2 (by assumption) (by exact rfl) rfl ?kg; (case kg => wtm_at "fo gs")))
  | fail "no")
local macro_rules | `(tactic| wtm_at "fo gs") => `(tactic| first
  | exact pgs_nil
  | (refine' pgs_cons ?k1 ?k2; (case k1 => wtm_at "fo g"); (case k2 => wtm_at "fo gs"))
  | fail "no")
local macro_rules | `(tactic| wtm_at "fo i") => `(tactic| first
  | ((with_reducible show PI _ _ (.Call (.Name (Str.ofString "range") _) [_] _ _) _); refine' pi_range1 (by rfl) (by assumption) ?ka; (case ka => wtm_at "fo a"))
  | ((with_reducible show PI _ _ (.Call (.Name (Str.ofString "range") _) [_, _] _ _) _); refine' pi_range2 (by rfl) (by assumption) ?ka; (case ka => wtm_at "fo a"))
  | ((with_reducible show PI _ _ (.Call (.Name (Str.ofString "enumerate") _) [_] _ _) _); refine' pi_enum (by rfl) (by assumption) ?ka; (case ka => wtm_at "fo a"))
  | (refine' pi_listK (by assumption) (by exact rfl) ?ka; (case ka => wtm_at "fo e"))
  | fail "no")
local macro_rules | `(tactic| wtm_at "fo s") => `(tactic| first
  | ((with_reducible show PS _ (.While _ _ _ _) _); refine' ps_while PassesOwn.never ?kt ?kb; (case kt => wtm_at "fo t"); (case kb => wtm_at "fo ss"))
  | ((with_reducible show PS _ (.For _ _ _ _ _) _); refine' ps_for PassesOwn.never rfl ?ki ?kg ?kb; (case ki => wtm_at "fo i"); (case kg => wtm_at "fo g"); (case kb => wtm_at "fo ss"))
  | ((with_reducible show PS _ (.Assign [.Name _ _] (.ListComp _ [_] _ _) _) _); wtm_at "fo setlc")
  | ((with_reducible show PS _ (.Assign [.Name _ _] _ _) _); wtm_at "fo set")
  | ((with_reducible show PS _ (.Assign [.Tuple [.Name _ _, .Name _ _] _ _] (.Tuple [_, _] _ _) _) _); wtm_at "fo par")
  | ((with_reducible show PS _ (.Assign [.Subscript _ _ _] _ _) _); refine' ps_asg ?ka (pg_sub ?kb ?kc set_list); (case ka => wtm_at "fo e"); (case kb => wtm_at "fo e"); (case kc => wtm_at "fo e"))
  | ((with_reducible show PS _ (.Return (some _) _) _); apply ps_ret; wtm_at "fo e")
  | ((with_reducible show PS _ (.Expr _ _) _); refine' ps_expr ?ka; (case ka => wtm_at "fo e"))
  | ((with_reducible show PS _ (.If _ _ _ _) _); apply ps_if; (· wtm_at "fo t"); (· wtm_at "fo ss"); (· wtm_at "fo ss"))
  | fail "no")
local macro_rules | `(tactic| wtm_at "fo ss") => `(tactic| first
  | with_reducible exact pss_nil
  | ((with_reducible show PSs _ [_] _); apply pss_one; wtm_at "fo s")
  | (apply pss_cons; (· wtm_at "fo s"); (· wtm_at "fo ss"))
  | fail "no")
local macro_rules | `(tactic| wtm_at "fo hp") => `(tactic| first
  | assumption
  | exact upd_same
  | (refine (upd_ne ?ne).trans ?hp; (case ne => wtm_at "fo ne"); (case hp => wtm_at "fo hp"))
  | fail "no")
local macro_rules | `(tactic| wtm_at "fo ne") => `(tactic| first
  | assumption
  | (apply Ne.symm; assumption)
  | exact ne_of_none (by assumption) (by assumption)
  | exact Ne.symm (ne_of_none (by assumption) (by assumption))
  | fail "no")
local macro_rules | `(tactic| wtm_at "fo sz") => `(tactic| first
  | exact (Nat.le_of_ble_eq_true rfl : _ ≤ sizeLine)
  | exact (Nat.le_of_ble_eq_true rfl : _ < sizeLine)
  | exact Nat.lt_of_le_of_lt (m := 100000) (by first | assumption | omega | (simp; omega)) (by decide)
  | exact Nat.le_trans (m := 100000) (by first | assumption | omega | (simp; omega)) (by decide)
  | fail "no")
local macro_rules | `(tactic| wtm_at "fo r1") => `(tactic| first
  | refine ⟨(Nat.le_of_ble_eq_true rfl : _ ≤ sizeLine), fun p np => ?_⟩
  | (refine' ⟨_, _, rfl, Or.inl (SqL.of ?h), ?_⟩; (case h => wtm_at "fo hp"))
  | refine ⟨_, rfl, ?_⟩
  | refine ⟨_, _, rfl, rfl, ?_⟩
  | refine ⟨_, _, rfl, ⟨by omega, by omega, by omega, by omega⟩, ?_⟩
  | refine ⟨_, rfl, by omega, by omega, ?_⟩
  | refine Or.inl ⟨_, rfl, ?_⟩
  | refine Or.inl ⟨rfl, ?_⟩
  | refine Or.inl ⟨_, _, rfl, rfl, ?_⟩
  | (refine' Or.inl ⟨_, _, _, _, rfl, rfl, SqL.of ?h, ?a, ?_⟩; (case h => wtm_at "fo hp"); (case a => rfl))
  | (refine' ⟨_, _, _, _, rfl, rfl, ?h, ?a, ?_⟩; (case h => wtm_at "fo hp"); (case a => rfl))
  | (refine' ⟨.inl ⟨rfl, _, SqL.of ?h⟩, ?_⟩; (case h => wtm_at "fo hp"))
  | (refine' ⟨_, _, _, rfl, rfl, ?h, ?z, ?_⟩; (case h => wtm_at "fo hp"); (case z => wtm_at "fo sz"))
  | (refine' ⟨_, rfl, ⟨_, SqL.of ?h⟩, ?_⟩; (case h => wtm_at "fo hp"))
  | fail "no")
local macro_rules | `(tactic| wtm_at "fo side") => `(tactic| ((try dsimp only [CMul, CDiv]); first
  | assumption
  | decide
  | omega
  | exact ⟨by decide, by decide⟩
  | exact ⟨by omega, by omega⟩
  | decide +kernel
  | fail "no"))
local macro_rules | `(tactic| wtm_at "fo r2") => `(tactic| first
  | wtm_at "fo r1"
  | refine And.intro (by wtm_at "fo side") ?_
  | fail "no")
local macro_rules | `(tactic| wtm_at "fo r") => `(tactic| repeat wtm_at "fo r2")
theorem ref_at {qs : List Addr} {i : Nat} {x : V} (h : (qs.map V.ref)[i]? = some x) : ∃ r, qs[i]? = some r ∧ x = V.ref r := by
  rw [List.getElem?_map] at h
  cases hq : qs[i]? with
  | none => rw [hq] at h; cases h
  | some r => rw [hq] at h; exact ⟨r, rfl, (Option.some.inj h).symm⟩
theorem int_at {ns : List Int} {i : Nat} {x : V} (h : (ns.map V.int)[i]? = some x) : ∃ r, ns[i]? = some r ∧ x = V.int r := by
  rw [List.getElem?_map] at h
  cases hq : ns[i]? with
  | none => rw [hq] at h; cases h
  | some r => rw [hq] at h; exact ⟨r, rfl, (Option.some.inj h).symm⟩
@[irreducible] def spGrown : Sp := fun vs H Q _ => ∃ (d q : Addr) (k st : Int) (n : Nat) (es : List Edge), vs = [.ref d, .int n, .ref q, .int st] ∧ Dr H d k ∧ k ≤ 1000000 ∧ n ≤ 12 ∧ 2 ≤ st ∧ st ≤ n + 1 ∧
  Pairs H q es ∧ Simp (st - 1) es ∧ es.length ≤ 10 ∧
  ∀ p H' k' fs, Simp n fs → fs.length ≤ 200 → SameBut d H H' → H p = none → Pairs H' p fs → Dr H' d k' → k' ≤ k + 500 → Q (.ref p) H'
theorem call_grown {d q : Addr} {k st : Int} {n : Nat} {es : List Edge} {H : Hp} {Q : VK} {E : XK} (hd : Dr H d k) (hk : k ≤ 1000000) (hn : n ≤ 12) (h2 : 2 ≤ st) (hs : st ≤ n + 1) (hp : Pairs H q es) (hS : Simp (st - 1) es) (hl : es.length ≤ 10)
    (fin : ∀ p H' k' fs, Simp n fs → fs.length ≤ 200 → SameBut d H H' → H p = none → Pairs H' p fs → Dr H' d k' → k' ≤ k + 500 → Q (.ref p) H') : spGrown [.ref d, .int n, .ref q, .int st] H Q E := by
  unfold spGrown
  exact ⟨d, q, k, st, n, es, rfl, hd, hk, hn, h2, hs, hp, hS, hl, fin⟩
variable {P : Program} {w : World} {K : PySem.W.Frag} {mg : Str → Option Value} {base : Heap}
set_option maxHeartbeats 8000000 in
theorem ok_grown {f : Addr} {fd : FuncData} (F : Fun K "_law_grown" "_law_grown" s_law_grown f fd) (mr : mg "range" = none) (ml : mg "list" = none) (mi : mg "int" = none)
    (C : Cal P w K mg base "_law_next" 1 ["_law_draws_here"] spNext) :
    FnOk P w K mg base CX0 2 f fd ["_law_draws_here", "_law_size", "_law_sides", "_law_start"] spGrown := by
  refine F.ok sc_law_grown (fun vs H Q E h => ?_) (fun cdv A outer s H vs Q E hr h => ?_)
  · unfold spGrown at h
    obtain ⟨d, q, k, st, n, es, rfl, _⟩ := h
    rfl
  · have nd := sc_law_grown.nd
    have hS := sc_law_grown
    have hKM : KMark K := ⟨⟩
    refine' mk_body ?body ?rd
    case body =>
      show PSs _ [_, _, _] _
      wtm_at "fo ss"
    case rd =>
     unfold spGrown at h
     obtain ⟨d, q, k, st, n, es, rfl, hd, hk, hn, h2, hst, hq, hSi, hl, fin⟩ := h
     wtm_at "fo r"
     obtain ⟨qs, hq0⟩ := PsAt.of hq
     refine ⟨⟨_, SqL.of hq0.hD⟩, fun D nD => ?_⟩
     refine lc_list (K := K) (xs := qs.map V.ref) (fun i H1 => Same H H1 ∧ ∃ rs, PsAt H1 D rs (es.take i)) ?_ ?_ ?_ ?_
     · exact ⟨same_upd (Same.refl H) nD, [], PsAt.nil upd_same⟩
     · rintro i H1 _ ⟨sm, _⟩
       exact SqL.of (sm _ _ hq0.hD)
     · rintro i x H1 hx ⟨sm, rs, hp⟩
       obtain ⟨r, hr, rfl⟩ := ref_at hx
       have hi : i < es.length := by rw [← hq0.len]; exact (List.getElem?_eq_some_iff.mp hr).1
       have hes : es[i]? = some es[i] := List.getElem?_eq_getElem hi
       have hre := sm _ _ (hq0.at_ i r _ hr hes)
       refine ⟨rfl, ?_⟩
       wtm_at "fo r"
       intro l nl
       refine ⟨rs.map V.ref, ?_, ?_, ?_⟩
       · rw [upd_ne (ne_of_none hp.hD nl)]
         exact hp.hD
       · rw [List.length_map, hp.len]
         exact Nat.lt_of_le_of_lt (m := 100) (Nat.le_trans (List.length_take_le ..) (by omega)) (by decide)
       · refine ⟨same_upd (same_upd sm (sm.free nl)) nD, rs ++ [l], ?_⟩
         rw [List.take_add_one, hes]
         exact hp.push nl es[i]
     rintro H1 ⟨sm, rs, hp⟩
     rw [List.length_map, hq0.len, List.take_length] at hp
     have nDd : D ≠ d := by
       obtain ⟨a, b, e, _⟩ := hd
       exact (ne_of_none e nD).symm
     have sb1 : SameBut d H H1 := fun b o _ e => sm b o e
     have hd1 : Dr H1 d k := by
       obtain ⟨a, b, e, h0⟩ := hd
       exact ⟨a, b, sm _ _ e, h0⟩
     wtm_at "fo r"
     have hN : ((n : Int) + 1 - st).toNat ≤ 11 := by omega
     refine for_range (fun i σ H2 => ∃ t rs es' k' y6 y7 y8, σ = [some (.ref d), some (.int n), some (.ref q), some (.int st), some (.ref t), none, y6, y7, y8, none, none, none] ∧
       PsAt H2 t rs es' ∧ Simp (st - 1 + i) es' ∧ es'.length ≤ 10 + 13 * i ∧ SameBut d H H2 ∧ H t = none ∧ Dr H2 d k' ∧ k' ≤ k + 20 * i ∧ 0 ≤ k') ?_ ?_ ?_
     · refine ⟨D, rs, es, k, none, none, none, rfl, hp, ?_, by omega, sb1, nD, hd1, by omega, ?_⟩
       · simpa using hSi
       · exact hd1.elim fun a ⟨b, _, h0⟩ => h0
     · rintro i σ H2 hi ⟨t, rs2, es2, k2, y6, y7, y8, rfl, hp2, hS2, hl2, sb2, nt, hd2, hk2, hk0⟩
       wtm_at "fo r"
       refine call_next hd2 (by omega) (fun n1 H3 hn1 sb3 hd3 => ?_)
       have hp3 := hp2.but sb3 hd2
       have ht3 := hp3.hD
       wtm_at "fo r"
       have gg1 := Int.emod_nonneg n1 (show st + (i : Int) - 1 ≠ 0 by omega)
       have gg2 := Int.emod_lt_of_pos n1 (show (0 : Int) < st + (i : Int) - 1 by omega)
       let g : Int := 1 + n1 % (st + (i : Int) - 1)
       have g1 : 1 ≤ g := by
         show 1 ≤ 1 + n1 % (st + (i : Int) - 1)
         omega
       have g2 : g ≤ st + i - 1 := by
         show 1 + n1 % (st + (i : Int) - 1) ≤ st + i - 1
         omega
       refine ⟨⟨_, SqL.of ht3⟩, fun D1 nD1 => ?_⟩
       refine lc_list (K := K) (xs := rs2.map V.ref) (fun i2 H4 => Same H3 H4 ∧ H4 D1 = some (.lst ((mates g (es2.take i2)).map V.int))) ?_ ?_ ?_ ?_
       · exact ⟨same_upd (Same.refl _) nD1, upd_same⟩
       · rintro i2 H4 _ ⟨sm4, _⟩
         exact SqL.of (sm4 _ _ ht3)
       · rintro i2 x H4 hx ⟨sm4, h4⟩
         obtain ⟨r, hr, rfl⟩ := ref_at hx
         have hi2 : i2 < es2.length := by rw [← hp3.len]; exact (List.getElem?_eq_some_iff.mp hr).1
         have hes : es2[i2]? = some es2[i2] := List.getElem?_eq_getElem hi2
         have hre := sm4 _ _ (hp3.at_ i2 r _ hr hes)
         have htk : mates g (es2.take (i2 + 1)) = mates g (es2.take i2) ++ (if es2[i2].1 = g ∨ es2[i2].2 = g then [es2[i2].1 + es2[i2].2 - g] else []) := by
           rw [List.take_add_one, hes]
           exact mates_snoc g _ _
         have hml : (mates g (es2.take i2)).length ≤ 200 := Nat.le_trans (mates_length ..) (Nat.le_trans (List.length_take_le ..) (by omega))
         rw [htk]
         generalize mates g (es2.take i2) = ms0 at *
         generalize es2[i2] = e at *
         obtain ⟨ea, eb⟩ := e
         simp only at hre
         refine Or.inr ⟨r, [.int ea, .int eb], rfl, SqL.of hre, rfl, .int ea, [.int eb], rfl, .int eb, [], rfl, rfl, rfl, ?_⟩
         wtm_at "fo r"
         rename_i p np
         refine ⟨rfl, rfl, _, rfl, ?_⟩
         have h4' : (upd H4 p (HO.lst [.int ea, .int eb])) D1 = some (.lst (ms0.map V.int)) := by
           rw [upd_ne (ne_of_none h4 np)]
           exact h4
         have sm5 : Same H3 (upd H4 p (HO.lst [.int ea, .int eb])) := same_upd sm4 (sm4.free np)
         by_cases hgm : ea = g ∨ eb = g
         · refine ifT (by show inV (.int g) [.int ea, .int eb] = true; rw [inV2]; exact decide_eq_true hgm) ?_
           wtm_at "fo r"
           refine ⟨ms0.map V.int, h4', ?_, same_upd sm5 nD1, ?_⟩
           · rw [List.length_map]
             exact Nat.lt_of_le_of_lt hml (by decide)
           · rw [upd_same, if_pos hgm, List.map_append]
             rfl
         · refine ifF (by show inV (.int g) [.int ea, .int eb] = false; rw [inV2]; exact decide_eq_false hgm) ?_
           refine ⟨sm5, ?_⟩
           rw [if_neg hgm, List.append_nil]
           exact h4'
       rintro H4 ⟨sm4, h4⟩
       rw [List.length_map, hp3.len, List.take_length] at h4
       have hnm := mates_len (g := g) (s := st + i) (by rw [show st + (i : Int) - 1 = st - 1 + i by omega]; exact hS2) (by omega) (List.Sublist.refl _)
       have hgrow : ∀ fs : List Int, fs.Sublist (mates g es2) → Simp (st + i) (es2 ++ (g, st + i) :: fs.map fun m => (m, st + i)) := fun fs hf =>
         simp_grow (by rw [show st + (i : Int) - 1 = st - 1 + i by omega]; exact hS2) g1 g2 hf
       generalize mates g es2 = ms at *
       have hp4 := hp3.same sm4
       have ht4 := hp4.hD
       wtm_at "fo r"
       rename_i p1 np1 p2 np2
       have hne12 : p1 ≠ p2 := ne_of_none upd_same np2
       have np2' : H4 p2 = none := by rw [upd_ne hne12.symm] at np2; exact np2
       have hp5 : PsAt (upd (upd H4 p1 (.lst [.int g, .int (st + i)])) p2 (.lst [.ref p1])) t rs2 es2 := hp4.same (same_upd (same_upd (Same.refl _) np1) np2')
       have one5 : PsAt (upd (upd H4 p1 (.lst [.int g, .int (st + i)])) p2 (.lst [.ref p1])) p2 [p1] [(g, st + i)] := PsAt.one upd_same (by rw [upd_ne hne12]; exact upd_same)
       have hlen2 : rs2.length ≤ 200 := by rw [hp2.len]; omega
       refine Or.inr ⟨t, p2, rs2.map V.ref, [V.ref p1], rfl, rfl, hp5.hD, upd_same, ?_, fun c1 nc1 => ?_⟩
       · rw [List.length_map]
         exact Nat.le_trans (m := 1000) (show rs2.length + 1 ≤ 1000 by omega) (by decide)
       have hp6 : PsAt (upd (upd (upd H4 p1 (.lst [.int g, .int (st + i)])) p2 (.lst [.ref p1])) c1 (.lst (rs2.map V.ref ++ [V.ref p1]))) c1 (rs2 ++ [p1]) (es2 ++ [(g, st + i)]) := hp5.cat one5 nc1
       have sm5 : Same H4 (upd (upd H4 p1 (.lst [.int g, .int (st + i)])) p2 (.lst [.ref p1])) := same_upd (same_upd (Same.refl _) np1) np2'
       have sm6 : Same H4 (upd (upd (upd H4 p1 (.lst [.int g, .int (st + i)])) p2 (.lst [.ref p1])) c1 (.lst (rs2.map V.ref ++ [V.ref p1]))) := same_upd sm5 (sm5.free nc1)
       have h6D := sm6 _ _ h4
       have hd6 := (hd3.same sm4).same sm6
       have sb6 : SameBut d H (upd (upd (upd H4 p1 (.lst [.int g, .int (st + i)])) p2 (.lst [.ref p1])) c1 (.lst (rs2.map V.ref ++ [V.ref p1]))) := ((sb2.trans sb3).trans (Same.but d sm4)).trans (Same.but d sm6)
       refine ⟨_, rfl, _, rfl, ⟨_, SqL.of h6D⟩, fun D2 nD2 => ?_⟩
       refine lc_list (K := K) (xs := ms.map V.int) (fun i3 H7 => ∃ (fs : List Int) (rs3 : List Addr) (k7 : Int), fs.Sublist (ms.take i3) ∧ PsAt H7 D2 rs3 (fs.map fun m => (m, st + i)) ∧
         SameBut d (upd (upd (upd H4 p1 (.lst [.int g, .int (st + i)])) p2 (.lst [.ref p1])) c1 (.lst (rs2.map V.ref ++ [V.ref p1]))) H7 ∧ Dr H7 d k7 ∧ k7 ≤ k2 + 1 + i3 ∧ 0 ≤ k7) ?_ ?_ ?_ ?_
       · exact ⟨[], [], k2 + 1, List.Sublist.refl _, PsAt.nil upd_same, SameBut.new (SameBut.refl d _) nD2, hd6.same (same_upd (Same.refl _) nD2), by omega, by omega⟩
       · rintro i3 H7 _ ⟨fs, rs3, k7, hsub, hp7, sb7, hd7, hk7, h07⟩
         exact SqL.of (sb7 _ _ (hd6.ne_ints h6D) h6D)
       · rintro i3 x H7 hx ⟨fs, rs3, k7, hsub, hp7, sb7, hd7, hk7, h07⟩
         obtain ⟨m, hm, rfl⟩ := int_at hx
         have hi3 : i3 < ms.length := (List.getElem?_eq_some_iff.mp hm).1
         refine ⟨rfl, ?_⟩
         wtm_at "fo r"
         refine call_next hd7 (by omega) (fun n2 H8 hn2 sb8 hd8 => ?_)
         wtm_at "fo r"
         have hp8 := hp7.but sb8 hd7
         have nD2d : D2 ≠ d := hd8.ne_refs hp8.hD
         have hfl : fs.length ≤ 12 := Nat.le_trans hsub.length_le (Nat.le_trans (List.take_sublist i3 ms).length_le hnm)
         refine ite2 (fun hb => ?_) (fun hb => ?_)
         · wtm_at "fo r"
           rename_i r nr
           refine ⟨rs3.map V.ref, ?_, ?_, fs ++ [m], rs3 ++ [r], k7 + 1, ?_, ?_, ?_, ?_, by omega, by omega⟩
           · rw [upd_ne (ne_of_none hp8.hD nr)]
             exact hp8.hD
           · rw [List.length_map, hp8.len, List.length_map]
             exact Nat.lt_of_le_of_lt hfl (by decide)
           · rw [List.take_add_one, hm]
             exact hsub.append (List.Sublist.refl _)
           · rw [List.map_append]
             exact hp8.push nr (m, st + i)
           · have nr0 := (sb7.trans sb8).none hd8 nr
             exact ((sb7.trans sb8).new nr0).new nD2
           · have hrd : r ≠ d := by
               obtain ⟨a, b, e, _⟩ := hd8
               exact (ne_of_none e nr).symm
             obtain ⟨a, b, e, h0⟩ := hd8
             exact ⟨a, b, by rw [upd_ne nD2d.symm, upd_ne hrd.symm]; exact e, h0⟩
         · refine ⟨fs, rs3, k7 + 1, ?_, hp8, sb7.trans sb8, hd8, by omega, by omega⟩
           rw [List.take_add_one]
           exact hsub.trans (List.sublist_append_left ..)
       rintro H7 ⟨fs, rs3, k7, hsub, hp7, sb7, hd7, hk7, h07⟩
       rw [List.length_map, List.take_length] at hsub
       rw [List.length_map] at hk7
       have hp6' := hp6.but sb7 hd6
       have hfl : fs.length ≤ 12 := Nat.le_trans hsub.length_le hnm
       refine Or.inr ⟨c1, D2, (rs2 ++ [p1]).map V.ref, rs3.map V.ref, rfl, rfl, hp6'.hD, hp7.hD, ?_, fun c2 nc2 => ?_⟩
       · rw [List.length_map, List.length_map, hp7.len, List.length_map, List.length_append]
         exact Nat.le_trans (m := 1000) (show rs2.length + 1 + fs.length ≤ 1000 by omega) (by decide)
       have hp9 := hp6'.cat hp7 nc2
       have nc2' : H c2 = none := (sb6.trans sb7).none hd7 nc2
       refine ⟨c2, _, _, k7, _, _, _, rfl, hp9, ?_, ?_, ?_, nc2', hd7.same (same_upd (Same.refl _) nc2), by omega, by omega⟩
       · have := hgrow fs hsub
         rw [List.append_assoc]
         rw [show st - 1 + ((i + 1 : Nat) : Int) = st + i by omega]
         exact this
       · rw [List.length_append, List.length_append, List.length_map]
         show es2.length + 1 + fs.length ≤ _
         omega
       · exact (sb6.trans sb7).new nc2'
     · rintro σ H2 ⟨t, rs2, es2, k2, y6, y7, y8, rfl, hp2, hS2, hl2, sb2, nt, hd2, hk2, hk0⟩
       wtm_at "fo r"
       refine fin t H2 k2 es2 ?_ (by omega) sb2 nt hp2.pairs hd2 (by omega)
       have e : st - 1 + (((n : Int) + 1 - st).toNat : Int) = n := by omega
       rw [e] at hS2
       exact hS2

end Fo

/-! piece D6m -/
namespace Fo
open PySem PySem.Spec PyProof.Rows L2
/-! ### renaming, flipping and shuffling a net -/
theorem simp_perm {n : Int} {es fs : List Edge} (h : Simp n es) (p : fs.Perm es) : Simp n fs :=
  ⟨fun e he => h.rng e (p.mem_iff.mp he), (p.pairwise_iff (fun hab => Apart.symm hab)).mpr h.ap⟩
theorem simp_map {n m : Int} {es : List Edge} (h : Simp n es) (f : Int → Int) (hr : ∀ x, 1 ≤ x → x ≤ n → 1 ≤ f x ∧ f x ≤ m) (inj : ∀ x y, 1 ≤ x → x ≤ n → 1 ≤ y → y ≤ n → f x = f y → x = y) :
    Simp m (es.map fun e => (f e.1, f e.2)) := by
  refine ⟨?_, ?_⟩
  · intro e he
    obtain ⟨a, ha, rfl⟩ := List.mem_map.mp he
    have q := h.rng a ha
    have q1 := hr a.1 q.1 q.2.1
    have q2 := hr a.2 q.2.2.1 q.2.2.2.1
    refine ⟨q1.1, q1.2, q2.1, q2.2, fun e => q.2.2.2.2 (inj _ _ q.1 q.2.1 q.2.2.1 q.2.2.2.1 e)⟩
  · rw [List.pairwise_map]
    refine h.ap.imp_of_mem ?_
    intro a b ha hb hab
    have qa := h.rng a ha
    have qb := h.rng b hb
    refine ⟨fun e => hab.1 ?_, fun e => hab.2 ?_⟩
    · simp only [Prod.mk.injEq] at e
      exact Prod.ext (inj _ _ qa.1 qa.2.1 qb.1 qb.2.1 e.1) (inj _ _ qa.2.2.1 qa.2.2.2.1 qb.2.2.1 qb.2.2.2.1 e.2)
    · simp only [Prod.mk.injEq] at e
      exact Prod.ext (inj _ _ qa.1 qa.2.1 qb.2.2.1 qb.2.2.2.1 e.1) (inj _ _ qa.2.2.1 qa.2.2.2.1 qb.1 qb.2.1 e.2)
/-- some pairs the other way about -/
def Flips : List Edge → List Edge → Prop
  | [], [] => True
  | a :: as, b :: bs => (b = a ∨ b = (a.2, a.1)) ∧ Flips as bs
  | _, _ => False
theorem flips_snoc : ∀ {as bs : List Edge} {a b : Edge}, Flips as bs → (b = a ∨ b = (a.2, a.1)) → Flips (as ++ [a]) (bs ++ [b])
  | [], [], _, _, _, h => ⟨h, trivial⟩
  | _ :: _, _ :: _, _, _, h, h2 => ⟨h.1, flips_snoc h.2 h2⟩
theorem flips_mem : ∀ {as bs : List Edge}, Flips as bs → ∀ b ∈ bs, ∃ a ∈ as, b = a ∨ b = (a.2, a.1)
  | [], [], _, b, h => nomatch h
  | a :: as, c :: bs, h, b, hb => by
    rcases List.mem_cons.mp hb with rfl | hb
    · exact ⟨a, List.mem_cons_self .., h.1⟩
    · obtain ⟨x, hx, h2⟩ := flips_mem h.2 b hb
      exact ⟨x, List.mem_cons_of_mem _ hx, h2⟩
theorem flips_apart {a b c d : Edge} (h : Apart a b) (hc : c = a ∨ c = (a.2, a.1)) (hd : d = b ∨ d = (b.2, b.1)) : Apart c d := by
  obtain ⟨a1, a2⟩ := a
  obtain ⟨b1, b2⟩ := b
  have q1 := h.1
  have q2 := h.2
  simp only [ne_eq, Prod.mk.injEq] at q1 q2
  unfold Apart
  rcases hc with rfl | rfl <;> rcases hd with rfl | rfl <;> simp only [ne_eq, Prod.mk.injEq] <;> refine ⟨fun e => ?_, fun e => ?_⟩ <;> first | exact q1 e | exact q2 e | exact q1 ⟨e.2, e.1⟩ | exact q2 ⟨e.2, e.1⟩
theorem flips_pair : ∀ {as bs : List Edge}, Flips as bs → as.Pairwise Apart → bs.Pairwise Apart
  | [], [], _, _ => List.Pairwise.nil
  | a :: as, b :: bs, h, hp => by
    rw [List.pairwise_cons] at hp ⊢
    refine ⟨?_, flips_pair h.2 hp.2⟩
    intro c hc
    obtain ⟨x, hx, hx2⟩ := flips_mem h.2 c hc
    exact flips_apart (hp.1 x hx) h.1 hx2
theorem simp_flips {n : Int} {es fs : List Edge} (h : Simp n es) (hf : Flips es fs) : Simp n fs := by
  refine ⟨?_, flips_pair hf h.ap⟩
  intro e he
  obtain ⟨a, ha, h2⟩ := flips_mem hf e he
  have q := h.rng a ha
  rcases h2 with rfl | rfl
  · exact q
  · exact ⟨q.2.2.1, q.2.2.2.1, q.1, q.2.1, fun e => q.2.2.2.2 e.symm⟩
theorem flips_length : ∀ {as bs : List Edge}, Flips as bs → bs.length = as.length
  | [], [], _ => rfl
  | _ :: _, _ :: _, h => by rw [List.length_cons, List.length_cons, flips_length h.2]
/-- any lines: those of one place to greater ones -/
theorem simp_rows {n a : Int} {es : List Edge} {bs : List Int} (h : Simp n es) (h1 : ∀ e ∈ es, e.1 < a ∧ e.1 < e.2) (ha : 1 ≤ a) (han : a ≤ n) (hb : ∀ b ∈ bs, a < b ∧ b ≤ n) (nd : bs.Nodup) : Simp n (es ++ bs.map fun b => (a, b)) := by
  refine ⟨?_, ?_⟩
  · intro e he
    rcases List.mem_append.mp he with he | he
    · exact h.rng e he
    · obtain ⟨b, hb2, rfl⟩ := List.mem_map.mp he
      have := hb b hb2
      simp only
      omega
  · rw [List.pairwise_append]
    refine ⟨h.ap, ?_, ?_⟩
    · rw [List.pairwise_map]
      refine nd.imp_of_mem ?_
      intro x y hx hy hxy
      have := hb x hx
      have := hb y hy
      refine ⟨fun e => hxy ?_, fun e => ?_⟩
      · simp only [Prod.mk.injEq] at e; exact e.2
      · simp only [Prod.mk.injEq] at e; omega
    · intro x hx y hy
      obtain ⟨b, hb2, rfl⟩ := List.mem_map.mp hy
      have q1 := h1 x hx
      have q2 := hb b hb2
      refine ⟨fun e => ?_, fun e => ?_⟩
      · have := congrArg Prod.fst e; simp only at this; omega
      · have e1 := congrArg Prod.fst e
        have e2 := congrArg Prod.snd e
        simp only at e1 e2
        omega
theorem perm_lift {α β : Type} (f : α → β) {l m : List β} (h : l.Perm m) : ∀ zs, m = zs.map f → ∃ zs' : List α, zs'.Perm zs ∧ l = zs'.map f := by
  induction h with
  | nil => intro zs e; exact ⟨[], by cases zs with | nil => exact List.Perm.refl _ | cons a r => simp at e, rfl⟩
  | cons x _ ih =>
    intro zs e
    cases zs with
    | nil => simp at e
    | cons a r =>
      simp only [List.map_cons, List.cons.injEq] at e
      obtain ⟨zs', h1, h2⟩ := ih r e.2
      exact ⟨a :: zs', h1.cons a, by rw [List.map_cons, ← h2, e.1]⟩
  | swap x y l =>
    intro zs e
    cases zs with
    | nil => simp at e
    | cons a r =>
      cases r with
      | nil => simp at e
      | cons b r =>
        simp only [List.map_cons, List.cons.injEq] at e
        exact ⟨b :: a :: r, List.Perm.swap a b r, by rw [List.map_cons, List.map_cons, ← e.1, ← e.2.1, ← e.2.2]⟩
  | trans _ _ ih1 ih2 =>
    intro zs e
    obtain ⟨z1, h1, h2⟩ := ih2 zs e
    obtain ⟨z2, h3, h4⟩ := ih1 z1 h2
    exact ⟨z2, h3.trans h1, h4⟩
theorem zip_at {α β : Type} : ∀ {rs : List α} {es : List β} {i : Nat} {r : α} {e : β}, (rs.zip es)[i]? = some (r, e) → rs[i]? = some r ∧ es[i]? = some e
  | [], _, _, _, _, h => by simp at h
  | _ :: _, [], _, _, _, h => by simp at h
  | a :: rs, b :: es, 0, r, e, h => by simp at h; simp [h.1, h.2]
  | a :: rs, b :: es, i + 1, r, e, h => by
    simp only [List.zip_cons_cons, List.getElem?_cons_succ] at h ⊢
    exact zip_at h
theorem PsAt.perm {H H' : Hp} {D D2 : Addr} {rs : List Addr} {es : List Edge} {ys : List V} (h : PsAt H D rs es) (hp : ys.Perm (rs.map V.ref)) (hD : H' D2 = some (.lst ys))
    (keep : ∀ r e, r ∈ rs → H r = some (.lst [.int e.1, .int e.2]) → H' r = some (.lst [.int (e : Edge).1, .int e.2])) : ∃ fs rs', fs.Perm es ∧ PsAt H' D2 rs' fs := by
  have e1 : rs.map V.ref = (rs.zip es).map fun z => V.ref z.1 := by
    rw [show (fun z : Addr × Edge => V.ref z.1) = V.ref ∘ Prod.fst from rfl, ← List.map_map, List.map_fst_zip (by rw [h.len]; exact Nat.le_refl _)]
  obtain ⟨zs, hz, rfl⟩ := perm_lift (fun z : Addr × Edge => V.ref z.1) hp (rs.zip es) e1
  refine ⟨zs.map (·.2), zs.map (·.1), ?_, ?_, ?_, ?_⟩
  · have := hz.map (·.2)
    rw [List.map_snd_zip (by rw [h.len]; exact Nat.le_refl _)] at this
    exact this
  · rw [List.map_map]
    exact hD
  · rw [List.length_map, List.length_map]
  · intro i r e hr he
    rw [List.getElem?_map] at hr he
    cases hzi : zs[i]? with
    | none => rw [hzi] at hr; cases hr
    | some z =>
      rw [hzi] at hr he
      cases hr
      cases he
      have hm : z ∈ rs.zip es := hz.mem_iff.mp (List.mem_of_getElem? hzi)
      obtain ⟨j, hj⟩ := List.getElem?_of_mem hm
      obtain ⟨a, b⟩ := z
      obtain ⟨j1, j2⟩ := zip_at hj
      exact keep a b (List.mem_of_getElem? j1) (h.at_ j a b j1 j2)
theorem PsAt.cong {H : Hp} {D : Addr} {rs : List Addr} {es fs : List Edge} (h : PsAt H D rs es) (e : es = fs) : PsAt H D rs fs := e ▸ h
/-- a row of names: zs is the numbers 1 to n in some order -/
def nameOf (zs : List Int) (x : Int) : Int := (zs[(x - 1).toNat]?).getD 0
theorem name_at {zs : List Int} {n : Nat} (hz : zs.Perm ((List.range n).map fun (i : Nat) => (1 : Int) + i)) {x : Int} (h1 : 1 ≤ x) (h2 : x ≤ n) : zs[(x - 1).toNat]? = some (nameOf zs x) ∧ 1 ≤ nameOf zs x ∧ nameOf zs x ≤ n := by
  have hl : zs.length = n := by rw [hz.length_eq]; simp
  have hi : (x - 1).toNat < zs.length := by omega
  have e : zs[(x - 1).toNat]? = some zs[(x - 1).toNat] := List.getElem?_eq_getElem hi
  have e2 : nameOf zs x = zs[(x - 1).toNat] := by unfold nameOf; rw [e]; rfl
  have hm : zs[(x - 1).toNat] ∈ ((List.range n).map fun (i : Nat) => (1 : Int) + i) := hz.mem_iff.mp (List.getElem_mem hi)
  obtain ⟨i, hi2, hi3⟩ := List.mem_map.mp hm
  have := List.mem_range.mp hi2
  rw [e2]
  exact ⟨e, by omega, by omega⟩
theorem name_inj {zs : List Int} {n : Nat} (hz : zs.Perm ((List.range n).map fun (i : Nat) => (1 : Int) + i)) {x y : Int} (h1 : 1 ≤ x) (h2 : x ≤ n) (h3 : 1 ≤ y) (h4 : y ≤ n) (e : nameOf zs x = nameOf zs y) : x = y := by
  have nd : zs.Nodup := by
    refine (hz.nodup_iff).mpr ?_
    rw [List.Nodup, List.pairwise_map]
    refine List.nodup_range.imp ?_
    intro a b hab h
    exact hab (by omega)
  have a1 := (name_at hz h1 h2).1
  have a2 := (name_at hz h3 h4).1
  rw [e] at a1
  have := nd_ix nd a1 a2
  omega
theorem simp_nil (n : Int) : Simp n [] := ⟨(fun e h => nomatch h), List.Pairwise.nil⟩

end Fo

/-! piece D6 -/
namespace Fo
open PySem PySem.Spec PyProof.Rows L2
local macro_rules | `(tactic| wtm_at "fo a") => `(tactic| first
  | exact pa_nil
  | (refine' pa_cons ?k1 ?k2; (case k1 => wtm_at "fo e"); (case k2 => wtm_at "fo a"))
  | fail "no")
local macro_rules | `(tactic| wtm_at "fo v") => `(tactic| first
  | exact pv 0
  | exact pv 1
  | exact pv 2
  | exact pv 3
  | exact pv 4
  | exact pv 5
  | exact pv 6
  | exact pv 7
  | exact pv 8
  | exact pv 9
  | exact pv 10
  | exact pv 11
  | exact pv 12
  | exact pv 13
  | exact pv 14
  | exact pv 15
  | fail "no")
local macro_rules | `(tactic| wtm_at "fo e") => `(tactic| first
  | with_reducible exact pe_int
  | with_reducible exact pe_bl
  | with_reducible exact pe_non
  | with_reducible exact pe_str
  | ((with_reducible show PE _ (.Name _ _) _); wtm_at "fo v")
  | ((with_reducible show PE _ (.BinOp _ .Add _ _) _); apply pe_op opAddB <;> wtm_at "fo e")
  | ((with_reducible show PE _ (.BinOp _ .Sub _ _) _); apply pe_op op_sub <;> wtm_at "fo e")
  | ((with_reducible show PE _ (.BinOp _ .Mult _ _) _); apply pe_op op_mul <;> wtm_at "fo e")
  | ((with_reducible show PE _ (.BinOp _ .Mod _ _) _); apply pe_op op_mod <;> wtm_at "fo e")
  | ((with_reducible show PE _ (.BinOp _ .FloorDiv _ _) _); apply pe_op op_fdiv <;> wtm_at "fo e")
  | ((with_reducible show PE _ (.BinOp _ .Pow _ _) _); apply pe_op op_powW <;> wtm_at "fo e")
  | ((with_reducible show PE _ (.BinOp _ .LShift _ _) _); apply pe_op op_shl <;> wtm_at "fo e")
  | ((with_reducible show PE _ (.BinOp _ .RShift _ _) _); apply pe_op op_shr <;> wtm_at "fo e")
  | ((with_reducible show PE _ (.BinOp _ .BitAnd _ _) _); apply pe_op op_and <;> wtm_at "fo e")
  | ((with_reducible show PE _ (.List _ _) _); apply pe_lst; wtm_at "fo a")
  | ((with_reducible show PE _ (.Tuple _ _ _) _); apply pe_tup; wtm_at "fo a")
  | ((with_reducible show PE _ (.ListComp _ [_] _ _) _); wtm_at "fo lc")
  | ((with_reducible show PE _ (.IfExp _ _ _ _) _); apply pe_ifExp; (· wtm_at "fo t"); (· wtm_at "fo e"); (· wtm_at "fo e"))
  | ((with_reducible show PE _ (.UnaryOp .USub _ _) _); apply pe_un un_neg; wtm_at "fo e")
  | ((with_reducible show PE _ (.Call (.Name _ _) [] (_ :: _) _) _); wtm_at "fo kcall")
  | ((with_reducible show PE _ (.Call (.Name _ _) _ _ _) _); wtm_at "fo call")
  | ((with_reducible show PE _ (.Call (.Attribute _ _ _) _ _ _) _); wtm_at "fo meth")
  | ((with_reducible show PE _ (.Compare _ _ _ _) _); wtm_at "fo cmp")
  | ((with_reducible show PE _ (.Subscript _ (.Slice _ _ _ _) _) _); wtm_at "fo slice")
  | ((with_reducible show PE _ (.Subscript _ _ _) _); refine' pe_ix (ix_seqK (by assumption) (by exact rfl)) ?ka ?kb (fun _ _ => rfl); (case ka => wtm_at "fo e"); (case kb => wtm_at "fo e"))
  | fail "no")
local macro_rules | `(tactic| wtm_at "fo own") => `(tactic| first
  | ((show _ = [0]); kernel_rfl!)
  | ((show _ = [1]); kernel_rfl!)
  | ((show _ = [2]); kernel_rfl!)
  | ((show _ = [3]); kernel_rfl!)
  | ((show _ = [4]); kernel_rfl!)
  | ((show _ = [5]); kernel_rfl!)
  | ((show _ = [6]); kernel_rfl!)
  | ((show _ = [7]); kernel_rfl!)
  | ((show _ = [8]); kernel_rfl!)
  | ((show _ = [9]); kernel_rfl!)
  | ((show _ = [10]); kernel_rfl!)
  | ((show _ = [11]); kernel_rfl!)
  | ((show _ = [12]); kernel_rfl!)
  | ((show _ = [13]); kernel_rfl!)
  | ((show _ = [14]); kernel_rfl!)
  | ((show _ = [15]); kernel_rfl!)
  | ((show _ = [0, 1]); kernel_rfl!)
  | ((show _ = [1, 2]); kernel_rfl!)
  | ((show _ = [2, 3]); kernel_rfl!)
  | ((show _ = [3, 4]); kernel_rfl!)
  | ((show _ = [4, 5]); kernel_rfl!)
  | ((show _ = [5, 6]); kernel_rfl!)
  | ((show _ = [6, 7]); kernel_rfl!)
  | ((show _ = [7, 8]); kernel_rfl!)
  | ((show _ = [8, 9]); kernel_rfl!)
  | ((show _ = [9, 10]); kernel_rfl!)
  | ((show _ = [10, 11]); kernel_rfl!)
  | ((show _ = [11, 12]); kernel_rfl!)
  | ((show _ = [12, 13]); kernel_rfl!)
  | ((show _ = [13, 14]); kernel_rfl!)
  | ((show _ = [14, 15]); kernel_rfl!)
  | fail "no")
local macro_rules | `(tactic| wtm_at "fo ts") => `(tactic| first
  | exact pts_nil
  | (apply pts_one; wtm_at "fo t")
  | fail "no")
local macro_rules | `(tactic| wtm_at "fo lc") => `(tactic| first
  | (refine' pe_lcO (by assumption) (by exact rfl) (by exact rfl) (by wtm_at "fo own") (by decide +kernel) rfl ?ki ?kg ?kt ?ke; (case ki => wtm_at "fo i"); (case kg => (intro _ _ _ _ _; wtm_at "fo g")); (case kt => (intro _ _ _ _ _; wtm_at "fo ts")); (case ke => (intro _ _ _ _ _; wtm_at "fo e")))
  | fail "no")
local macro_rules | `(tactic| wtm_at "fo part") => `(tactic| first
  | exact po_none
  | (apply po_some; wtm_at "fo e")
  | fail "no")
local macro_rules | `(tactic| wtm_at "fo slice") => `(tactic| first
  | ((with_reducible show PE _ (.Subscript _ (.Slice _ _ none _) _) _); refine' pe_slice (sl_listK (by assumption) (by exact rfl)) ?ka ?kb ?kc; (case ka => wtm_at "fo e"); (case kb => wtm_at "fo part"); (case kc => wtm_at "fo part"))
  | ((with_reducible show PE _ (.Subscript _ (.Slice none none (some _) _) _) _); refine' pe_stepK (by assumption) (by exact rfl) ?ka ?kb; (case ka => wtm_at "fo e"); (case kb => wtm_at "fo e"))
  | fail "no")
local macro_rules | `(tactic| wtm_at "fo cmp") => `(tactic| first
  | ((with_reducible show PE _ (.Compare _ [.Lt] _ _) _); refine' pe_cmpR op_lt ?ka ?kb (nomark _); (case ka => wtm_at "fo e"); (case kb => wtm_at "fo e"))
  | ((with_reducible show PE _ (.Compare _ [.LtE] _ _) _); refine' pe_cmpR op_le ?ka ?kb (nomark _); (case ka => wtm_at "fo e"); (case kb => wtm_at "fo e"))
  | ((with_reducible show PE _ (.Compare _ [.Gt] _ _) _); refine' pe_cmpR op_gt ?ka ?kb (nomark _); (case ka => wtm_at "fo e"); (case kb => wtm_at "fo e"))
  | ((with_reducible show PE _ (.Compare _ [.GtE] _ _) _); refine' pe_cmpR op_ge ?ka ?kb (nomark _); (case ka => wtm_at "fo e"); (case kb => wtm_at "fo e"))
  | ((with_reducible show PE _ (.Compare _ [.Eq] _ _) _); refine' pe_cmpR (op_eqK (by assumption) (by exact rfl) (Room.units (by assumption))) ?ka ?kb (nomark _); (case ka => wtm_at "fo e"); (case kb => wtm_at "fo e"))
  | ((with_reducible show PE _ (.Compare _ [.NotEq] _ _) _); refine' pe_cmpR (op_neK (by assumption) (by exact rfl) (Room.units (by assumption))) ?ka ?kb (nomark _); (case ka => wtm_at "fo e"); (case kb => wtm_at "fo e"))
  | fail "no")
local macro_rules | `(tactic| wtm_at "fo tcmp") => `(tactic| first
  | ((with_reducible show PT _ (.Compare _ [.Lt] _ _) _); refine' pt_cmpR op_lt ?ka ?kb (nomark _); (case ka => wtm_at "fo e"); (case kb => wtm_at "fo e"))
  | ((with_reducible show PT _ (.Compare _ [.LtE] _ _) _); refine' pt_cmpR op_le ?ka ?kb (nomark _); (case ka => wtm_at "fo e"); (case kb => wtm_at "fo e"))
  | ((with_reducible show PT _ (.Compare _ [.Gt] _ _) _); refine' pt_cmpR op_gt ?ka ?kb (nomark _); (case ka => wtm_at "fo e"); (case kb => wtm_at "fo e"))
  | ((with_reducible show PT _ (.Compare _ [.GtE] _ _) _); refine' pt_cmpR op_ge ?ka ?kb (nomark _); (case ka => wtm_at "fo e"); (case kb => wtm_at "fo e"))
  | ((with_reducible show PT _ (.Compare _ [.Eq] _ _) _); refine' pt_cmpR (op_eqK (by assumption) (by exact rfl) (Room.units (by assumption))) ?ka ?kb (nomark _); (case ka => wtm_at "fo e"); (case kb => wtm_at "fo e"))
  | ((with_reducible show PT _ (.Compare _ [.NotEq] _ _) _); refine' pt_cmpR (op_neK (by assumption) (by exact rfl) (Room.units (by assumption))) ?ka ?kb (nomark _); (case ka => wtm_at "fo e"); (case kb => wtm_at "fo e"))
  | ((with_reducible show PT _ (.Compare _ [.In] _ _) _); refine' pt_cmpR (op_inK (by assumption) (by exact rfl)) ?ka ?kb rfl; (case ka => wtm_at "fo e"); (case kb => wtm_at "fo e"))
  | ((with_reducible show PT _ (.Compare _ [.NotIn] _ _) _); refine' pt_cmpR (op_notInK (by assumption) (by exact rfl)) ?ka ?kb rfl; (case ka => wtm_at "fo e"); (case kb => wtm_at "fo e"))
  | fail "no")
local macro_rules | `(tactic| wtm_at "fo w") => `(tactic| first
  | ((with_reducible show PW _ (.BoolOp .And [_] _) _); apply pw_and1; wtm_at "fo t")
  | ((with_reducible show PW _ (.BoolOp .And _ _) _); apply pw_and; (· wtm_at "fo t"); (· wtm_at "fo w"))
  | ((with_reducible show PW _ (.BoolOp .Or [_] _) _); apply pw_or1; wtm_at "fo t")
  | ((with_reducible show PW _ (.BoolOp .Or _ _) _); apply pw_or; (· wtm_at "fo t"); (· wtm_at "fo w"))
  | fail "no")
local macro_rules | `(tactic| wtm_at "fo meth") => `(tactic| first
  | ((with_reducible show PE _ (.Call (.Attribute _ (Str.ofString "append") _) _ _ _) _); refine' pe_bm PySem.F.plainAttrs_list PySem.F.slot_list_append PySem.F.type_list_append mt_append ?ka ?kb; (case ka => wtm_at "fo e"); (case kb => wtm_at "fo a"))
  | ((with_reducible show PE _ (.Call (.Attribute _ (Str.ofString "pop") _) [_] _ _) _); refine' pe_bm PySem.F.plainAttrs_list PySem.F.slot_list_pop PySem.F.type_list_pop mt_popAt ?ka ?kb; (case ka => wtm_at "fo e"); (case kb => wtm_at "fo a"))
  | ((with_reducible show PE _ (.Call (.Attribute _ (Str.ofString "pop") _) [] _ _) _); refine' pe_bm0 PySem.F.plainAttrs_list PySem.F.slot_list_pop PySem.F.type_list_pop mt_pop ?ka; (case ka => wtm_at "fo e"))
  | fail "no")
local macro_rules | `(tactic| wtm_at "fo k") => `(tactic| first
  | exact pk_nil
  | (refine' pk_cons ?k1 ?k2; (case k1 => wtm_at "fo e"); (case k2 => wtm_at "fo k"))
  | fail "no")
local macro_rules | `(tactic| wtm_at "fo kcall") => `(tactic| first
  | (refine' pe_kcal (by assumption) (by assumption) (by decide) (by rfl) ?ka; (case ka => wtm_at "fo k"))
  | fail "no")
local macro_rules | `(tactic| wtm_at "fo call") => `(tactic| first
  | ((with_reducible show PE _ (.Call (.Name (Str.ofString "int") _) _ _ _) _); refine' pe_callTy call_intB (by rfl) (by assumption) (by decide +kernel) ?ka; (case ka => wtm_at "fo a"))
  | ((with_reducible show PE _ (.Call (.Name (Str.ofString "len") _) _ _ _) _); refine' pe_callB (call_lenK (by assumption) (by exact rfl)) (by rfl) (by assumption) PySem.boot_len ?ka; (case ka => wtm_at "fo a"))
  | ((with_reducible show PE _ (.Call (.Name (Str.ofString "list") _) [.Call (.Name (Str.ofString "range") _) [_, _] _ _] _ _) _); refine' pe_listRg rfl (by rfl) (by assumption) (prg_2 (by rfl) (by assumption) ?ka ?kb); (case ka => wtm_at "fo e"); (case kb => wtm_at "fo e"))
  | ((with_reducible show PE _ (.Call (.Name (Str.ofString "list") _) _ _ _) _); refine' pe_callTy (call_listK (by assumption) (by exact rfl)) (by rfl) (by assumption) (by decide +kernel) ?ka; (case ka => wtm_at "fo a"))
  | ((with_reducible show PE _ (.Call (.Name (Str.ofString "min") _) [_, _] _ _) _); refine' pe_callB (call_min2 rfl) (by rfl) (by assumption) (by decide +kernel) ?ka; (case ka => wtm_at "fo a"))
  | ((with_reducible show PE _ (.Call (.Name (Str.ofString "sorted") _) [_] _ _) _); refine' pe_callB (cr_sortedK (by assumption) (by exact rfl)) (by rfl) (by assumption) (by decide +kernel) ?ka; (case ka => wtm_at "fo a"))
  | ((with_reducible show PE _ (.Call (.Name (Str.ofString "repr") _) [_] _ _) _); refine' pe_callB (call_reprK (by assumption) (by exact rfl) (by assumption) (Room.units (by assumption))) (by rfl) (by assumption) (by decide +kernel) ?ka; (case ka => wtm_at "fo a"))
  | (refine' pe_cal (by assumption) (by assumption) (by decide) (by rfl) ?ka; (case ka => wtm_at "fo a"))
  | fail "no")
local macro_rules | `(tactic| wtm_at "fo setlc") => `(tactic| first
  | (refine' ps_setLcO (i := 0) (by assumption) (by exact rfl) (by exact rfl) (by wtm_at "fo own") (by decide +kernel) rfl rfl rfl (sw_true rfl rfl rfl (by decide +kernel)) ?ki ?kg ?kt ?ke; (case ki => wtm_at "fo i"); (case kg => (intro _ _ _ _ _; wtm_at "fo g")); (case kt => (intro _ _ _ _ _; wtm_at "fo ts")); (case ke => (intro _ _ _ _ _; wtm_at "fo e")))
  | (refine' ps_setLcO (i := 1) (by assumption) (by exact rfl) (by exact rfl) (by wtm_at "fo own") (by decide +kernel) rfl rfl rfl (sw_true rfl rfl rfl (by decide +kernel)) ?ki ?kg ?kt ?ke; (case ki => wtm_at "fo i"); (case kg => (intro _ _ _ _ _; wtm_at "fo g")); (case kt => (intro _ _ _ _ _; wtm_at "fo ts")); (case ke => (intro _ _ _ _ _; wtm_at "fo e")))
  | (refine' ps_setLcO (i := 2) (by assumption) (by exact rfl) (by exact rfl) (by wtm_at "fo own") (by decide +kernel) rfl rfl rfl (sw_true rfl rfl rfl (by decide +kernel)) ?ki ?kg ?kt ?ke; (case ki => wtm_at "fo i"); (case kg => (intro _ _ _ _ _; wtm_at "fo g")); (case kt => (intro _ _ _ _ _; wtm_at "fo ts")); (case ke => (intro _ _ _ _ _; wtm_at "fo e")))
  | (refine' ps_setLcO (i := 3) (by assumption) (by exact rfl) (by exact rfl) (by wtm_at "fo own") (by decide +kernel) rfl rfl rfl (sw_true rfl rfl rfl (by decide +kernel)) ?ki ?kg ?kt ?ke; (case ki => wtm_at "fo i"); (case kg => (intro _ _ _ _ _; wtm_at "fo g")); (case kt => (intro _ _ _ _ _; wtm_at "fo ts")); (case ke => (intro _ _ _ _ _; wtm_at "fo e")))
  | (refine' ps_setLcO (i := 4) (by assumption) (by exact rfl) (by exact rfl) (by wtm_at "fo own") (by decide +kernel) rfl rfl rfl (sw_true rfl rfl rfl (by decide +kernel)) ?ki ?kg ?kt ?ke; (case ki => wtm_at "fo i"); (case kg => (intro _ _ _ _ _; wtm_at "fo g")); (case kt => (intro _ _ _ _ _; wtm_at "fo ts")); (case ke => (intro _ _ _ _ _; wtm_at "fo e")))
  | (refine' ps_setLcO (i := 5) (by assumption) (by exact rfl) (by exact rfl) (by wtm_at "fo own") (by decide +kernel) rfl rfl rfl (sw_true rfl rfl rfl (by decide +kernel)) ?ki ?kg ?kt ?ke; (case ki => wtm_at "fo i"); (case kg => (intro _ _ _ _ _; wtm_at "fo g")); (case kt => (intro _ _ _ _ _; wtm_at "fo ts")); (case ke => (intro _ _ _ _ _; wtm_at "fo e")))
  | (refine' ps_setLcO (i := 6) (by assumption) (by exact rfl) (by exact rfl) (by wtm_at "fo own") (by decide +kernel) rfl rfl rfl (sw_true rfl rfl rfl (by decide +kernel)) ?ki ?kg ?kt ?ke; (case ki => wtm_at "fo i"); (case kg => (intro _ _ _ _ _; wtm_at "fo g")); (case kt => (intro _ _ _ _ _; wtm_at "fo ts")); (case ke => (intro _ _ _ _ _; wtm_at "fo e")))
  | (refine' ps_setLcO (i := 7) (by assumption) (by exact rfl) (by exact rfl) (by wtm_at "fo own") (by decide +kernel) rfl rfl rfl (sw_true rfl rfl rfl (by decide +kernel)) ?ki ?kg ?kt ?ke; (case ki => wtm_at "fo i"); (case kg => (intro _ _ _ _ _; wtm_at "fo g")); (case kt => (intro _ _ _ _ _; wtm_at "fo ts")); (case ke => (intro _ _ _ _ _; wtm_at "fo e")))
  | (refine' ps_setLcO (i := 8) (by assumption) (by exact rfl) (by exact rfl) (by wtm_at "fo own") (by decide +kernel) rfl rfl rfl (sw_true rfl rfl rfl (by decide +kernel)) ?ki ?kg ?kt ?ke; (case ki => wtm_at "fo i"); (case kg => (intro _ _ _ _ _; wtm_at "fo g")); (case kt => (intro _ _ _ _ _; wtm_at "fo ts")); (case ke => (intro _ _ _ _ _; wtm_at "fo e")))
  | (refine' ps_setLcO (i := 9) (by assumption) (by exact rfl) (by exact rfl) (by wtm_at "fo own") (by decide +kernel) rfl rfl rfl (sw_true rfl rfl rfl (by decide +kernel)) ?ki ?kg ?kt ?ke; (case ki => wtm_at "fo i"); (case kg => (intro _ _ _ _ _; wtm_at "fo g")); (case kt => (intro _ _ _ _ _; wtm_at "fo ts")); (case ke => (intro _ _ _ _ _; wtm_at "fo e")))
  | (refine' ps_setLcO (i := 10) (by assumption) (by exact rfl) (by exact rfl) (by wtm_at "fo own") (by decide +kernel) rfl rfl rfl (sw_true rfl rfl rfl (by decide +kernel)) ?ki ?kg ?kt ?ke; (case ki => wtm_at "fo i"); (case kg => (intro _ _ _ _ _; wtm_at "fo g")); (case kt => (intro _ _ _ _ _; wtm_at "fo ts")); (case ke => (intro _ _ _ _ _; wtm_at "fo e")))
  | (refine' ps_setLcO (i := 11) (by assumption) (by exact rfl) (by exact rfl) (by wtm_at "fo own") (by decide +kernel) rfl rfl rfl (sw_true rfl rfl rfl (by decide +kernel)) ?ki ?kg ?kt ?ke; (case ki => wtm_at "fo i"); (case kg => (intro _ _ _ _ _; wtm_at "fo g")); (case kt => (intro _ _ _ _ _; wtm_at "fo ts")); (case ke => (intro _ _ _ _ _; wtm_at "fo e")))
  | (refine' ps_setLcO (i := 12) (by assumption) (by exact rfl) (by exact rfl) (by wtm_at "fo own") (by decide +kernel) rfl rfl rfl (sw_true rfl rfl rfl (by decide +kernel)) ?ki ?kg ?kt ?ke; (case ki => wtm_at "fo i"); (case kg => (intro _ _ _ _ _; wtm_at "fo g")); (case kt => (intro _ _ _ _ _; wtm_at "fo ts")); (case ke => (intro _ _ _ _ _; wtm_at "fo e")))
  | (refine' ps_setLcO (i := 13) (by assumption) (by exact rfl) (by exact rfl) (by wtm_at "fo own") (by decide +kernel) rfl rfl rfl (sw_true rfl rfl rfl (by decide +kernel)) ?ki ?kg ?kt ?ke; (case ki => wtm_at "fo i"); (case kg => (intro _ _ _ _ _; wtm_at "fo g")); (case kt => (intro _ _ _ _ _; wtm_at "fo ts")); (case ke => (intro _ _ _ _ _; wtm_at "fo e")))
  | (refine' ps_setLcO (i := 14) (by assumption) (by exact rfl) (by exact rfl) (by wtm_at "fo own") (by decide +kernel) rfl rfl rfl (sw_true rfl rfl rfl (by decide +kernel)) ?ki ?kg ?kt ?ke; (case ki => wtm_at "fo i"); (case kg => (intro _ _ _ _ _; wtm_at "fo g")); (case kt => (intro _ _ _ _ _; wtm_at "fo ts")); (case ke => (intro _ _ _ _ _; wtm_at "fo e")))
  | (refine' ps_setLcO (i := 15) (by assumption) (by exact rfl) (by exact rfl) (by wtm_at "fo own") (by decide +kernel) rfl rfl rfl (sw_true rfl rfl rfl (by decide +kernel)) ?ki ?kg ?kt ?ke; (case ki => wtm_at "fo i"); (case kg => (intro _ _ _ _ _; wtm_at "fo g")); (case kt => (intro _ _ _ _ _; wtm_at "fo ts")); (case ke => (intro _ _ _ _ _; wtm_at "fo e")))
  | fail "no")
local macro_rules | `(tactic| wtm_at "fo set") => `(tactic| first
  | (refine' ps_set (i := 0) (by assumption) rfl (by first | exact Or.inl rfl | exact Or.inr rfl) ?ka; (case ka => wtm_at "fo e"))
  | (refine' ps_set (i := 1) (by assumption) rfl (by first | exact Or.inl rfl | exact Or.inr rfl) ?ka; (case ka => wtm_at "fo e"))
  | (refine' ps_set (i := 2) (by assumption) rfl (by first | exact Or.inl rfl | exact Or.inr rfl) ?ka; (case ka => wtm_at "fo e"))
  | (refine' ps_set (i := 3) (by assumption) rfl (by first | exact Or.inl rfl | exact Or.inr rfl) ?ka; (case ka => wtm_at "fo e"))
  | (refine' ps_set (i := 4) (by assumption) rfl (by first | exact Or.inl rfl | exact Or.inr rfl) ?ka; (case ka => wtm_at "fo e"))
  | (refine' ps_set (i := 5) (by assumption) rfl (by first | exact Or.inl rfl | exact Or.inr rfl) ?ka; (case ka => wtm_at "fo e"))
  | (refine' ps_set (i := 6) (by assumption) rfl (by first | exact Or.inl rfl | exact Or.inr rfl) ?ka; (case ka => wtm_at "fo e"))
  | (refine' ps_set (i := 7) (by assumption) rfl (by first | exact Or.inl rfl | exact Or.inr rfl) ?ka; (case ka => wtm_at "fo e"))
  | (refine' ps_set (i := 8) (by assumption) rfl (by first | exact Or.inl rfl | exact Or.inr rfl) ?ka; (case ka => wtm_at "fo e"))
  | (refine' ps_set (i := 9) (by assumption) rfl (by first | exact Or.inl rfl | exact Or.inr rfl) ?ka; (case ka => wtm_at "fo e"))
  | (refine' ps_set (i := 10) (by assumption) rfl (by first | exact Or.inl rfl | exact Or.inr rfl) ?ka; (case ka => wtm_at "fo e"))
  | (refine' ps_set (i := 11) (by assumption) rfl (by first | exact Or.inl rfl | exact Or.inr rfl) ?ka; (case ka => wtm_at "fo e"))
  | (refine' ps_set (i := 12) (by assumption) rfl (by first | exact Or.inl rfl | exact Or.inr rfl) ?ka; (case ka => wtm_at "fo e"))
  | (refine' ps_set (i := 13) (by assumption) rfl (by first | exact Or.inl rfl | exact Or.inr rfl) ?ka; (case ka => wtm_at "fo e"))
  | fail "no")
local macro_rules | `(tactic| wtm_at "fo t") => `(tactic| first
  | ((with_reducible show PT _ (.BoolOp _ _ _) _); apply PW.pt; wtm_at "fo w")
  | ((with_reducible show PT _ (.UnaryOp .Not _ _) _); apply pt_not; wtm_at "fo t")
  | ((with_reducible show PT _ (.Compare _ _ _ _) _); wtm_at "fo tcmp")
  | (refine' pt_truthK (by assumption) (by exact rfl) ?ka (by intro _; rfl); (case ka => wtm_at "fo e"))
  | fail "no")
local macro_rules | `(tactic| wtm_at "fo gn") => `(tactic| first
  | exact pg_name (i := 0) (by assumption) rfl (by first | exact Or.inl rfl | exact Or.inr rfl)
  | exact pg_name (i := 1) (by assumption) rfl (by first | exact Or.inl rfl | exact Or.inr rfl)
  | exact pg_name (i := 2) (by assumption) rfl (by first | exact Or.inl rfl | exact Or.inr rfl)
  | exact pg_name (i := 3) (by assumption) rfl (by first | exact Or.inl rfl | exact Or.inr rfl)
  | exact pg_name (i := 4) (by assumption) rfl (by first | exact Or.inl rfl | exact Or.inr rfl)
  | exact pg_name (i := 5) (by assumption) rfl (by first | exact Or.inl rfl | exact Or.inr rfl)
  | exact pg_name (i := 6) (by assumption) rfl (by first | exact Or.inl rfl | exact Or.inr rfl)
  | exact pg_name (i := 7) (by assumption) rfl (by first | exact Or.inl rfl | exact Or.inr rfl)
  | exact pg_name (i := 8) (by assumption) rfl (by first | exact Or.inl rfl | exact Or.inr rfl)
  | exact pg_name (i := 9) (by assumption) rfl (by first | exact Or.inl rfl | exact Or.inr rfl)
  | exact pg_name (i := 10) (by assumption) rfl (by first | exact Or.inl rfl | exact Or.inr rfl)
  | exact pg_name (i := 11) (by assumption) rfl (by first | exact Or.inl rfl | exact Or.inr rfl)
  | exact pg_name (i := 12) (by assumption) rfl (by first | exact Or.inl rfl | exact Or.inr rfl)
  | exact pg_name (i := 13) (by assumption) rfl (by first | exact Or.inl rfl | exact Or.inr rfl)
  | exact pg_name (i := 14) (by assumption) rfl (by first | exact Or.inl rfl | exact Or.inr rfl)
  | exact pg_name (i := 15) (by assumption) rfl (by first | exact Or.inl rfl | exact Or.inr rfl)
  | fail "no")
local macro_rules | `(tactic| wtm_at "fo par") => `(tactic| first
  | (refine' ps_par (i := 0) (j := 1) rfl (by assumption) rfl rfl (by decide) rfl rfl ?ka (by rfl); (case ka => wtm_at "fo a"))
  | (refine' ps_par (i := 1) (j := 2) rfl (by assumption) rfl rfl (by decide) rfl rfl ?ka (by rfl); (case ka => wtm_at "fo a"))
  | (refine' ps_par (i := 2) (j := 3) rfl (by assumption) rfl rfl (by decide) rfl rfl ?ka (by rfl); (case ka => wtm_at "fo a"))
  | (refine' ps_par (i := 3) (j := 4) rfl (by assumption) rfl rfl (by decide) rfl rfl ?ka (by rfl); (case ka => wtm_at "fo a"))
  | (refine' ps_par (i := 4) (j := 5) rfl (by assumption) rfl rfl (by decide) rfl rfl ?ka (by rfl); (case ka => wtm_at "fo a"))
  | (refine' ps_par (i := 5) (j := 6) rfl (by assumption) rfl rfl (by decide) rfl rfl ?ka (by rfl); (case ka => wtm_at "fo a"))
  | (refine' ps_par (i := 6) (j := 7) rfl (by assumption) rfl rfl (by decide) rfl rfl ?ka (by rfl); (case ka => wtm_at "fo a"))
  | (refine' ps_par (i := 7) (j := 8) rfl (by assumption) rfl rfl (by decide) rfl rfl ?ka (by rfl); (case ka => wtm_at "fo a"))
  | (refine' ps_par (i := 8) (j := 9) rfl (by assumption) rfl rfl (by decide) rfl rfl ?ka (by rfl); (case ka => wtm_at "fo a"))
  | (refine' ps_par (i := 9) (j := 10) rfl (by assumption) rfl rfl (by decide) rfl rfl ?ka (by rfl); (case ka => wtm_at "fo a"))
  | (refine' ps_par (i := 10) (j := 11) rfl (by assumption) rfl rfl (by decide) rfl rfl ?ka (by rfl); (case ka => wtm_at "fo a"))
  | (refine' ps_par (i := 11) (j := 12) rfl (by assumption) rfl rfl (by decide) rfl rfl ?ka (by rfl); (case ka => wtm_at "fo a"))
  | (refine' ps_par (i := 12) (j := 13) rfl (by assumption) rfl rfl (by decide) rfl rfl ?ka (by rfl); (case ka => wtm_at "fo a"))
  | (refine' ps_par (i := 13) (j := 14) rfl (by assumption) rfl rfl (by decide) rfl rfl ?ka (by rfl); (case ka => wtm_at "fo a"))
  | (refine' ps_par (i := 14) (j := 15) rfl (by assumption) rfl rfl (by decide) rfl rfl ?ka (by rfl); (case ka => wtm_at "fo a"))
  | fail "no")
local macro_rules | `(tactic| wtm_at "fo g") => `(tactic| first
  | ((with_reducible show PG _ (.Name _ _) _); wtm_at "fo gn")
  | ((with_reducible show PG _ (.Tuple _ _ _) _); apply PG_or; (· refine' pg_tup2 (by assumption) (by exact rfl) rfl ?kg; (case kg => wtm_at "fo gs")); (· refine' pg_unl2 (by assumption) (by exact rfl) rfl ?kg; (case kg => wtm_at "fo gs")))
  | fail "no")
local macro_rules | `(tactic| wtm_at "fo gs") => `(tactic| first
  | exact pgs_nil
  | (refine' pgs_cons ?k1 ?k2; (case k1 => wtm_at "fo g"); (case k2 => wtm_at "fo gs"))
  | fail "no")
local macro_rules | `(tactic| wtm_at "fo i") => `(tactic| first
  | ((with_reducible show PI _ _ (.Call (.Name (Str.ofString "range") _) [_] _ _) _); refine' pi_range1 (by rfl) (by assumption) ?ka; (case ka => wtm_at "fo a"))
  | ((with_reducible show PI _ _ (.Call (.Name (Str.ofString "range") _) [_, _] _ _) _); refine' pi_range2 (by rfl) (by assumption) ?ka; (case ka => wtm_at "fo a"))
  | ((with_reducible show PI _ _ (.Call (.Name (Str.ofString "enumerate") _) [_] _ _) _); refine' pi_enum (by rfl) (by assumption) ?ka; (case ka => wtm_at "fo a"))
  | (refine' pi_listK (by assumption) (by exact rfl) ?ka; (case ka => wtm_at "fo e"))
  | fail "no")
local macro_rules | `(tactic| wtm_at "fo s") => `(tactic| first
  | ((with_reducible show PS _ (.While _ _ _ _) _); refine' ps_while PassesOwn.never ?kt ?kb; (case kt => wtm_at "fo t"); (case kb => wtm_at "fo ss"))
  | ((with_reducible show PS _ (.For _ _ _ _ _) _); refine' ps_for PassesOwn.never rfl ?ki ?kg ?kb; (case ki => wtm_at "fo i"); (case kg => wtm_at "fo g"); (case kb => wtm_at "fo ss"))
  | ((with_reducible show PS _ (.Assign [.Name _ _] (.ListComp _ [_] _ _) _) _); wtm_at "fo setlc")
  | ((with_reducible show PS _ (.Assign [.Name _ _] _ _) _); wtm_at "fo set")
  | ((with_reducible show PS _ (.Assign [.Tuple [.Name _ _, .Name _ _] _ _] (.Tuple [_, _] _ _) _) _); wtm_at "fo par")
  | ((with_reducible show PS _ (.Assign [.Subscript _ _ _] _ _) _); refine' ps_asg ?ka (pg_sub ?kb ?kc set_list); (case ka => wtm_at "fo e"); (case kb => wtm_at "fo e"); (case kc => wtm_at "fo e"))
  | ((with_reducible show PS _ (.Return (some _) _) _); apply ps_ret; wtm_at "fo e")
  | ((with_reducible show PS _ (.Expr _ _) _); refine' ps_expr ?ka; (case ka => wtm_at "fo e"))
  | ((with_reducible show PS _ (.If _ _ _ _) _); apply ps_if; (· wtm_at "fo t"); (· wtm_at "fo ss"); (· wtm_at "fo ss"))
  | fail "no")
local macro_rules | `(tactic| wtm_at "fo ss") => `(tactic| first
  | with_reducible exact pss_nil
  | ((with_reducible show PSs _ [_] _); apply pss_one; wtm_at "fo s")
  | (apply pss_cons; (· wtm_at "fo s"); (· wtm_at "fo ss"))
  | fail "no")
local macro_rules | `(tactic| wtm_at "fo hp") => `(tactic| first
  | assumption
  | exact upd_same
  | (refine (upd_ne ?ne).trans ?hp; (case ne => wtm_at "fo ne"); (case hp => wtm_at "fo hp"))
  | fail "no")
local macro_rules | `(tactic| wtm_at "fo ne") => `(tactic| first
  | assumption
  | (apply Ne.symm; assumption)
  | exact ne_of_none (by assumption) (by assumption)
  | exact Ne.symm (ne_of_none (by assumption) (by assumption))
  | fail "no")
local macro_rules | `(tactic| wtm_at "fo sz") => `(tactic| first
  | exact (Nat.le_of_ble_eq_true rfl : _ ≤ sizeLine)
  | exact (Nat.le_of_ble_eq_true rfl : _ < sizeLine)
  | exact Nat.lt_of_le_of_lt (m := 100000) (by first | assumption | omega | (simp; omega)) (by decide)
  | exact Nat.le_trans (m := 100000) (by first | assumption | omega | (simp; omega)) (by decide)
  | fail "no")
local macro_rules | `(tactic| wtm_at "fo r1") => `(tactic| first
  | refine ⟨(Nat.le_of_ble_eq_true rfl : _ ≤ sizeLine), fun p np => ?_⟩
  | (refine' ⟨_, _, rfl, Or.inl (SqL.of ?h), ?_⟩; (case h => wtm_at "fo hp"))
  | refine ⟨_, rfl, ?_⟩
  | refine ⟨_, _, rfl, rfl, ?_⟩
  | refine ⟨_, _, rfl, ⟨by omega, by omega, by omega, by omega⟩, ?_⟩
  | refine ⟨_, rfl, by omega, by omega, ?_⟩
  | refine Or.inl ⟨_, rfl, ?_⟩
  | refine Or.inl ⟨rfl, ?_⟩
  | refine Or.inl ⟨_, _, rfl, rfl, ?_⟩
  | (refine' Or.inl ⟨_, _, _, _, rfl, rfl, SqL.of ?h, ?a, ?_⟩; (case h => wtm_at "fo hp"); (case a => rfl))
  | (refine' ⟨_, _, _, _, rfl, rfl, ?h, ?a, ?_⟩; (case h => wtm_at "fo hp"); (case a => rfl))
  | (refine' ⟨.inl ⟨rfl, _, SqL.of ?h⟩, ?_⟩; (case h => wtm_at "fo hp"))
  | (refine' ⟨_, _, _, rfl, rfl, ?h, ?z, ?_⟩; (case h => wtm_at "fo hp"); (case z => wtm_at "fo sz"))
  | (refine' ⟨_, rfl, ⟨_, SqL.of ?h⟩, ?_⟩; (case h => wtm_at "fo hp"))
  | fail "no")
local macro_rules | `(tactic| wtm_at "fo side") => `(tactic| ((try dsimp only [CMul, CDiv]); first
  | assumption
  | decide
  | omega
  | exact ⟨by decide, by decide⟩
  | exact ⟨by omega, by omega⟩
  | decide +kernel
  | fail "no"))
local macro_rules | `(tactic| wtm_at "fo r2") => `(tactic| first
  | wtm_at "fo r1"
  | refine And.intro (by wtm_at "fo side") ?_
  | fail "no")
local macro_rules | `(tactic| wtm_at "fo r") => `(tactic| repeat wtm_at "fo r2")
def ringM (f : Nat) : List Edge := (List.range f).map fun (i : Nat) => ((i : Int) + 1, ((i : Int) + 1) % (f : Int) + 1)
theorem ring_simp : ∀ f : Nat, 3 ≤ f → f ≤ 7 → Simp f (ringM f) := by
  intro f h1 h2
  have h : f = 3 ∨ f = 4 ∨ f = 5 ∨ f = 6 ∨ f = 7 := by omega
  rcases h with rfl | rfl | rfl | rfl | rfl <;> exact ⟨by decide, by unfold Apart; decide⟩
@[irreducible] def spWeb : Sp := fun vs H Q _ => ∃ (d : Addr) (k kd : Int) (n : Nat), vs = [.ref d, .int n, .int kd] ∧ Dr H d k ∧ k ≤ 900000 ∧ 1 ≤ n ∧ n ≤ 12 ∧ 0 ≤ kd ∧ kd ≤ 2 ∧
  ∀ p H' k' fs, Simp n fs → fs.length ≤ 200 → SameBut d H H' → H p = none → Pairs H' p fs → Dr H' d k' → k' ≤ k + 2000 → Q (.ref p) H'
theorem call_web {d : Addr} {k kd : Int} {n : Nat} {H : Hp} {Q : VK} {E : XK} (hd : Dr H d k) (hk : k ≤ 900000) (hn : 1 ≤ n) (hn2 : n ≤ 12) (h0 : 0 ≤ kd) (h2 : kd ≤ 2)
    (fin : ∀ p H' k' fs, Simp n fs → fs.length ≤ 200 → SameBut d H H' → H p = none → Pairs H' p fs → Dr H' d k' → k' ≤ k + 2000 → Q (.ref p) H') : spWeb [.ref d, .int n, .int kd] H Q E := by
  unfold spWeb
  exact ⟨d, k, kd, n, rfl, hd, hk, hn, hn2, h0, h2, fin⟩
variable {P : Program} {w : World} {K : PySem.W.Frag} {mg : Str → Option Value} {base : Heap}
set_option maxHeartbeats 8000000 in
theorem ok_web {f : Addr} {fd : FuncData} (F : Fun K "_law_web" "_law_web" s_law_web f fd) (mr : mg "range" = none) (ml : mg "list" = none) (mi : mg "int" = none) (mm : mg "min" = none)
    (C1 : Cal P w K mg base "_law_next" 1 ["_law_draws_here"] spNext) (C2 : Cal P w K mg base "_law_shuffled" 2 ["_law_draws_here", "_law_things"] spShuf)
    (C3 : Cal P w K mg base "_law_grown" 2 ["_law_draws_here", "_law_size", "_law_sides", "_law_start"] spGrown) :
    FnOk P w K mg base CX0 3 f fd ["_law_draws_here", "_law_size", "_law_kind"] spWeb := by
  refine F.ok sc_law_web (fun vs H Q E h => ?_) (fun cdv A outer s H vs Q E hr h => ?_)
  · unfold spWeb at h
    obtain ⟨d, k, kd, n, rfl, _⟩ := h
    rfl
  · have nd := sc_law_web.nd
    have hS := sc_law_web
    have hKM : KMark K := ⟨⟩
    refine' mk_body ?body ?rd
    case body =>
      show PSs _ [_, _, _, _, _, _] _
      apply C8.pss_cut
      · wtm_at "fo s"
      apply C8.pss_cut
      · wtm_at "fo s"
      apply C8.pss_cut
      · wtm_at "fo s"
      wtm_at "fo ss"
    case rd =>
     unfold spWeb at h
     obtain ⟨d, k, kd, n, rfl, hd, hk, hn1, hn, hk0, hk2, fin⟩ := h
     have hk' : 0 ≤ k := hd.elim fun a ⟨b, _, h0⟩ => h0
     let Done : Sl → Hp → Prop := fun σ H1 => ∃ t y3 y5 y6 y7 y8 y9 es k1, σ = [some (.ref d), some (.int n), some (.int kd), y3, some (.ref t), y5, y6, y7, y8, y9, none, none] ∧ Pairs H1 t es ∧ Simp n es ∧
       es.length ≤ 200 ∧ SameBut d H H1 ∧ H t = none ∧ Dr H1 d k1 ∧ k1 ≤ k + 600 ∧ 0 ≤ k1
     let Undone : Sl → Hp → Prop := fun σ H1 => σ = [some (.ref d), some (.int n), some (.int kd), none, none, none, none, none, none, none, none, none] ∧ H1 = H
     refine ⟨fun σ H1 => (kd = 0 ∧ Done σ H1) ∨ (kd ≠ 0 ∧ Undone σ H1), ?_, ?_⟩
     · wtm_at "fo r"
       by_cases hkd : kd = 0
       · refine ifT (by rw [hkd]; rfl) ?_
         wtm_at "fo r"
         refine call_next hd (by omega) (fun n1 H1 hn1 sb1 hd1 => ?_)
         wtm_at "fo r"
         rename_i t0 nt0
         have gg1 := Int.emod_nonneg n1 (show (3 : Int) ≠ 0 by decide)
         have nt00 : H t0 = none := sb1.none hd1 nt0
         have hN : ((n : Int) + 1 - 1).toNat = n := by omega
         refine for_range (fun i σ H2 => ∃ t rs es' k' y5, σ = [some (.ref d), some (.int n), some (.int kd), some (.int (2 + n1 % 3)), some (.ref t), y5, none, none, none, none, none, none] ∧
           PsAt H2 t rs es' ∧ Simp n es' ∧ (∀ e ∈ es', e.1 < 1 + (i : Int) ∧ e.1 < e.2) ∧ es'.length ≤ 12 * i ∧ SameBut d H H2 ∧ H t = none ∧ Dr H2 d k' ∧ k' ≤ k + 1 + 12 * i ∧ 0 ≤ k') ?_ ?_ ?_
         · exact ⟨t0, [], [], k + 1, none, rfl, PsAt.nil upd_same, simp_nil _, (fun e h => nomatch h), by simp, sb1.new nt00, nt00, hd1.same (same_upd (Same.refl _) nt0), by omega, by omega⟩
         · rintro i σ H2 hi ⟨t, rs2, es2, k2, y5, rfl, hp2, hS2, hlt, hl2, sb2, nt, hd2, hk2, hk02⟩
           rw [hN] at hi
           wtm_at "fo r"
           refine fun D nD => ?_
           have hNN : ((n : Int) + 1 - (1 + (i : Int) + 1)).toNat ≤ 12 := by omega
           have nDd : D ≠ d := by
             obtain ⟨a, b, e, _⟩ := hd2
             exact (ne_of_none e nD).symm
           refine lc_range (fun i3 H4 => ∃ (bs : List Int) (rs3 : List Addr) (k7 : Int), bs.Nodup ∧ (∀ b ∈ bs, 1 + (i : Int) < b ∧ b < 1 + (i : Int) + 1 + (i3 : Int) ∧ b ≤ n) ∧ bs.length ≤ i3 ∧
             PsAt H4 D rs3 (bs.map fun b => (1 + (i : Int), b)) ∧ SameBut d H2 H4 ∧ Dr H4 d k7 ∧ k7 ≤ k2 + i3 ∧ 0 ≤ k7) ?_ ?_ ?_
           · exact ⟨[], [], k2, List.nodup_nil, (fun b h => nomatch h), Nat.le_refl _, PsAt.nil upd_same, SameBut.new (SameBut.refl d _) nD, hd2.same (same_upd (Same.refl _) nD), by omega, hk02⟩
           · rintro i3 H4 hi3 ⟨bs, rs3, k7, hbn, hbr, hbl, hp4, sb4, hd4, hk7, h07⟩
             refine ⟨rfl, ?_⟩
             wtm_at "fo r"
             refine call_next hd4 (by omega) (fun n2 H8 hn2 sb8 hd8 => ?_)
             wtm_at "fo r"
             have hp8 := hp4.but sb8 hd4
             refine ite2 (fun hb => ?_) (fun hb => ?_)
             · wtm_at "fo r"
               rename_i r nr
               have nr0 := (sb4.trans sb8).none hd8 nr
               have hrd : r ≠ d := by
                 obtain ⟨a, b, e, _⟩ := hd8
                 exact (ne_of_none e nr).symm
               refine ⟨rs3.map V.ref, ?_, ?_, bs ++ [1 + (i : Int) + 1 + (i3 : Int)], rs3 ++ [r], k7 + 1, ?_, ?_, ?_, ?_, ?_, ?_, by omega, by omega⟩
               · rw [upd_ne (ne_of_none hp8.hD nr)]
                 exact hp8.hD
               · rw [List.length_map, hp8.len, List.length_map]
                 exact Nat.lt_of_le_of_lt (m := 100) (by omega) (by decide)
               · rw [List.nodup_append]
                 refine ⟨hbn, by simp, ?_⟩
                 intro a ha b hb2
                 simp at hb2
                 have := hbr a ha
                 omega
               · intro b hb2
                 rcases List.mem_append.mp hb2 with hb2 | hb2
                 · have := hbr b hb2
                   omega
                 · simp at hb2
                   omega
               · rw [List.length_append]
                 simp
                 omega
               · rw [List.map_append]
                 exact hp8.push nr (1 + (i : Int), 1 + (i : Int) + 1 + (i3 : Int))
               · exact ((sb4.trans sb8).new nr0).new nD
               · obtain ⟨a, b, e, h0⟩ := hd8
                 exact ⟨a, b, by rw [upd_ne nDd.symm, upd_ne hrd.symm]; exact e, h0⟩
             · exact ⟨bs, rs3, k7 + 1, hbn, fun b hb2 => by have := hbr b hb2; omega, by omega, hp8, sb4.trans sb8, hd8, by omega, by omega⟩
           · rintro H4 ⟨bs, rs3, k7, hbn, hbr, hbl, hp4, sb4, hd4, hk7, h07⟩
             have hp5 := hp2.but sb4 hd2
             refine Or.inr ⟨t, D, rs2.map V.ref, rs3.map V.ref, rfl, rfl, hp5.hD, hp4.hD, ?_, fun c nc => ?_⟩
             · rw [List.length_map, List.length_map, hp2.len, hp4.len, List.length_map]
               exact Nat.le_trans (m := 1000) (by omega) (by decide)
             have hp6 := hp5.cat hp4 nc
             have nc0 : H c = none := (sb2.trans sb4).none hd4 nc
             refine ⟨c, _, _, k7, _, rfl, hp6, ?_, ?_, ?_, (sb2.trans sb4).new nc0, nc0, hd4.same (same_upd (Same.refl _) nc), by omega, by omega⟩
             · exact simp_rows hS2 hlt (by omega) (by omega) (fun b hb2 => by have := hbr b hb2; omega) hbn
             · intro e he
               rcases List.mem_append.mp he with he | he
               · have := hlt e he
                 omega
               · obtain ⟨b, hb2, rfl⟩ := List.mem_map.mp he
                 have := hbr b hb2
                 simp only
                 omega
             · rw [List.length_append, List.length_map]
               omega
         · rintro σ H2 ⟨t, rs2, es2, k2, y5, rfl, hp2, hS2, hlt, hl2, sb2, nt, hd2, hk2, hk02⟩
           rw [hN] at hl2 hk2
           exact Or.inl ⟨hkd, t, _, _, _, _, _, _, es2, k2, rfl, hp2.pairs, hS2, by omega, sb2, nt, hd2, by omega, hk02⟩
       · refine ifF (by simp [hkd]) ?_
         exact Or.inr ⟨hkd, rfl, rfl⟩
     refine fun σ1 H1 m1 => ⟨fun σ H1 => (kd ≤ 1 ∧ Done σ H1) ∨ (kd = 2 ∧ Undone σ H1), ?_, fun σ2 H2 m2 => ⟨Done, ?_, fun σ3 H3 m3 => ?_⟩⟩
     · rcases m1 with ⟨hkd, dn⟩ | ⟨hkd, rfl, rfl⟩
       · obtain ⟨t, y3, y5, y6, y7, y8, y9, es, k1, rfl, rest⟩ := id dn
         wtm_at "fo r"
         refine ifF (by rw [hkd]; rfl) ?_
         exact Or.inl ⟨by omega, dn⟩
       · wtm_at "fo r"
         by_cases h1 : kd = 1
         · refine ifT (by rw [h1]; rfl) ?_
           wtm_at "fo r"
           rename_i p np
           refine call_grown (es := []) (hd.same (same_upd (Same.refl _) np)) (by omega) hn (by decide) (by omega) (PsAt.pairs (PsAt.nil upd_same)) (simp_nil _) (by simp) ?_
           intro q H4 k4 fs hS4 hl4 sb4 nq hp4 hd4 hk4
           have hqp : H1 q = none := (Same.but d (same_upd (Same.refl H1) np)).none (hd.same (same_upd (Same.refl _) np)) nq
           refine Or.inl ⟨by omega, q, _, _, _, _, _, _, fs, k4, rfl, hp4, hS4, hl4, (Same.but d (same_upd (Same.refl _) np)).trans sb4, hqp, hd4, by omega, ?_⟩
           exact hd4.elim fun a ⟨b, _, h0⟩ => h0
         · refine ifF (by simp [h1]) ?_
           exact Or.inr ⟨by omega, rfl, rfl⟩
     · rcases m2 with ⟨hkd, dn⟩ | ⟨hkd, rfl, rfl⟩
       · obtain ⟨t, y3, y5, y6, y7, y8, y9, es, k1, rfl, rest⟩ := id dn
         wtm_at "fo r"
         refine ifF (by simp; omega) ?_
         exact dn
       · wtm_at "fo r"
         refine ifT (by rw [hkd]; rfl) ?_
         wtm_at "fo r"
         refine call_next hd (by omega) (fun n1 H4 hn1 sb1 hd1 => ?_)
         wtm_at "fo r"
         have gg1 := Int.emod_nonneg n1 (show (4 : Int) ≠ 0 by decide)
         have gg2 := Int.emod_lt_of_pos n1 (show (0 : Int) < 4 by decide)
         let far : Int := if 4 + n1 % 4 < (n : Int) then 4 + n1 % 4 else n
         have f1 : 1 ≤ far := by
           show 1 ≤ (if 4 + n1 % 4 < (n : Int) then 4 + n1 % 4 else n)
           split <;> omega
         have f2 : far ≤ n := by
           show (if 4 + n1 % 4 < (n : Int) then 4 + n1 % 4 else (n : Int)) ≤ n
           split <;> omega
         have f3 : far ≤ 7 := by
           show (if 4 + n1 % 4 < (n : Int) then 4 + n1 % 4 else (n : Int)) ≤ 7
           split <;> omega
         refine ⟨_, _, rfl, ?_⟩
         wtm_at "fo r"
         have f0 : (0 : Int) < (if 4 + n1 % 4 < (n : Int) then 4 + n1 % 4 else n) := f1
         have hfN : ((far.toNat : Nat) : Int) = far := by omega
         have hk4 : 0 ≤ k + 1 := by omega
         refine ite2 (fun hc => ?_) (fun hc => ?_)
         · have hc2 : 2 < far := of_decide_eq_true hc
           refine ⟨_, rfl, Or.inl ⟨_, _, rfl, rfl, 1, far + 1, rfl, ⟨by omega, by omega, by omega, by omega⟩, fun D nD => ?_⟩⟩
           have hN : (far + 1 - 1).toNat = far.toNat := by omega
           refine lc_range (fun i H5 => Same H4 H5 ∧ ∃ rs, PsAt H5 D rs ((List.range i).map fun (i : Nat) => ((i : Int) + 1, ((i : Int) + 1) % ((far.toNat : Nat) : Int) + 1))) ?_ ?_ ?_
           · exact ⟨same_upd (Same.refl _) nD, [], PsAt.nil upd_same⟩
           · rintro i H5 hi ⟨sm, rs, hp⟩
             rw [hN] at hi
             refine ⟨rfl, ?_⟩
             wtm_at "fo r"
             rename_i r nr
             refine ⟨rs.map V.ref, ?_, ?_, same_upd (same_upd sm (sm.free nr)) nD, rs ++ [r], ?_⟩
             · rw [upd_ne (ne_of_none hp.hD nr)]
               exact hp.hD
             · rw [List.length_map, hp.len, List.length_map, List.length_range]
               exact Nat.lt_of_le_of_lt (m := 100) (by omega) (by decide)
             · refine (hp.push nr (1 + (i : Int), (1 + (i : Int)) % far + 1)).cong ?_
               rw [List.range_succ, List.map_append, hfN, Int.add_comm 1 (i : Int)]
               rfl
           · rintro H5 ⟨sm, rs, hp⟩
             rw [hN] at hp
             wtm_at "fo r"
             refine call_grown (st := far + 1) (es := ringM far.toNat) (hd1.same sm) (by omega) hn (by omega) (by omega) hp.pairs ?_ ?_ ?_
             · have := ring_simp far.toNat (by omega) (by omega)
               rw [hfN] at this
               rw [show far + 1 - 1 = far by omega]
               exact this
             · rw [ringM, List.length_map, List.length_range]
               omega
             · intro q H6 k6 fs hS6 hl6 sb6 nq hp6 hd6 hk6
               have nq0 : H2 q = none := (sb1.trans (Same.but d sm)).none (hd1.same sm) nq
               refine ⟨q, _, _, _, _, _, _, fs, k6, rfl, hp6, hS6, hl6, (sb1.trans (Same.but d sm)).trans sb6, nq0, hd6, by omega, ?_⟩
               exact hd6.elim fun a ⟨b, _, h0⟩ => h0
         · wtm_at "fo r"
           rename_i p np
           refine call_grown (st := far + 1) (es := []) (hd1.same (same_upd (Same.refl _) np)) (by omega) hn (by omega) (by omega) (PsAt.pairs (PsAt.nil upd_same)) (simp_nil _) (by simp) ?_
           intro q H6 k6 fs hS6 hl6 sb6 nq hp6 hd6 hk6
           have nq0 : H2 q = none := (sb1.trans (Same.but d (same_upd (Same.refl _) np))).none (hd1.same (same_upd (Same.refl _) np)) nq
           refine ⟨q, _, _, _, _, _, _, fs, k6, rfl, hp6, hS6, hl6, (sb1.trans (Same.but d (same_upd (Same.refl _) np))).trans sb6, nq0, hd6, by omega, ?_⟩
           exact hd6.elim fun a ⟨b, _, h0⟩ => h0
     · obtain ⟨t, y3, y5, y6, y7, y8, y9, es, k1, rfl, hp, hSi, hl, sb, nt, hd1, hk1, hk01⟩ := m3
       obtain ⟨rs, hp0⟩ := PsAt.of hp
       wtm_at "fo r"
       rename_i p np
       refine fun l nl => ?_
       have hpl : p ≠ l := ne_of_none upd_same nl
       have nl0 : H3 l = none := by rw [upd_ne hpl.symm] at nl; exact nl
       have sm3 : Same H3 (upd (upd H3 p (.lst [.int 0])) l (.lst (rgV 1 ((n : Int) + 1)))) := same_upd (same_upd (Same.refl _) np) nl0
       have hrg : rgV 1 ((n : Int) + 1) = ((List.range n).map fun (i : Nat) => (1 : Int) + i).map V.int := by
         unfold rgV
         rw [show ((n : Int) + 1 - 1).toNat = n by omega, List.map_map]
         rfl
       have hpv : (upd (upd H3 p (.lst [.int 0])) l (.lst (rgV 1 ((n : Int) + 1)))) p = some (.lst [.int 0]) := by rw [upd_ne hpl]; exact upd_same
       refine call_shuf (hd1.same sm3) (by omega) upd_same ?_ ?_ ?_
       · rw [rgV_length]
         omega
       · intro x hx
         rw [hrg] at hx
         obtain ⟨z, hz, rfl⟩ := List.mem_map.mp hx
         obtain ⟨i, hi, rfl⟩ := List.mem_map.mp hz
         have := List.mem_range.mp hi
         exact .inl ⟨_, rfl, by omega⟩
       intro p2 ys H5 k5 hperm sb5 np2 hp2 hd5 hk5
       obtain ⟨zs, hz, rfl⟩ := perm_lift V.int hperm _ hrg
       have hk05 : 0 ≤ k5 := hd5.elim fun a ⟨b, _, h0⟩ => h0
       have hzl : zs.length = n := by rw [hz.length_eq]; simp
       have hd3' := hd1.same sm3
       have hpd : p ≠ d := hd3'.ne_ints (xs := [0]) hpv
       have hp5v := sb5 p _ hpd hpv
       refine Or.inr ⟨p, p2, [.int 0], zs.map V.int, rfl, rfl, hp5v, hp2, ?_, fun c nc => ?_⟩
       · rw [List.length_map, hzl]
         exact Nat.le_trans (m := 100) (show 1 + n ≤ 100 by omega) (by decide)
       have hp5 := (hp0.same sm3).but sb5 hd3'
       have sm6 : Same H5 (upd H5 c (.lst ([V.int 0] ++ zs.map V.int))) := same_upd (Same.refl _) nc
       have hp6 := hp5.same sm6
       have hc6 : (upd H5 c (.lst ([V.int 0] ++ zs.map V.int))) c = some (.lst ([V.int 0] ++ zs.map V.int)) := upd_same
       have sbA : SameBut d H (upd H5 c (.lst ([V.int 0] ++ zs.map V.int))) := ((sb.trans (Same.but d sm3)).trans sb5).trans (Same.but d sm6)
       have hdA := hd5.same sm6
       refine ⟨_, rfl, _, rfl, ⟨_, SqL.of hp6.hD⟩, fun D nD => ?_⟩
       refine lc_list (K := K) (xs := rs.map V.ref) (fun i H7 => Same (upd H5 c (.lst ([V.int 0] ++ zs.map V.int))) H7 ∧ ∃ rs7, PsAt H7 D rs7 ((es.take i).map fun e => (nameOf zs e.1, nameOf zs e.2))) ?_ ?_ ?_ ?_
       · exact ⟨same_upd (Same.refl _) nD, [], PsAt.nil upd_same⟩
       · rintro i H7 _ ⟨sm7, _⟩
         exact SqL.of (sm7 _ _ hp6.hD)
       · rintro i x H7 hx ⟨sm7, rs7, hp7⟩
         obtain ⟨r, hr, rfl⟩ := ref_at hx
         have hi : i < es.length := by rw [← hp0.len]; exact (List.getElem?_eq_some_iff.mp hr).1
         have hes : es[i]? = some es[i] := List.getElem?_eq_getElem hi
         have hre := sm7 _ _ (hp6.at_ i r _ hr hes)
         have htk : (es.take (i + 1)).map (fun e => (nameOf zs e.1, nameOf zs e.2)) = (es.take i).map (fun e => (nameOf zs e.1, nameOf zs e.2)) ++ [(nameOf zs es[i].1, nameOf zs es[i].2)] := by
           rw [List.take_add_one, hes, List.map_append]
           rfl
         have hq := hSi.rng _ (List.getElem_mem hi)
         have hml : ((es.take i).map fun e => (nameOf zs e.1, nameOf zs e.2)).length ≤ 200 := by
           rw [List.length_map]
           exact Nat.le_trans (List.take_sublist i es).length_le hl
         rw [htk]
         generalize (es.take i).map (fun e => (nameOf zs e.1, nameOf zs e.2)) = es0 at *
         generalize es[i] = e at *
         obtain ⟨ea, eb⟩ := e
         simp only at hre hq
         have hc7 := sm7 _ _ hc6
         have ga := name_at hz hq.1 hq.2.1
         have gb := name_at hz hq.2.2.1 hq.2.2.2.1
         refine Or.inr ⟨r, [.int ea, .int eb], rfl, SqL.of hre, rfl, .int ea, [.int eb], rfl, .int eb, [], rfl, rfl, rfl, ?_⟩
         refine ⟨_, rfl, _, rfl, Or.inl ⟨c, _, ea, .int (nameOf zs ea), rfl, rfl, SqL.of hc7, at_of (j := (ea - 1).toNat + 1) (by omega) ?_, ?_⟩⟩
         · show (V.int 0 :: zs.map V.int)[(ea - 1).toNat + 1]? = _
           rw [List.getElem?_cons_succ, List.getElem?_map, ga.1]
           rfl
         refine ⟨_, rfl, _, rfl, Or.inl ⟨c, _, eb, .int (nameOf zs eb), rfl, rfl, SqL.of hc7, at_of (j := (eb - 1).toNat + 1) (by omega) ?_, ?_⟩⟩
         · show (V.int 0 :: zs.map V.int)[(eb - 1).toNat + 1]? = _
           rw [List.getElem?_cons_succ, List.getElem?_map, gb.1]
           rfl
         wtm_at "fo r"
         rename_i r2 nr2
         refine ⟨rs7.map V.ref, ?_, ?_, same_upd (same_upd sm7 (sm7.free nr2)) nD, rs7 ++ [r2], hp7.push nr2 (nameOf zs ea, nameOf zs eb)⟩
         · rw [upd_ne (ne_of_none hp7.hD nr2)]
           exact hp7.hD
         · rw [List.length_map, hp7.len]
           exact Nat.lt_of_le_of_lt hml (by decide)
       rintro H7 ⟨sm7, rs7, hp7⟩
       rw [List.length_map, hp0.len, List.take_length] at hp7
       have hS7 : Simp n (es.map fun e => (nameOf zs e.1, nameOf zs e.2)) := simp_map hSi (nameOf zs) (fun x h1 h2 => (name_at hz h1 h2).2) (fun x y h1 h2 h3 h4 e => name_inj hz h1 h2 h3 h4 e)
       have hl7 : (es.map fun e => (nameOf zs e.1, nameOf zs e.2)).length ≤ 200 := by rw [List.length_map]; exact hl
       generalize es.map (fun e => (nameOf zs e.1, nameOf zs e.2)) = es7 at *
       have hd7 := hdA.same sm7
       have sbB := sbA.trans (Same.but d sm7)
       refine ⟨_, rfl, _, rfl, _, rfl, ⟨_, SqL.of hp7.hD⟩, fun D2 nD2 => ?_⟩
       refine lc_list (K := K) (xs := rs7.map V.ref) (fun i H8 => ∃ (fs : List Edge) (rs8 : List Addr) (k8 : Int), Flips (es7.take i) fs ∧ PsAt H8 D2 rs8 fs ∧ SameBut d H7 H8 ∧ Dr H8 d k8 ∧ k8 ≤ k5 + i ∧ 0 ≤ k8) ?_ ?_ ?_ ?_
       · exact ⟨[], [], k5, trivial, PsAt.nil upd_same, SameBut.new (SameBut.refl d _) nD2, hd7.same (same_upd (Same.refl _) nD2), by omega, hk05⟩
       · rintro i H8 _ ⟨fs, rs8, k8, hf, hp8, sb8, hd8, hk8, h08⟩
         exact SqL.of (sb8 _ _ (hd7.ne_refs hp7.hD) hp7.hD)
       · rintro i x H8 hx ⟨fs, rs8, k8, hf, hp8, sb8, hd8, hk8, h08⟩
         obtain ⟨r, hr, rfl⟩ := ref_at hx
         have hi : i < es7.length := by rw [← hp7.len]; exact (List.getElem?_eq_some_iff.mp hr).1
         have hes : es7[i]? = some es7[i] := List.getElem?_eq_getElem hi
         have hre := hp7.at_ i r _ hr hes
         have hrd := hd7.ne_pair hre
         have hfl := flips_length hf
         have hfl2 : (es7.take i).length ≤ 200 := Nat.le_trans (List.take_sublist i es7).length_le hl7
         have htk : es7.take (i + 1) = es7.take i ++ [es7[i]] := by
           rw [List.take_add_one, hes]
           rfl
         rw [htk]
         generalize es7.take i = es0 at *
         generalize es7[i] = e at *
         obtain ⟨ea, eb⟩ := e
         simp only at hre
         refine ⟨rfl, ?_⟩
         wtm_at "fo r"
         rename_i q nq
         have hd8q := hd8.same (same_upd (o := HO.lst [V.int 1, V.int (-1)]) (Same.refl _) nq)
         refine call_next hd8q (by omega) (fun n2 H9 hn2 sb9 hd9 => ?_)
         have hqd : q ≠ d := by
           obtain ⟨a, b, e, _⟩ := hd8
           exact (ne_of_none e nq).symm
         have hq9 : H9 q = some (.lst [.int 1, .int (-1)]) := sb9 q _ hqd upd_same
         have sb79 : SameBut d H7 H9 := (sb8.trans (Same.but d (same_upd (Same.refl _) nq))).trans sb9
         have hre9 := sb79 r _ hrd hre
         have hp9 : PsAt H9 D2 rs8 fs := (hp8.same (same_upd (Same.refl _) nq)).but sb9 hd8q
         wtm_at "fo r"
         have m1' := Int.emod_nonneg n2 (show (2 : Int) ≠ 0 by decide)
         have m2' := Int.emod_lt_of_pos n2 (show (0 : Int) < 2 by decide)
         have fin2 : ∀ (e2 : Edge), (e2 = (ea, eb) ∨ e2 = (eb, ea)) → ∀ r2, H9 r2 = none → ∃ acc, (upd H9 r2 (.lst [.int e2.1, .int e2.2])) D2 = some (.lst acc) ∧ acc.length < sizeLine ∧
             ∃ (fs : List Edge) (rs8 : List Addr) (k8 : Int), Flips (es0 ++ [(ea, eb)]) fs ∧ PsAt (upd (upd H9 r2 (.lst [.int e2.1, .int e2.2])) D2 (.lst (acc ++ [V.ref r2]))) D2 rs8 fs ∧
               SameBut d H7 (upd (upd H9 r2 (.lst [.int e2.1, .int e2.2])) D2 (.lst (acc ++ [V.ref r2]))) ∧ Dr (upd (upd H9 r2 (.lst [.int e2.1, .int e2.2])) D2 (.lst (acc ++ [V.ref r2]))) d k8 ∧ k8 ≤ k5 + ((i + 1 : Nat) : Int) ∧ 0 ≤ k8 := by
           intro e2 he2 r2 nr2
           have hD2d : D2 ≠ d := hd9.ne_refs hp9.hD
           have hr2d : r2 ≠ d := by
             obtain ⟨a, b, e, _⟩ := hd9
             exact (ne_of_none e nr2).symm
           refine ⟨rs8.map V.ref, ?_, ?_, fs ++ [e2], rs8 ++ [r2], k8 + 1, flips_snoc hf he2, hp9.push nr2 e2, ?_, ?_, by omega, by omega⟩
           · rw [upd_ne (ne_of_none hp9.hD nr2)]
             exact hp9.hD
           · rw [List.length_map, hp9.len, hfl]
             exact Nat.lt_of_le_of_lt hfl2 (by decide)
           · exact (sb79.new (sb79.none hd9 nr2)).new nD2
           · obtain ⟨a, b, e, h0⟩ := hd9
             exact ⟨a, b, by rw [upd_ne hD2d.symm, upd_ne hr2d.symm]; exact e, h0⟩
         have hcase : n2 % 2 = 0 ∨ n2 % 2 = 1 := by omega
         rcases hcase with hm | hm
         · refine Or.inl ⟨q, _, _, .int 1, rfl, rfl, SqL.of hq9, ?_, ?_⟩
           · show atI _ (n2 % 2) = _
             rw [hm]
             rfl
           refine ⟨_, rfl, r, _, rfl, Or.inl rfl, SqL.of hre9, fun r2 nr2 => ?_⟩
           exact fin2 (ea, eb) (.inl rfl) r2 nr2
         · refine Or.inl ⟨q, _, _, .int (-1), rfl, rfl, SqL.of hq9, ?_, ?_⟩
           · show atI _ (n2 % 2) = _
             rw [hm]
             rfl
           refine ⟨_, rfl, r, _, rfl, Or.inr rfl, SqL.of hre9, fun r2 nr2 => ?_⟩
           exact fin2 (eb, ea) (.inr rfl) r2 nr2
       rintro H8 ⟨fs, rs8, k8, hf, hp8, sb8, hd8, hk8, h08⟩
       rw [List.length_map, hp7.len, List.take_length] at hf
       rw [List.length_map, hp7.len] at hk8
       have hS8 := simp_flips hS7 hf
       have hl8 := flips_length hf
       refine call_shuf hd8 (by omega) hp8.hD ?_ ?_ ?_
       · rw [List.length_map, hp8.len, hl8]
         exact hl7
       · intro x hx
         obtain ⟨r, hr, rfl⟩ := List.mem_map.mp hx
         obtain ⟨e, he, hre⟩ := hp8.mem hr
         have := hS8.rng e he
         exact .inr ⟨r, _, _, rfl, hre, by omega, by omega⟩
       intro p9 ys H9 k9 hperm sb9 np9 hp9 hd9 hk9
       obtain ⟨fs9, rs9, hq1, hq2⟩ := hp8.perm hperm hp9 (fun r e hr he => sb9 r _ (hd8.ne_pair he) he)
       have sbC := (sbB.trans sb8).trans sb9
       have np0 : H p9 = none := (sbB.trans sb8).none hd8 np9
       exact fin p9 H9 k9 fs9 (simp_perm hS8 hq1) (by rw [hq1.length_eq, hl8]; exact hl7) sbC np0 hq2.pairs hd9 (by omega)

end Fo

/-! piece D7m -/
namespace Fo
open PySem PySem.Spec PyProof.Rows L2
/-! ### what is beside a place -/
theorem addE_get {t : List (List Int)} {e : Edge} {p : Nat} {u : List Int} (h1 : 0 ≤ e.1) (h2 : 0 ≤ e.2) (hne : e.1 ≠ e.2) (h : t[p]? = some u) :
    (addE t e)[p]? = some (u ++ (if e.1 = (p : Int) ∨ e.2 = (p : Int) then [e.1 + e.2 - p] else [])) := by
  unfold addE
  rw [List.getElem?_modify, List.getElem?_modify, h]
  by_cases a1 : e.1.toNat = p <;> by_cases a2 : e.2.toNat = p
  · omega
  · have b1 : e.1 = (p : Int) := by omega
    have b2 : ¬ e.2 = (p : Int) := by omega
    have b3 : e.1 + e.2 - p = e.2 := by omega
    simp [a1, a2, b1, b3]
    try omega
  · have b1 : ¬ e.1 = (p : Int) := by omega
    have b2 : e.2 = (p : Int) := by omega
    have b3 : e.1 + e.2 - p = e.1 := by omega
    simp [a1, a2, b2, b3]
    try omega
  · have b1 : ¬ e.1 = (p : Int) := by omega
    have b2 : ¬ e.2 = (p : Int) := by omega
    simp [a1, a2, b1, b2]
theorem foldl_addE_get {p : Nat} : ∀ (es : List Edge) (t : List (List Int)) (u : List Int), (∀ e ∈ es, 0 ≤ e.1 ∧ 0 ≤ e.2 ∧ e.1 ≠ e.2) → t[p]? = some u → (es.foldl addE t)[p]? = some (u ++ mates p es)
  | [], t, u, _, h => by simpa [mates] using h
  | e :: es, t, u, hr, h => by
    have he := hr e (List.mem_cons_self ..)
    have := foldl_addE_get es (addE t e) _ (fun x hx => hr x (List.mem_cons_of_mem _ hx)) (addE_get he.1 he.2.1 he.2.2 h)
    have hm : mates (p : Int) (e :: es) = (if e.1 = (p : Int) ∨ e.2 = (p : Int) then [e.1 + e.2 - p] else []) ++ mates p es := by
      unfold mates
      by_cases hc : e.1 = (p : Int) ∨ e.2 = (p : Int) <;> simp [List.filterMap_cons, hc]
    rw [List.foldl_cons, this, List.append_assoc, hm]
theorem near_get {n : Nat} {es : List Edge} (h : Simp n es) {p : Nat} (h1 : 1 ≤ p) (h2 : p ≤ n) : (nearM n es)[p]? = some ((p : Int) :: mates p es) := by
  have h0 : (near0 n)[p]? = some [(p : Int)] := by
    unfold near0
    cases p with
    | zero => omega
    | succ q =>
      rw [List.getElem?_cons_succ, List.getElem?_map, List.getElem?_range (by omega)]
      rfl
  exact foldl_addE_get es (near0 n) [(p : Int)] (fun e he => by have := h.rng e he; omega) h0
def besideM (n : Nat) (es : List Edge) (p : Int) : List Int := ((List.range n).map fun (i : Nat) => (i : Int) + 1).filter fun x => decide (x = p ∨ x ∈ mates p es)
theorem besideM_lt (n : Nat) (es : List Edge) (p : Int) : (besideM n es p).Pairwise (· < ·) := by
  unfold besideM
  apply List.Pairwise.filter
  rw [List.pairwise_map]
  exact List.pairwise_lt_range.imp fun h => by omega
theorem besideM_mem {n : Nat} {es : List Edge} {p : Int} (h : Simp n es) (h1 : 1 ≤ p) (h2 : p ≤ n) (x : Int) : x ∈ besideM n es p ↔ x ∈ p :: mates p es := by
  unfold besideM
  rw [List.mem_filter, List.mem_cons, decide_eq_true_iff]
  constructor
  · exact fun h => h.2
  · intro hx
    refine ⟨?_, hx⟩
    have : 1 ≤ x ∧ x ≤ n := by
      rcases hx with rfl | hx
      · exact ⟨h1, h2⟩
      · have := mates_rng h x hx
        exact ⟨this.1, this.2.1⟩
    exact List.mem_map.mpr ⟨(x - 1).toNat, List.mem_range.mpr (by omega), by omega⟩
theorem lt_unique : ∀ {l m : List Int}, l.Pairwise (· < ·) → m.Pairwise (· < ·) → (∀ x, x ∈ l ↔ x ∈ m) → l = m
  | [], [], _, _, _ => rfl
  | [], b :: m, _, _, h => by have := (h b).mpr (List.mem_cons_self ..); simp at this
  | a :: l, [], _, _, h => by have := (h a).mp (List.mem_cons_self ..); simp at this
  | a :: l, b :: m, hl, hm, h => by
    rw [List.pairwise_cons] at hl hm
    have hab : a = b := by
      have h1 := (h a).mp (List.mem_cons_self ..)
      have h2 := (h b).mpr (List.mem_cons_self ..)
      rcases List.mem_cons.mp h1 with e | h1
      · exact e
      · rcases List.mem_cons.mp h2 with e | h2
        · exact e.symm
        · have := hm.1 a h1
          have := hl.1 b h2
          omega
    subst hab
    rw [lt_unique hl.2 hm.2 fun x => ?_]
    constructor
    · intro hx
      rcases List.mem_cons.mp ((h x).mp (List.mem_cons_of_mem _ hx)) with e | hx2
      · subst e; have := hl.1 x hx; omega
      · exact hx2
    · intro hx
      rcases List.mem_cons.mp ((h x).mpr (List.mem_cons_of_mem _ hx)) with e | hx2
      · subst e; have := hm.1 x hx; omega
      · exact hx2
theorem sorted_is {l m k : List Int} (hp : l.Perm k) (hs : l.Pairwise (· ≤ ·)) (hk : k.Nodup) (hm : m.Pairwise (· < ·)) (h : ∀ x, x ∈ m ↔ x ∈ k) : l = m := by
  have hn : l.Nodup := hp.nodup_iff.mpr hk
  refine lt_unique ?_ hm fun x => (hp.mem_iff).trans (h x).symm
  have := hs.and hn
  exact this.imp fun ⟨a, b⟩ => by omega
theorem near_sorted {n : Nat} {es : List Edge} {p : Int} (h : Simp n es) (h1 : 1 ≤ p) (h2 : p ≤ n) {l : List Int} (hp : l.Perm (p :: mates p es)) (hs : l.Pairwise (· ≤ ·)) : l = besideM n es p :=
  sorted_is hp hs (List.nodup_cons.mpr ⟨fun hm => (mates_rng h p hm).2.2 rfl, mates_nodup h⟩) (besideM_lt n es p) (besideM_mem h h1 h2)
theorem besideM_length {n : Nat} {es : List Edge} {p : Int} (hn : n ≤ 12) : (besideM n es p).length ≤ 12 := by
  unfold besideM
  refine Nat.le_trans (List.length_filter_le ..) ?_
  simp
  exact hn
theorem besideM_rng {n : Nat} {es : List Edge} {p x : Int} (hx : x ∈ besideM n es p) : 1 ≤ x ∧ x ≤ n := by
  unfold besideM at hx
  obtain ⟨h1, _⟩ := List.mem_filter.mp hx
  obtain ⟨i, hi, rfl⟩ := List.mem_map.mp h1
  have := List.mem_range.mp hi
  omega
/-! the data of nets and of rows -/
def dI (xs : List Int) : PyData := .list (xs.map PyData.int)
def dE (es : List Edge) : PyData := .list (es.map fun e => .list [.int e.1, .int e.2])
theorem dok_dI {xs : List Int} (h : ∀ x ∈ xs, x.natAbs < 1000) : DOk 1 (2 + xs.length * 7) (dI xs) := by
  have := dok_list (n := 0) (b := 5) (xs := xs.map PyData.int) (fun d hd => by
    obtain ⟨x, hx, rfl⟩ := List.mem_map.mp hd
    exact dok_int (h x hx))
  rw [List.length_map] at this
  exact this
theorem dok_pair {a b : Int} (h1 : a.natAbs < 1000) (h2 : b.natAbs < 1000) : DOk 1 20 (.list [.int a, .int b]) := by
  refine (dok_list (n := 0) (b := 5) ?_).mono (by decide) (by simp)
  intro x hx
  simp only [List.mem_cons, List.not_mem_nil, or_false] at hx
  rcases hx with rfl | rfl
  · exact dok_int h1
  · exact dok_int h2
theorem dok_dE {es : List Edge} (h : ∀ e ∈ es, e.1.natAbs < 1000 ∧ e.2.natAbs < 1000) : DOk 2 (2 + es.length * 22) (dE es) := by
  have := dok_list (n := 1) (b := 20) (xs := es.map fun e => PyData.list [.int e.1, .int e.2]) (fun d hd => by
    obtain ⟨x, hx, rfl⟩ := List.mem_map.mp hd
    exact dok_pair (h x hx).1 (h x hx).2)
  rw [List.length_map] at this
  exact this
theorem Simp.small {n : Int} {es : List Edge} (h : Simp n es) (hn : n ≤ 200) : ∀ e ∈ es, e.1.natAbs < 1000 ∧ e.2.natAbs < 1000 := fun e he => by
  have := h.rng e he
  omega
theorem dp_dI {K : PySem.W.Frag} {H : Hp} {p : Addr} {xs : List Int} (h : SqL K H p (xs.map V.int)) : Dp K H (.ref p) (dI xs) := .lst h (dp_ints xs)
theorem dp_pairsAll {K : PySem.W.Frag} {H : Hp} : ∀ {rs : List Addr} {es : List Edge}, rs.length = es.length → (∀ (i : Nat) (r : Addr) (e : Edge), rs[i]? = some r → es[i]? = some e → H r = some (.lst [.int e.1, .int e.2])) →
    DpAll K H (rs.map V.ref) (es.map fun e => .list [.int e.1, .int e.2])
  | [], [], _, _ => .nil
  | [], _ :: _, h, _ => by simp at h
  | _ :: _, [], h, _ => by simp at h
  | r :: rs, e :: es, hl, h => .cons (.lst (SqL.of (h 0 r e rfl rfl)) (.cons (.int _) (.cons (.int _) .nil))) (dp_pairsAll (by simpa using hl) fun i a b h1 h2 => h (i + 1) a b (by simpa using h1) (by simpa using h2))
theorem dp_dE {K : PySem.W.Frag} {H : Hp} {p : Addr} {es : List Edge} (h : Pairs H p es) : Dp K H (.ref p) (dE es) := by
  obtain ⟨rs, h1, h2, h3⟩ := h
  exact .lst (SqL.of h1) (dp_pairsAll h2 h3)

/-! ### the program's promises, as the law asks them -/
@[irreducible] def spBeside : Sp := fun vs H Q _ => ∃ (q : Addr) (n : Nat) (p : Int) (es : List Edge), vs = [.int n, .ref q, .int p] ∧ 1 ≤ n ∧ n ≤ 12 ∧ 1 ≤ p ∧ p ≤ n ∧ Pairs H q es ∧ Simp n es ∧ es.length ≤ 200 ∧
  ∀ r H', Same H H' → H r = none → H' r = some (.lst ((besideM n es p).map V.int)) → Q (.ref r) H'
theorem call_beside {q : Addr} {n : Nat} {p : Int} {es : List Edge} {H : Hp} {Q : VK} {E : XK} (h1 : 1 ≤ n) (h2 : n ≤ 12) (h3 : 1 ≤ p) (h4 : p ≤ n) (hq : Pairs H q es) (hS : Simp n es) (hl : es.length ≤ 200)
    (fin : ∀ r H', Same H H' → H r = none → H' r = some (.lst ((besideM n es p).map V.int)) → Q (.ref r) H') : spBeside [.int n, .ref q, .int p] H Q E := by
  unfold spBeside
  exact ⟨q, n, p, es, rfl, h1, h2, h3, h4, hq, hS, hl, fin⟩
/-- a def of the text that may be called by its parameters' names alone -/
structure KCal (P : Program) (w : World) (K : PySem.W.Frag) (mg : Str → Option Value) (base : Heap) (x : Str) (k : Nat) (ps ks : List Str) (g : List Value → List Value → List Value) (gV : List V → List V → List V) (sp : Sp) : Prop where
  ex : ∃ (f : Addr) (fd : FuncData), FnOk P w K mg base CX0 k f fd ps sp ∧ mg x = some (.ref f) ∧ PySem.W.keepIn K (.ref f) = true ∧ KBinds K fd ps ks g gV
theorem pe_kcal {X : Cx} {x : Str} {p pos : Pos} {kws : List Keyword} {tk : TA} {k j : Nat} {ps ks : List Str} {g : List Value → List Value → List Value} {gV : List V → List V → List V} {sp : Sp}
    (C : KCal X.prog X.w X.K X.mg X.base x k ps ks g gV sp) (hr : Room j X.A) (hkj : k ≤ j) (hg : Gl X x) (hkw : PK X kws tk)
    (hall : (backToKw pos (keywordEach kws X.env)).all (·.1.isSome) = true := by rfl) (hks : (backToKw pos (keywordEach kws X.env)).filterMap (·.1) = ks := by rfl)
    (hdb : (x == ("__debug__" : Str)) = false := by decide)
    (hpl : ((backTo pos (starEach [] X.env)).any (·.1) || (backToKw pos (keywordEach kws X.env)).any (·.1.isNone)) = false := by rfl) :
    PE X (.Call (.Name x p) [] kws pos) (tCallK sp gV E0 tNil tk) := by
  obtain ⟨f, fd, F, hm, hk, hb⟩ := C.ex
  exact pe_callK0 F (hr.mono hkj) hg hm hk hb pass0 hkw hall hks hdb hpl
def g3 {α : Type} : List α → List α → List α := fun us ws => match us, ws with
  | [], [a, b, c] => [c, b, a]
  | _, _ => []
theorem Pairs.same {H H' : Hp} {p : Addr} {es : List Edge} (h : Pairs H p es) (s : Same H H') : Pairs H' p es := by
  obtain ⟨rs, a, b, c⟩ := h
  exact ⟨rs, s _ _ a, b, fun i r e x y => s _ _ (c i r e x y)⟩
theorem Dp.dok_two {K : PySem.W.Frag} {H : Hp} {t a b : Addr} {d : PyData} (ht : H t = some (.lst [.ref a, .ref b])) (ha : Dp K H (.ref a) d) (hb : Dp K H (.ref b) d) : Dp K H (.ref t) (.list [d, d]) :=
  .lst (SqL.of ht) (.cons ha (.cons hb .nil))
theorem dok_two {n b : Nat} {d : PyData} (h : DOk n b d) : DOk (n + 1) (2 + 2 * (b + 2)) (.list [d, d]) := by
  refine dok_list (xs := [d, d]) (fun x hx => ?_)
  simp only [List.mem_cons, List.not_mem_nil, or_false] at hx
  rcases hx with rfl | rfl <;> exact h

end Fo

/-! piece D7 -/
namespace Fo
open PySem PySem.Spec PyProof.Rows L2
local macro_rules | `(tactic| wtm_at "fo a") => `(tactic| first
  | exact pa_nil
  | (refine' pa_cons ?k1 ?k2; (case k1 => wtm_at "fo e"); (case k2 => wtm_at "fo a"))
  | fail "no")
local macro_rules | `(tactic| wtm_at "fo v") => `(tactic| first
  | exact pv 0
  | exact pv 1
  | exact pv 2
  | exact pv 3
  | exact pv 4
  | exact pv 5
  | exact pv 6
  | exact pv 7
  | exact pv 8
  | exact pv 9
  | exact pv 10
  | exact pv 11
  | exact pv 12
  | exact pv 13
  | exact pv 14
  | exact pv 15
  | fail "no")
local macro_rules | `(tactic| wtm_at "fo e") => `(tactic| first
  | with_reducible exact pe_int
  | with_reducible exact pe_bl
  | with_reducible exact pe_non
  | with_reducible exact pe_str
  | ((with_reducible show PE _ (.Name _ _) _); wtm_at "fo v")
  | ((with_reducible show PE _ (.BinOp _ .Add _ _) _); apply pe_op opAddB <;> wtm_at "fo e")
  | ((with_reducible show PE _ (.BinOp _ .Sub _ _) _); apply pe_op op_sub <;> wtm_at "fo e")
  | ((with_reducible show PE _ (.BinOp _ .Mult _ _) _); apply pe_op op_mul <;> wtm_at "fo e")
  | ((with_reducible show PE _ (.BinOp _ .Mod _ _) _); apply pe_op op_mod <;> wtm_at "fo e")
  | ((with_reducible show PE _ (.BinOp _ .FloorDiv _ _) _); apply pe_op op_fdiv <;> wtm_at "fo e")
  | ((with_reducible show PE _ (.BinOp _ .Pow _ _) _); apply pe_op op_powW <;> wtm_at "fo e")
  | ((with_reducible show PE _ (.BinOp _ .LShift _ _) _); apply pe_op op_shl <;> wtm_at "fo e")
  | ((with_reducible show PE _ (.BinOp _ .RShift _ _) _); apply pe_op op_shr <;> wtm_at "fo e")
  | ((with_reducible show PE _ (.BinOp _ .BitAnd _ _) _); apply pe_op op_and <;> wtm_at "fo e")
  | ((with_reducible show PE _ (.List _ _) _); apply pe_lst; wtm_at "fo a")
  | ((with_reducible show PE _ (.Tuple _ _ _) _); apply pe_tup; wtm_at "fo a")
  | ((with_reducible show PE _ (.ListComp _ [_] _ _) _); wtm_at "fo lc")
  | ((with_reducible show PE _ (.IfExp _ _ _ _) _); apply pe_ifExp; (· wtm_at "fo t"); (· wtm_at "fo e"); (· wtm_at "fo e"))
  | ((with_reducible show PE _ (.UnaryOp .USub _ _) _); apply pe_un un_neg; wtm_at "fo e")
  | ((with_reducible show PE _ (.Call (.Name _ _) [] (_ :: _) _) _); wtm_at "fo kcall")
  | ((with_reducible show PE _ (.Call (.Name _ _) _ _ _) _); wtm_at "fo call")
  | ((with_reducible show PE _ (.Call (.Attribute _ _ _) _ _ _) _); wtm_at "fo meth")
  | ((with_reducible show PE _ (.Compare _ _ _ _) _); wtm_at "fo cmp")
  | ((with_reducible show PE _ (.Subscript _ (.Slice _ _ _ _) _) _); wtm_at "fo slice")
  | ((with_reducible show PE _ (.Subscript _ _ _) _); refine' pe_ix (ix_seqK (by assumption) (by exact rfl)) ?ka ?kb (fun _ _ => rfl); (case ka => wtm_at "fo e"); (case kb => wtm_at "fo e"))
  | fail "no")
local macro_rules | `(tactic| wtm_at "fo own") => `(tactic| first
  | ((show _ = [0]); kernel_rfl!)
  | ((show _ = [1]); kernel_rfl!)
  | ((show _ = [2]); kernel_rfl!)
  | ((show _ = [3]); kernel_rfl!)
  | ((show _ = [4]); kernel_rfl!)
  | ((show _ = [5]); kernel_rfl!)
  | ((show _ = [6]); kernel_rfl!)
  | ((show _ = [7]); kernel_rfl!)
  | ((show _ = [8]); kernel_rfl!)
  | ((show _ = [9]); kernel_rfl!)
  | ((show _ = [10]); kernel_rfl!)
  | ((show _ = [11]); kernel_rfl!)
  | ((show _ = [12]); kernel_rfl!)
  | ((show _ = [13]); kernel_rfl!)
  | ((show _ = [14]); kernel_rfl!)
  | ((show _ = [15]); kernel_rfl!)
  | ((show _ = [0, 1]); kernel_rfl!)
  | ((show _ = [1, 2]); kernel_rfl!)
  | ((show _ = [2, 3]); kernel_rfl!)
  | ((show _ = [3, 4]); kernel_rfl!)
  | ((show _ = [4, 5]); kernel_rfl!)
  | ((show _ = [5, 6]); kernel_rfl!)
  | ((show _ = [6, 7]); kernel_rfl!)
  | ((show _ = [7, 8]); kernel_rfl!)
  | ((show _ = [8, 9]); kernel_rfl!)
  | ((show _ = [9, 10]); kernel_rfl!)
  | ((show _ = [10, 11]); kernel_rfl!)
  | ((show _ = [11, 12]); kernel_rfl!)
  | ((show _ = [12, 13]); kernel_rfl!)
  | ((show _ = [13, 14]); kernel_rfl!)
  | ((show _ = [14, 15]); kernel_rfl!)
  | fail "no")
local macro_rules | `(tactic| wtm_at "fo ts") => `(tactic| first
  | exact pts_nil
  | (apply pts_one; wtm_at "fo t")
  | fail "no")
local macro_rules | `(tactic| wtm_at "fo lc") => `(tactic| first
  | (refine' pe_lcO (by assumption) (by exact rfl) (by exact rfl) (by wtm_at "fo own") (by decide +kernel) rfl ?ki ?kg ?kt ?ke; (case ki => wtm_at "fo i"); (case kg => (intro _ _ _ _ _; wtm_at "fo g")); (case kt => (intro _ _ _ _ _; wtm_at "fo ts")); (case ke => (intro _ _ _ _ _; wtm_at "fo e")))
  | fail "no")
local macro_rules | `(tactic| wtm_at "fo part") => `(tactic| first
  | exact po_none
  | (apply po_some; wtm_at "fo e")
  | fail "no")
local macro_rules | `(tactic| wtm_at "fo slice") => `(tactic| first
  | ((with_reducible show PE _ (.Subscript _ (.Slice _ _ none _) _) _); refine' pe_slice (sl_listK (by assumption) (by exact rfl)) ?ka ?kb ?kc; (case ka => wtm_at "fo e"); (case kb => wtm_at "fo part"); (case kc => wtm_at "fo part"))
  | ((with_reducible show PE _ (.Subscript _ (.Slice none none (some _) _) _) _); refine' pe_stepK (by assumption) (by exact rfl) ?ka ?kb; (case ka => wtm_at "fo e"); (case kb => wtm_at "fo e"))
  | fail "no")
local macro_rules | `(tactic| wtm_at "fo cmp") => `(tactic| first
  | ((with_reducible show PE _ (.Compare _ [.Lt] _ _) _); refine' pe_cmpR op_lt ?ka ?kb (nomark _); (case ka => wtm_at "fo e"); (case kb => wtm_at "fo e"))
  | ((with_reducible show PE _ (.Compare _ [.LtE] _ _) _); refine' pe_cmpR op_le ?ka ?kb (nomark _); (case ka => wtm_at "fo e"); (case kb => wtm_at "fo e"))
  | ((with_reducible show PE _ (.Compare _ [.Gt] _ _) _); refine' pe_cmpR op_gt ?ka ?kb (nomark _); (case ka => wtm_at "fo e"); (case kb => wtm_at "fo e"))
  | ((with_reducible show PE _ (.Compare _ [.GtE] _ _) _); refine' pe_cmpR op_ge ?ka ?kb (nomark _); (case ka => wtm_at "fo e"); (case kb => wtm_at "fo e"))
  | ((with_reducible show PE _ (.Compare _ [.Eq] _ _) _); refine' pe_cmpR (op_eqK (by assumption) (by exact rfl) (Room.units (by assumption))) ?ka ?kb (nomark _); (case ka => wtm_at "fo e"); (case kb => wtm_at "fo e"))
  | ((with_reducible show PE _ (.Compare _ [.NotEq] _ _) _); refine' pe_cmpR (op_neK (by assumption) (by exact rfl) (Room.units (by assumption))) ?ka ?kb (nomark _); (case ka => wtm_at "fo e"); (case kb => wtm_at "fo e"))
  | fail "no")
local macro_rules | `(tactic| wtm_at "fo tcmp") => `(tactic| first
  | ((with_reducible show PT _ (.Compare _ [.Lt] _ _) _); refine' pt_cmpR op_lt ?ka ?kb (nomark _); (case ka => wtm_at "fo e"); (case kb => wtm_at "fo e"))
  | ((with_reducible show PT _ (.Compare _ [.LtE] _ _) _); refine' pt_cmpR op_le ?ka ?kb (nomark _); (case ka => wtm_at "fo e"); (case kb => wtm_at "fo e"))
  | ((with_reducible show PT _ (.Compare _ [.Gt] _ _) _); refine' pt_cmpR op_gt ?ka ?kb (nomark _); (case ka => wtm_at "fo e"); (case kb => wtm_at "fo e"))
  | ((with_reducible show PT _ (.Compare _ [.GtE] _ _) _); refine' pt_cmpR op_ge ?ka ?kb (nomark _); (case ka => wtm_at "fo e"); (case kb => wtm_at "fo e"))
  | ((with_reducible show PT _ (.Compare _ [.Eq] _ _) _); refine' pt_cmpR (op_eqK (by assumption) (by exact rfl) (Room.units (by assumption))) ?ka ?kb (nomark _); (case ka => wtm_at "fo e"); (case kb => wtm_at "fo e"))
  | ((with_reducible show PT _ (.Compare _ [.NotEq] _ _) _); refine' pt_cmpR (op_neK (by assumption) (by exact rfl) (Room.units (by assumption))) ?ka ?kb (nomark _); (case ka => wtm_at "fo e"); (case kb => wtm_at "fo e"))
  | ((with_reducible show PT _ (.Compare _ [.In] _ _) _); refine' pt_cmpR (op_inK (by assumption) (by exact rfl)) ?ka ?kb rfl; (case ka => wtm_at "fo e"); (case kb => wtm_at "fo e"))
  | ((with_reducible show PT _ (.Compare _ [.NotIn] _ _) _); refine' pt_cmpR (op_notInK (by assumption) (by exact rfl)) ?ka ?kb rfl; (case ka => wtm_at "fo e"); (case kb => wtm_at "fo e"))
  | fail "no")
local macro_rules | `(tactic| wtm_at "fo w") => `(tactic| first
  | ((with_reducible show PW _ (.BoolOp .And [_] _) _); apply pw_and1; wtm_at "fo t")
  | ((with_reducible show PW _ (.BoolOp .And _ _) _); apply pw_and; (· wtm_at "fo t"); (· wtm_at "fo w"))
  | ((with_reducible show PW _ (.BoolOp .Or [_] _) _); apply pw_or1; wtm_at "fo t")
  | ((with_reducible show PW _ (.BoolOp .Or _ _) _); apply pw_or; (· wtm_at "fo t"); (· wtm_at "fo w"))
  | fail "no")
local macro_rules | `(tactic| wtm_at "fo meth") => `(tactic| first
  | ((with_reducible show PE _ (.Call (.Attribute _ (Str.ofString "append") _) _ _ _) _); refine' pe_bm PySem.F.plainAttrs_list PySem.F.slot_list_append PySem.F.type_list_append mt_append ?ka ?kb; (case ka => wtm_at "fo e"); (case kb => wtm_at "fo a"))
  | ((with_reducible show PE _ (.Call (.Attribute _ (Str.ofString "pop") _) [_] _ _) _); refine' pe_bm PySem.F.plainAttrs_list PySem.F.slot_list_pop PySem.F.type_list_pop mt_popAt ?ka ?kb; (case ka => wtm_at "fo e"); (case kb => wtm_at "fo a"))
  | ((with_reducible show PE _ (.Call (.Attribute _ (Str.ofString "pop") _) [] _ _) _); refine' pe_bm0 PySem.F.plainAttrs_list PySem.F.slot_list_pop PySem.F.type_list_pop mt_pop ?ka; (case ka => wtm_at "fo e"))
  | fail "no")
local macro_rules | `(tactic| wtm_at "fo k") => `(tactic| first
  | exact pk_nil
  | (refine' pk_cons ?k1 ?k2; (case k1 => wtm_at "fo e"); (case k2 => wtm_at "fo k"))
  | fail "no")
local macro_rules | `(tactic| wtm_at "fo kcall") => `(tactic| first
  | (refine' pe_kcal (by assumption) (by assumption) (by decide) (by rfl) ?ka; (case ka => wtm_at "fo k"))
  | fail "no")
local macro_rules | `(tactic| wtm_at "fo call") => `(tactic| first
  | ((with_reducible show PE _ (.Call (.Name (Str.ofString "int") _) _ _ _) _); refine' pe_callTy call_intB (by rfl) (by assumption) (by decide +kernel) ?ka; (case ka => wtm_at "fo a"))
  | ((with_reducible show PE _ (.Call (.Name (Str.ofString "len") _) _ _ _) _); refine' pe_callB (call_lenK (by assumption) (by exact rfl)) (by rfl) (by assumption) PySem.boot_len ?ka; (case ka => wtm_at "fo a"))
  | ((with_reducible show PE _ (.Call (.Name (Str.ofString "list") _) [.Call (.Name (Str.ofString "range") _) [_, _] _ _] _ _) _); refine' pe_listRg rfl (by rfl) (by assumption) (prg_2 (by rfl) (by assumption) ?ka ?kb); (case ka => wtm_at "fo e"); (case kb => wtm_at "fo e"))
  | ((with_reducible show PE _ (.Call (.Name (Str.ofString "list") _) _ _ _) _); refine' pe_callTy (call_listK (by assumption) (by exact rfl)) (by rfl) (by assumption) (by decide +kernel) ?ka; (case ka => wtm_at "fo a"))
  | ((with_reducible show PE _ (.Call (.Name (Str.ofString "min") _) [_, _] _ _) _); refine' pe_callB (call_min2 rfl) (by rfl) (by assumption) (by decide +kernel) ?ka; (case ka => wtm_at "fo a"))
  | ((with_reducible show PE _ (.Call (.Name (Str.ofString "sorted") _) [_] _ _) _); refine' pe_callB (cr_sortedK (by assumption) (by exact rfl)) (by rfl) (by assumption) (by decide +kernel) ?ka; (case ka => wtm_at "fo a"))
  | ((with_reducible show PE _ (.Call (.Name (Str.ofString "repr") _) [_] _ _) _); refine' pe_callB (call_reprK (by assumption) (by exact rfl) (by assumption) (Room.units (by assumption))) (by rfl) (by assumption) (by decide +kernel) ?ka; (case ka => wtm_at "fo a"))
  | (refine' pe_cal (by assumption) (by assumption) (by decide) (by rfl) ?ka; (case ka => wtm_at "fo a"))
  | fail "no")
local macro_rules | `(tactic| wtm_at "fo setlc") => `(tactic| first
  | (refine' ps_setLcO (i := 0) (by assumption) (by exact rfl) (by exact rfl) (by wtm_at "fo own") (by decide +kernel) rfl rfl rfl (sw_true rfl rfl rfl (by decide +kernel)) ?ki ?kg ?kt ?ke; (case ki => wtm_at "fo i"); (case kg => (intro _ _ _ _ _; wtm_at "fo g")); (case kt => (intro _ _ _ _ _; wtm_at "fo ts")); (case ke => (intro _ _ _ _ _; wtm_at "fo e")))
  | (refine' ps_setLcO (i := 1) (by assumption) (by exact rfl) (by exact rfl) (by wtm_at "fo own") (by decide +kernel) rfl rfl rfl (sw_true rfl rfl rfl (by decide +kernel)) ?ki ?kg ?kt ?ke; (case ki => wtm_at "fo i"); (case kg => (intro _ _ _ _ _; wtm_at "fo g")); (case kt => (intro _ _ _ _ _; wtm_at "fo ts")); (case ke => (intro _ _ _ _ _; wtm_at "fo e")))
  | (refine' ps_setLcO (i := 2) (by assumption) (by exact rfl) (by exact rfl) (by wtm_at "fo own") (by decide +kernel) rfl rfl rfl (sw_true rfl rfl rfl (by decide +kernel)) ?ki ?kg ?kt ?ke; (case ki => wtm_at "fo i"); (case kg => (intro _ _ _ _ _; wtm_at "fo g")); (case kt => (intro _ _ _ _ _; wtm_at "fo ts")); (case ke => (intro _ _ _ _ _; wtm_at "fo e")))
  | (refine' ps_setLcO (i := 3) (by assumption) (by exact rfl) (by exact rfl) (by wtm_at "fo own") (by decide +kernel) rfl rfl rfl (sw_true rfl rfl rfl (by decide +kernel)) ?ki ?kg ?kt ?ke; (case ki => wtm_at "fo i"); (case kg => (intro _ _ _ _ _; wtm_at "fo g")); (case kt => (intro _ _ _ _ _; wtm_at "fo ts")); (case ke => (intro _ _ _ _ _; wtm_at "fo e")))
  | (refine' ps_setLcO (i := 4) (by assumption) (by exact rfl) (by exact rfl) (by wtm_at "fo own") (by decide +kernel) rfl rfl rfl (sw_true rfl rfl rfl (by decide +kernel)) ?ki ?kg ?kt ?ke; (case ki => wtm_at "fo i"); (case kg => (intro _ _ _ _ _; wtm_at "fo g")); (case kt => (intro _ _ _ _ _; wtm_at "fo ts")); (case ke => (intro _ _ _ _ _; wtm_at "fo e")))
  | (refine' ps_setLcO (i := 5) (by assumption) (by exact rfl) (by exact rfl) (by wtm_at "fo own") (by decide +kernel) rfl rfl rfl (sw_true rfl rfl rfl (by decide +kernel)) ?ki ?kg ?kt ?ke; (case ki => wtm_at "fo i"); (case kg => (intro _ _ _ _ _; wtm_at "fo g")); (case kt => (intro _ _ _ _ _; wtm_at "fo ts")); (case ke => (intro _ _ _ _ _; wtm_at "fo e")))
  | (refine' ps_setLcO (i := 6) (by assumption) (by exact rfl) (by exact rfl) (by wtm_at "fo own") (by decide +kernel) rfl rfl rfl (sw_true rfl rfl rfl (by decide +kernel)) ?ki ?kg ?kt ?ke; (case ki => wtm_at "fo i"); (case kg => (intro _ _ _ _ _; wtm_at "fo g")); (case kt => (intro _ _ _ _ _; wtm_at "fo ts")); (case ke => (intro _ _ _ _ _; wtm_at "fo e")))
  | (refine' ps_setLcO (i := 7) (by assumption) (by exact rfl) (by exact rfl) (by wtm_at "fo own") (by decide +kernel) rfl rfl rfl (sw_true rfl rfl rfl (by decide +kernel)) ?ki ?kg ?kt ?ke; (case ki => wtm_at "fo i"); (case kg => (intro _ _ _ _ _; wtm_at "fo g")); (case kt => (intro _ _ _ _ _; wtm_at "fo ts")); (case ke => (intro _ _ _ _ _; wtm_at "fo e")))
  | (refine' ps_setLcO (i := 8) (by assumption) (by exact rfl) (by exact rfl) (by wtm_at "fo own") (by decide +kernel) rfl rfl rfl (sw_true rfl rfl rfl (by decide +kernel)) ?ki ?kg ?kt ?ke; (case ki => wtm_at "fo i"); (case kg => (intro _ _ _ _ _; wtm_at "fo g")); (case kt => (intro _ _ _ _ _; wtm_at "fo ts")); (case ke => (intro _ _ _ _ _; wtm_at "fo e")))
  | (refine' ps_setLcO (i := 9) (by assumption) (by exact rfl) (by exact rfl) (by wtm_at "fo own") (by decide +kernel) rfl rfl rfl (sw_true rfl rfl rfl (by decide +kernel)) ?ki ?kg ?kt ?ke; (case ki => wtm_at "fo i"); (case kg => (intro _ _ _ _ _; wtm_at "fo g")); (case kt => (intro _ _ _ _ _; wtm_at "fo ts")); (case ke => (intro _ _ _ _ _; wtm_at "fo e")))
  | (refine' ps_setLcO (i := 10) (by assumption) (by exact rfl) (by exact rfl) (by wtm_at "fo own") (by decide +kernel) rfl rfl rfl (sw_true rfl rfl rfl (by decide +kernel)) ?ki ?kg ?kt ?ke; (case ki => wtm_at "fo i"); (case kg => (intro _ _ _ _ _; wtm_at "fo g")); (case kt => (intro _ _ _ _ _; wtm_at "fo ts")); (case ke => (intro _ _ _ _ _; wtm_at "fo e")))
  | (refine' ps_setLcO (i := 11) (by assumption) (by exact rfl) (by exact rfl) (by wtm_at "fo own") (by decide +kernel) rfl rfl rfl (sw_true rfl rfl rfl (by decide +kernel)) ?ki ?kg ?kt ?ke; (case ki => wtm_at "fo i"); (case kg => (intro _ _ _ _ _; wtm_at "fo g")); (case kt => (intro _ _ _ _ _; wtm_at "fo ts")); (case ke => (intro _ _ _ _ _; wtm_at "fo e")))
  | (refine' ps_setLcO (i := 12) (by assumption) (by exact rfl) (by exact rfl) (by wtm_at "fo own") (by decide +kernel) rfl rfl rfl (sw_true rfl rfl rfl (by decide +kernel)) ?ki ?kg ?kt ?ke; (case ki => wtm_at "fo i"); (case kg => (intro _ _ _ _ _; wtm_at "fo g")); (case kt => (intro _ _ _ _ _; wtm_at "fo ts")); (case ke => (intro _ _ _ _ _; wtm_at "fo e")))
  | (refine' ps_setLcO (i := 13) (by assumption) (by exact rfl) (by exact rfl) (by wtm_at "fo own") (by decide +kernel) rfl rfl rfl (sw_true rfl rfl rfl (by decide +kernel)) ?ki ?kg ?kt ?ke; (case ki => wtm_at "fo i"); (case kg => (intro _ _ _ _ _; wtm_at "fo g")); (case kt => (intro _ _ _ _ _; wtm_at "fo ts")); (case ke => (intro _ _ _ _ _; wtm_at "fo e")))
  | (refine' ps_setLcO (i := 14) (by assumption) (by exact rfl) (by exact rfl) (by wtm_at "fo own") (by decide +kernel) rfl rfl rfl (sw_true rfl rfl rfl (by decide +kernel)) ?ki ?kg ?kt ?ke; (case ki => wtm_at "fo i"); (case kg => (intro _ _ _ _ _; wtm_at "fo g")); (case kt => (intro _ _ _ _ _; wtm_at "fo ts")); (case ke => (intro _ _ _ _ _; wtm_at "fo e")))
  | (refine' ps_setLcO (i := 15) (by assumption) (by exact rfl) (by exact rfl) (by wtm_at "fo own") (by decide +kernel) rfl rfl rfl (sw_true rfl rfl rfl (by decide +kernel)) ?ki ?kg ?kt ?ke; (case ki => wtm_at "fo i"); (case kg => (intro _ _ _ _ _; wtm_at "fo g")); (case kt => (intro _ _ _ _ _; wtm_at "fo ts")); (case ke => (intro _ _ _ _ _; wtm_at "fo e")))
  | fail "no")
local macro_rules | `(tactic| wtm_at "fo set") => `(tactic| first
  | (refine' ps_set (i := 0) (by assumption) rfl (by first | exact Or.inl rfl | exact Or.inr rfl) ?ka; (case ka => wtm_at "fo e"))
  | (refine' ps_set (i := 1) (by assumption) rfl (by first | exact Or.inl rfl | exact Or.inr rfl) ?ka; (case ka => wtm_at "fo e"))
  | (refine' ps_set (i := 2) (by assumption) rfl (by first | exact Or.inl rfl | exact Or.inr rfl) ?ka; (case ka => wtm_at "fo e"))
  | (refine' ps_set (i := 3) (by assumption) rfl (by first | exact Or.inl rfl | exact Or.inr rfl) ?ka; (case ka => wtm_at "fo e"))
  | (refine' ps_set (i := 4) (by assumption) rfl (by first | exact Or.inl rfl | exact Or.inr rfl) ?ka; (case ka => wtm_at "fo e"))
  | (refine' ps_set (i := 5) (by assumption) rfl (by first | exact Or.inl rfl | exact Or.inr rfl) ?ka; (case ka => wtm_at "fo e"))
  | (refine' ps_set (i := 6) (by assumption) rfl (by first | exact Or.inl rfl | exact Or.inr rfl) ?ka; (case ka => wtm_at "fo e"))
  | (refine' ps_set (i := 7) (by assumption) rfl (by first | exact Or.inl rfl | exact Or.inr rfl) ?ka; (case ka => wtm_at "fo e"))
  | (refine' ps_set (i := 8) (by assumption) rfl (by first | exact Or.inl rfl | exact Or.inr rfl) ?ka; (case ka => wtm_at "fo e"))
  | (refine' ps_set (i := 9) (by assumption) rfl (by first | exact Or.inl rfl | exact Or.inr rfl) ?ka; (case ka => wtm_at "fo e"))
  | (refine' ps_set (i := 10) (by assumption) rfl (by first | exact Or.inl rfl | exact Or.inr rfl) ?ka; (case ka => wtm_at "fo e"))
  | (refine' ps_set (i := 11) (by assumption) rfl (by first | exact Or.inl rfl | exact Or.inr rfl) ?ka; (case ka => wtm_at "fo e"))
  | (refine' ps_set (i := 12) (by assumption) rfl (by first | exact Or.inl rfl | exact Or.inr rfl) ?ka; (case ka => wtm_at "fo e"))
  | (refine' ps_set (i := 13) (by assumption) rfl (by first | exact Or.inl rfl | exact Or.inr rfl) ?ka; (case ka => wtm_at "fo e"))
  | fail "no")
local macro_rules | `(tactic| wtm_at "fo t") => `(tactic| first
  | ((with_reducible show PT _ (.BoolOp _ _ _) _); apply PW.pt; wtm_at "fo w")
  | ((with_reducible show PT _ (.UnaryOp .Not _ _) _); apply pt_not; wtm_at "fo t")
  | ((with_reducible show PT _ (.Compare _ _ _ _) _); wtm_at "fo tcmp")
  | (refine' pt_truthK (by assumption) (by exact rfl) ?ka (by intro _; rfl); (case ka => wtm_at "fo e"))
  | fail "no")
local macro_rules | `(tactic| wtm_at "fo gn") => `(tactic| first
  | exact pg_name (i := 0) (by assumption) rfl (by first | exact Or.inl rfl | exact Or.inr rfl)
  | exact pg_name (i := 1) (by assumption) rfl (by first | exact Or.inl rfl | exact Or.inr rfl)
  | exact pg_name (i := 2) (by assumption) rfl (by first | exact Or.inl rfl | exact Or.inr rfl)
  | exact pg_name (i := 3) (by assumption) rfl (by first | exact Or.inl rfl | exact Or.inr rfl)
  | exact pg_name (i := 4) (by assumption) rfl (by first | exact Or.inl rfl | exact Or.inr rfl)
  | exact pg_name (i := 5) (by assumption) rfl (by first | exact Or.inl rfl | exact Or.inr rfl)
  | exact pg_name (i := 6) (by assumption) rfl (by first | exact Or.inl rfl | exact Or.inr rfl)
  | exact pg_name (i := 7) (by assumption) rfl (by first | exact Or.inl rfl | exact Or.inr rfl)
  | exact pg_name (i := 8) (by assumption) rfl (by first | exact Or.inl rfl | exact Or.inr rfl)
  | exact pg_name (i := 9) (by assumption) rfl (by first | exact Or.inl rfl | exact Or.inr rfl)
  | exact pg_name (i := 10) (by assumption) rfl (by first | exact Or.inl rfl | exact Or.inr rfl)
  | exact pg_name (i := 11) (by assumption) rfl (by first | exact Or.inl rfl | exact Or.inr rfl)
  | exact pg_name (i := 12) (by assumption) rfl (by first | exact Or.inl rfl | exact Or.inr rfl)
  | exact pg_name (i := 13) (by assumption) rfl (by first | exact Or.inl rfl | exact Or.inr rfl)
  | exact pg_name (i := 14) (by assumption) rfl (by first | exact Or.inl rfl | exact Or.inr rfl)
  | exact pg_name (i := 15) (by assumption) rfl (by first | exact Or.inl rfl | exact Or.inr rfl)
  | fail "no")
local macro_rules | `(tactic| wtm_at "fo par") => `(tactic| first
  | (refine' ps_par (i := 0) (j := 1) rfl (by assumption) rfl rfl (by decide) rfl rfl ?ka (by rfl); (case ka => wtm_at "fo a"))
  | (refine' ps_par (i := 1) (j := 2) rfl (by assumption) rfl rfl (by decide) rfl rfl ?ka (by rfl); (case ka => wtm_at "fo a"))
  | (refine' ps_par (i := 2) (j := 3) rfl (by assumption) rfl rfl (by decide) rfl rfl ?ka (by rfl); (case ka => wtm_at "fo a"))
  | (refine' ps_par (i := 3) (j := 4) rfl (by assumption) rfl rfl (by decide) rfl rfl ?ka (by rfl); (case ka => wtm_at "fo a"))
  | (refine' ps_par (i := 4) (j := 5) rfl (by assumption) rfl rfl (by decide) rfl rfl ?ka (by rfl); (case ka => wtm_at "fo a"))
  | (refine' ps_par (i := 5) (j := 6) rfl (by assumption) rfl rfl (by decide) rfl rfl ?ka (by rfl); (case ka => wtm_at "fo a"))
  | (refine' ps_par (i := 6) (j := 7) rfl (by assumption) rfl rfl (by decide) rfl rfl ?ka (by rfl); (case ka => wtm_at "fo a"))
  | (refine' ps_par (i := 7) (j := 8) rfl (by assumption) rfl rfl (by decide) rfl rfl ?ka (by rfl); (case ka => wtm_at "fo a"))
  | (refine' ps_par (i := 8) (j := 9) rfl (by assumption) rfl rfl (by decide) rfl rfl ?ka (by rfl); (case ka => wtm_at "fo a"))
  | (refine' ps_par (i := 9) (j := 10) rfl (by assumption) rfl rfl (by decide) rfl rfl ?ka (by rfl); (case ka => wtm_at "fo a"))
  | (refine' ps_par (i := 10) (j := 11) rfl (by assumption) rfl rfl (by decide) rfl rfl ?ka (by rfl); (case ka => wtm_at "fo a"))
  | (refine' ps_par (i := 11) (j := 12) rfl (by assumption) rfl rfl (by decide) rfl rfl ?ka (by rfl); (case ka => wtm_at "fo a"))
  | (refine' ps_par (i := 12) (j := 13) rfl (by assumption) rfl rfl (by decide) rfl rfl ?ka (by rfl); (case ka => wtm_at "fo a"))
  | (refine' ps_par (i := 13) (j := 14) rfl (by assumption) rfl rfl (by decide) rfl rfl ?ka (by rfl); (case ka => wtm_at "fo a"))
  | (refine' ps_par (i := 14) (j := 15) rfl (by assumption) rfl rfl (by decide) rfl rfl ?ka (by rfl); (case ka => wtm_at "fo a"))
  | fail "no")
local macro_rules | `(tactic| wtm_at "fo g") => `(tactic| first
  | ((with_reducible show PG _ (.Name _ _) _); wtm_at "fo gn")
  | ((with_reducible show PG _ (.Tuple _ _ _) _); apply PG_or; (· refine' pg_tup2 (by assumption) (by exact rfl) rfl ?kg; (case kg => wtm_at "fo gs")); (· refine' pg_unl2 (by assumption) (by exact rfl) rfl ?kg; (case kg => wtm_at "fo gs")))
  | fail "no")
local macro_rules | `(tactic| wtm_at "fo gs") => `(tactic| first
  | exact pgs_nil
  | (refine' pgs_cons ?k1 ?k2; (case k1 => wtm_at "fo g"); (case k2 => wtm_at "fo gs"))
  | fail "no")
local macro_rules | `(tactic| wtm_at "fo i") => `(tactic| first
  | ((with_reducible show PI _ _ (.Call (.Name (Str.ofString "range") _) [_] _ _) _); refine' pi_range1 (by rfl) (by assumption) ?ka; (case ka => wtm_at "fo a"))
  | ((with_reducible show PI _ _ (.Call (.Name (Str.ofString "range") _) [_, _] _ _) _); refine' pi_range2 (by rfl) (by assumption) ?ka; (case ka => wtm_at "fo a"))
  | ((with_reducible show PI _ _ (.Call (.Name (Str.ofString "enumerate") _) [_] _ _) _); refine' pi_enum (by rfl) (by assumption) ?ka; (case ka => wtm_at "fo a"))
  | (refine' pi_listK (by assumption) (by exact rfl) ?ka; (case ka => wtm_at "fo e"))
  | fail "no")
local macro_rules | `(tactic| wtm_at "fo s") => `(tactic| first
  | ((with_reducible show PS _ (.While _ _ _ _) _); refine' ps_while PassesOwn.never ?kt ?kb; (case kt => wtm_at "fo t"); (case kb => wtm_at "fo ss"))
  | ((with_reducible show PS _ (.For _ _ _ _ _) _); refine' ps_for PassesOwn.never rfl ?ki ?kg ?kb; (case ki => wtm_at "fo i"); (case kg => wtm_at "fo g"); (case kb => wtm_at "fo ss"))
  | ((with_reducible show PS _ (.Assign [.Name _ _] (.ListComp _ [_] _ _) _) _); wtm_at "fo setlc")
  | ((with_reducible show PS _ (.Assign [.Name _ _] _ _) _); wtm_at "fo set")
  | ((with_reducible show PS _ (.Assign [.Tuple [.Name _ _, .Name _ _] _ _] (.Tuple [_, _] _ _) _) _); wtm_at "fo par")
  | ((with_reducible show PS _ (.Assign [.Subscript _ _ _] _ _) _); refine' ps_asg ?ka (pg_sub ?kb ?kc set_list); (case ka => wtm_at "fo e"); (case kb => wtm_at "fo e"); (case kc => wtm_at "fo e"))
  | ((with_reducible show PS _ (.Return (some _) _) _); apply ps_ret; wtm_at "fo e")
  | ((with_reducible show PS _ (.Expr _ _) _); refine' ps_expr ?ka; (case ka => wtm_at "fo e"))
  | ((with_reducible show PS _ (.If _ _ _ _) _); apply ps_if; (· wtm_at "fo t"); (· wtm_at "fo ss"); (· wtm_at "fo ss"))
  | fail "no")
local macro_rules | `(tactic| wtm_at "fo ss") => `(tactic| first
  | with_reducible exact pss_nil
  | ((with_reducible show PSs _ [_] _); apply pss_one; wtm_at "fo s")
  | (apply pss_cons; (· wtm_at "fo s"); (· wtm_at "fo ss"))
  | fail "no")
local macro_rules | `(tactic| wtm_at "fo hp") => `(tactic| first
  | assumption
  | exact upd_same
  | (refine (upd_ne ?ne).trans ?hp; (case ne => wtm_at "fo ne"); (case hp => wtm_at "fo hp"))
  | fail "no")
local macro_rules | `(tactic| wtm_at "fo ne") => `(tactic| first
  | assumption
  | (apply Ne.symm; assumption)
  | exact ne_of_none (by assumption) (by assumption)
  | exact Ne.symm (ne_of_none (by assumption) (by assumption))
  | fail "no")
local macro_rules | `(tactic| wtm_at "fo sz") => `(tactic| first
  | exact (Nat.le_of_ble_eq_true rfl : _ ≤ sizeLine)
  | exact (Nat.le_of_ble_eq_true rfl : _ < sizeLine)
  | exact Nat.lt_of_le_of_lt (m := 100000) (by first | assumption | omega | (simp; omega)) (by decide)
  | exact Nat.le_trans (m := 100000) (by first | assumption | omega | (simp; omega)) (by decide)
  | fail "no")
local macro_rules | `(tactic| wtm_at "fo r1") => `(tactic| first
  | refine ⟨(Nat.le_of_ble_eq_true rfl : _ ≤ sizeLine), fun p np => ?_⟩
  | (refine' ⟨_, _, rfl, Or.inl (SqL.of ?h), ?_⟩; (case h => wtm_at "fo hp"))
  | refine ⟨_, rfl, ?_⟩
  | refine ⟨_, _, rfl, rfl, ?_⟩
  | refine ⟨_, _, rfl, ⟨by omega, by omega, by omega, by omega⟩, ?_⟩
  | refine ⟨_, rfl, by omega, by omega, ?_⟩
  | refine Or.inl ⟨_, rfl, ?_⟩
  | refine Or.inl ⟨rfl, ?_⟩
  | refine Or.inl ⟨_, _, rfl, rfl, ?_⟩
  | (refine' Or.inl ⟨_, _, _, _, rfl, rfl, SqL.of ?h, ?a, ?_⟩; (case h => wtm_at "fo hp"); (case a => rfl))
  | (refine' ⟨_, _, _, _, rfl, rfl, ?h, ?a, ?_⟩; (case h => wtm_at "fo hp"); (case a => rfl))
  | (refine' ⟨.inl ⟨rfl, _, SqL.of ?h⟩, ?_⟩; (case h => wtm_at "fo hp"))
  | (refine' ⟨_, _, _, rfl, rfl, ?h, ?z, ?_⟩; (case h => wtm_at "fo hp"); (case z => wtm_at "fo sz"))
  | (refine' ⟨_, rfl, ⟨_, SqL.of ?h⟩, ?_⟩; (case h => wtm_at "fo hp"))
  | fail "no")
local macro_rules | `(tactic| wtm_at "fo side") => `(tactic| ((try dsimp only [CMul, CDiv]); first
  | assumption
  | decide
  | omega
  | exact ⟨by decide, by decide⟩
  | exact ⟨by omega, by omega⟩
  | decide +kernel
  | fail "no"))
local macro_rules | `(tactic| wtm_at "fo r2") => `(tactic| first
  | wtm_at "fo r1"
  | refine And.intro (by wtm_at "fo side") ?_
  | fail "no")
local macro_rules | `(tactic| wtm_at "fo r") => `(tactic| repeat wtm_at "fo r2")
@[irreducible] def spRight : Sp := fun vs H Q _ => ∃ (q : Addr) (n : Nat) (es : List Edge), vs = [.int n, .ref q] ∧ 1 ≤ n ∧ n ≤ 12 ∧ Pairs H q es ∧ Simp n es ∧ es.length ≤ 200 ∧ ∀ H', Same H H' → Q (.bl true) H'
theorem call_right {q : Addr} {n : Nat} {es : List Edge} {H : Hp} {Q : VK} {E : XK} (h1 : 1 ≤ n) (h2 : n ≤ 12) (hq : Pairs H q es) (hS : Simp n es) (hl : es.length ≤ 200) (fin : ∀ H', Same H H' → Q (.bl true) H') : spRight [.int n, .ref q] H Q E := by
  unfold spRight
  exact ⟨q, n, es, rfl, h1, h2, hq, hS, hl, fin⟩
variable {P : Program} {w : World} {K : PySem.W.Frag} {mg : Str → Option Value} {base : Heap}
set_option maxHeartbeats 8000000 in
theorem ok_right {f : Addr} {fd : FuncData} (F : Fun K "_law_right" "_law_right" s_law_right f fd) (mr : mg "range" = none) (mp : mg "repr" = none) (ms : mg "sorted" = none)
    (C1 : Cal P w K mg base "_law_near" 1 ["_law_size", "_law_sides"] spNear) (C2 : Cal P w K mg base "beside" 3 ["places", "lines", "place"] spBeside)
    (C3 : KCal P w K mg base "beside" 3 ["places", "lines", "place"] ["place", "lines", "places"] g3 g3 spBeside) :
    FnG P w K mg base CX0 5 f fd ["_law_size", "_law_sides"] spRight := by
  refine okG F sc_law_right (fun vs H Q E h => ?_) (fun cdv A outer s H vs Q E hr hgd h => ?_)
  · unfold spRight at h
    obtain ⟨q, n, es, rfl, _⟩ := h
    rfl
  · have nd := sc_law_right.nd
    have hS := sc_law_right
    have hKM : KMark K := ⟨⟩
    refine' mk_body ?body ?rd
    case body =>
      show PSs _ [_, _, _, _] _
      wtm_at "fo ss"
    case rd =>
     unfold spRight at h
     obtain ⟨q, n, es, rfl, h1, h2, hq, hSi, hl, fin⟩ := h
     wtm_at "fo r"
     have okE := dok_dE (hSi.small (by omega))
     have szE : (dE es).shown.length ≤ sizeLine := Nat.le_trans okE.len (Nat.le_trans (m := 10000) (by omega) (by decide))
     refine ⟨q, dE es, rfl, dp_dE hq, okE.sh, okE.nd, Nat.le_trans okE.dep (by decide), szE, ?_⟩
     wtm_at "fo r"
     refine call_near h2 hq hl (fun e he => by have := hSi.rng e he; omega) (fun p H1 sm1 np hL => ?_)
     wtm_at "fo r"
     obtain ⟨rs, hD, hnd, hrl, hat⟩ := hL
     have hN : ((n : Int) + 1 - 1).toNat = n := by omega
     refine for_range (fun i σ H2 => ∃ y4 y5 y6, σ = [some (.int n), some (.ref q), some (.str (dE es).shown), some (.ref p), y4, y5, y6] ∧ Same H1 H2) ?_ ?_ ?_
     · exact ⟨none, none, none, rfl, Same.refl _⟩
     · rintro i σ H2 hi ⟨y4, y5, y6, rfl, sm2⟩
       rw [hN] at hi
       have hsp : 1 ≤ (1 : Int) + i ∧ (1 : Int) + i ≤ n := by omega
       have hng := near_get hSi (p := i + 1) (by omega) (by omega)
       have hil : i + 1 < rs.length := by rw [hrl]; exact (List.getElem?_eq_some_iff.mp hng).1
       have hrs : rs[i + 1]? = some rs[i + 1] := List.getElem?_eq_getElem hil
       have hlst := sm2 _ _ (hat _ _ _ hrs hng)
       rw [show ((i + 1 : Nat) : Int) = 1 + (i : Int) by omega] at hlst
       have hml : ((1 + (i : Int)) :: mates (1 + (i : Int)) es).length < 64 := by
         have := nodup_le 12 (mates (1 + (i : Int)) es) (mates_nodup hSi) (fun x hx => by have := mates_rng hSi x hx; omega)
         rw [List.length_cons]
         omega
       wtm_at "fo r"
       refine Or.inl ⟨p, rs.map V.ref, 1 + (i : Int), .ref rs[i + 1], rfl, rfl, SqL.of (sm2 _ _ hD), at_of (j := i + 1) (by omega) (by rw [List.getElem?_map, hrs]; rfl), ?_⟩
       refine ⟨_, _, rfl, SqL.of hlst, hml, ?_⟩
       intro ns u hpm hso nu
       have hns := near_sorted hSi hsp.1 hsp.2 hpm hso
       subst hns
       have okB : DOk 1 200 (dI (besideM n es (1 + (i : Int)))) := (dok_dI (fun x hx => by have := besideM_rng hx; omega)).mono (Nat.le_refl _) (by have := besideM_length (es := es) (p := 1 + (i : Int)) h2; omega)
       have ok2 := dok_two okB
       generalize hbm : besideM n es (1 + (i : Int)) = bm at *
       have sm3 : Same H1 (upd H2 u (.lst (bm.map V.int))) := same_upd sm2 (sm2.free nu)
       have hu3 : (upd H2 u (.lst (bm.map V.int))) u = some (.lst (bm.map V.int)) := upd_same
       wtm_at "fo r"
       refine call_beside (by omega) h2 hsp.1 hsp.2 (hq.same (sm1.trans sm3)) hSi hl (fun r1 H4 sm4 nr1 hr1 => ?_)
       wtm_at "fo r"
       refine call_beside (by omega) h2 hsp.1 hsp.2 (hq.same ((sm1.trans sm3).trans sm4)) hSi hl (fun r2 H5 sm5 nr2 hr2 => ?_)
       rw [hbm] at hr1 hr2
       have hu5 := sm5 _ _ (sm4 _ _ hu3)
       have hr15 := sm5 _ _ hr1
       have sm15 : Same H1 H5 := (sm3.trans sm4).trans sm5
       have nr10 : H1 r1 = none := sm3.free nr1
       have hur : u ≠ r1 := ne_of_none hu3 nr1
       wtm_at "fo r"
       rename_i t nt
       have sm6 : Same H5 (upd H5 t (.lst [V.ref r1, V.ref r2])) := same_upd (Same.refl _) nt
       have ht6 : (upd H5 t (.lst [V.ref r1, V.ref r2])) t = some (.lst [V.ref r1, V.ref r2]) := upd_same
       refine ⟨t, .list [dI bm, dI bm], rfl, Dp.dok_two ht6 (dp_dI (SqL.of (sm6 _ _ hr15))) (dp_dI (SqL.of (sm6 _ _ hr2))), ok2.sh, ok2.nd, Nat.le_trans ok2.dep (by decide), Nat.le_trans ok2.len (by decide), ?_⟩
       wtm_at "fo r"
       rename_i t2 nt2
       have sm7 : Same (upd H5 t (.lst [V.ref r1, V.ref r2])) (upd (upd H5 t (.lst [V.ref r1, V.ref r2])) t2 (.lst [V.ref u, V.ref u])) := same_upd (Same.refl _) nt2
       have sm17 := (sm15.trans sm6).trans sm7
       have hu7 := sm7 _ _ (sm6 _ _ hu5)
       refine ⟨t2, .list [dI bm, dI bm], rfl, Dp.dok_two upd_same (dp_dI (SqL.of hu7)) (dp_dI (SqL.of hu7)), ok2.sh, ok2.nd, Nat.le_trans ok2.dep (by decide), Nat.le_trans ok2.len (by decide), ?_⟩
       refine Or.inl ⟨rfl, _, rfl, ?_⟩
       refine ifF (by simp) ?_
       refine ⟨_, rfl, q, dE es, rfl, dp_dE (hq.same (sm1.trans sm17)), okE.sh, okE.nd, Nat.le_trans okE.dep (by decide), szE, ?_⟩
       refine ⟨_, rfl, Or.inl ⟨rfl, _, rfl, ?_⟩⟩
       refine ifF (by simp) ?_
       have hr17 := sm7 _ _ (sm6 _ _ hr15)
       have ht7 := sm7 _ _ ht6
       refine ⟨_, rfl, Or.inl ⟨t, [V.ref r1, V.ref r2], 0, .ref r1, rfl, rfl, SqL.of ht7, rfl, ?_⟩⟩
       refine ⟨.inl ⟨rfl, _, SqL.of hr17⟩, r1, bm.map V.int, .non, rfl, rfl, hr17, ?_, ?_⟩
       · rw [List.length_map, ← hbm]
         exact Nat.lt_of_le_of_lt (besideM_length h2) (by decide)
       have sm8 : Same H1 (upd (upd (upd H5 t (.lst [V.ref r1, V.ref r2])) t2 (.lst [V.ref u, V.ref u])) r1 (.lst (bm.map V.int ++ [V.non]))) := same_upd sm17 nr10
       have hu8 : (upd (upd (upd H5 t (.lst [V.ref r1, V.ref r2])) t2 (.lst [V.ref u, V.ref u])) r1 (.lst (bm.map V.int ++ [V.non]))) u = some (.lst (bm.map V.int)) := by
         rw [upd_ne hur]
         exact hu7
       wtm_at "fo r"
       refine call_beside (by omega) h2 hsp.1 hsp.2 (hq.same (sm1.trans sm8)) hSi hl (fun r3 H9 sm9 nr3 hr3 => ?_)
       rw [hbm] at hr3
       have hu9 := sm9 _ _ hu8
       refine ⟨r3, dI bm, rfl, dp_dI (SqL.of hr3), okB.sh, okB.nd, Nat.le_trans okB.dep (by decide), Nat.le_trans okB.len (by decide), ?_⟩
       refine ⟨_, rfl, u, dI bm, rfl, dp_dI (SqL.of hu9), okB.sh, okB.nd, Nat.le_trans okB.dep (by decide), Nat.le_trans okB.len (by decide), ?_⟩
       refine Or.inl ⟨rfl, _, rfl, ?_⟩
       refine ifF (by simp) ?_
       exact ⟨_, _, _, rfl, sm8.trans sm9⟩
     · rintro σ H2 ⟨y4, y5, y6, rfl, sm2⟩
       wtm_at "fo r"
       exact fin _ (sm1.trans sm2)

end Fo

/-! piece D8m -/
namespace Fo
open PySem PySem.Spec PyProof.Rows L2
/-! ### pairs as tuples -/
structure TsAt (H : Hp) (D : Addr) (rs : List Addr) (es : List Edge) : Prop where
  hD : H D = some (.lst (rs.map V.ref))
  len : rs.length = es.length
  at_ : ∀ (i : Nat) (r : Addr) (e : Edge), rs[i]? = some r → es[i]? = some e → H r = some (.tup [.int e.1, .int e.2])
theorem TsAt.mem {H : Hp} {D : Addr} {rs : List Addr} {es : List Edge} (h : TsAt H D rs es) {r : Addr} (hr : r ∈ rs) : ∃ e ∈ es, H r = some (.tup [.int e.1, .int e.2]) := by
  obtain ⟨i, hi⟩ := List.getElem?_of_mem hr
  have hl : i < es.length := by rw [← h.len]; exact (List.getElem?_eq_some_iff.mp hi).1
  exact ⟨es[i], List.getElem_mem hl, h.at_ i r _ hi (List.getElem?_eq_getElem hl)⟩
theorem TsAt.ne {H : Hp} {D : Addr} {rs : List Addr} {es : List Edge} (h : TsAt H D rs es) {r : Addr} (hr : r ∈ rs) : r ≠ D := by
  obtain ⟨e, _, he⟩ := h.mem hr
  exact ne_of he h.hD (by intro q; cases q)
theorem TsAt.nil {H : Hp} {D : Addr} (h : H D = some (.lst [])) : TsAt H D [] [] := ⟨h, rfl, fun i r e h _ => by simp at h⟩
theorem TsAt.same {H H' : Hp} {D : Addr} {rs : List Addr} {es : List Edge} (h : TsAt H D rs es) (s : Same H H') : TsAt H' D rs es :=
  ⟨s _ _ h.hD, h.len, fun i r e a b => s _ _ (h.at_ i r e a b)⟩
theorem TsAt.push {H : Hp} {D r : Addr} {rs : List Addr} {es : List Edge} (h : TsAt H D rs es) (nr : H r = none) (e : Edge) :
    TsAt (upd (upd H r (.tup [.int e.1, .int e.2])) D (.lst (rs.map V.ref ++ [V.ref r]))) D (rs ++ [r]) (es ++ [e]) := by
  have hDr : D ≠ r := ne_of_none h.hD nr
  refine ⟨?_, ?_, ?_⟩
  · rw [upd_same, List.map_append]
    rfl
  · rw [List.length_append, List.length_append, h.len]
    rfl
  · intro i a u ha hu
    by_cases hi : i < rs.length
    · rw [List.getElem?_append_left hi] at ha
      rw [List.getElem?_append_left (by rw [← h.len]; exact hi)] at hu
      rw [upd_ne (h.ne (List.mem_of_getElem? ha)), upd_ne (ne_of_none (h.at_ i a u ha hu) nr)]
      exact h.at_ i a u ha hu
    · rw [List.getElem?_append_right (by omega)] at ha
      rw [List.getElem?_append_right (by rw [← h.len]; omega), ← h.len] at hu
      have e0 : i - rs.length = 0 := by
        have := (List.getElem?_eq_some_iff.mp ha).1
        simp at this
        omega
      rw [e0] at ha hu
      simp at ha hu
      subst ha hu
      rw [upd_ne hDr.symm, upd_same]
theorem TsAt.cat {H : Hp} {D D2 p : Addr} {rs rs2 : List Addr} {es es2 : List Edge} (h : TsAt H D rs es) (h2 : TsAt H D2 rs2 es2) (np : H p = none) :
    TsAt (upd H p (.lst (rs.map V.ref ++ rs2.map V.ref))) p (rs ++ rs2) (es ++ es2) := by
  refine ⟨by rw [upd_same, List.map_append], by rw [List.length_append, List.length_append, h.len, h2.len], ?_⟩
  intro i a u ha hu
  by_cases hi : i < rs.length
  · rw [List.getElem?_append_left hi] at ha
    rw [List.getElem?_append_left (by rw [← h.len]; exact hi)] at hu
    rw [upd_ne (ne_of_none (h.at_ i a u ha hu) np)]
    exact h.at_ i a u ha hu
  · rw [List.getElem?_append_right (by omega)] at ha
    rw [List.getElem?_append_right (by rw [← h.len]; omega), ← h.len] at hu
    rw [upd_ne (ne_of_none (h2.at_ _ a u ha hu) np)]
    exact h2.at_ _ a u ha hu

theorem for_enum {K : PySem.W.Frag} {a : Addr} {xs : List V} {g : TG} {tb : TS} {D : Ends} {σ : Sl} {H : Hp} (Pv : Nat → Sl → Hp → Prop) (h0 : Pv 0 σ H) (hl : ∀ i σ H, i ≤ xs.length → Pv i σ H → SqL K H a xs)
    (hs : ∀ (i : Nat) x T σ H, xs[i]? = some x → Pv i σ H → H T = none → g (.ref T) σ (upd H T (.tup [.int (i : Nat), x])) fun σ2 H2 => tb { D with nx := Pv (i + 1), ct := Pv (i + 1), bk := D.nx } σ2 H2)
    (hd : ∀ σ H, Pv xs.length σ H → D.nx σ H) :
    ∃ W : Nat → Nat → Sl → Hp → Prop, (∃ m, W 0 m σ H) ∧ ∀ i m σ H, W i m σ H →
      ((Ite K a).stop i H ∧ D.nx σ H) ∨ ((Ite K a).go i H ∧ ∃ N : Sl → Hp → Prop, (∀ σ' H', N σ' H' → ∃ m', m' < m ∧ W (i + 1) m' σ' H') ∧
        ∀ x H', (Ite K a).yld i H x H' → g x σ H' fun σ2 H2 => tb { D with nx := N, ct := N, bk := D.nx } σ2 H2) := by
  refine ⟨fun i m σ H => m = xs.length - i ∧ i ≤ xs.length ∧ Pv i σ H, ⟨xs.length, by simp, Nat.zero_le _, h0⟩, ?_⟩
  rintro i m σ H ⟨rfl, hi, p⟩
  have q := hl i σ H hi p
  by_cases hlt : i < xs.length
  · refine Or.inr ⟨⟨xs, xs[i], q, List.getElem?_eq_getElem hlt⟩, Pv (i + 1), fun σ' H' p' => ⟨xs.length - (i + 1), by omega, rfl, hlt, p'⟩, ?_⟩
    rintro x H' ⟨T, y, rfl, nT, rfl, hx⟩
    exact hs i y T σ H (hx xs q) p nT
  · obtain rfl : i = xs.length := by omega
    exact Or.inl ⟨⟨xs, q, Nat.le_refl _⟩, hd σ H p⟩
theorem inV_ints (x : Int) : ∀ t : List Int, inV (.int x) (t.map V.int) = decide (x ∈ t)
  | [] => rfl
  | a :: t => by
    have h := inV_ints x t
    unfold inV at h ⊢
    rw [List.map_cons, List.any_cons, h]
    by_cases hx : a = x
    · subst hx; simp [eqV]
    · have : ¬ x = a := fun e => hx e.symm
      simp [eqV, hx, this]
theorem flat_ints : ∀ t : List Int, (t.map V.int).all flatV = true
  | [] => rfl
  | _ :: t => by rw [List.map_cons, List.all_cons, flat_ints t]; rfl
/-! ### the product, told place by place -/
def partsM (n m : Nat) : List Edge := (List.range n).flatMap fun (a : Nat) => (List.range m).map fun (b : Nat) => ((a : Int) + 1, (b : Int) + 1)
def joinM (es fs : List Edge) (ps : List Edge) (i j : Nat) : Option Edge :=
  match ps[i]?, ps[j]? with
  | some x, some y => if i < j ∧ y.1 ∈ x.1 :: mates x.1 es ∧ y.2 ∈ x.2 :: mates x.2 fs then some ((i : Int) + 1, (j : Int) + 1) else none
  | _, _ => none
def prodM (n : Nat) (es : List Edge) (m : Nat) (fs : List Edge) : List Edge :=
  (List.range (partsM n m).length).flatMap fun i => (List.range (partsM n m).length).filterMap fun j => joinM es fs (partsM n m) i j
theorem partsM_length (n m : Nat) : (partsM n m).length = n * m := by
  unfold partsM
  induction n with
  | zero => simp
  | succ n ih =>
    rw [List.range_succ, List.flatMap_append, List.length_append, ih, Nat.succ_mul]
    simp
theorem partsM_rng {n m : Nat} {e : Edge} (h : e ∈ partsM n m) : 1 ≤ e.1 ∧ e.1 ≤ n ∧ 1 ≤ e.2 ∧ e.2 ≤ m := by
  unfold partsM at h
  obtain ⟨a, ha, h2⟩ := List.mem_flatMap.mp h
  obtain ⟨b, hb, rfl⟩ := List.mem_map.mp h2
  have := List.mem_range.mp ha
  have := List.mem_range.mp hb
  simp only
  omega
theorem range_flat {α : Type} (f : Nat → List α) (i : Nat) : (List.range (i + 1)).flatMap f = (List.range i).flatMap f ++ f i := by
  rw [List.range_succ, List.flatMap_append]
  simp
theorem range_fm {α : Type} (f : Nat → Option α) (i : Nat) : (List.range (i + 1)).filterMap f = (List.range i).filterMap f ++ (f i).toList := by
  rw [List.range_succ, List.filterMap_append]
  cases h : f i <;> simp [List.filterMap_cons, h]

end Fo

/-! piece D8 -/
namespace Fo
open PySem PySem.Spec PyProof.Rows L2
local macro_rules | `(tactic| wtm_at "fo a") => `(tactic| first
  | exact pa_nil
  | (refine' pa_cons ?k1 ?k2; (case k1 => wtm_at "fo e"); (case k2 => wtm_at "fo a"))
  | fail "no")
local macro_rules | `(tactic| wtm_at "fo v") => `(tactic| first
  | exact pv 0
  | exact pv 1
  | exact pv 2
  | exact pv 3
  | exact pv 4
  | exact pv 5
  | exact pv 6
  | exact pv 7
  | exact pv 8
  | exact pv 9
  | exact pv 10
  | exact pv 11
  | exact pv 12
  | exact pv 13
  | exact pv 14
  | exact pv 15
  | fail "no")
local macro_rules | `(tactic| wtm_at "fo e") => `(tactic| first
  | with_reducible exact pe_int
  | with_reducible exact pe_bl
  | with_reducible exact pe_non
  | with_reducible exact pe_str
  | ((with_reducible show PE _ (.Name _ _) _); wtm_at "fo v")
  | ((with_reducible show PE _ (.BinOp _ .Add _ _) _); apply pe_op opAddB <;> wtm_at "fo e")
  | ((with_reducible show PE _ (.BinOp _ .Sub _ _) _); apply pe_op op_sub <;> wtm_at "fo e")
  | ((with_reducible show PE _ (.BinOp _ .Mult _ _) _); apply pe_op op_mul <;> wtm_at "fo e")
  | ((with_reducible show PE _ (.BinOp _ .Mod _ _) _); apply pe_op op_mod <;> wtm_at "fo e")
  | ((with_reducible show PE _ (.BinOp _ .FloorDiv _ _) _); apply pe_op op_fdiv <;> wtm_at "fo e")
  | ((with_reducible show PE _ (.BinOp _ .Pow _ _) _); apply pe_op op_powW <;> wtm_at "fo e")
  | ((with_reducible show PE _ (.BinOp _ .LShift _ _) _); apply pe_op op_shl <;> wtm_at "fo e")
  | ((with_reducible show PE _ (.BinOp _ .RShift _ _) _); apply pe_op op_shr <;> wtm_at "fo e")
  | ((with_reducible show PE _ (.BinOp _ .BitAnd _ _) _); apply pe_op op_and <;> wtm_at "fo e")
  | ((with_reducible show PE _ (.List _ _) _); apply pe_lst; wtm_at "fo a")
  | ((with_reducible show PE _ (.Tuple _ _ _) _); apply pe_tup; wtm_at "fo a")
  | ((with_reducible show PE _ (.ListComp _ [_] _ _) _); wtm_at "fo lc")
  | ((with_reducible show PE _ (.IfExp _ _ _ _) _); apply pe_ifExp; (· wtm_at "fo t"); (· wtm_at "fo e"); (· wtm_at "fo e"))
  | ((with_reducible show PE _ (.UnaryOp .USub _ _) _); apply pe_un un_neg; wtm_at "fo e")
  | ((with_reducible show PE _ (.Call (.Name _ _) [] (_ :: _) _) _); wtm_at "fo kcall")
  | ((with_reducible show PE _ (.Call (.Name _ _) _ _ _) _); wtm_at "fo call")
  | ((with_reducible show PE _ (.Call (.Attribute _ _ _) _ _ _) _); wtm_at "fo meth")
  | ((with_reducible show PE _ (.Compare _ _ _ _) _); wtm_at "fo cmp")
  | ((with_reducible show PE _ (.Subscript _ (.Slice _ _ _ _) _) _); wtm_at "fo slice")
  | ((with_reducible show PE _ (.Subscript _ _ _) _); refine' pe_ix (ix_seqK (by assumption) (by exact rfl)) ?ka ?kb (fun _ _ => rfl); (case ka => wtm_at "fo e"); (case kb => wtm_at "fo e"))
  | fail "no")
local macro_rules | `(tactic| wtm_at "fo own") => `(tactic| first
  | ((show _ = [0]); kernel_rfl!)
  | ((show _ = [1]); kernel_rfl!)
  | ((show _ = [2]); kernel_rfl!)
  | ((show _ = [3]); kernel_rfl!)
  | ((show _ = [4]); kernel_rfl!)
  | ((show _ = [5]); kernel_rfl!)
  | ((show _ = [6]); kernel_rfl!)
  | ((show _ = [7]); kernel_rfl!)
  | ((show _ = [8]); kernel_rfl!)
  | ((show _ = [9]); kernel_rfl!)
  | ((show _ = [10]); kernel_rfl!)
  | ((show _ = [11]); kernel_rfl!)
  | ((show _ = [12]); kernel_rfl!)
  | ((show _ = [13]); kernel_rfl!)
  | ((show _ = [14]); kernel_rfl!)
  | ((show _ = [15]); kernel_rfl!)
  | ((show _ = [0, 1]); kernel_rfl!)
  | ((show _ = [1, 2]); kernel_rfl!)
  | ((show _ = [2, 3]); kernel_rfl!)
  | ((show _ = [3, 4]); kernel_rfl!)
  | ((show _ = [4, 5]); kernel_rfl!)
  | ((show _ = [5, 6]); kernel_rfl!)
  | ((show _ = [6, 7]); kernel_rfl!)
  | ((show _ = [7, 8]); kernel_rfl!)
  | ((show _ = [8, 9]); kernel_rfl!)
  | ((show _ = [9, 10]); kernel_rfl!)
  | ((show _ = [10, 11]); kernel_rfl!)
  | ((show _ = [11, 12]); kernel_rfl!)
  | ((show _ = [12, 13]); kernel_rfl!)
  | ((show _ = [13, 14]); kernel_rfl!)
  | ((show _ = [14, 15]); kernel_rfl!)
  | fail "no")
local macro_rules | `(tactic| wtm_at "fo ts") => `(tactic| first
  | exact pts_nil
  | (apply pts_one; wtm_at "fo t")
  | fail "no")
local macro_rules | `(tactic| wtm_at "fo lc") => `(tactic| first
  | (refine' pe_lcO (by assumption) (by exact rfl) (by exact rfl) (by wtm_at "fo own") (by decide +kernel) rfl ?ki ?kg ?kt ?ke; (case ki => wtm_at "fo i"); (case kg => (intro _ _ _ _ _; wtm_at "fo g")); (case kt => (intro _ _ _ _ _; wtm_at "fo ts")); (case ke => (intro _ _ _ _ _; wtm_at "fo e")))
  | fail "no")
local macro_rules | `(tactic| wtm_at "fo part") => `(tactic| first
  | exact po_none
  | (apply po_some; wtm_at "fo e")
  | fail "no")
local macro_rules | `(tactic| wtm_at "fo slice") => `(tactic| first
  | ((with_reducible show PE _ (.Subscript _ (.Slice _ _ none _) _) _); refine' pe_slice (sl_listK (by assumption) (by exact rfl)) ?ka ?kb ?kc; (case ka => wtm_at "fo e"); (case kb => wtm_at "fo part"); (case kc => wtm_at "fo part"))
  | ((with_reducible show PE _ (.Subscript _ (.Slice none none (some _) _) _) _); refine' pe_stepK (by assumption) (by exact rfl) ?ka ?kb; (case ka => wtm_at "fo e"); (case kb => wtm_at "fo e"))
  | fail "no")
local macro_rules | `(tactic| wtm_at "fo cmp") => `(tactic| first
  | ((with_reducible show PE _ (.Compare _ [.Lt] _ _) _); refine' pe_cmpR op_lt ?ka ?kb (nomark _); (case ka => wtm_at "fo e"); (case kb => wtm_at "fo e"))
  | ((with_reducible show PE _ (.Compare _ [.LtE] _ _) _); refine' pe_cmpR op_le ?ka ?kb (nomark _); (case ka => wtm_at "fo e"); (case kb => wtm_at "fo e"))
  | ((with_reducible show PE _ (.Compare _ [.Gt] _ _) _); refine' pe_cmpR op_gt ?ka ?kb (nomark _); (case ka => wtm_at "fo e"); (case kb => wtm_at "fo e"))
  | ((with_reducible show PE _ (.Compare _ [.GtE] _ _) _); refine' pe_cmpR op_ge ?ka ?kb (nomark _); (case ka => wtm_at "fo e"); (case kb => wtm_at "fo e"))
  | ((with_reducible show PE _ (.Compare _ [.Eq] _ _) _); refine' pe_cmpR (op_eqK (by assumption) (by exact rfl) (Room.units (by assumption))) ?ka ?kb (nomark _); (case ka => wtm_at "fo e"); (case kb => wtm_at "fo e"))
  | ((with_reducible show PE _ (.Compare _ [.NotEq] _ _) _); refine' pe_cmpR (op_neK (by assumption) (by exact rfl) (Room.units (by assumption))) ?ka ?kb (nomark _); (case ka => wtm_at "fo e"); (case kb => wtm_at "fo e"))
  | fail "no")
local macro_rules | `(tactic| wtm_at "fo tcmp") => `(tactic| first
  | ((with_reducible show PT _ (.Compare _ [.Lt] _ _) _); refine' pt_cmpR op_lt ?ka ?kb (nomark _); (case ka => wtm_at "fo e"); (case kb => wtm_at "fo e"))
  | ((with_reducible show PT _ (.Compare _ [.LtE] _ _) _); refine' pt_cmpR op_le ?ka ?kb (nomark _); (case ka => wtm_at "fo e"); (case kb => wtm_at "fo e"))
  | ((with_reducible show PT _ (.Compare _ [.Gt] _ _) _); refine' pt_cmpR op_gt ?ka ?kb (nomark _); (case ka => wtm_at "fo e"); (case kb => wtm_at "fo e"))
  | ((with_reducible show PT _ (.Compare _ [.GtE] _ _) _); refine' pt_cmpR op_ge ?ka ?kb (nomark _); (case ka => wtm_at "fo e"); (case kb => wtm_at "fo e"))
  | ((with_reducible show PT _ (.Compare _ [.Eq] _ _) _); refine' pt_cmpR (op_eqK (by assumption) (by exact rfl) (Room.units (by assumption))) ?ka ?kb (nomark _); (case ka => wtm_at "fo e"); (case kb => wtm_at "fo e"))
  | ((with_reducible show PT _ (.Compare _ [.NotEq] _ _) _); refine' pt_cmpR (op_neK (by assumption) (by exact rfl) (Room.units (by assumption))) ?ka ?kb (nomark _); (case ka => wtm_at "fo e"); (case kb => wtm_at "fo e"))
  | ((with_reducible show PT _ (.Compare _ [.In] _ _) _); refine' pt_cmpR (op_inK (by assumption) (by exact rfl)) ?ka ?kb rfl; (case ka => wtm_at "fo e"); (case kb => wtm_at "fo e"))
  | ((with_reducible show PT _ (.Compare _ [.NotIn] _ _) _); refine' pt_cmpR (op_notInK (by assumption) (by exact rfl)) ?ka ?kb rfl; (case ka => wtm_at "fo e"); (case kb => wtm_at "fo e"))
  | fail "no")
local macro_rules | `(tactic| wtm_at "fo w") => `(tactic| first
  | ((with_reducible show PW _ (.BoolOp .And [_] _) _); apply pw_and1; wtm_at "fo t")
  | ((with_reducible show PW _ (.BoolOp .And _ _) _); apply pw_and; (· wtm_at "fo t"); (· wtm_at "fo w"))
  | ((with_reducible show PW _ (.BoolOp .Or [_] _) _); apply pw_or1; wtm_at "fo t")
  | ((with_reducible show PW _ (.BoolOp .Or _ _) _); apply pw_or; (· wtm_at "fo t"); (· wtm_at "fo w"))
  | fail "no")
local macro_rules | `(tactic| wtm_at "fo meth") => `(tactic| first
  | ((with_reducible show PE _ (.Call (.Attribute _ (Str.ofString "append") _) _ _ _) _); refine' pe_bm PySem.F.plainAttrs_list PySem.F.slot_list_append PySem.F.type_list_append mt_append ?ka ?kb; (case ka => wtm_at "fo e"); (case kb => wtm_at "fo a"))
  | ((with_reducible show PE _ (.Call (.Attribute _ (Str.ofString "pop") _) [_] _ _) _); refine' pe_bm PySem.F.plainAttrs_list PySem.F.slot_list_pop PySem.F.type_list_pop mt_popAt ?ka ?kb; (case ka => wtm_at "fo e"); (case kb => wtm_at "fo a"))
  | ((with_reducible show PE _ (.Call (.Attribute _ (Str.ofString "pop") _) [] _ _) _); refine' pe_bm0 PySem.F.plainAttrs_list PySem.F.slot_list_pop PySem.F.type_list_pop mt_pop ?ka; (case ka => wtm_at "fo e"))
  | fail "no")
local macro_rules | `(tactic| wtm_at "fo k") => `(tactic| first
  | exact pk_nil
  | (refine' pk_cons ?k1 ?k2; (case k1 => wtm_at "fo e"); (case k2 => wtm_at "fo k"))
  | fail "no")
local macro_rules | `(tactic| wtm_at "fo kcall") => `(tactic| first
  | (refine' pe_kcal (by assumption) (by assumption) (by decide) (by rfl) ?ka; (case ka => wtm_at "fo k"))
  | fail "no")
local macro_rules | `(tactic| wtm_at "fo call") => `(tactic| first
  | ((with_reducible show PE _ (.Call (.Name (Str.ofString "int") _) _ _ _) _); refine' pe_callTy call_intB (by rfl) (by assumption) (by decide +kernel) ?ka; (case ka => wtm_at "fo a"))
  | ((with_reducible show PE _ (.Call (.Name (Str.ofString "len") _) _ _ _) _); refine' pe_callB (call_lenK (by assumption) (by exact rfl)) (by rfl) (by assumption) PySem.boot_len ?ka; (case ka => wtm_at "fo a"))
  | ((with_reducible show PE _ (.Call (.Name (Str.ofString "list") _) [.Call (.Name (Str.ofString "range") _) [_, _] _ _] _ _) _); refine' pe_listRg rfl (by rfl) (by assumption) (prg_2 (by rfl) (by assumption) ?ka ?kb); (case ka => wtm_at "fo e"); (case kb => wtm_at "fo e"))
  | ((with_reducible show PE _ (.Call (.Name (Str.ofString "list") _) _ _ _) _); refine' pe_callTy (call_listK (by assumption) (by exact rfl)) (by rfl) (by assumption) (by decide +kernel) ?ka; (case ka => wtm_at "fo a"))
  | ((with_reducible show PE _ (.Call (.Name (Str.ofString "min") _) [_, _] _ _) _); refine' pe_callB (call_min2 rfl) (by rfl) (by assumption) (by decide +kernel) ?ka; (case ka => wtm_at "fo a"))
  | ((with_reducible show PE _ (.Call (.Name (Str.ofString "sorted") _) [_] _ _) _); refine' pe_callB (cr_sortedK (by assumption) (by exact rfl)) (by rfl) (by assumption) (by decide +kernel) ?ka; (case ka => wtm_at "fo a"))
  | ((with_reducible show PE _ (.Call (.Name (Str.ofString "repr") _) [_] _ _) _); refine' pe_callB (call_reprK (by assumption) (by exact rfl) (by assumption) (Room.units (by assumption))) (by rfl) (by assumption) (by decide +kernel) ?ka; (case ka => wtm_at "fo a"))
  | (refine' pe_cal (by assumption) (by assumption) (by decide) (by rfl) ?ka; (case ka => wtm_at "fo a"))
  | fail "no")
local macro_rules | `(tactic| wtm_at "fo setlc") => `(tactic| first
  | (refine' ps_setLcO (i := 0) (by assumption) (by exact rfl) (by exact rfl) (by wtm_at "fo own") (by decide +kernel) rfl rfl rfl (sw_true rfl rfl rfl (by decide +kernel)) ?ki ?kg ?kt ?ke; (case ki => wtm_at "fo i"); (case kg => (intro _ _ _ _ _; wtm_at "fo g")); (case kt => (intro _ _ _ _ _; wtm_at "fo ts")); (case ke => (intro _ _ _ _ _; wtm_at "fo e")))
  | (refine' ps_setLcO (i := 1) (by assumption) (by exact rfl) (by exact rfl) (by wtm_at "fo own") (by decide +kernel) rfl rfl rfl (sw_true rfl rfl rfl (by decide +kernel)) ?ki ?kg ?kt ?ke; (case ki => wtm_at "fo i"); (case kg => (intro _ _ _ _ _; wtm_at "fo g")); (case kt => (intro _ _ _ _ _; wtm_at "fo ts")); (case ke => (intro _ _ _ _ _; wtm_at "fo e")))
  | (refine' ps_setLcO (i := 2) (by assumption) (by exact rfl) (by exact rfl) (by wtm_at "fo own") (by decide +kernel) rfl rfl rfl (sw_true rfl rfl rfl (by decide +kernel)) ?ki ?kg ?kt ?ke; (case ki => wtm_at "fo i"); (case kg => (intro _ _ _ _ _; wtm_at "fo g")); (case kt => (intro _ _ _ _ _; wtm_at "fo ts")); (case ke => (intro _ _ _ _ _; wtm_at "fo e")))
  | (refine' ps_setLcO (i := 3) (by assumption) (by exact rfl) (by exact rfl) (by wtm_at "fo own") (by decide +kernel) rfl rfl rfl (sw_true rfl rfl rfl (by decide +kernel)) ?ki ?kg ?kt ?ke; (case ki => wtm_at "fo i"); (case kg => (intro _ _ _ _ _; wtm_at "fo g")); (case kt => (intro _ _ _ _ _; wtm_at "fo ts")); (case ke => (intro _ _ _ _ _; wtm_at "fo e")))
  | (refine' ps_setLcO (i := 4) (by assumption) (by exact rfl) (by exact rfl) (by wtm_at "fo own") (by decide +kernel) rfl rfl rfl (sw_true rfl rfl rfl (by decide +kernel)) ?ki ?kg ?kt ?ke; (case ki => wtm_at "fo i"); (case kg => (intro _ _ _ _ _; wtm_at "fo g")); (case kt => (intro _ _ _ _ _; wtm_at "fo ts")); (case ke => (intro _ _ _ _ _; wtm_at "fo e")))
  | (refine' ps_setLcO (i := 5) (by assumption) (by exact rfl) (by exact rfl) (by wtm_at "fo own") (by decide +kernel) rfl rfl rfl (sw_true rfl rfl rfl (by decide +kernel)) ?ki ?kg ?kt ?ke; (case ki => wtm_at "fo i"); (case kg => (intro _ _ _ _ _; wtm_at "fo g")); (case kt => (intro _ _ _ _ _; wtm_at "fo ts")); (case ke => (intro _ _ _ _ _; wtm_at "fo e")))
  | (refine' ps_setLcO (i := 6) (by assumption) (by exact rfl) (by exact rfl) (by wtm_at "fo own") (by decide +kernel) rfl rfl rfl (sw_true rfl rfl rfl (by decide +kernel)) ?ki ?kg ?kt ?ke; (case ki => wtm_at "fo i"); (case kg => (intro _ _ _ _ _; wtm_at "fo g")); (case kt => (intro _ _ _ _ _; wtm_at "fo ts")); (case ke => (intro _ _ _ _ _; wtm_at "fo e")))
  | (refine' ps_setLcO (i := 7) (by assumption) (by exact rfl) (by exact rfl) (by wtm_at "fo own") (by decide +kernel) rfl rfl rfl (sw_true rfl rfl rfl (by decide +kernel)) ?ki ?kg ?kt ?ke; (case ki => wtm_at "fo i"); (case kg => (intro _ _ _ _ _; wtm_at "fo g")); (case kt => (intro _ _ _ _ _; wtm_at "fo ts")); (case ke => (intro _ _ _ _ _; wtm_at "fo e")))
  | (refine' ps_setLcO (i := 8) (by assumption) (by exact rfl) (by exact rfl) (by wtm_at "fo own") (by decide +kernel) rfl rfl rfl (sw_true rfl rfl rfl (by decide +kernel)) ?ki ?kg ?kt ?ke; (case ki => wtm_at "fo i"); (case kg => (intro _ _ _ _ _; wtm_at "fo g")); (case kt => (intro _ _ _ _ _; wtm_at "fo ts")); (case ke => (intro _ _ _ _ _; wtm_at "fo e")))
  | (refine' ps_setLcO (i := 9) (by assumption) (by exact rfl) (by exact rfl) (by wtm_at "fo own") (by decide +kernel) rfl rfl rfl (sw_true rfl rfl rfl (by decide +kernel)) ?ki ?kg ?kt ?ke; (case ki => wtm_at "fo i"); (case kg => (intro _ _ _ _ _; wtm_at "fo g")); (case kt => (intro _ _ _ _ _; wtm_at "fo ts")); (case ke => (intro _ _ _ _ _; wtm_at "fo e")))
  | (refine' ps_setLcO (i := 10) (by assumption) (by exact rfl) (by exact rfl) (by wtm_at "fo own") (by decide +kernel) rfl rfl rfl (sw_true rfl rfl rfl (by decide +kernel)) ?ki ?kg ?kt ?ke; (case ki => wtm_at "fo i"); (case kg => (intro _ _ _ _ _; wtm_at "fo g")); (case kt => (intro _ _ _ _ _; wtm_at "fo ts")); (case ke => (intro _ _ _ _ _; wtm_at "fo e")))
  | (refine' ps_setLcO (i := 11) (by assumption) (by exact rfl) (by exact rfl) (by wtm_at "fo own") (by decide +kernel) rfl rfl rfl (sw_true rfl rfl rfl (by decide +kernel)) ?ki ?kg ?kt ?ke; (case ki => wtm_at "fo i"); (case kg => (intro _ _ _ _ _; wtm_at "fo g")); (case kt => (intro _ _ _ _ _; wtm_at "fo ts")); (case ke => (intro _ _ _ _ _; wtm_at "fo e")))
  | (refine' ps_setLcO (i := 12) (by assumption) (by exact rfl) (by exact rfl) (by wtm_at "fo own") (by decide +kernel) rfl rfl rfl (sw_true rfl rfl rfl (by decide +kernel)) ?ki ?kg ?kt ?ke; (case ki => wtm_at "fo i"); (case kg => (intro _ _ _ _ _; wtm_at "fo g")); (case kt => (intro _ _ _ _ _; wtm_at "fo ts")); (case ke => (intro _ _ _ _ _; wtm_at "fo e")))
  | (refine' ps_setLcO (i := 13) (by assumption) (by exact rfl) (by exact rfl) (by wtm_at "fo own") (by decide +kernel) rfl rfl rfl (sw_true rfl rfl rfl (by decide +kernel)) ?ki ?kg ?kt ?ke; (case ki => wtm_at "fo i"); (case kg => (intro _ _ _ _ _; wtm_at "fo g")); (case kt => (intro _ _ _ _ _; wtm_at "fo ts")); (case ke => (intro _ _ _ _ _; wtm_at "fo e")))
  | (refine' ps_setLcO (i := 14) (by assumption) (by exact rfl) (by exact rfl) (by wtm_at "fo own") (by decide +kernel) rfl rfl rfl (sw_true rfl rfl rfl (by decide +kernel)) ?ki ?kg ?kt ?ke; (case ki => wtm_at "fo i"); (case kg => (intro _ _ _ _ _; wtm_at "fo g")); (case kt => (intro _ _ _ _ _; wtm_at "fo ts")); (case ke => (intro _ _ _ _ _; wtm_at "fo e")))
  | (refine' ps_setLcO (i := 15) (by assumption) (by exact rfl) (by exact rfl) (by wtm_at "fo own") (by decide +kernel) rfl rfl rfl (sw_true rfl rfl rfl (by decide +kernel)) ?ki ?kg ?kt ?ke; (case ki => wtm_at "fo i"); (case kg => (intro _ _ _ _ _; wtm_at "fo g")); (case kt => (intro _ _ _ _ _; wtm_at "fo ts")); (case ke => (intro _ _ _ _ _; wtm_at "fo e")))
  | fail "no")
local macro_rules | `(tactic| wtm_at "fo set") => `(tactic| first
  | (refine' ps_set (i := 0) (by assumption) rfl (by first | exact Or.inl rfl | exact Or.inr rfl) ?ka; (case ka => wtm_at "fo e"))
  | (refine' ps_set (i := 1) (by assumption) rfl (by first | exact Or.inl rfl | exact Or.inr rfl) ?ka; (case ka => wtm_at "fo e"))
  | (refine' ps_set (i := 2) (by assumption) rfl (by first | exact Or.inl rfl | exact Or.inr rfl) ?ka; (case ka => wtm_at "fo e"))
  | (refine' ps_set (i := 3) (by assumption) rfl (by first | exact Or.inl rfl | exact Or.inr rfl) ?ka; (case ka => wtm_at "fo e"))
  | (refine' ps_set (i := 4) (by assumption) rfl (by first | exact Or.inl rfl | exact Or.inr rfl) ?ka; (case ka => wtm_at "fo e"))
  | (refine' ps_set (i := 5) (by assumption) rfl (by first | exact Or.inl rfl | exact Or.inr rfl) ?ka; (case ka => wtm_at "fo e"))
  | (refine' ps_set (i := 6) (by assumption) rfl (by first | exact Or.inl rfl | exact Or.inr rfl) ?ka; (case ka => wtm_at "fo e"))
  | (refine' ps_set (i := 7) (by assumption) rfl (by first | exact Or.inl rfl | exact Or.inr rfl) ?ka; (case ka => wtm_at "fo e"))
  | (refine' ps_set (i := 8) (by assumption) rfl (by first | exact Or.inl rfl | exact Or.inr rfl) ?ka; (case ka => wtm_at "fo e"))
  | (refine' ps_set (i := 9) (by assumption) rfl (by first | exact Or.inl rfl | exact Or.inr rfl) ?ka; (case ka => wtm_at "fo e"))
  | (refine' ps_set (i := 10) (by assumption) rfl (by first | exact Or.inl rfl | exact Or.inr rfl) ?ka; (case ka => wtm_at "fo e"))
  | (refine' ps_set (i := 11) (by assumption) rfl (by first | exact Or.inl rfl | exact Or.inr rfl) ?ka; (case ka => wtm_at "fo e"))
  | (refine' ps_set (i := 12) (by assumption) rfl (by first | exact Or.inl rfl | exact Or.inr rfl) ?ka; (case ka => wtm_at "fo e"))
  | (refine' ps_set (i := 13) (by assumption) rfl (by first | exact Or.inl rfl | exact Or.inr rfl) ?ka; (case ka => wtm_at "fo e"))
  | fail "no")
local macro_rules | `(tactic| wtm_at "fo t") => `(tactic| first
  | ((with_reducible show PT _ (.BoolOp _ _ _) _); apply PW.pt; wtm_at "fo w")
  | ((with_reducible show PT _ (.UnaryOp .Not _ _) _); apply pt_not; wtm_at "fo t")
  | ((with_reducible show PT _ (.Compare _ _ _ _) _); wtm_at "fo tcmp")
  | (refine' pt_truthK (by assumption) (by exact rfl) ?ka (by intro _; rfl); (case ka => wtm_at "fo e"))
  | fail "no")
local macro_rules | `(tactic| wtm_at "fo gn") => `(tactic| first
  | exact pg_name (i := 0) (by assumption) rfl (by first | exact Or.inl rfl | exact Or.inr rfl)
  | exact pg_name (i := 1) (by assumption) rfl (by first | exact Or.inl rfl | exact Or.inr rfl)
  | exact pg_name (i := 2) (by assumption) rfl (by first | exact Or.inl rfl | exact Or.inr rfl)
  | exact pg_name (i := 3) (by assumption) rfl (by first | exact Or.inl rfl | exact Or.inr rfl)
  | exact pg_name (i := 4) (by assumption) rfl (by first | exact Or.inl rfl | exact Or.inr rfl)
  | exact pg_name (i := 5) (by assumption) rfl (by first | exact Or.inl rfl | exact Or.inr rfl)
  | exact pg_name (i := 6) (by assumption) rfl (by first | exact Or.inl rfl | exact Or.inr rfl)
  | exact pg_name (i := 7) (by assumption) rfl (by first | exact Or.inl rfl | exact Or.inr rfl)
  | exact pg_name (i := 8) (by assumption) rfl (by first | exact Or.inl rfl | exact Or.inr rfl)
  | exact pg_name (i := 9) (by assumption) rfl (by first | exact Or.inl rfl | exact Or.inr rfl)
  | exact pg_name (i := 10) (by assumption) rfl (by first | exact Or.inl rfl | exact Or.inr rfl)
  | exact pg_name (i := 11) (by assumption) rfl (by first | exact Or.inl rfl | exact Or.inr rfl)
  | exact pg_name (i := 12) (by assumption) rfl (by first | exact Or.inl rfl | exact Or.inr rfl)
  | exact pg_name (i := 13) (by assumption) rfl (by first | exact Or.inl rfl | exact Or.inr rfl)
  | exact pg_name (i := 14) (by assumption) rfl (by first | exact Or.inl rfl | exact Or.inr rfl)
  | exact pg_name (i := 15) (by assumption) rfl (by first | exact Or.inl rfl | exact Or.inr rfl)
  | fail "no")
local macro_rules | `(tactic| wtm_at "fo par") => `(tactic| first
  | (refine' ps_par (i := 0) (j := 1) rfl (by assumption) rfl rfl (by decide) rfl rfl ?ka (by rfl); (case ka => wtm_at "fo a"))
  | (refine' ps_par (i := 1) (j := 2) rfl (by assumption) rfl rfl (by decide) rfl rfl ?ka (by rfl); (case ka => wtm_at "fo a"))
  | (refine' ps_par (i := 2) (j := 3) rfl (by assumption) rfl rfl (by decide) rfl rfl ?ka (by rfl); (case ka => wtm_at "fo a"))
  | (refine' ps_par (i := 3) (j := 4) rfl (by assumption) rfl rfl (by decide) rfl rfl ?ka (by rfl); (case ka => wtm_at "fo a"))
  | (refine' ps_par (i := 4) (j := 5) rfl (by assumption) rfl rfl (by decide) rfl rfl ?ka (by rfl); (case ka => wtm_at "fo a"))
  | (refine' ps_par (i := 5) (j := 6) rfl (by assumption) rfl rfl (by decide) rfl rfl ?ka (by rfl); (case ka => wtm_at "fo a"))
  | (refine' ps_par (i := 6) (j := 7) rfl (by assumption) rfl rfl (by decide) rfl rfl ?ka (by rfl); (case ka => wtm_at "fo a"))
  | (refine' ps_par (i := 7) (j := 8) rfl (by assumption) rfl rfl (by decide) rfl rfl ?ka (by rfl); (case ka => wtm_at "fo a"))
  | (refine' ps_par (i := 8) (j := 9) rfl (by assumption) rfl rfl (by decide) rfl rfl ?ka (by rfl); (case ka => wtm_at "fo a"))
  | (refine' ps_par (i := 9) (j := 10) rfl (by assumption) rfl rfl (by decide) rfl rfl ?ka (by rfl); (case ka => wtm_at "fo a"))
  | (refine' ps_par (i := 10) (j := 11) rfl (by assumption) rfl rfl (by decide) rfl rfl ?ka (by rfl); (case ka => wtm_at "fo a"))
  | (refine' ps_par (i := 11) (j := 12) rfl (by assumption) rfl rfl (by decide) rfl rfl ?ka (by rfl); (case ka => wtm_at "fo a"))
  | (refine' ps_par (i := 12) (j := 13) rfl (by assumption) rfl rfl (by decide) rfl rfl ?ka (by rfl); (case ka => wtm_at "fo a"))
  | (refine' ps_par (i := 13) (j := 14) rfl (by assumption) rfl rfl (by decide) rfl rfl ?ka (by rfl); (case ka => wtm_at "fo a"))
  | (refine' ps_par (i := 14) (j := 15) rfl (by assumption) rfl rfl (by decide) rfl rfl ?ka (by rfl); (case ka => wtm_at "fo a"))
  | fail "no")
local macro_rules | `(tactic| wtm_at "fo g") => `(tactic| first
  | ((with_reducible show PG _ (.Name _ _) _); wtm_at "fo gn")
  | ((with_reducible show PG _ (.Tuple _ _ _) _); apply PG_or; (· refine' pg_tup2 (by assumption) (by exact rfl) rfl ?kg; (case kg => wtm_at "fo gs")); (· refine' pg_unl2 (by assumption) (by exact rfl) rfl ?kg; (case kg => wtm_at "fo gs")))
  | fail "no")
local macro_rules | `(tactic| wtm_at "fo gs") => `(tactic| first
  | exact pgs_nil
  | (refine' pgs_cons ?k1 ?k2; (case k1 => wtm_at "fo g"); (case k2 => wtm_at "fo gs"))
  | fail "no")
local macro_rules | `(tactic| wtm_at "fo i") => `(tactic| first
  | ((with_reducible show PI _ _ (.Call (.Name (Str.ofString "range") _) [_] _ _) _); refine' pi_range1 (by rfl) (by assumption) ?ka; (case ka => wtm_at "fo a"))
  | ((with_reducible show PI _ _ (.Call (.Name (Str.ofString "range") _) [_, _] _ _) _); refine' pi_range2 (by rfl) (by assumption) ?ka; (case ka => wtm_at "fo a"))
  | ((with_reducible show PI _ _ (.Call (.Name (Str.ofString "enumerate") _) [_] _ _) _); refine' pi_enum (by rfl) (by assumption) ?ka; (case ka => wtm_at "fo a"))
  | (refine' pi_listK (by assumption) (by exact rfl) ?ka; (case ka => wtm_at "fo e"))
  | fail "no")
local macro_rules | `(tactic| wtm_at "fo s") => `(tactic| first
  | ((with_reducible show PS _ (.While _ _ _ _) _); refine' ps_while PassesOwn.never ?kt ?kb; (case kt => wtm_at "fo t"); (case kb => wtm_at "fo ss"))
  | ((with_reducible show PS _ (.For _ _ _ _ _) _); refine' ps_for PassesOwn.never rfl ?ki ?kg ?kb; (case ki => wtm_at "fo i"); (case kg => wtm_at "fo g"); (case kb => wtm_at "fo ss"))
  | ((with_reducible show PS _ (.Assign [.Name _ _] (.ListComp _ [_] _ _) _) _); wtm_at "fo setlc")
  | ((with_reducible show PS _ (.Assign [.Name _ _] _ _) _); wtm_at "fo set")
  | ((with_reducible show PS _ (.Assign [.Tuple [.Name _ _, .Name _ _] _ _] (.Tuple [_, _] _ _) _) _); wtm_at "fo par")
  | ((with_reducible show PS _ (.Assign [.Subscript _ _ _] _ _) _); refine' ps_asg ?ka (pg_sub ?kb ?kc set_list); (case ka => wtm_at "fo e"); (case kb => wtm_at "fo e"); (case kc => wtm_at "fo e"))
  | ((with_reducible show PS _ (.Return (some _) _) _); apply ps_ret; wtm_at "fo e")
  | ((with_reducible show PS _ (.Expr _ _) _); refine' ps_expr ?ka; (case ka => wtm_at "fo e"))
  | ((with_reducible show PS _ (.If _ _ _ _) _); apply ps_if; (· wtm_at "fo t"); (· wtm_at "fo ss"); (· wtm_at "fo ss"))
  | fail "no")
local macro_rules | `(tactic| wtm_at "fo ss") => `(tactic| first
  | with_reducible exact pss_nil
  | ((with_reducible show PSs _ [_] _); apply pss_one; wtm_at "fo s")
  | (apply pss_cons; (· wtm_at "fo s"); (· wtm_at "fo ss"))
  | fail "no")
local macro_rules | `(tactic| wtm_at "fo hp") => `(tactic| first
  | assumption
  | exact upd_same
  | (refine (upd_ne ?ne).trans ?hp; (case ne => wtm_at "fo ne"); (case hp => wtm_at "fo hp"))
  | fail "no")
local macro_rules | `(tactic| wtm_at "fo ne") => `(tactic| first
  | assumption
  | (apply Ne.symm; assumption)
  | exact ne_of_none (by assumption) (by assumption)
  | exact Ne.symm (ne_of_none (by assumption) (by assumption))
  | fail "no")
local macro_rules | `(tactic| wtm_at "fo sz") => `(tactic| first
  | exact (Nat.le_of_ble_eq_true rfl : _ ≤ sizeLine)
  | exact (Nat.le_of_ble_eq_true rfl : _ < sizeLine)
  | exact Nat.lt_of_le_of_lt (m := 100000) (by first | assumption | omega | (simp; omega)) (by decide)
  | exact Nat.le_trans (m := 100000) (by first | assumption | omega | (simp; omega)) (by decide)
  | fail "no")
local macro_rules | `(tactic| wtm_at "fo r1") => `(tactic| first
  | refine ⟨(Nat.le_of_ble_eq_true rfl : _ ≤ sizeLine), fun p np => ?_⟩
  | (refine' ⟨_, _, rfl, Or.inl (SqL.of ?h), ?_⟩; (case h => wtm_at "fo hp"))
  | refine ⟨_, rfl, ?_⟩
  | refine ⟨_, _, rfl, rfl, ?_⟩
  | refine ⟨_, _, rfl, ⟨by omega, by omega, by omega, by omega⟩, ?_⟩
  | refine ⟨_, rfl, by omega, by omega, ?_⟩
  | refine Or.inl ⟨_, rfl, ?_⟩
  | refine Or.inl ⟨rfl, ?_⟩
  | refine Or.inl ⟨_, _, rfl, rfl, ?_⟩
  | (refine' Or.inl ⟨_, _, _, _, rfl, rfl, SqL.of ?h, ?a, ?_⟩; (case h => wtm_at "fo hp"); (case a => rfl))
  | (refine' ⟨_, _, _, _, rfl, rfl, ?h, ?a, ?_⟩; (case h => wtm_at "fo hp"); (case a => rfl))
  | (refine' ⟨.inl ⟨rfl, _, SqL.of ?h⟩, ?_⟩; (case h => wtm_at "fo hp"))
  | (refine' ⟨_, _, _, rfl, rfl, ?h, ?z, ?_⟩; (case h => wtm_at "fo hp"); (case z => wtm_at "fo sz"))
  | (refine' ⟨_, rfl, ⟨_, SqL.of ?h⟩, ?_⟩; (case h => wtm_at "fo hp"))
  | fail "no")
local macro_rules | `(tactic| wtm_at "fo side") => `(tactic| ((try dsimp only [CMul, CDiv]); first
  | assumption
  | decide
  | omega
  | exact ⟨by decide, by decide⟩
  | exact ⟨by omega, by omega⟩
  | decide +kernel
  | fail "no"))
local macro_rules | `(tactic| wtm_at "fo r2") => `(tactic| first
  | wtm_at "fo r1"
  | refine And.intro (by wtm_at "fo side") ?_
  | fail "no")
local macro_rules | `(tactic| wtm_at "fo r") => `(tactic| repeat wtm_at "fo r2")
@[irreducible] def spLProd : Sp := fun vs H Q _ => ∃ (q1 q2 : Addr) (n m : Nat) (es fs : List Edge), vs = [.int n, .ref q1, .int m, .ref q2] ∧ 1 ≤ n ∧ 1 ≤ m ∧ n * m ≤ 12 ∧ n ≤ 12 ∧ m ≤ 12 ∧ Pairs H q1 es ∧ Simp n es ∧ es.length ≤ 200 ∧ Pairs H q2 fs ∧ Simp m fs ∧ fs.length ≤ 200 ∧
  ∀ p l H', Same H H' → H p = none → H l = none → H' p = some (.tup [.int (n * m : Nat), .ref l]) → Pairs H' l (prodM n es m fs) → Q (.ref p) H'
theorem call_lprod {q1 q2 : Addr} {n m : Nat} {es fs : List Edge} {H : Hp} {Q : VK} {E : XK} (h1 : 1 ≤ n) (h2 : 1 ≤ m) (h3 : n * m ≤ 12) (h4 : n ≤ 12) (h5 : m ≤ 12) (a1 : Pairs H q1 es) (a2 : Simp n es) (a3 : es.length ≤ 200) (b1 : Pairs H q2 fs) (b2 : Simp m fs) (b3 : fs.length ≤ 200)
    (fin : ∀ p l H', Same H H' → H p = none → H l = none → H' p = some (.tup [.int (n * m : Nat), .ref l]) → Pairs H' l (prodM n es m fs) → Q (.ref p) H') : spLProd [.int n, .ref q1, .int m, .ref q2] H Q E := by
  unfold spLProd
  exact ⟨q1, q2, n, m, es, fs, rfl, h1, h2, h3, h4, h5, a1, a2, a3, b1, b2, b3, fin⟩
variable {P : Program} {w : World} {K : PySem.W.Frag} {mg : Str → Option Value} {base : Heap}
set_option maxHeartbeats 8000000 in
theorem ok_lprod {f : Addr} {fd : FuncData} (F : Fun K "_law_product" "_law_product" s_law_product f fd) (mr : mg "range" = none) (me : mg "enumerate" = none)
    (C1 : Cal P w K mg base "_law_near" 1 ["_law_size", "_law_sides"] spNear) :
    FnOk P w K mg base CX0 2 f fd ["_law_size", "_law_sides", "_law_far", "_law_bars"] spLProd := by
  refine F.ok sc_law_product (fun vs H Q E h => ?_) (fun cdv A outer s H vs Q E hr h => ?_)
  · unfold spLProd at h
    obtain ⟨q1, q2, n, m, es, fs, rfl, _⟩ := h
    rfl
  · have nd := sc_law_product.nd
    have hS := sc_law_product
    have hKM : KMark K := ⟨⟩
    refine' mk_body ?body ?rd
    case body =>
      show PSs _ [_, _, _, _, _, _] _
      wtm_at "fo ss"
    case rd =>
     unfold spLProd at h
     obtain ⟨q1, q2, n, m, es, fs, rfl, h1, h2, h3, h4, h5, a1, a2, a3, b1, b2, b3, fin⟩ := h
     wtm_at "fo r"
     refine call_near h4 a1 a3 (fun e he => by have := a2.rng e he; omega) (fun p1 H1 sm1 np1 hL1 => ?_)
     wtm_at "fo r"
     refine call_near h5 (b1.same sm1) b3 (fun e he => by have := b2.rng e he; omega) (fun p2 H2 sm2 np2 hL2 => ?_)
     wtm_at "fo r"
     refine ⟨_, _, rfl, ?_⟩
     obtain ⟨ra, hD1, _, hal, hat1⟩ := hL1
     obtain ⟨rb, hD2, _, hbl, hat2⟩ := hL2
     wtm_at "fo r"
     rename_i s0 ns0
     have hN : ((n : Int) + 1 - 1).toNat = n := by omega
     have hM : ((m : Int) + 1 - 1).toNat = m := by omega
     refine for_range (fun i σ H4 => ∃ sp rs y7, σ = [some (.int n), some (.ref q1), some (.int m), some (.ref q2), some (.ref p1), some (.ref p2), some (.ref sp), y7, none, none, none, none, none, none] ∧
       TsAt H4 sp rs ((List.range i).flatMap fun (a : Nat) => (List.range m).map fun (b : Nat) => ((a : Int) + 1, (b : Int) + 1)) ∧ Same H2 H4 ∧ i ≤ n) ?_ ?_ ?_
     · exact ⟨s0, [], none, rfl, TsAt.nil upd_same, same_upd (Same.refl _) ns0, Nat.zero_le _⟩
     · rintro i σ H4 hi ⟨sp, rs, y7, rfl, hp4, sm4, hin⟩
       rw [hN] at hi
       wtm_at "fo r"
       refine fun D nD => ?_
       refine lc_range (fun j H5 => j ≤ m ∧ Same H4 H5 ∧ ∃ rs3, TsAt H5 D rs3 ((List.range j).map fun (b : Nat) => ((i : Int) + 1, (b : Int) + 1))) ?_ ?_ ?_
       · exact ⟨Nat.zero_le _, same_upd (Same.refl _) nD, [], TsAt.nil upd_same⟩
       · rintro j H5 hj ⟨hjm, sm5, rs3, hp5⟩
         rw [hM] at hj
         refine ⟨rfl, ?_⟩
         wtm_at "fo r"
         rename_i r nr
         refine ⟨rs3.map V.ref, ?_, ?_, by omega, same_upd (same_upd sm5 (sm5.free nr)) nD, rs3 ++ [r], ?_⟩
         · rw [upd_ne (ne_of_none hp5.hD nr)]
           exact hp5.hD
         · rw [List.length_map, hp5.len, List.length_map, List.length_range]
           exact Nat.lt_of_le_of_lt (m := 100) (by omega) (by decide)
         · have hpp := hp5.push nr ((1 : Int) + i, (1 : Int) + j)
           rw [List.range_succ, List.map_append]
           rw [show (1 : Int) + (i : Int) = (i : Int) + 1 by omega, show (1 : Int) + (j : Int) = (j : Int) + 1 by omega] at hpp
           refine Eq.mp ?_ hpp
           rw [show (1 : Int) + (i : Int) = (i : Int) + 1 by omega, show (1 : Int) + (j : Int) = (j : Int) + 1 by omega]
           rfl
       · rintro H5 ⟨hjm, sm5, rs3, hp5⟩
         rw [hM] at hp5
         have hp6 := hp4.same sm5
         have hlen : ((List.range i).flatMap fun (a : Nat) => (List.range m).map fun (b : Nat) => ((a : Int) + 1, (b : Int) + 1)).length ≤ 200 := by
           have := partsM_length i m
           unfold partsM at this
           rw [this]
           have : i * m ≤ n * m := Nat.mul_le_mul_right m (by omega)
           omega
         refine Or.inr ⟨sp, D, rs.map V.ref, rs3.map V.ref, rfl, rfl, hp6.hD, hp5.hD, ?_, fun c nc => ?_⟩
         · rw [List.length_map, List.length_map, hp4.len, hp5.len, List.length_map, List.length_range]
           exact Nat.le_trans (m := 1000) (by omega) (by decide)
         have hp7 := hp6.cat hp5 nc
         refine ⟨c, rs ++ rs3, _, rfl, ?_, same_upd (sm4.trans sm5) ((sm4.trans sm5).free nc), by omega⟩
         rw [range_flat]
         exact hp7
     · rintro σ H4 ⟨sp, rs, y7, rfl, hp4, sm4, hin⟩
       rw [hN] at hp4
       have hp4' : TsAt H4 sp rs (partsM n m) := hp4
       have hpl : rs.length = n * m := by rw [hp4'.len, partsM_length]
       wtm_at "fo r"
       rename_i t0 nt0
       have hs4 := hp4'.hD
       have hst : sp ≠ t0 := ne_of_none hs4 nt0
       have sm5 : Same H4 (upd H4 t0 (.lst [])) := same_upd (Same.refl _) nt0
       let row : Nat → List Edge := fun i => (List.range (partsM n m).length).filterMap fun j => joinM es fs (partsM n m) i j
       have hrow : ∀ i, (row i).length ≤ 12 := fun i => by
         refine Nat.le_trans (List.length_filterMap_le ..) ?_
         rw [List.length_range, partsM_length]
         exact h3
       have hflat : ∀ i, ((List.range i).flatMap row).length ≤ 12 * i := fun i => by
         induction i with
         | zero => simp
         | succ i ih =>
           rw [range_flat, List.length_append]
           have := hrow i
           omega
       have hpl2 : (partsM n m).length = n * m := partsM_length n m
       refine ⟨sp, rs.map V.ref, rfl, SqL.of (sm5 _ _ hs4), ?_⟩
       refine for_enum (K := K) (xs := rs.map V.ref) (fun i σ H5 => ∃ rt y10 y11 y12 y13, σ = [some (.int n), some (.ref q1), some (.int m), some (.ref q2), some (.ref p1), some (.ref p2), some (.ref sp), y7, none, some (.ref t0), y10, y11, y12, y13] ∧
         PsAt H5 t0 rt ((List.range i).flatMap row) ∧ Same H4 H5) ?_ ?_ ?_ ?_
       · exact ⟨[], none, none, none, none, rfl, PsAt.nil upd_same, sm5⟩
       · rintro i σ H5 _ ⟨rt, y10, y11, y12, y13, rfl, hp5, smA⟩
         exact SqL.of (smA _ _ hs4)
       · rintro i x T σ H5 hx ⟨rt, y10, y11, y12, y13, rfl, hp5, smA⟩ nT
         obtain ⟨ri, hri, rfl⟩ := ref_at hx
         have hi : i < (partsM n m).length := by rw [← hp4'.len]; exact (List.getElem?_eq_some_iff.mp hri).1
         have hpi : (partsM n m)[i]? = some (partsM n m)[i] := List.getElem?_eq_getElem hi
         have hti := hp4'.at_ i ri _ hri hpi
         have hrgi := partsM_rng (List.getElem_mem hi)
         generalize hxi : (partsM n m)[i] = xi at *
         have smT : Same H4 (upd H5 T (.tup [.int (i : Nat), .ref ri])) := same_upd smA (smA.free nT)
         refine Or.inl ⟨T, [.int (i : Nat), .ref ri], rfl, SqT.of upd_same, rfl, .int (i : Nat), [.ref ri], rfl, .ref ri, [], rfl, rfl, ?_⟩
         wtm_at "fo r"
         refine ⟨sp, rs.map V.ref, rfl, SqL.of (smT _ _ hs4), ?_⟩
         refine for_enum (K := K) (xs := rs.map V.ref) (fun j σ H6 => ∃ rt y12 y13, σ = [some (.int n), some (.ref q1), some (.int m), some (.ref q2), some (.ref p1), some (.ref p2), some (.ref sp), y7, none, some (.ref t0), some (.int (i : Nat)), some (.ref ri), y12, y13] ∧
           PsAt H6 t0 rt ((List.range i).flatMap row ++ (List.range j).filterMap fun j => joinM es fs (partsM n m) i j) ∧ Same H4 H6) ?_ ?_ ?_ ?_
         · refine ⟨rt, y12, y13, rfl, ?_, smT⟩
           rw [List.range_zero, List.filterMap_nil, List.append_nil]
           exact hp5.same (same_upd (Same.refl _) nT)
         · rintro j σ H6 _ ⟨rt, y12, y13, rfl, hp6, smB⟩
           exact SqL.of (smB _ _ hs4)
         · rintro j x T2 σ H6 hx2 ⟨rt, y12, y13, rfl, hp6, smB⟩ nT2
           obtain ⟨rj, hrj, rfl⟩ := ref_at hx2
           have hj : j < (partsM n m).length := by rw [← hp4'.len]; exact (List.getElem?_eq_some_iff.mp hrj).1
           have hpj : (partsM n m)[j]? = some (partsM n m)[j] := List.getElem?_eq_getElem hj
           have htj := hp4'.at_ j rj _ hrj hpj
           have hrgj := partsM_rng (List.getElem_mem hj)
           generalize hxj : (partsM n m)[j] = xj at *
           obtain ⟨xa, xb⟩ := xi
           obtain ⟨ya, yb⟩ := xj
           simp only at hti htj hrgi hrgj
           have smC : Same H4 (upd H6 T2 (.tup [.int (j : Nat), .ref rj])) := same_upd smB (smB.free nT2)
           have hp7 := hp6.same (same_upd (o := HO.tup [.int (j : Nat), .ref rj]) (Same.refl _) nT2)
           have hjo : joinM es fs (partsM n m) i j = if i < j ∧ ya ∈ xa :: mates xa es ∧ yb ∈ xb :: mates xb fs then some ((i : Int) + 1, (j : Int) + 1) else none := by
             unfold joinM
             rw [hpi, hpj]
           have stay : ¬ (i < j ∧ ya ∈ xa :: mates xa es ∧ yb ∈ xb :: mates xb fs) → PsAt (upd H6 T2 (.tup [.int (j : Nat), .ref rj])) t0 rt ((List.range i).flatMap row ++ (List.range (j + 1)).filterMap fun j => joinM es fs (partsM n m) i j) := fun hno => by
             rw [range_fm, hjo, if_neg hno]
             simpa using hp7
           have n1 := near_get a2 (p := xa.toNat) (by omega) (by omega)
           have n2 := near_get b2 (p := xb.toNat) (by omega) (by omega)
           rw [show ((xa.toNat : Nat) : Int) = xa by omega] at n1
           rw [show ((xb.toNat : Nat) : Int) = xb by omega] at n2
           have ga : ra[xa.toNat]? = some (ra[xa.toNat]'(by rw [hal]; exact (List.getElem?_eq_some_iff.mp n1).1)) := List.getElem?_eq_getElem _
           have gb : rb[xb.toNat]? = some (rb[xb.toNat]'(by rw [hbl]; exact (List.getElem?_eq_some_iff.mp n2).1)) := List.getElem?_eq_getElem _
           have la := smC _ _ (sm4 _ _ (sm2 _ _ (hat1 _ _ _ ga n1)))
           have lb := smC _ _ (sm4 _ _ (hat2 _ _ _ gb n2))
           have da := smC _ _ (sm4 _ _ (sm2 _ _ hD1))
           have db := smC _ _ (sm4 _ _ hD2)
           have hrj6 := smC _ _ htj
           have hri6 := smC _ _ hti
           refine Or.inl ⟨T2, [.int (j : Nat), .ref rj], rfl, SqT.of upd_same, rfl, .int (j : Nat), [.ref rj], rfl, .ref rj, [], rfl, rfl, ?_⟩
           wtm_at "fo r"
           refine ite2 (fun hc => ?_) (fun hc => ?_)
           · have hij : i < j := by have := of_decide_eq_true hc; omega
             refine ⟨_, rfl, Or.inr (Or.inl ⟨rj, _, 0, .int ya, rfl, rfl, SqT.of hrj6, rfl, ?_⟩)⟩
             refine ⟨_, rfl, _, rfl, Or.inr (Or.inl ⟨ri, _, 0, .int xa, rfl, rfl, SqT.of hri6, rfl, ?_⟩)⟩
             refine Or.inl ⟨p1, ra.map V.ref, xa, .ref _, rfl, rfl, SqL.of da, at_of (j := xa.toNat) (by omega) (by rw [List.getElem?_map, ga]; rfl), ?_⟩
             refine ⟨_, _, rfl, .inl (SqL.of la), rfl, flat_ints _, _, rfl, ?_⟩
             by_cases hm1 : ya ∈ xa :: mates xa es
             · refine ifT (by show inV (.int ya) ((xa :: mates xa es).map V.int) = true; rw [inV_ints]; exact decide_eq_true hm1) ?_
               refine ⟨_, rfl, Or.inr (Or.inl ⟨rj, _, 1, .int yb, rfl, rfl, SqT.of hrj6, rfl, ?_⟩)⟩
               refine ⟨_, rfl, _, rfl, Or.inr (Or.inl ⟨ri, _, 1, .int xb, rfl, rfl, SqT.of hri6, rfl, ?_⟩)⟩
               refine Or.inl ⟨p2, rb.map V.ref, xb, .ref _, rfl, rfl, SqL.of db, at_of (j := xb.toNat) (by omega) (by rw [List.getElem?_map, gb]; rfl), ?_⟩
               refine ⟨_, _, rfl, .inl (SqL.of lb), rfl, flat_ints _, _, rfl, ?_⟩
               by_cases hm2 : yb ∈ xb :: mates xb fs
               · refine ifT (by show inV (.int yb) ((xb :: mates xb fs).map V.int) = true; rw [inV_ints]; exact decide_eq_true hm2) ?_
                 have hpD := hp7.hD
                 wtm_at "fo r"
                 rename_i r nr
                 have hD9 : (upd (upd H6 T2 (.tup [.int (j : Nat), .ref rj])) r (.lst [.int ((i : Int) + 1), .int ((j : Int) + 1)])) t0 = some (.lst (rt.map V.ref)) := by
                   rw [upd_ne (ne_of_none hpD nr)]
                   exact hpD
                 have hpp := hp7.push nr ((i : Int) + 1, (j : Int) + 1)
                 refine ⟨t0, _, _, rfl, rfl, hD9, ?_, rt ++ [r], _, _, rfl, ?_, ?_⟩
                 · rw [List.length_map, hp6.len, List.length_append]
                   have e1 := hflat i
                   have e2 : ((List.range j).filterMap fun j => joinM es fs (partsM n m) i j).length ≤ j := by
                     refine Nat.le_trans (List.length_filterMap_le ..) ?_
                     rw [List.length_range]
                     exact Nat.le_refl _
                   have : n * m ≤ 12 := h3
                   exact Nat.lt_of_le_of_lt (m := 1000) (by omega) (by decide)
                 · rw [range_fm, hjo, if_pos ⟨hij, hm1, hm2⟩, ← List.append_assoc]
                   exact hpp
                 · have nt4 : H4 t0 = none := nt0
                   exact same_upd (same_upd smC (smC.free nr)) nt4
               · refine ifF (by show inV (.int yb) ((xb :: mates xb fs).map V.int) = false; rw [inV_ints]; exact decide_eq_false hm2) ?_
                 exact ⟨rt, _, _, rfl, stay (fun h => hm2 h.2.2), smC⟩
             · refine ifF (by show inV (.int ya) ((xa :: mates xa es).map V.int) = false; rw [inV_ints]; exact decide_eq_false hm1) ?_
               exact ⟨rt, _, _, rfl, stay (fun h => hm1 h.2.1), smC⟩
           · have hij : ¬ i < j := fun h => hc (decide_eq_true (by omega))
             exact ⟨rt, _, _, rfl, stay (fun h => hij h.1), smC⟩
         · rintro σ H6 ⟨rt, y12, y13, rfl, hp6, smB⟩
           rw [List.length_map, hpl, ← hpl2] at hp6
           refine ⟨rt, _, _, _, _, rfl, ?_, smB⟩
           rw [range_flat]
           exact hp6
       · rintro σ H5 ⟨rt, y10, y11, y12, y13, rfl, hp5, smA⟩
         rw [List.length_map, hpl, ← hpl2] at hp5
         wtm_at "fo r"
         rename_i p np
         have smZ := (((sm1.trans sm2).trans sm4).trans smA)
         have np0 : H p = none := smZ.free np
         have nt00 : H t0 = none := ((sm1.trans sm2).trans sm4).free nt0
         refine fin p t0 _ (same_upd smZ np0) np0 nt00 ?_ ((hp5.same (same_upd (Same.refl _) np)).pairs)
         rw [Int.natCast_mul]
         exact upd_same

end Fo

/-! piece D9m -/
namespace Fo
open PySem PySem.Spec PyProof.Rows L2
/-! ### the product's promise, as the law asks it -/
@[irreducible] def spProd : Sp := fun vs H Q _ => ∃ (q1 q2 : Addr) (n m : Nat) (es fs : List Edge), vs = [.int n, .ref q1, .int m, .ref q2] ∧ 1 ≤ n ∧ 1 ≤ m ∧ n * m ≤ 12 ∧ n ≤ 12 ∧ m ≤ 12 ∧ Pairs H q1 es ∧ Simp n es ∧ es.length ≤ 200 ∧ Pairs H q2 fs ∧ Simp m fs ∧ fs.length ≤ 200 ∧
  ∀ p l rs H', Same H H' → H p = none → H l = none → H' p = some (.tup [.int (n * m : Nat), .ref l]) → PsAt H' l rs (prodM n es m fs) → rs.Nodup → (∀ r ∈ rs, H r = none) → Q (.ref p) H'
theorem call_prod {q1 q2 : Addr} {n m : Nat} {es fs : List Edge} {H : Hp} {Q : VK} {E : XK} (h1 : 1 ≤ n) (h2 : 1 ≤ m) (h3 : n * m ≤ 12) (h4 : n ≤ 12) (h5 : m ≤ 12) (a1 : Pairs H q1 es) (a2 : Simp n es) (a3 : es.length ≤ 200) (b1 : Pairs H q2 fs) (b2 : Simp m fs) (b3 : fs.length ≤ 200)
    (fin : ∀ p l rs H', Same H H' → H p = none → H l = none → H' p = some (.tup [.int (n * m : Nat), .ref l]) → PsAt H' l rs (prodM n es m fs) → rs.Nodup → (∀ r ∈ rs, H r = none) → Q (.ref p) H') : spProd [.int n, .ref q1, .int m, .ref q2] H Q E := by
  unfold spProd
  exact ⟨q1, q2, n, m, es, fs, rfl, h1, h2, h3, h4, h5, a1, a2, a3, b1, b2, b3, fin⟩
def g4 {α : Type} : List α → List α → List α := fun us ws => match us, ws with
  | [], [a, b, c, d] => [d, c, b, a]
  | _, _ => []
theorem prodM_rng {n m : Nat} {es fs : List Edge} {e : Edge} (h : e ∈ prodM n es m fs) : 1 ≤ e.1 ∧ e.1 ≤ (n * m : Nat) ∧ 1 ≤ e.2 ∧ e.2 ≤ (n * m : Nat) := by
  unfold prodM at h
  obtain ⟨i, hi, h2⟩ := List.mem_flatMap.mp h
  obtain ⟨j, hj, h3⟩ := List.mem_filterMap.mp h2
  have hi' := List.mem_range.mp hi
  have hj' := List.mem_range.mp hj
  rw [partsM_length] at hi' hj'
  unfold joinM at h3
  split at h3
  · split at h3
    · cases h3
      simp only
      omega
    · cases h3
  · cases h3
theorem prodM_length {n m : Nat} {es fs : List Edge} (h : n * m ≤ 12) : (prodM n es m fs).length ≤ 144 := by
  unfold prodM
  have h1 : ∀ k, ((List.range k).flatMap fun i => (List.range (partsM n m).length).filterMap fun j => joinM es fs (partsM n m) i j).length ≤ 12 * k := fun k => by
    induction k with
    | zero => simp
    | succ k ih =>
      rw [range_flat, List.length_append]
      have : ((List.range (partsM n m).length).filterMap fun j => joinM es fs (partsM n m) k j).length ≤ 12 := by
        refine Nat.le_trans (List.length_filterMap_le ..) ?_
        rw [List.length_range, partsM_length]
        exact h
      omega
  have := h1 (partsM n m).length
  rw [partsM_length] at this ⊢
  omega
/-- the datum of a net with its number of places; two nets' lines together -/
def dP (n : Nat) (es : List Edge) : PyData := .tuple [.int n, dE es]
theorem dok_dP {n : Nat} {es : List Edge} (hn : n ≤ 200) (hl : es.length ≤ 200) (h : ∀ e ∈ es, e.1.natAbs < 1000 ∧ e.2.natAbs < 1000) : DOk 3 10000 (dP n es) := by
  have h1 := dok_dE h
  refine (dok_tuple (n := 2) (b := 4410) (xs := [.int n, dE es]) (fun x hx => ?_)).mono (Nat.le_refl _) (by simp)
  simp only [List.mem_cons, List.not_mem_nil, or_false] at hx
  rcases hx with rfl | rfl
  · exact (dok_int (by omega)).mono (by decide) (by decide)
  · exact h1.mono (Nat.le_refl _) (by omega)
theorem dok_nets {es fs : List Edge} (h1 : es.length ≤ 200) (h2 : fs.length ≤ 200) (a : ∀ e ∈ es, e.1.natAbs < 1000 ∧ e.2.natAbs < 1000) (b : ∀ e ∈ fs, e.1.natAbs < 1000 ∧ e.2.natAbs < 1000) : DOk 3 10000 (.list [dE es, dE fs]) := by
  refine (dok_list (n := 2) (b := 4410) (xs := [dE es, dE fs]) (fun x hx => ?_)).mono (Nat.le_refl _) (by simp)
  simp only [List.mem_cons, List.not_mem_nil, or_false] at hx
  rcases hx with rfl | rfl
  · exact (dok_dE a).mono (Nat.le_refl _) (by omega)
  · exact (dok_dE b).mono (Nat.le_refl _) (by omega)
theorem dp_dP {K : PySem.W.Frag} {H : Hp} {p l : Addr} {n : Nat} {es : List Edge} (hp : H p = some (.tup [.int n, .ref l])) (hl : Pairs H l es) : Dp K H (.ref p) (dP n es) :=
  .tup (SqT.of hp) (.cons (.int _) (.cons (dp_dE hl) .nil))
section
variable {X : Cx} {K : PySem.W.Frag} {o a : Expr} {apos cpos : Pos} {to : TE} {t : TA}
theorem pe_cntK (_ : KMark K) (h : X.K = K) (ho : PE X o to) (ha : PA X [a] t) (hbase : attributeBase o "count" X.env (eval o X.env) = eval o X.env := by rfl)
    (hfew : ((backTo cpos (starEach [a] X.env)).all (fun x => !x.1) && (backToKw cpos (keywordEach [] X.env)).all (fun x => x.1.isSome)
      && decide (([a] : List Expr).length + ([] : List Keyword).length + (if ([] : List Keyword).isEmpty then 0 else 1) < 30)) = true := by rfl)
    (hline : (apos.endLine == cpos.line) = true := by rfl) (hs : starEach [a] X.env = (false, eval a X.env) :: starEach [] X.env := by rfl) (hplain : (backTo cpos (starEach [] X.env)).any (·.1) = false := by rfl) :
    PE X (.Call (.Attribute o "count" apos) [a] [] cpos) (tBM K "list" (rCnt K) to t) :=
  h ▸ pe_bm PySem.F.plainAttrs_list PySem.F.slot_list_count PySem.F.type_list_count mt_cnt ho ha hbase hfew hline hs hplain
end

end Fo

/-! piece D9 -/
namespace Fo
open PySem PySem.Spec PyProof.Rows L2
local macro_rules | `(tactic| wtm_at "fo a") => `(tactic| first
  | exact pa_nil
  | (refine' pa_cons ?k1 ?k2; (case k1 => wtm_at "fo e"); (case k2 => wtm_at "fo a"))
  | fail "no")
local macro_rules | `(tactic| wtm_at "fo v") => `(tactic| first
  | exact pv 0
  | exact pv 1
  | exact pv 2
  | exact pv 3
  | exact pv 4
  | exact pv 5
  | exact pv 6
  | exact pv 7
  | exact pv 8
  | exact pv 9
  | exact pv 10
  | exact pv 11
  | exact pv 12
  | exact pv 13
  | exact pv 14
  | exact pv 15
  | fail "no")
local macro_rules | `(tactic| wtm_at "fo e") => `(tactic| first
  | with_reducible exact pe_int
  | with_reducible exact pe_bl
  | with_reducible exact pe_non
  | with_reducible exact pe_str
  | ((with_reducible show PE _ (.Name _ _) _); wtm_at "fo v")
  | ((with_reducible show PE _ (.BinOp _ .Add _ _) _); apply pe_op opAddB <;> wtm_at "fo e")
  | ((with_reducible show PE _ (.BinOp _ .Sub _ _) _); apply pe_op op_sub <;> wtm_at "fo e")
  | ((with_reducible show PE _ (.BinOp _ .Mult _ _) _); apply pe_op op_mul <;> wtm_at "fo e")
  | ((with_reducible show PE _ (.BinOp _ .Mod _ _) _); apply pe_op op_mod <;> wtm_at "fo e")
  | ((with_reducible show PE _ (.BinOp _ .FloorDiv _ _) _); apply pe_op op_fdiv <;> wtm_at "fo e")
  | ((with_reducible show PE _ (.BinOp _ .Pow _ _) _); apply pe_op op_powW <;> wtm_at "fo e")
  | ((with_reducible show PE _ (.BinOp _ .LShift _ _) _); apply pe_op op_shl <;> wtm_at "fo e")
  | ((with_reducible show PE _ (.BinOp _ .RShift _ _) _); apply pe_op op_shr <;> wtm_at "fo e")
  | ((with_reducible show PE _ (.BinOp _ .BitAnd _ _) _); apply pe_op op_and <;> wtm_at "fo e")
  | ((with_reducible show PE _ (.List _ _) _); apply pe_lst; wtm_at "fo a")
  | ((with_reducible show PE _ (.Tuple _ _ _) _); apply pe_tup; wtm_at "fo a")
  | ((with_reducible show PE _ (.ListComp _ [_] _ _) _); wtm_at "fo lc")
  | ((with_reducible show PE _ (.IfExp _ _ _ _) _); apply pe_ifExp; (· wtm_at "fo t"); (· wtm_at "fo e"); (· wtm_at "fo e"))
  | ((with_reducible show PE _ (.UnaryOp .USub _ _) _); apply pe_un un_neg; wtm_at "fo e")
  | ((with_reducible show PE _ (.Call (.Name _ _) [] (_ :: _) _) _); wtm_at "fo kcall")
  | ((with_reducible show PE _ (.Call (.Name _ _) _ _ _) _); wtm_at "fo call")
  | ((with_reducible show PE _ (.Call (.Attribute _ _ _) _ _ _) _); wtm_at "fo meth")
  | ((with_reducible show PE _ (.Compare _ _ _ _) _); wtm_at "fo cmp")
  | ((with_reducible show PE _ (.Subscript _ (.Slice _ _ _ _) _) _); wtm_at "fo slice")
  | ((with_reducible show PE _ (.Subscript _ _ _) _); refine' pe_ix (ix_seqK (by assumption) (by exact rfl)) ?ka ?kb (fun _ _ => rfl); (case ka => wtm_at "fo e"); (case kb => wtm_at "fo e"))
  | fail "no")
local macro_rules | `(tactic| wtm_at "fo own") => `(tactic| first
  | ((show _ = [0]); kernel_rfl!)
  | ((show _ = [1]); kernel_rfl!)
  | ((show _ = [2]); kernel_rfl!)
  | ((show _ = [3]); kernel_rfl!)
  | ((show _ = [4]); kernel_rfl!)
  | ((show _ = [5]); kernel_rfl!)
  | ((show _ = [6]); kernel_rfl!)
  | ((show _ = [7]); kernel_rfl!)
  | ((show _ = [8]); kernel_rfl!)
  | ((show _ = [9]); kernel_rfl!)
  | ((show _ = [10]); kernel_rfl!)
  | ((show _ = [11]); kernel_rfl!)
  | ((show _ = [12]); kernel_rfl!)
  | ((show _ = [13]); kernel_rfl!)
  | ((show _ = [14]); kernel_rfl!)
  | ((show _ = [15]); kernel_rfl!)
  | ((show _ = [0, 1]); kernel_rfl!)
  | ((show _ = [1, 2]); kernel_rfl!)
  | ((show _ = [2, 3]); kernel_rfl!)
  | ((show _ = [3, 4]); kernel_rfl!)
  | ((show _ = [4, 5]); kernel_rfl!)
  | ((show _ = [5, 6]); kernel_rfl!)
  | ((show _ = [6, 7]); kernel_rfl!)
  | ((show _ = [7, 8]); kernel_rfl!)
  | ((show _ = [8, 9]); kernel_rfl!)
  | ((show _ = [9, 10]); kernel_rfl!)
  | ((show _ = [10, 11]); kernel_rfl!)
  | ((show _ = [11, 12]); kernel_rfl!)
  | ((show _ = [12, 13]); kernel_rfl!)
  | ((show _ = [13, 14]); kernel_rfl!)
  | ((show _ = [14, 15]); kernel_rfl!)
  | fail "no")
local macro_rules | `(tactic| wtm_at "fo ts") => `(tactic| first
  | exact pts_nil
  | (apply pts_one; wtm_at "fo t")
  | fail "no")
local macro_rules | `(tactic| wtm_at "fo lc") => `(tactic| first
  | (refine' pe_lcO (by assumption) (by exact rfl) (by exact rfl) (by wtm_at "fo own") (by decide +kernel) rfl ?ki ?kg ?kt ?ke; (case ki => wtm_at "fo i"); (case kg => (intro _ _ _ _ _; wtm_at "fo g")); (case kt => (intro _ _ _ _ _; wtm_at "fo ts")); (case ke => (intro _ _ _ _ _; wtm_at "fo e")))
  | fail "no")
local macro_rules | `(tactic| wtm_at "fo part") => `(tactic| first
  | exact po_none
  | (apply po_some; wtm_at "fo e")
  | fail "no")
local macro_rules | `(tactic| wtm_at "fo slice") => `(tactic| first
  | ((with_reducible show PE _ (.Subscript _ (.Slice _ _ none _) _) _); refine' pe_slice (sl_listK (by assumption) (by exact rfl)) ?ka ?kb ?kc; (case ka => wtm_at "fo e"); (case kb => wtm_at "fo part"); (case kc => wtm_at "fo part"))
  | ((with_reducible show PE _ (.Subscript _ (.Slice none none (some _) _) _) _); refine' pe_stepK (by assumption) (by exact rfl) ?ka ?kb; (case ka => wtm_at "fo e"); (case kb => wtm_at "fo e"))
  | fail "no")
local macro_rules | `(tactic| wtm_at "fo cmp") => `(tactic| first
  | ((with_reducible show PE _ (.Compare _ [.Lt] _ _) _); refine' pe_cmpR op_lt ?ka ?kb (nomark _); (case ka => wtm_at "fo e"); (case kb => wtm_at "fo e"))
  | ((with_reducible show PE _ (.Compare _ [.LtE] _ _) _); refine' pe_cmpR op_le ?ka ?kb (nomark _); (case ka => wtm_at "fo e"); (case kb => wtm_at "fo e"))
  | ((with_reducible show PE _ (.Compare _ [.Gt] _ _) _); refine' pe_cmpR op_gt ?ka ?kb (nomark _); (case ka => wtm_at "fo e"); (case kb => wtm_at "fo e"))
  | ((with_reducible show PE _ (.Compare _ [.GtE] _ _) _); refine' pe_cmpR op_ge ?ka ?kb (nomark _); (case ka => wtm_at "fo e"); (case kb => wtm_at "fo e"))
  | ((with_reducible show PE _ (.Compare _ [.Eq] _ _) _); refine' pe_cmpR (op_eqK (by assumption) (by exact rfl) (Room.units (by assumption))) ?ka ?kb (nomark _); (case ka => wtm_at "fo e"); (case kb => wtm_at "fo e"))
  | ((with_reducible show PE _ (.Compare _ [.NotEq] _ _) _); refine' pe_cmpR (op_neK (by assumption) (by exact rfl) (Room.units (by assumption))) ?ka ?kb (nomark _); (case ka => wtm_at "fo e"); (case kb => wtm_at "fo e"))
  | fail "no")
local macro_rules | `(tactic| wtm_at "fo tcmp") => `(tactic| first
  | ((with_reducible show PT _ (.Compare _ [.Lt] _ _) _); refine' pt_cmpR op_lt ?ka ?kb (nomark _); (case ka => wtm_at "fo e"); (case kb => wtm_at "fo e"))
  | ((with_reducible show PT _ (.Compare _ [.LtE] _ _) _); refine' pt_cmpR op_le ?ka ?kb (nomark _); (case ka => wtm_at "fo e"); (case kb => wtm_at "fo e"))
  | ((with_reducible show PT _ (.Compare _ [.Gt] _ _) _); refine' pt_cmpR op_gt ?ka ?kb (nomark _); (case ka => wtm_at "fo e"); (case kb => wtm_at "fo e"))
  | ((with_reducible show PT _ (.Compare _ [.GtE] _ _) _); refine' pt_cmpR op_ge ?ka ?kb (nomark _); (case ka => wtm_at "fo e"); (case kb => wtm_at "fo e"))
  | ((with_reducible show PT _ (.Compare _ [.Eq] _ _) _); refine' pt_cmpR (op_eqK (by assumption) (by exact rfl) (Room.units (by assumption))) ?ka ?kb (nomark _); (case ka => wtm_at "fo e"); (case kb => wtm_at "fo e"))
  | ((with_reducible show PT _ (.Compare _ [.NotEq] _ _) _); refine' pt_cmpR (op_neK (by assumption) (by exact rfl) (Room.units (by assumption))) ?ka ?kb (nomark _); (case ka => wtm_at "fo e"); (case kb => wtm_at "fo e"))
  | ((with_reducible show PT _ (.Compare _ [.In] _ _) _); refine' pt_cmpR (op_inK (by assumption) (by exact rfl)) ?ka ?kb rfl; (case ka => wtm_at "fo e"); (case kb => wtm_at "fo e"))
  | ((with_reducible show PT _ (.Compare _ [.NotIn] _ _) _); refine' pt_cmpR (op_notInK (by assumption) (by exact rfl)) ?ka ?kb rfl; (case ka => wtm_at "fo e"); (case kb => wtm_at "fo e"))
  | fail "no")
local macro_rules | `(tactic| wtm_at "fo w") => `(tactic| first
  | ((with_reducible show PW _ (.BoolOp .And [_] _) _); apply pw_and1; wtm_at "fo t")
  | ((with_reducible show PW _ (.BoolOp .And _ _) _); apply pw_and; (· wtm_at "fo t"); (· wtm_at "fo w"))
  | ((with_reducible show PW _ (.BoolOp .Or [_] _) _); apply pw_or1; wtm_at "fo t")
  | ((with_reducible show PW _ (.BoolOp .Or _ _) _); apply pw_or; (· wtm_at "fo t"); (· wtm_at "fo w"))
  | fail "no")
local macro_rules | `(tactic| wtm_at "fo meth") => `(tactic| first
  | ((with_reducible show PE _ (.Call (.Attribute _ (Str.ofString "append") _) _ _ _) _); refine' pe_bm PySem.F.plainAttrs_list PySem.F.slot_list_append PySem.F.type_list_append mt_append ?ka ?kb; (case ka => wtm_at "fo e"); (case kb => wtm_at "fo a"))
  | ((with_reducible show PE _ (.Call (.Attribute _ (Str.ofString "pop") _) [_] _ _) _); refine' pe_bm PySem.F.plainAttrs_list PySem.F.slot_list_pop PySem.F.type_list_pop mt_popAt ?ka ?kb; (case ka => wtm_at "fo e"); (case kb => wtm_at "fo a"))
  | ((with_reducible show PE _ (.Call (.Attribute _ (Str.ofString "pop") _) [] _ _) _); refine' pe_bm0 PySem.F.plainAttrs_list PySem.F.slot_list_pop PySem.F.type_list_pop mt_pop ?ka; (case ka => wtm_at "fo e"))
  | fail "no")
local macro_rules | `(tactic| wtm_at "fo k") => `(tactic| first
  | exact pk_nil
  | (refine' pk_cons ?k1 ?k2; (case k1 => wtm_at "fo e"); (case k2 => wtm_at "fo k"))
  | fail "no")
local macro_rules | `(tactic| wtm_at "fo kcall") => `(tactic| first
  | (refine' pe_kcal (by assumption) (by assumption) (by decide) (by rfl) ?ka; (case ka => wtm_at "fo k"))
  | fail "no")
local macro_rules | `(tactic| wtm_at "fo call") => `(tactic| first
  | ((with_reducible show PE _ (.Call (.Name (Str.ofString "int") _) _ _ _) _); refine' pe_callTy call_intB (by rfl) (by assumption) (by decide +kernel) ?ka; (case ka => wtm_at "fo a"))
  | ((with_reducible show PE _ (.Call (.Name (Str.ofString "len") _) _ _ _) _); refine' pe_callB (call_lenK (by assumption) (by exact rfl)) (by rfl) (by assumption) PySem.boot_len ?ka; (case ka => wtm_at "fo a"))
  | ((with_reducible show PE _ (.Call (.Name (Str.ofString "list") _) [.Call (.Name (Str.ofString "range") _) [_, _] _ _] _ _) _); refine' pe_listRg rfl (by rfl) (by assumption) (prg_2 (by rfl) (by assumption) ?ka ?kb); (case ka => wtm_at "fo e"); (case kb => wtm_at "fo e"))
  | ((with_reducible show PE _ (.Call (.Name (Str.ofString "list") _) _ _ _) _); refine' pe_callTy (call_listK (by assumption) (by exact rfl)) (by rfl) (by assumption) (by decide +kernel) ?ka; (case ka => wtm_at "fo a"))
  | ((with_reducible show PE _ (.Call (.Name (Str.ofString "min") _) [_, _] _ _) _); refine' pe_callB (call_min2 rfl) (by rfl) (by assumption) (by decide +kernel) ?ka; (case ka => wtm_at "fo a"))
  | ((with_reducible show PE _ (.Call (.Name (Str.ofString "sorted") _) [_] _ _) _); refine' pe_callB (cr_sortedK (by assumption) (by exact rfl)) (by rfl) (by assumption) (by decide +kernel) ?ka; (case ka => wtm_at "fo a"))
  | ((with_reducible show PE _ (.Call (.Name (Str.ofString "repr") _) [_] _ _) _); refine' pe_callB (call_reprK (by assumption) (by exact rfl) (by assumption) (Room.units (by assumption))) (by rfl) (by assumption) (by decide +kernel) ?ka; (case ka => wtm_at "fo a"))
  | (refine' pe_cal (by assumption) (by assumption) (by decide) (by rfl) ?ka; (case ka => wtm_at "fo a"))
  | fail "no")
local macro_rules | `(tactic| wtm_at "fo setlc") => `(tactic| first
  | (refine' ps_setLcO (i := 0) (by assumption) (by exact rfl) (by exact rfl) (by wtm_at "fo own") (by decide +kernel) rfl rfl rfl (sw_true rfl rfl rfl (by decide +kernel)) ?ki ?kg ?kt ?ke; (case ki => wtm_at "fo i"); (case kg => (intro _ _ _ _ _; wtm_at "fo g")); (case kt => (intro _ _ _ _ _; wtm_at "fo ts")); (case ke => (intro _ _ _ _ _; wtm_at "fo e")))
  | (refine' ps_setLcO (i := 1) (by assumption) (by exact rfl) (by exact rfl) (by wtm_at "fo own") (by decide +kernel) rfl rfl rfl (sw_true rfl rfl rfl (by decide +kernel)) ?ki ?kg ?kt ?ke; (case ki => wtm_at "fo i"); (case kg => (intro _ _ _ _ _; wtm_at "fo g")); (case kt => (intro _ _ _ _ _; wtm_at "fo ts")); (case ke => (intro _ _ _ _ _; wtm_at "fo e")))
  | (refine' ps_setLcO (i := 2) (by assumption) (by exact rfl) (by exact rfl) (by wtm_at "fo own") (by decide +kernel) rfl rfl rfl (sw_true rfl rfl rfl (by decide +kernel)) ?ki ?kg ?kt ?ke; (case ki => wtm_at "fo i"); (case kg => (intro _ _ _ _ _; wtm_at "fo g")); (case kt => (intro _ _ _ _ _; wtm_at "fo ts")); (case ke => (intro _ _ _ _ _; wtm_at "fo e")))
  | (refine' ps_setLcO (i := 3) (by assumption) (by exact rfl) (by exact rfl) (by wtm_at "fo own") (by decide +kernel) rfl rfl rfl (sw_true rfl rfl rfl (by decide +kernel)) ?ki ?kg ?kt ?ke; (case ki => wtm_at "fo i"); (case kg => (intro _ _ _ _ _; wtm_at "fo g")); (case kt => (intro _ _ _ _ _; wtm_at "fo ts")); (case ke => (intro _ _ _ _ _; wtm_at "fo e")))
  | (refine' ps_setLcO (i := 4) (by assumption) (by exact rfl) (by exact rfl) (by wtm_at "fo own") (by decide +kernel) rfl rfl rfl (sw_true rfl rfl rfl (by decide +kernel)) ?ki ?kg ?kt ?ke; (case ki => wtm_at "fo i"); (case kg => (intro _ _ _ _ _; wtm_at "fo g")); (case kt => (intro _ _ _ _ _; wtm_at "fo ts")); (case ke => (intro _ _ _ _ _; wtm_at "fo e")))
  | (refine' ps_setLcO (i := 5) (by assumption) (by exact rfl) (by exact rfl) (by wtm_at "fo own") (by decide +kernel) rfl rfl rfl (sw_true rfl rfl rfl (by decide +kernel)) ?ki ?kg ?kt ?ke; (case ki => wtm_at "fo i"); (case kg => (intro _ _ _ _ _; wtm_at "fo g")); (case kt => (intro _ _ _ _ _; wtm_at "fo ts")); (case ke => (intro _ _ _ _ _; wtm_at "fo e")))
  | (refine' ps_setLcO (i := 6) (by assumption) (by exact rfl) (by exact rfl) (by wtm_at "fo own") (by decide +kernel) rfl rfl rfl (sw_true rfl rfl rfl (by decide +kernel)) ?ki ?kg ?kt ?ke; (case ki => wtm_at "fo i"); (case kg => (intro _ _ _ _ _; wtm_at "fo g")); (case kt => (intro _ _ _ _ _; wtm_at "fo ts")); (case ke => (intro _ _ _ _ _; wtm_at "fo e")))
  | (refine' ps_setLcO (i := 7) (by assumption) (by exact rfl) (by exact rfl) (by wtm_at "fo own") (by decide +kernel) rfl rfl rfl (sw_true rfl rfl rfl (by decide +kernel)) ?ki ?kg ?kt ?ke; (case ki => wtm_at "fo i"); (case kg => (intro _ _ _ _ _; wtm_at "fo g")); (case kt => (intro _ _ _ _ _; wtm_at "fo ts")); (case ke => (intro _ _ _ _ _; wtm_at "fo e")))
  | (refine' ps_setLcO (i := 8) (by assumption) (by exact rfl) (by exact rfl) (by wtm_at "fo own") (by decide +kernel) rfl rfl rfl (sw_true rfl rfl rfl (by decide +kernel)) ?ki ?kg ?kt ?ke; (case ki => wtm_at "fo i"); (case kg => (intro _ _ _ _ _; wtm_at "fo g")); (case kt => (intro _ _ _ _ _; wtm_at "fo ts")); (case ke => (intro _ _ _ _ _; wtm_at "fo e")))
  | (refine' ps_setLcO (i := 9) (by assumption) (by exact rfl) (by exact rfl) (by wtm_at "fo own") (by decide +kernel) rfl rfl rfl (sw_true rfl rfl rfl (by decide +kernel)) ?ki ?kg ?kt ?ke; (case ki => wtm_at "fo i"); (case kg => (intro _ _ _ _ _; wtm_at "fo g")); (case kt => (intro _ _ _ _ _; wtm_at "fo ts")); (case ke => (intro _ _ _ _ _; wtm_at "fo e")))
  | (refine' ps_setLcO (i := 10) (by assumption) (by exact rfl) (by exact rfl) (by wtm_at "fo own") (by decide +kernel) rfl rfl rfl (sw_true rfl rfl rfl (by decide +kernel)) ?ki ?kg ?kt ?ke; (case ki => wtm_at "fo i"); (case kg => (intro _ _ _ _ _; wtm_at "fo g")); (case kt => (intro _ _ _ _ _; wtm_at "fo ts")); (case ke => (intro _ _ _ _ _; wtm_at "fo e")))
  | (refine' ps_setLcO (i := 11) (by assumption) (by exact rfl) (by exact rfl) (by wtm_at "fo own") (by decide +kernel) rfl rfl rfl (sw_true rfl rfl rfl (by decide +kernel)) ?ki ?kg ?kt ?ke; (case ki => wtm_at "fo i"); (case kg => (intro _ _ _ _ _; wtm_at "fo g")); (case kt => (intro _ _ _ _ _; wtm_at "fo ts")); (case ke => (intro _ _ _ _ _; wtm_at "fo e")))
  | (refine' ps_setLcO (i := 12) (by assumption) (by exact rfl) (by exact rfl) (by wtm_at "fo own") (by decide +kernel) rfl rfl rfl (sw_true rfl rfl rfl (by decide +kernel)) ?ki ?kg ?kt ?ke; (case ki => wtm_at "fo i"); (case kg => (intro _ _ _ _ _; wtm_at "fo g")); (case kt => (intro _ _ _ _ _; wtm_at "fo ts")); (case ke => (intro _ _ _ _ _; wtm_at "fo e")))
  | (refine' ps_setLcO (i := 13) (by assumption) (by exact rfl) (by exact rfl) (by wtm_at "fo own") (by decide +kernel) rfl rfl rfl (sw_true rfl rfl rfl (by decide +kernel)) ?ki ?kg ?kt ?ke; (case ki => wtm_at "fo i"); (case kg => (intro _ _ _ _ _; wtm_at "fo g")); (case kt => (intro _ _ _ _ _; wtm_at "fo ts")); (case ke => (intro _ _ _ _ _; wtm_at "fo e")))
  | (refine' ps_setLcO (i := 14) (by assumption) (by exact rfl) (by exact rfl) (by wtm_at "fo own") (by decide +kernel) rfl rfl rfl (sw_true rfl rfl rfl (by decide +kernel)) ?ki ?kg ?kt ?ke; (case ki => wtm_at "fo i"); (case kg => (intro _ _ _ _ _; wtm_at "fo g")); (case kt => (intro _ _ _ _ _; wtm_at "fo ts")); (case ke => (intro _ _ _ _ _; wtm_at "fo e")))
  | (refine' ps_setLcO (i := 15) (by assumption) (by exact rfl) (by exact rfl) (by wtm_at "fo own") (by decide +kernel) rfl rfl rfl (sw_true rfl rfl rfl (by decide +kernel)) ?ki ?kg ?kt ?ke; (case ki => wtm_at "fo i"); (case kg => (intro _ _ _ _ _; wtm_at "fo g")); (case kt => (intro _ _ _ _ _; wtm_at "fo ts")); (case ke => (intro _ _ _ _ _; wtm_at "fo e")))
  | fail "no")
local macro_rules | `(tactic| wtm_at "fo set") => `(tactic| first
  | (refine' ps_set (i := 0) (by assumption) rfl (by first | exact Or.inl rfl | exact Or.inr rfl) ?ka; (case ka => wtm_at "fo e"))
  | (refine' ps_set (i := 1) (by assumption) rfl (by first | exact Or.inl rfl | exact Or.inr rfl) ?ka; (case ka => wtm_at "fo e"))
  | (refine' ps_set (i := 2) (by assumption) rfl (by first | exact Or.inl rfl | exact Or.inr rfl) ?ka; (case ka => wtm_at "fo e"))
  | (refine' ps_set (i := 3) (by assumption) rfl (by first | exact Or.inl rfl | exact Or.inr rfl) ?ka; (case ka => wtm_at "fo e"))
  | (refine' ps_set (i := 4) (by assumption) rfl (by first | exact Or.inl rfl | exact Or.inr rfl) ?ka; (case ka => wtm_at "fo e"))
  | (refine' ps_set (i := 5) (by assumption) rfl (by first | exact Or.inl rfl | exact Or.inr rfl) ?ka; (case ka => wtm_at "fo e"))
  | (refine' ps_set (i := 6) (by assumption) rfl (by first | exact Or.inl rfl | exact Or.inr rfl) ?ka; (case ka => wtm_at "fo e"))
  | (refine' ps_set (i := 7) (by assumption) rfl (by first | exact Or.inl rfl | exact Or.inr rfl) ?ka; (case ka => wtm_at "fo e"))
  | (refine' ps_set (i := 8) (by assumption) rfl (by first | exact Or.inl rfl | exact Or.inr rfl) ?ka; (case ka => wtm_at "fo e"))
  | (refine' ps_set (i := 9) (by assumption) rfl (by first | exact Or.inl rfl | exact Or.inr rfl) ?ka; (case ka => wtm_at "fo e"))
  | (refine' ps_set (i := 10) (by assumption) rfl (by first | exact Or.inl rfl | exact Or.inr rfl) ?ka; (case ka => wtm_at "fo e"))
  | (refine' ps_set (i := 11) (by assumption) rfl (by first | exact Or.inl rfl | exact Or.inr rfl) ?ka; (case ka => wtm_at "fo e"))
  | (refine' ps_set (i := 12) (by assumption) rfl (by first | exact Or.inl rfl | exact Or.inr rfl) ?ka; (case ka => wtm_at "fo e"))
  | (refine' ps_set (i := 13) (by assumption) rfl (by first | exact Or.inl rfl | exact Or.inr rfl) ?ka; (case ka => wtm_at "fo e"))
  | fail "no")
local macro_rules | `(tactic| wtm_at "fo t") => `(tactic| first
  | ((with_reducible show PT _ (.BoolOp _ _ _) _); apply PW.pt; wtm_at "fo w")
  | ((with_reducible show PT _ (.UnaryOp .Not _ _) _); apply pt_not; wtm_at "fo t")
  | ((with_reducible show PT _ (.Compare _ _ _ _) _); wtm_at "fo tcmp")
  | (refine' pt_truthK (by assumption) (by exact rfl) ?ka (by intro _; rfl); (case ka => wtm_at "fo e"))
  | fail "no")
local macro_rules | `(tactic| wtm_at "fo gn") => `(tactic| first
  | exact pg_name (i := 0) (by assumption) rfl (by first | exact Or.inl rfl | exact Or.inr rfl)
  | exact pg_name (i := 1) (by assumption) rfl (by first | exact Or.inl rfl | exact Or.inr rfl)
  | exact pg_name (i := 2) (by assumption) rfl (by first | exact Or.inl rfl | exact Or.inr rfl)
  | exact pg_name (i := 3) (by assumption) rfl (by first | exact Or.inl rfl | exact Or.inr rfl)
  | exact pg_name (i := 4) (by assumption) rfl (by first | exact Or.inl rfl | exact Or.inr rfl)
  | exact pg_name (i := 5) (by assumption) rfl (by first | exact Or.inl rfl | exact Or.inr rfl)
  | exact pg_name (i := 6) (by assumption) rfl (by first | exact Or.inl rfl | exact Or.inr rfl)
  | exact pg_name (i := 7) (by assumption) rfl (by first | exact Or.inl rfl | exact Or.inr rfl)
  | exact pg_name (i := 8) (by assumption) rfl (by first | exact Or.inl rfl | exact Or.inr rfl)
  | exact pg_name (i := 9) (by assumption) rfl (by first | exact Or.inl rfl | exact Or.inr rfl)
  | exact pg_name (i := 10) (by assumption) rfl (by first | exact Or.inl rfl | exact Or.inr rfl)
  | exact pg_name (i := 11) (by assumption) rfl (by first | exact Or.inl rfl | exact Or.inr rfl)
  | exact pg_name (i := 12) (by assumption) rfl (by first | exact Or.inl rfl | exact Or.inr rfl)
  | exact pg_name (i := 13) (by assumption) rfl (by first | exact Or.inl rfl | exact Or.inr rfl)
  | exact pg_name (i := 14) (by assumption) rfl (by first | exact Or.inl rfl | exact Or.inr rfl)
  | exact pg_name (i := 15) (by assumption) rfl (by first | exact Or.inl rfl | exact Or.inr rfl)
  | fail "no")
local macro_rules | `(tactic| wtm_at "fo par") => `(tactic| first
  | (refine' ps_par (i := 0) (j := 1) rfl (by assumption) rfl rfl (by decide) rfl rfl ?ka (by rfl); (case ka => wtm_at "fo a"))
  | (refine' ps_par (i := 1) (j := 2) rfl (by assumption) rfl rfl (by decide) rfl rfl ?ka (by rfl); (case ka => wtm_at "fo a"))
  | (refine' ps_par (i := 2) (j := 3) rfl (by assumption) rfl rfl (by decide) rfl rfl ?ka (by rfl); (case ka => wtm_at "fo a"))
  | (refine' ps_par (i := 3) (j := 4) rfl (by assumption) rfl rfl (by decide) rfl rfl ?ka (by rfl); (case ka => wtm_at "fo a"))
  | (refine' ps_par (i := 4) (j := 5) rfl (by assumption) rfl rfl (by decide) rfl rfl ?ka (by rfl); (case ka => wtm_at "fo a"))
  | (refine' ps_par (i := 5) (j := 6) rfl (by assumption) rfl rfl (by decide) rfl rfl ?ka (by rfl); (case ka => wtm_at "fo a"))
  | (refine' ps_par (i := 6) (j := 7) rfl (by assumption) rfl rfl (by decide) rfl rfl ?ka (by rfl); (case ka => wtm_at "fo a"))
  | (refine' ps_par (i := 7) (j := 8) rfl (by assumption) rfl rfl (by decide) rfl rfl ?ka (by rfl); (case ka => wtm_at "fo a"))
  | (refine' ps_par (i := 8) (j := 9) rfl (by assumption) rfl rfl (by decide) rfl rfl ?ka (by rfl); (case ka => wtm_at "fo a"))
  | (refine' ps_par (i := 9) (j := 10) rfl (by assumption) rfl rfl (by decide) rfl rfl ?ka (by rfl); (case ka => wtm_at "fo a"))
  | (refine' ps_par (i := 10) (j := 11) rfl (by assumption) rfl rfl (by decide) rfl rfl ?ka (by rfl); (case ka => wtm_at "fo a"))
  | (refine' ps_par (i := 11) (j := 12) rfl (by assumption) rfl rfl (by decide) rfl rfl ?ka (by rfl); (case ka => wtm_at "fo a"))
  | (refine' ps_par (i := 12) (j := 13) rfl (by assumption) rfl rfl (by decide) rfl rfl ?ka (by rfl); (case ka => wtm_at "fo a"))
  | (refine' ps_par (i := 13) (j := 14) rfl (by assumption) rfl rfl (by decide) rfl rfl ?ka (by rfl); (case ka => wtm_at "fo a"))
  | (refine' ps_par (i := 14) (j := 15) rfl (by assumption) rfl rfl (by decide) rfl rfl ?ka (by rfl); (case ka => wtm_at "fo a"))
  | fail "no")
local macro_rules | `(tactic| wtm_at "fo g") => `(tactic| first
  | ((with_reducible show PG _ (.Name _ _) _); wtm_at "fo gn")
  | ((with_reducible show PG _ (.Tuple _ _ _) _); apply PG_or; (· refine' pg_tup2 (by assumption) (by exact rfl) rfl ?kg; (case kg => wtm_at "fo gs")); (· refine' pg_unl2 (by assumption) (by exact rfl) rfl ?kg; (case kg => wtm_at "fo gs")))
  | fail "no")
local macro_rules | `(tactic| wtm_at "fo gs") => `(tactic| first
  | exact pgs_nil
  | (refine' pgs_cons ?k1 ?k2; (case k1 => wtm_at "fo g"); (case k2 => wtm_at "fo gs"))
  | fail "no")
local macro_rules | `(tactic| wtm_at "fo i") => `(tactic| first
  | ((with_reducible show PI _ _ (.Call (.Name (Str.ofString "range") _) [_] _ _) _); refine' pi_range1 (by rfl) (by assumption) ?ka; (case ka => wtm_at "fo a"))
  | ((with_reducible show PI _ _ (.Call (.Name (Str.ofString "range") _) [_, _] _ _) _); refine' pi_range2 (by rfl) (by assumption) ?ka; (case ka => wtm_at "fo a"))
  | ((with_reducible show PI _ _ (.Call (.Name (Str.ofString "enumerate") _) [_] _ _) _); refine' pi_enum (by rfl) (by assumption) ?ka; (case ka => wtm_at "fo a"))
  | (refine' pi_listK (by assumption) (by exact rfl) ?ka; (case ka => wtm_at "fo e"))
  | fail "no")
local macro_rules | `(tactic| wtm_at "fo s") => `(tactic| first
  | ((with_reducible show PS _ (.While _ _ _ _) _); refine' ps_while PassesOwn.never ?kt ?kb; (case kt => wtm_at "fo t"); (case kb => wtm_at "fo ss"))
  | ((with_reducible show PS _ (.For _ _ _ _ _) _); refine' ps_for PassesOwn.never rfl ?ki ?kg ?kb; (case ki => wtm_at "fo i"); (case kg => wtm_at "fo g"); (case kb => wtm_at "fo ss"))
  | ((with_reducible show PS _ (.Assign [.Name _ _] (.ListComp _ [_] _ _) _) _); wtm_at "fo setlc")
  | ((with_reducible show PS _ (.Assign [.Name _ _] _ _) _); wtm_at "fo set")
  | ((with_reducible show PS _ (.Assign [.Tuple [.Name _ _, .Name _ _] _ _] (.Tuple [_, _] _ _) _) _); wtm_at "fo par")
  | ((with_reducible show PS _ (.Assign [.Subscript _ _ _] _ _) _); refine' ps_asg ?ka (pg_sub ?kb ?kc set_list); (case ka => wtm_at "fo e"); (case kb => wtm_at "fo e"); (case kc => wtm_at "fo e"))
  | ((with_reducible show PS _ (.Return (some _) _) _); apply ps_ret; wtm_at "fo e")
  | ((with_reducible show PS _ (.Expr _ _) _); refine' ps_expr ?ka; (case ka => wtm_at "fo e"))
  | ((with_reducible show PS _ (.If _ _ _ _) _); apply ps_if; (· wtm_at "fo t"); (· wtm_at "fo ss"); (· wtm_at "fo ss"))
  | fail "no")
local macro_rules | `(tactic| wtm_at "fo ss") => `(tactic| first
  | with_reducible exact pss_nil
  | ((with_reducible show PSs _ [_] _); apply pss_one; wtm_at "fo s")
  | (apply pss_cons; (· wtm_at "fo s"); (· wtm_at "fo ss"))
  | fail "no")
local macro_rules | `(tactic| wtm_at "fo hp") => `(tactic| first
  | assumption
  | exact upd_same
  | (refine (upd_ne ?ne).trans ?hp; (case ne => wtm_at "fo ne"); (case hp => wtm_at "fo hp"))
  | fail "no")
local macro_rules | `(tactic| wtm_at "fo ne") => `(tactic| first
  | assumption
  | (apply Ne.symm; assumption)
  | exact ne_of_none (by assumption) (by assumption)
  | exact Ne.symm (ne_of_none (by assumption) (by assumption))
  | fail "no")
local macro_rules | `(tactic| wtm_at "fo sz") => `(tactic| first
  | exact (Nat.le_of_ble_eq_true rfl : _ ≤ sizeLine)
  | exact (Nat.le_of_ble_eq_true rfl : _ < sizeLine)
  | exact Nat.lt_of_le_of_lt (m := 100000) (by first | assumption | omega | (simp; omega)) (by decide)
  | exact Nat.le_trans (m := 100000) (by first | assumption | omega | (simp; omega)) (by decide)
  | fail "no")
local macro_rules | `(tactic| wtm_at "fo r1") => `(tactic| first
  | refine ⟨(Nat.le_of_ble_eq_true rfl : _ ≤ sizeLine), fun p np => ?_⟩
  | (refine' ⟨_, _, rfl, Or.inl (SqL.of ?h), ?_⟩; (case h => wtm_at "fo hp"))
  | refine ⟨_, rfl, ?_⟩
  | refine ⟨_, _, rfl, rfl, ?_⟩
  | refine ⟨_, _, rfl, ⟨by omega, by omega, by omega, by omega⟩, ?_⟩
  | refine ⟨_, rfl, by omega, by omega, ?_⟩
  | refine Or.inl ⟨_, rfl, ?_⟩
  | refine Or.inl ⟨rfl, ?_⟩
  | refine Or.inl ⟨_, _, rfl, rfl, ?_⟩
  | (refine' Or.inl ⟨_, _, _, _, rfl, rfl, SqL.of ?h, ?a, ?_⟩; (case h => wtm_at "fo hp"); (case a => rfl))
  | (refine' ⟨_, _, _, _, rfl, rfl, ?h, ?a, ?_⟩; (case h => wtm_at "fo hp"); (case a => rfl))
  | (refine' ⟨.inl ⟨rfl, _, SqL.of ?h⟩, ?_⟩; (case h => wtm_at "fo hp"))
  | (refine' ⟨_, _, _, rfl, rfl, ?h, ?z, ?_⟩; (case h => wtm_at "fo hp"); (case z => wtm_at "fo sz"))
  | (refine' ⟨_, rfl, ⟨_, SqL.of ?h⟩, ?_⟩; (case h => wtm_at "fo hp"))
  | fail "no")
local macro_rules | `(tactic| wtm_at "fo side") => `(tactic| ((try dsimp only [CMul, CDiv]); first
  | assumption
  | decide
  | omega
  | exact ⟨by decide, by decide⟩
  | exact ⟨by omega, by omega⟩
  | decide +kernel
  | fail "no"))
local macro_rules | `(tactic| wtm_at "fo r2") => `(tactic| first
  | wtm_at "fo r1"
  | refine And.intro (by wtm_at "fo side") ?_
  | fail "no")
local macro_rules | `(tactic| wtm_at "fo r") => `(tactic| repeat wtm_at "fo r2")
local macro_rules | `(tactic| wtm_at "fo meth") => `(tactic| (refine' pe_cntK (by assumption) (by exact rfl) ?ka ?kb; (case ka => wtm_at "fo e"); (case kb => wtm_at "fo a")))
@[irreducible] def spPRight : Sp := fun vs H Q _ => ∃ (q1 q2 : Addr) (n m : Nat) (es fs : List Edge), vs = [.int n, .ref q1, .int m, .ref q2] ∧ 1 ≤ n ∧ 1 ≤ m ∧ n * m ≤ 12 ∧ n ≤ 12 ∧ m ≤ 12 ∧ Pairs H q1 es ∧ Simp n es ∧ es.length ≤ 200 ∧ Pairs H q2 fs ∧ Simp m fs ∧ fs.length ≤ 200 ∧
  ∀ H', Same H H' → Q (.bl true) H'
theorem call_pright {q1 q2 : Addr} {n m : Nat} {es fs : List Edge} {H : Hp} {Q : VK} {E : XK} (h1 : 1 ≤ n) (h2 : 1 ≤ m) (h3 : n * m ≤ 12) (h4 : n ≤ 12) (h5 : m ≤ 12) (a1 : Pairs H q1 es) (a2 : Simp n es) (a3 : es.length ≤ 200) (b1 : Pairs H q2 fs) (b2 : Simp m fs) (b3 : fs.length ≤ 200)
    (fin : ∀ H', Same H H' → Q (.bl true) H') : spPRight [.int n, .ref q1, .int m, .ref q2] H Q E := by
  unfold spPRight
  exact ⟨q1, q2, n, m, es, fs, rfl, h1, h2, h3, h4, h5, a1, a2, a3, b1, b2, b3, fin⟩
variable {P : Program} {w : World} {K : PySem.W.Frag} {mg : Str → Option Value} {base : Heap}
set_option maxHeartbeats 8000000 in
theorem ok_pright {f : Addr} {fd : FuncData} (F : Fun K "_law_product_right" "_law_product_right" s_law_product_right f fd) (mp : mg "repr" = none)
    (C1 : Cal P w K mg base "_law_product" 2 ["_law_size", "_law_sides", "_law_far", "_law_bars"] spLProd) (C2 : Cal P w K mg base "product" 3 ["places", "lines", "more", "ties"] spProd)
    (C3 : KCal P w K mg base "product" 3 ["places", "lines", "more", "ties"] ["ties", "more", "lines", "places"] g4 g4 spProd) :
    FnG P w K mg base CX0 5 f fd ["_law_size", "_law_sides", "_law_far", "_law_bars"] spPRight := by
  refine okG F sc_law_product_right (fun vs H Q E h => ?_) (fun cdv A outer s H vs Q E hr hgd h => ?_)
  · unfold spPRight at h
    obtain ⟨q1, q2, n, m, es, fs, rfl, _⟩ := h
    rfl
  · have nd := sc_law_product_right.nd
    have hS := sc_law_product_right
    have hKM : KMark K := ⟨⟩
    refine' mk_body ?body ?rd
    case body =>
      show PSs _ [_, _, _, _, _, _, _, _] _
      wtm_at "fo ss"
    case rd =>
     unfold spPRight at h
     obtain ⟨q1, q2, n, m, es, fs, rfl, h1, h2, h3, h4, h5, a1, a2, a3, b1, b2, b3, fin⟩ := h
     wtm_at "fo r"
     rename_i p np
     have okN := dok_nets a3 b3 (a2.small (by omega)) (b2.small (by omega))
     have szN : (PyData.list [dE es, dE fs]).shown.length ≤ sizeLine := Nat.le_trans okN.len (by decide)
     have sm1 : Same H (upd H p (.lst [.ref q1, .ref q2])) := same_upd (Same.refl _) np
     refine ⟨p, .list [dE es, dE fs], rfl, .lst (SqL.of upd_same) (.cons (dp_dE (a1.same sm1)) (.cons (dp_dE (b1.same sm1)) .nil)), okN.sh, okN.nd, Nat.le_trans okN.dep (by decide), szN, ?_⟩
     wtm_at "fo r"
     refine call_lprod h1 h2 h3 h4 h5 (a1.same sm1) a2 a3 (b1.same sm1) b2 b3 (fun pd ld H2 sm2 npd nld hpd hld => ?_)
     have s2 := sm1.trans sm2
     wtm_at "fo r"
     refine call_prod h1 h2 h3 h4 h5 (a1.same s2) a2 a3 (b1.same s2) b2 b3 (fun p1 l1 rs1 H3 sm3 np1 nl1 hp1 hl1 hnd1 hfr1 => ?_)
     have s3 := s2.trans sm3
     wtm_at "fo r"
     refine call_prod h1 h2 h3 h4 h5 (a1.same s3) a2 a3 (b1.same s3) b2 b3 (fun p2 l2 rs2 H4 sm4 np2 nl2 hp2 hl2 _ _ => ?_)
     have s4 := s3.trans sm4
     have okP := dok_dP (n := n * m) (es := prodM n es m fs) (by omega) (Nat.le_trans (prodM_length h3) (by decide)) (fun e he => by have := prodM_rng he; omega)
     have okPP := dok_two okP
     have szP : (dP (n * m) (prodM n es m fs)).shown.length ≤ sizeLine := Nat.le_trans okP.len (by decide)
     have szPP : (PyData.list [dP (n * m) (prodM n es m fs), dP (n * m) (prodM n es m fs)]).shown.length ≤ sizeLine := Nat.le_trans okPP.len (by decide)
     have hprl := prodM_length (es := es) (fs := fs) h3
     generalize hpr : prodM n es m fs = pr at *
     wtm_at "fo r"
     rename_i t nt
     have sm5 : Same H4 (upd H4 t (.lst [.ref p1, .ref p2])) := same_upd (Same.refl _) nt
     refine ⟨t, _, rfl, Dp.dok_two upd_same (dp_dP (sm5 _ _ (sm4 _ _ hp1)) ((hl1.pairs.same sm4).same sm5)) (dp_dP (sm5 _ _ hp2) (hl2.pairs.same sm5)), okPP.sh, okPP.nd, Nat.le_trans okPP.dep (by decide), szPP, ?_⟩
     have ht5 : (upd H4 t (.lst [.ref p1, .ref p2])) t = some (.lst [.ref p1, .ref p2]) := upd_same
     have s25 := (sm3.trans sm4).trans sm5
     have hp15 := sm5 _ _ (sm4 _ _ hp1)
     have hl15 := (hl1.same sm4).same sm5
     generalize upd H4 t (.lst [.ref p1, .ref p2]) = H5 at *
     wtm_at "fo r"
     rename_i t2 nt2
     have sm6 : Same H5 (upd H5 t2 (.lst [.ref pd, .ref pd])) := same_upd (Same.refl _) nt2
     have hpd6 := sm6 _ _ (s25 _ _ hpd)
     have hld6 := (hld.same s25).same sm6
     refine ⟨t2, _, rfl, Dp.dok_two upd_same (dp_dP hpd6 hld6) (dp_dP hpd6 hld6), okPP.sh, okPP.nd, Nat.le_trans okPP.dep (by decide), szPP, ?_⟩
     refine Or.inl ⟨rfl, _, rfl, ?_⟩
     refine ifF (by simp) ?_
     wtm_at "fo r"
     rename_i t3 nt3
     have sm7 : Same (upd H5 t2 (.lst [.ref pd, .ref pd])) (upd (upd H5 t2 (.lst [.ref pd, .ref pd])) t3 (.lst [.ref q1, .ref q2])) := same_upd (Same.refl _) nt3
     have s7 := ((s2.trans s25).trans sm6).trans sm7
     refine ⟨t3, _, rfl, .lst (SqL.of upd_same) (.cons (dp_dE (a1.same s7)) (.cons (dp_dE (b1.same s7)) .nil)), okN.sh, okN.nd, Nat.le_trans okN.dep (by decide), szN, ?_⟩
     refine ⟨_, rfl, Or.inl ⟨rfl, _, rfl, ?_⟩⟩
     refine ifF (by simp) ?_
     have s27 : Same H2 (upd (upd H5 t2 (.lst [.ref pd, .ref pd])) t3 (.lst [.ref q1, .ref q2])) := (s25.trans sm6).trans sm7
     have ht7 := sm7 _ _ (sm6 _ _ ht5)
     have hp17 := sm7 _ _ (sm6 _ _ hp15)
     have hl17 := (hl15.same sm6).same sm7
     generalize upd (upd H5 t2 (.lst [.ref pd, .ref pd])) t3 (.lst [.ref q1, .ref q2]) = H7 at *
     have off_l : l1 ∉ rs1 := fun h => hl17.ne h rfl
     have off_t : t ∉ rs1 := fun h => by
       obtain ⟨e, _, he⟩ := hl17.mem h
       rw [ht7] at he
       cases he
     have off_p : p1 ∉ rs1 := fun h => by
       obtain ⟨e, _, he⟩ := hl17.mem h
       rw [hp17] at he
       cases he
     refine ⟨_, rfl, Or.inl ⟨t, _, 0, .ref p1, rfl, rfl, SqL.of ht7, rfl, Or.inr (Or.inl ⟨p1, _, 1, .ref l1, rfl, rfl, SqT.of hp17, rfl, l1, rfl, ⟨_, SqL.of hl17.hD⟩, ?_⟩)⟩⟩
     refine for_list (K := K) (xs := rs1.map V.ref) (fun i σ H8 => ∃ y7, σ = [some (.int n), some (.ref q1), some (.int m), some (.ref q2), some (.str (PyData.list [dE es, dE fs]).shown), some (.ref pd), some (.ref t), y7] ∧
       (∀ b o, b ∉ rs1 → H7 b = some o → H8 b = some o) ∧ Same H2 H8 ∧
       ∀ (j : Nat) (r : Addr) (e : Edge), rs1[j]? = some r → pr[j]? = some e → H8 r = some (.lst (if j < i then [.int e.1, .int e.2, .non] else [.int e.1, .int e.2]))) ?_ ?_ ?_ ?_
     · exact ⟨none, rfl, fun b o _ h => h, s27, fun j r e hr he => by rw [if_neg (Nat.not_lt_zero j)]; exact hl17.at_ j r e hr he⟩
     · rintro i σ H8 _ ⟨y7, rfl, off, sm8, cont⟩
       exact SqL.of (off _ _ off_l hl17.hD)
     · rintro i x σ H8 hx ⟨y7, rfl, off, sm8, cont⟩
       obtain ⟨r, hr, rfl⟩ := ref_at hx
       have hi : i < pr.length := by rw [← hl17.len]; exact (List.getElem?_eq_some_iff.mp hr).1
       have hpi : pr[i]? = some pr[i] := List.getElem?_eq_getElem hi
       have hr8 := cont i r _ hr hpi
       rw [if_neg (Nat.lt_irrefl i)] at hr8
       refine ⟨_, rfl, .inl ⟨rfl, _, SqL.of hr8⟩, r, _, .non, rfl, rfl, hr8, Nat.lt_of_le_of_lt (m := 2) (Nat.le_refl _) (by decide), ?_⟩
       have hrm := List.mem_of_getElem? hr
       refine ⟨_, rfl, fun b o hb h => ?_, same_upd sm8 (hfr1 r hrm), fun j r2 e hr2 he => ?_⟩
       · rw [upd_ne (fun e => hb (by rw [e]; exact hrm))]
         exact off b o hb h
       · by_cases hji : j = i
         · subst hji
           rw [hr] at hr2
           cases hr2
           rw [hpi] at he
           cases he
           rw [upd_same, if_pos (Nat.lt_succ_self j)]
           rfl
         · have hne : r2 ≠ r := fun e => by
             subst e
             exact hji (nd_ix hnd1 hr2 hr)
           rw [upd_ne hne, cont j r2 e hr2 he]
           by_cases hlt : j < i
           · rw [if_pos hlt, if_pos (by omega)]
           · rw [if_neg hlt, if_neg (by omega)]
     · rintro σ H8 ⟨y7, rfl, off, sm8, cont⟩
       rw [List.length_map] at cont
       have ht8 := off _ _ off_t ht7
       have hp18 := off _ _ off_p hp17
       have hl18 := off _ _ off_l hl17.hD
       refine ⟨_, rfl, Or.inl ⟨t, _, 0, .ref p1, rfl, rfl, SqL.of ht8, rfl, Or.inr (Or.inl ⟨p1, _, 1, .ref l1, rfl, rfl, SqT.of hp18, rfl, l1, rfl, ⟨_, SqL.of hl18⟩, fun D nD => ?_⟩)⟩⟩
       refine lc_list (K := K) (xs := rs1.map V.ref) (fun i H9 => H9 = upd H8 D (.lst [])) rfl ?_ ?_ ?_
       · rintro i H9 _ rfl
         exact SqL.of (by rw [upd_ne (ne_of_none hl18 nD)]; exact hl18)
       · rintro i x H9 hx rfl
         obtain ⟨r, hr, rfl⟩ := ref_at hx
         have hi : i < rs1.length := (List.getElem?_eq_some_iff.mp hr).1
         have hpi : pr[i]? = some (pr[i]'(by rw [← hl17.len]; exact hi)) := List.getElem?_eq_getElem _
         have hr8 := cont i r _ hr hpi
         rw [if_pos hi] at hr8
         have hr9 : (upd H8 D (.lst [])) r = _ := (upd_ne (ne_of_none hr8 nD)).trans hr8
         refine ⟨rfl, _, rfl, .inl ⟨rfl, _, SqL.of hr9⟩, r, _, .non, rfl, rfl, SqL.of hr9, rfl, rfl, ?_⟩
         refine Or.inl ⟨rfl, _, rfl, ?_⟩
         exact ifF (by rfl) rfl
       · rintro H9 rfl
         wtm_at "fo r"
         rename_i e0 ne0
         have hDe : D ≠ e0 := ne_of_none upd_same ne0
         refine Or.inr ⟨.list [], .list [], .lst (SqL.of (by rw [upd_ne hDe]; exact upd_same)) .nil, .lst (SqL.of upd_same) .nil, rfl, rfl, _, rfl, ?_⟩
         refine ifF (by rw [eqv_list_nil]; rfl) ?_
         have smE : Same H8 (upd (upd H8 D (.lst [])) e0 (.lst [])) := same_upd (same_upd (Same.refl _) nD) ((same_upd (Same.refl H8) nD : Same H8 (upd H8 D (.lst []))).free ne0)
         have htE := smE _ _ ht8
         have hpE := smE _ _ hp18
         have hlE := smE _ _ hl18
         refine ⟨_, rfl, Or.inl ⟨t, _, 0, .ref p1, rfl, rfl, SqL.of htE, rfl, Or.inr (Or.inl ⟨p1, _, 1, .ref l1, rfl, rfl, SqT.of hpE, rfl, ?_⟩)⟩⟩
         refine ⟨.inl ⟨rfl, _, SqL.of hlE⟩, l1, _, .non, rfl, rfl, hlE, ?_, ?_⟩
         · rw [List.length_map, hl17.len]
           exact Nat.lt_of_le_of_lt hprl (by decide)
         have smF : Same H2 (upd (upd (upd H8 D (.lst [])) e0 (.lst [])) l1 (.lst (rs1.map V.ref ++ [V.non]))) := same_upd (sm8.trans smE) nl1
         have sF := s2.trans smF
         wtm_at "fo r"
         refine call_prod h1 h2 h3 h4 h5 (a1.same sF) a2 a3 (b1.same sF) b2 b3 (fun p9 l9 rs9 H9 sm9 np9 nl9 hp9 hl9 _ _ => ?_)
         rw [hpr] at hl9
         have sG := smF.trans sm9
         refine ⟨p9, _, rfl, dp_dP hp9 hl9.pairs, okP.sh, okP.nd, Nat.le_trans okP.dep (by decide), szP, ?_⟩
         refine ⟨_, rfl, pd, _, rfl, dp_dP (sG _ _ hpd) (hld.same sG), okP.sh, okP.nd, Nat.le_trans okP.dep (by decide), szP, ?_⟩
         refine Or.inl ⟨rfl, ?_⟩
         rw [decide_eq_true rfl]
         exact fin _ (s2.trans sG)

end Fo

/-! piece D10 -/
namespace Fo
open PySem PySem.Spec PyProof.Rows L2
local macro_rules | `(tactic| wtm_at "fo a") => `(tactic| first
  | exact pa_nil
  | (refine' pa_cons ?k1 ?k2; (case k1 => wtm_at "fo e"); (case k2 => wtm_at "fo a"))
  | fail "no")
local macro_rules | `(tactic| wtm_at "fo v") => `(tactic| first
  | exact pv 0
  | exact pv 1
  | exact pv 2
  | exact pv 3
  | exact pv 4
  | exact pv 5
  | exact pv 6
  | exact pv 7
  | exact pv 8
  | exact pv 9
  | exact pv 10
  | exact pv 11
  | exact pv 12
  | exact pv 13
  | exact pv 14
  | exact pv 15
  | fail "no")
local macro_rules | `(tactic| wtm_at "fo e") => `(tactic| first
  | with_reducible exact pe_int
  | with_reducible exact pe_bl
  | with_reducible exact pe_non
  | with_reducible exact pe_str
  | ((with_reducible show PE _ (.Name _ _) _); wtm_at "fo v")
  | ((with_reducible show PE _ (.BinOp _ .Add _ _) _); apply pe_op opAddB <;> wtm_at "fo e")
  | ((with_reducible show PE _ (.BinOp _ .Sub _ _) _); apply pe_op op_sub <;> wtm_at "fo e")
  | ((with_reducible show PE _ (.BinOp _ .Mult _ _) _); apply pe_op op_mul <;> wtm_at "fo e")
  | ((with_reducible show PE _ (.BinOp _ .Mod _ _) _); apply pe_op op_mod <;> wtm_at "fo e")
  | ((with_reducible show PE _ (.BinOp _ .FloorDiv _ _) _); apply pe_op op_fdiv <;> wtm_at "fo e")
  | ((with_reducible show PE _ (.BinOp _ .Pow _ _) _); apply pe_op op_powW <;> wtm_at "fo e")
  | ((with_reducible show PE _ (.BinOp _ .LShift _ _) _); apply pe_op op_shl <;> wtm_at "fo e")
  | ((with_reducible show PE _ (.BinOp _ .RShift _ _) _); apply pe_op op_shr <;> wtm_at "fo e")
  | ((with_reducible show PE _ (.BinOp _ .BitAnd _ _) _); apply pe_op op_and <;> wtm_at "fo e")
  | ((with_reducible show PE _ (.List _ _) _); apply pe_lst; wtm_at "fo a")
  | ((with_reducible show PE _ (.Tuple _ _ _) _); apply pe_tup; wtm_at "fo a")
  | ((with_reducible show PE _ (.ListComp _ [_] _ _) _); wtm_at "fo lc")
  | ((with_reducible show PE _ (.IfExp _ _ _ _) _); apply pe_ifExp; (· wtm_at "fo t"); (· wtm_at "fo e"); (· wtm_at "fo e"))
  | ((with_reducible show PE _ (.UnaryOp .USub _ _) _); apply pe_un un_neg; wtm_at "fo e")
  | ((with_reducible show PE _ (.Call (.Name _ _) [] (_ :: _) _) _); wtm_at "fo kcall")
  | ((with_reducible show PE _ (.Call (.Name _ _) _ _ _) _); wtm_at "fo call")
  | ((with_reducible show PE _ (.Call (.Attribute _ _ _) _ _ _) _); wtm_at "fo meth")
  | ((with_reducible show PE _ (.Compare _ _ _ _) _); wtm_at "fo cmp")
  | ((with_reducible show PE _ (.Subscript _ (.Slice _ _ _ _) _) _); wtm_at "fo slice")
  | ((with_reducible show PE _ (.Subscript _ _ _) _); refine' pe_ix (ix_seqK (by assumption) (by exact rfl)) ?ka ?kb (fun _ _ => rfl); (case ka => wtm_at "fo e"); (case kb => wtm_at "fo e"))
  | fail "no")
local macro_rules | `(tactic| wtm_at "fo own") => `(tactic| first
  | ((show _ = [0]); kernel_rfl!)
  | ((show _ = [1]); kernel_rfl!)
  | ((show _ = [2]); kernel_rfl!)
  | ((show _ = [3]); kernel_rfl!)
  | ((show _ = [4]); kernel_rfl!)
  | ((show _ = [5]); kernel_rfl!)
  | ((show _ = [6]); kernel_rfl!)
  | ((show _ = [7]); kernel_rfl!)
  | ((show _ = [8]); kernel_rfl!)
  | ((show _ = [9]); kernel_rfl!)
  | ((show _ = [10]); kernel_rfl!)
  | ((show _ = [11]); kernel_rfl!)
  | ((show _ = [12]); kernel_rfl!)
  | ((show _ = [13]); kernel_rfl!)
  | ((show _ = [14]); kernel_rfl!)
  | ((show _ = [15]); kernel_rfl!)
  | ((show _ = [0, 1]); kernel_rfl!)
  | ((show _ = [1, 2]); kernel_rfl!)
  | ((show _ = [2, 3]); kernel_rfl!)
  | ((show _ = [3, 4]); kernel_rfl!)
  | ((show _ = [4, 5]); kernel_rfl!)
  | ((show _ = [5, 6]); kernel_rfl!)
  | ((show _ = [6, 7]); kernel_rfl!)
  | ((show _ = [7, 8]); kernel_rfl!)
  | ((show _ = [8, 9]); kernel_rfl!)
  | ((show _ = [9, 10]); kernel_rfl!)
  | ((show _ = [10, 11]); kernel_rfl!)
  | ((show _ = [11, 12]); kernel_rfl!)
  | ((show _ = [12, 13]); kernel_rfl!)
  | ((show _ = [13, 14]); kernel_rfl!)
  | ((show _ = [14, 15]); kernel_rfl!)
  | fail "no")
local macro_rules | `(tactic| wtm_at "fo ts") => `(tactic| first
  | exact pts_nil
  | (apply pts_one; wtm_at "fo t")
  | fail "no")
local macro_rules | `(tactic| wtm_at "fo lc") => `(tactic| first
  | (refine' pe_lcO (by assumption) (by exact rfl) (by exact rfl) (by wtm_at "fo own") (by decide +kernel) rfl ?ki ?kg ?kt ?ke; (case ki => wtm_at "fo i"); (case kg => (intro _ _ _ _ _; wtm_at "fo g")); (case kt => (intro _ _ _ _ _; wtm_at "fo ts")); (case ke => (intro _ _ _ _ _; wtm_at "fo e")))
  | fail "no")
local macro_rules | `(tactic| wtm_at "fo part") => `(tactic| first
  | exact po_none
  | (apply po_some; wtm_at "fo e")
  | fail "no")
local macro_rules | `(tactic| wtm_at "fo slice") => `(tactic| first
  | ((with_reducible show PE _ (.Subscript _ (.Slice _ _ none _) _) _); refine' pe_slice (sl_listK (by assumption) (by exact rfl)) ?ka ?kb ?kc; (case ka => wtm_at "fo e"); (case kb => wtm_at "fo part"); (case kc => wtm_at "fo part"))
  | ((with_reducible show PE _ (.Subscript _ (.Slice none none (some _) _) _) _); refine' pe_stepK (by assumption) (by exact rfl) ?ka ?kb; (case ka => wtm_at "fo e"); (case kb => wtm_at "fo e"))
  | fail "no")
local macro_rules | `(tactic| wtm_at "fo cmp") => `(tactic| first
  | ((with_reducible show PE _ (.Compare _ [.Lt] _ _) _); refine' pe_cmpR op_lt ?ka ?kb (nomark _); (case ka => wtm_at "fo e"); (case kb => wtm_at "fo e"))
  | ((with_reducible show PE _ (.Compare _ [.LtE] _ _) _); refine' pe_cmpR op_le ?ka ?kb (nomark _); (case ka => wtm_at "fo e"); (case kb => wtm_at "fo e"))
  | ((with_reducible show PE _ (.Compare _ [.Gt] _ _) _); refine' pe_cmpR op_gt ?ka ?kb (nomark _); (case ka => wtm_at "fo e"); (case kb => wtm_at "fo e"))
  | ((with_reducible show PE _ (.Compare _ [.GtE] _ _) _); refine' pe_cmpR op_ge ?ka ?kb (nomark _); (case ka => wtm_at "fo e"); (case kb => wtm_at "fo e"))
  | ((with_reducible show PE _ (.Compare _ [.Eq] _ _) _); refine' pe_cmpR (op_eqK (by assumption) (by exact rfl) (Room.units (by assumption))) ?ka ?kb (nomark _); (case ka => wtm_at "fo e"); (case kb => wtm_at "fo e"))
  | ((with_reducible show PE _ (.Compare _ [.NotEq] _ _) _); refine' pe_cmpR (op_neK (by assumption) (by exact rfl) (Room.units (by assumption))) ?ka ?kb (nomark _); (case ka => wtm_at "fo e"); (case kb => wtm_at "fo e"))
  | fail "no")
local macro_rules | `(tactic| wtm_at "fo tcmp") => `(tactic| first
  | ((with_reducible show PT _ (.Compare _ [.Lt] _ _) _); refine' pt_cmpR op_lt ?ka ?kb (nomark _); (case ka => wtm_at "fo e"); (case kb => wtm_at "fo e"))
  | ((with_reducible show PT _ (.Compare _ [.LtE] _ _) _); refine' pt_cmpR op_le ?ka ?kb (nomark _); (case ka => wtm_at "fo e"); (case kb => wtm_at "fo e"))
  | ((with_reducible show PT _ (.Compare _ [.Gt] _ _) _); refine' pt_cmpR op_gt ?ka ?kb (nomark _); (case ka => wtm_at "fo e"); (case kb => wtm_at "fo e"))
  | ((with_reducible show PT _ (.Compare _ [.GtE] _ _) _); refine' pt_cmpR op_ge ?ka ?kb (nomark _); (case ka => wtm_at "fo e"); (case kb => wtm_at "fo e"))
  | ((with_reducible show PT _ (.Compare _ [.Eq] _ _) _); refine' pt_cmpR (op_eqK (by assumption) (by exact rfl) (Room.units (by assumption))) ?ka ?kb (nomark _); (case ka => wtm_at "fo e"); (case kb => wtm_at "fo e"))
  | ((with_reducible show PT _ (.Compare _ [.NotEq] _ _) _); refine' pt_cmpR (op_neK (by assumption) (by exact rfl) (Room.units (by assumption))) ?ka ?kb (nomark _); (case ka => wtm_at "fo e"); (case kb => wtm_at "fo e"))
  | ((with_reducible show PT _ (.Compare _ [.In] _ _) _); refine' pt_cmpR (op_inK (by assumption) (by exact rfl)) ?ka ?kb rfl; (case ka => wtm_at "fo e"); (case kb => wtm_at "fo e"))
  | ((with_reducible show PT _ (.Compare _ [.NotIn] _ _) _); refine' pt_cmpR (op_notInK (by assumption) (by exact rfl)) ?ka ?kb rfl; (case ka => wtm_at "fo e"); (case kb => wtm_at "fo e"))
  | fail "no")
local macro_rules | `(tactic| wtm_at "fo w") => `(tactic| first
  | ((with_reducible show PW _ (.BoolOp .And [_] _) _); apply pw_and1; wtm_at "fo t")
  | ((with_reducible show PW _ (.BoolOp .And _ _) _); apply pw_and; (· wtm_at "fo t"); (· wtm_at "fo w"))
  | ((with_reducible show PW _ (.BoolOp .Or [_] _) _); apply pw_or1; wtm_at "fo t")
  | ((with_reducible show PW _ (.BoolOp .Or _ _) _); apply pw_or; (· wtm_at "fo t"); (· wtm_at "fo w"))
  | fail "no")
local macro_rules | `(tactic| wtm_at "fo meth") => `(tactic| first
  | ((with_reducible show PE _ (.Call (.Attribute _ (Str.ofString "append") _) _ _ _) _); refine' pe_bm PySem.F.plainAttrs_list PySem.F.slot_list_append PySem.F.type_list_append mt_append ?ka ?kb; (case ka => wtm_at "fo e"); (case kb => wtm_at "fo a"))
  | ((with_reducible show PE _ (.Call (.Attribute _ (Str.ofString "pop") _) [_] _ _) _); refine' pe_bm PySem.F.plainAttrs_list PySem.F.slot_list_pop PySem.F.type_list_pop mt_popAt ?ka ?kb; (case ka => wtm_at "fo e"); (case kb => wtm_at "fo a"))
  | ((with_reducible show PE _ (.Call (.Attribute _ (Str.ofString "pop") _) [] _ _) _); refine' pe_bm0 PySem.F.plainAttrs_list PySem.F.slot_list_pop PySem.F.type_list_pop mt_pop ?ka; (case ka => wtm_at "fo e"))
  | fail "no")
local macro_rules | `(tactic| wtm_at "fo k") => `(tactic| first
  | exact pk_nil
  | (refine' pk_cons ?k1 ?k2; (case k1 => wtm_at "fo e"); (case k2 => wtm_at "fo k"))
  | fail "no")
local macro_rules | `(tactic| wtm_at "fo kcall") => `(tactic| first
  | (refine' pe_kcal (by assumption) (by assumption) (by decide) (by rfl) ?ka; (case ka => wtm_at "fo k"))
  | fail "no")
local macro_rules | `(tactic| wtm_at "fo call") => `(tactic| first
  | ((with_reducible show PE _ (.Call (.Name (Str.ofString "int") _) _ _ _) _); refine' pe_callTy call_intB (by rfl) (by assumption) (by decide +kernel) ?ka; (case ka => wtm_at "fo a"))
  | ((with_reducible show PE _ (.Call (.Name (Str.ofString "len") _) _ _ _) _); refine' pe_callB (call_lenK (by assumption) (by exact rfl)) (by rfl) (by assumption) PySem.boot_len ?ka; (case ka => wtm_at "fo a"))
  | ((with_reducible show PE _ (.Call (.Name (Str.ofString "list") _) [.Call (.Name (Str.ofString "range") _) [_, _] _ _] _ _) _); refine' pe_listRg rfl (by rfl) (by assumption) (prg_2 (by rfl) (by assumption) ?ka ?kb); (case ka => wtm_at "fo e"); (case kb => wtm_at "fo e"))
  | ((with_reducible show PE _ (.Call (.Name (Str.ofString "list") _) _ _ _) _); refine' pe_callTy (call_listK (by assumption) (by exact rfl)) (by rfl) (by assumption) (by decide +kernel) ?ka; (case ka => wtm_at "fo a"))
  | ((with_reducible show PE _ (.Call (.Name (Str.ofString "min") _) [_, _] _ _) _); refine' pe_callB (call_min2 rfl) (by rfl) (by assumption) (by decide +kernel) ?ka; (case ka => wtm_at "fo a"))
  | ((with_reducible show PE _ (.Call (.Name (Str.ofString "sorted") _) [_] _ _) _); refine' pe_callB (cr_sortedK (by assumption) (by exact rfl)) (by rfl) (by assumption) (by decide +kernel) ?ka; (case ka => wtm_at "fo a"))
  | ((with_reducible show PE _ (.Call (.Name (Str.ofString "repr") _) [_] _ _) _); refine' pe_callB (call_reprK (by assumption) (by exact rfl) (by assumption) (Room.units (by assumption))) (by rfl) (by assumption) (by decide +kernel) ?ka; (case ka => wtm_at "fo a"))
  | (refine' pe_cal (by assumption) (by assumption) (by decide) (by rfl) ?ka; (case ka => wtm_at "fo a"))
  | fail "no")
local macro_rules | `(tactic| wtm_at "fo setlc") => `(tactic| first
  | (refine' ps_setLcO (i := 0) (by assumption) (by exact rfl) (by exact rfl) (by wtm_at "fo own") (by decide +kernel) rfl rfl rfl (sw_true rfl rfl rfl (by decide +kernel)) ?ki ?kg ?kt ?ke; (case ki => wtm_at "fo i"); (case kg => (intro _ _ _ _ _; wtm_at "fo g")); (case kt => (intro _ _ _ _ _; wtm_at "fo ts")); (case ke => (intro _ _ _ _ _; wtm_at "fo e")))
  | (refine' ps_setLcO (i := 1) (by assumption) (by exact rfl) (by exact rfl) (by wtm_at "fo own") (by decide +kernel) rfl rfl rfl (sw_true rfl rfl rfl (by decide +kernel)) ?ki ?kg ?kt ?ke; (case ki => wtm_at "fo i"); (case kg => (intro _ _ _ _ _; wtm_at "fo g")); (case kt => (intro _ _ _ _ _; wtm_at "fo ts")); (case ke => (intro _ _ _ _ _; wtm_at "fo e")))
  | (refine' ps_setLcO (i := 2) (by assumption) (by exact rfl) (by exact rfl) (by wtm_at "fo own") (by decide +kernel) rfl rfl rfl (sw_true rfl rfl rfl (by decide +kernel)) ?ki ?kg ?kt ?ke; (case ki => wtm_at "fo i"); (case kg => (intro _ _ _ _ _; wtm_at "fo g")); (case kt => (intro _ _ _ _ _; wtm_at "fo ts")); (case ke => (intro _ _ _ _ _; wtm_at "fo e")))
  | (refine' ps_setLcO (i := 3) (by assumption) (by exact rfl) (by exact rfl) (by wtm_at "fo own") (by decide +kernel) rfl rfl rfl (sw_true rfl rfl rfl (by decide +kernel)) ?ki ?kg ?kt ?ke; (case ki => wtm_at "fo i"); (case kg => (intro _ _ _ _ _; wtm_at "fo g")); (case kt => (intro _ _ _ _ _; wtm_at "fo ts")); (case ke => (intro _ _ _ _ _; wtm_at "fo e")))
  | (refine' ps_setLcO (i := 4) (by assumption) (by exact rfl) (by exact rfl) (by wtm_at "fo own") (by decide +kernel) rfl rfl rfl (sw_true rfl rfl rfl (by decide +kernel)) ?ki ?kg ?kt ?ke; (case ki => wtm_at "fo i"); (case kg => (intro _ _ _ _ _; wtm_at "fo g")); (case kt => (intro _ _ _ _ _; wtm_at "fo ts")); (case ke => (intro _ _ _ _ _; wtm_at "fo e")))
  | (refine' ps_setLcO (i := 5) (by assumption) (by exact rfl) (by exact rfl) (by wtm_at "fo own") (by decide +kernel) rfl rfl rfl (sw_true rfl rfl rfl (by decide +kernel)) ?ki ?kg ?kt ?ke; (case ki => wtm_at "fo i"); (case kg => (intro _ _ _ _ _; wtm_at "fo g")); (case kt => (intro _ _ _ _ _; wtm_at "fo ts")); (case ke => (intro _ _ _ _ _; wtm_at "fo e")))
  | (refine' ps_setLcO (i := 6) (by assumption) (by exact rfl) (by exact rfl) (by wtm_at "fo own") (by decide +kernel) rfl rfl rfl (sw_true rfl rfl rfl (by decide +kernel)) ?ki ?kg ?kt ?ke; (case ki => wtm_at "fo i"); (case kg => (intro _ _ _ _ _; wtm_at "fo g")); (case kt => (intro _ _ _ _ _; wtm_at "fo ts")); (case ke => (intro _ _ _ _ _; wtm_at "fo e")))
  | (refine' ps_setLcO (i := 7) (by assumption) (by exact rfl) (by exact rfl) (by wtm_at "fo own") (by decide +kernel) rfl rfl rfl (sw_true rfl rfl rfl (by decide +kernel)) ?ki ?kg ?kt ?ke; (case ki => wtm_at "fo i"); (case kg => (intro _ _ _ _ _; wtm_at "fo g")); (case kt => (intro _ _ _ _ _; wtm_at "fo ts")); (case ke => (intro _ _ _ _ _; wtm_at "fo e")))
  | (refine' ps_setLcO (i := 8) (by assumption) (by exact rfl) (by exact rfl) (by wtm_at "fo own") (by decide +kernel) rfl rfl rfl (sw_true rfl rfl rfl (by decide +kernel)) ?ki ?kg ?kt ?ke; (case ki => wtm_at "fo i"); (case kg => (intro _ _ _ _ _; wtm_at "fo g")); (case kt => (intro _ _ _ _ _; wtm_at "fo ts")); (case ke => (intro _ _ _ _ _; wtm_at "fo e")))
  | (refine' ps_setLcO (i := 9) (by assumption) (by exact rfl) (by exact rfl) (by wtm_at "fo own") (by decide +kernel) rfl rfl rfl (sw_true rfl rfl rfl (by decide +kernel)) ?ki ?kg ?kt ?ke; (case ki => wtm_at "fo i"); (case kg => (intro _ _ _ _ _; wtm_at "fo g")); (case kt => (intro _ _ _ _ _; wtm_at "fo ts")); (case ke => (intro _ _ _ _ _; wtm_at "fo e")))
  | (refine' ps_setLcO (i := 10) (by assumption) (by exact rfl) (by exact rfl) (by wtm_at "fo own") (by decide +kernel) rfl rfl rfl (sw_true rfl rfl rfl (by decide +kernel)) ?ki ?kg ?kt ?ke; (case ki => wtm_at "fo i"); (case kg => (intro _ _ _ _ _; wtm_at "fo g")); (case kt => (intro _ _ _ _ _; wtm_at "fo ts")); (case ke => (intro _ _ _ _ _; wtm_at "fo e")))
  | (refine' ps_setLcO (i := 11) (by assumption) (by exact rfl) (by exact rfl) (by wtm_at "fo own") (by decide +kernel) rfl rfl rfl (sw_true rfl rfl rfl (by decide +kernel)) ?ki ?kg ?kt ?ke; (case ki => wtm_at "fo i"); (case kg => (intro _ _ _ _ _; wtm_at "fo g")); (case kt => (intro _ _ _ _ _; wtm_at "fo ts")); (case ke => (intro _ _ _ _ _; wtm_at "fo e")))
  | (refine' ps_setLcO (i := 12) (by assumption) (by exact rfl) (by exact rfl) (by wtm_at "fo own") (by decide +kernel) rfl rfl rfl (sw_true rfl rfl rfl (by decide +kernel)) ?ki ?kg ?kt ?ke; (case ki => wtm_at "fo i"); (case kg => (intro _ _ _ _ _; wtm_at "fo g")); (case kt => (intro _ _ _ _ _; wtm_at "fo ts")); (case ke => (intro _ _ _ _ _; wtm_at "fo e")))
  | (refine' ps_setLcO (i := 13) (by assumption) (by exact rfl) (by exact rfl) (by wtm_at "fo own") (by decide +kernel) rfl rfl rfl (sw_true rfl rfl rfl (by decide +kernel)) ?ki ?kg ?kt ?ke; (case ki => wtm_at "fo i"); (case kg => (intro _ _ _ _ _; wtm_at "fo g")); (case kt => (intro _ _ _ _ _; wtm_at "fo ts")); (case ke => (intro _ _ _ _ _; wtm_at "fo e")))
  | (refine' ps_setLcO (i := 14) (by assumption) (by exact rfl) (by exact rfl) (by wtm_at "fo own") (by decide +kernel) rfl rfl rfl (sw_true rfl rfl rfl (by decide +kernel)) ?ki ?kg ?kt ?ke; (case ki => wtm_at "fo i"); (case kg => (intro _ _ _ _ _; wtm_at "fo g")); (case kt => (intro _ _ _ _ _; wtm_at "fo ts")); (case ke => (intro _ _ _ _ _; wtm_at "fo e")))
  | (refine' ps_setLcO (i := 15) (by assumption) (by exact rfl) (by exact rfl) (by wtm_at "fo own") (by decide +kernel) rfl rfl rfl (sw_true rfl rfl rfl (by decide +kernel)) ?ki ?kg ?kt ?ke; (case ki => wtm_at "fo i"); (case kg => (intro _ _ _ _ _; wtm_at "fo g")); (case kt => (intro _ _ _ _ _; wtm_at "fo ts")); (case ke => (intro _ _ _ _ _; wtm_at "fo e")))
  | fail "no")
local macro_rules | `(tactic| wtm_at "fo set") => `(tactic| first
  | (refine' ps_set (i := 0) (by assumption) rfl (by first | exact Or.inl rfl | exact Or.inr rfl) ?ka; (case ka => wtm_at "fo e"))
  | (refine' ps_set (i := 1) (by assumption) rfl (by first | exact Or.inl rfl | exact Or.inr rfl) ?ka; (case ka => wtm_at "fo e"))
  | (refine' ps_set (i := 2) (by assumption) rfl (by first | exact Or.inl rfl | exact Or.inr rfl) ?ka; (case ka => wtm_at "fo e"))
  | (refine' ps_set (i := 3) (by assumption) rfl (by first | exact Or.inl rfl | exact Or.inr rfl) ?ka; (case ka => wtm_at "fo e"))
  | (refine' ps_set (i := 4) (by assumption) rfl (by first | exact Or.inl rfl | exact Or.inr rfl) ?ka; (case ka => wtm_at "fo e"))
  | (refine' ps_set (i := 5) (by assumption) rfl (by first | exact Or.inl rfl | exact Or.inr rfl) ?ka; (case ka => wtm_at "fo e"))
  | (refine' ps_set (i := 6) (by assumption) rfl (by first | exact Or.inl rfl | exact Or.inr rfl) ?ka; (case ka => wtm_at "fo e"))
  | (refine' ps_set (i := 7) (by assumption) rfl (by first | exact Or.inl rfl | exact Or.inr rfl) ?ka; (case ka => wtm_at "fo e"))
  | (refine' ps_set (i := 8) (by assumption) rfl (by first | exact Or.inl rfl | exact Or.inr rfl) ?ka; (case ka => wtm_at "fo e"))
  | (refine' ps_set (i := 9) (by assumption) rfl (by first | exact Or.inl rfl | exact Or.inr rfl) ?ka; (case ka => wtm_at "fo e"))
  | (refine' ps_set (i := 10) (by assumption) rfl (by first | exact Or.inl rfl | exact Or.inr rfl) ?ka; (case ka => wtm_at "fo e"))
  | (refine' ps_set (i := 11) (by assumption) rfl (by first | exact Or.inl rfl | exact Or.inr rfl) ?ka; (case ka => wtm_at "fo e"))
  | (refine' ps_set (i := 12) (by assumption) rfl (by first | exact Or.inl rfl | exact Or.inr rfl) ?ka; (case ka => wtm_at "fo e"))
  | (refine' ps_set (i := 13) (by assumption) rfl (by first | exact Or.inl rfl | exact Or.inr rfl) ?ka; (case ka => wtm_at "fo e"))
  | fail "no")
local macro_rules | `(tactic| wtm_at "fo t") => `(tactic| first
  | ((with_reducible show PT _ (.BoolOp _ _ _) _); apply PW.pt; wtm_at "fo w")
  | ((with_reducible show PT _ (.UnaryOp .Not _ _) _); apply pt_not; wtm_at "fo t")
  | ((with_reducible show PT _ (.Compare _ _ _ _) _); wtm_at "fo tcmp")
  | (refine' pt_truthK (by assumption) (by exact rfl) ?ka (by intro _; rfl); (case ka => wtm_at "fo e"))
  | fail "no")
local macro_rules | `(tactic| wtm_at "fo gn") => `(tactic| first
  | exact pg_name (i := 0) (by assumption) rfl (by first | exact Or.inl rfl | exact Or.inr rfl)
  | exact pg_name (i := 1) (by assumption) rfl (by first | exact Or.inl rfl | exact Or.inr rfl)
  | exact pg_name (i := 2) (by assumption) rfl (by first | exact Or.inl rfl | exact Or.inr rfl)
  | exact pg_name (i := 3) (by assumption) rfl (by first | exact Or.inl rfl | exact Or.inr rfl)
  | exact pg_name (i := 4) (by assumption) rfl (by first | exact Or.inl rfl | exact Or.inr rfl)
  | exact pg_name (i := 5) (by assumption) rfl (by first | exact Or.inl rfl | exact Or.inr rfl)
  | exact pg_name (i := 6) (by assumption) rfl (by first | exact Or.inl rfl | exact Or.inr rfl)
  | exact pg_name (i := 7) (by assumption) rfl (by first | exact Or.inl rfl | exact Or.inr rfl)
  | exact pg_name (i := 8) (by assumption) rfl (by first | exact Or.inl rfl | exact Or.inr rfl)
  | exact pg_name (i := 9) (by assumption) rfl (by first | exact Or.inl rfl | exact Or.inr rfl)
  | exact pg_name (i := 10) (by assumption) rfl (by first | exact Or.inl rfl | exact Or.inr rfl)
  | exact pg_name (i := 11) (by assumption) rfl (by first | exact Or.inl rfl | exact Or.inr rfl)
  | exact pg_name (i := 12) (by assumption) rfl (by first | exact Or.inl rfl | exact Or.inr rfl)
  | exact pg_name (i := 13) (by assumption) rfl (by first | exact Or.inl rfl | exact Or.inr rfl)
  | exact pg_name (i := 14) (by assumption) rfl (by first | exact Or.inl rfl | exact Or.inr rfl)
  | exact pg_name (i := 15) (by assumption) rfl (by first | exact Or.inl rfl | exact Or.inr rfl)
  | fail "no")
local macro_rules | `(tactic| wtm_at "fo par") => `(tactic| first
  | (refine' ps_par (i := 0) (j := 1) rfl (by assumption) rfl rfl (by decide) rfl rfl ?ka (by rfl); (case ka => wtm_at "fo a"))
  | (refine' ps_par (i := 1) (j := 2) rfl (by assumption) rfl rfl (by decide) rfl rfl ?ka (by rfl); (case ka => wtm_at "fo a"))
  | (refine' ps_par (i := 2) (j := 3) rfl (by assumption) rfl rfl (by decide) rfl rfl ?ka (by rfl); (case ka => wtm_at "fo a"))
  | (refine' ps_par (i := 3) (j := 4) rfl (by assumption) rfl rfl (by decide) rfl rfl ?ka (by rfl); (case ka => wtm_at "fo a"))
  | (refine' ps_par (i := 4) (j := 5) rfl (by assumption) rfl rfl (by decide) rfl rfl ?ka (by rfl); (case ka => wtm_at "fo a"))
  | (refine' ps_par (i := 5) (j := 6) rfl (by assumption) rfl rfl (by decide) rfl rfl ?ka (by rfl); (case ka => wtm_at "fo a"))
  | (refine' ps_par (i := 6) (j := 7) rfl (by assumption) rfl rfl (by decide) rfl rfl ?ka (by rfl); (case ka => wtm_at "fo a"))
  | (refine' ps_par (i := 7) (j := 8) rfl (by assumption) rfl rfl (by decide) rfl rfl ?ka (by rfl); (case ka => wtm_at "fo a"))
  | (refine' ps_par (i := 8) (j := 9) rfl (by assumption) rfl rfl (by decide) rfl rfl ?ka (by rfl); (case ka => wtm_at "fo a"))
  | (refine' ps_par (i := 9) (j := 10) rfl (by assumption) rfl rfl (by decide) rfl rfl ?ka (by rfl); (case ka => wtm_at "fo a"))
  | (refine' ps_par (i := 10) (j := 11) rfl (by assumption) rfl rfl (by decide) rfl rfl ?ka (by rfl); (case ka => wtm_at "fo a"))
  | (refine' ps_par (i := 11) (j := 12) rfl (by assumption) rfl rfl (by decide) rfl rfl ?ka (by rfl); (case ka => wtm_at "fo a"))
  | (refine' ps_par (i := 12) (j := 13) rfl (by assumption) rfl rfl (by decide) rfl rfl ?ka (by rfl); (case ka => wtm_at "fo a"))
  | (refine' ps_par (i := 13) (j := 14) rfl (by assumption) rfl rfl (by decide) rfl rfl ?ka (by rfl); (case ka => wtm_at "fo a"))
  | (refine' ps_par (i := 14) (j := 15) rfl (by assumption) rfl rfl (by decide) rfl rfl ?ka (by rfl); (case ka => wtm_at "fo a"))
  | fail "no")
local macro_rules | `(tactic| wtm_at "fo g") => `(tactic| first
  | ((with_reducible show PG _ (.Name _ _) _); wtm_at "fo gn")
  | ((with_reducible show PG _ (.Tuple _ _ _) _); apply PG_or; (· refine' pg_tup2 (by assumption) (by exact rfl) rfl ?kg; (case kg => wtm_at "fo gs")); (· refine' pg_unl2 (by assumption) (by exact rfl) rfl ?kg; (case kg => wtm_at "fo gs")))
  | fail "no")
local macro_rules | `(tactic| wtm_at "fo gs") => `(tactic| first
  | exact pgs_nil
  | (refine' pgs_cons ?k1 ?k2; (case k1 => wtm_at "fo g"); (case k2 => wtm_at "fo gs"))
  | fail "no")
local macro_rules | `(tactic| wtm_at "fo i") => `(tactic| first
  | ((with_reducible show PI _ _ (.Call (.Name (Str.ofString "range") _) [_] _ _) _); refine' pi_range1 (by rfl) (by assumption) ?ka; (case ka => wtm_at "fo a"))
  | ((with_reducible show PI _ _ (.Call (.Name (Str.ofString "range") _) [_, _] _ _) _); refine' pi_range2 (by rfl) (by assumption) ?ka; (case ka => wtm_at "fo a"))
  | ((with_reducible show PI _ _ (.Call (.Name (Str.ofString "enumerate") _) [_] _ _) _); refine' pi_enum (by rfl) (by assumption) ?ka; (case ka => wtm_at "fo a"))
  | (refine' pi_listK (by assumption) (by exact rfl) ?ka; (case ka => wtm_at "fo e"))
  | fail "no")
local macro_rules | `(tactic| wtm_at "fo s") => `(tactic| first
  | ((with_reducible show PS _ (.While _ _ _ _) _); refine' ps_while PassesOwn.never ?kt ?kb; (case kt => wtm_at "fo t"); (case kb => wtm_at "fo ss"))
  | ((with_reducible show PS _ (.For _ _ _ _ _) _); refine' ps_for PassesOwn.never rfl ?ki ?kg ?kb; (case ki => wtm_at "fo i"); (case kg => wtm_at "fo g"); (case kb => wtm_at "fo ss"))
  | ((with_reducible show PS _ (.Assign [.Name _ _] (.ListComp _ [_] _ _) _) _); wtm_at "fo setlc")
  | ((with_reducible show PS _ (.Assign [.Name _ _] _ _) _); wtm_at "fo set")
  | ((with_reducible show PS _ (.Assign [.Tuple [.Name _ _, .Name _ _] _ _] (.Tuple [_, _] _ _) _) _); wtm_at "fo par")
  | ((with_reducible show PS _ (.Assign [.Subscript _ _ _] _ _) _); refine' ps_asg ?ka (pg_sub ?kb ?kc set_list); (case ka => wtm_at "fo e"); (case kb => wtm_at "fo e"); (case kc => wtm_at "fo e"))
  | ((with_reducible show PS _ (.Return (some _) _) _); apply ps_ret; wtm_at "fo e")
  | ((with_reducible show PS _ (.Expr _ _) _); refine' ps_expr ?ka; (case ka => wtm_at "fo e"))
  | ((with_reducible show PS _ (.If _ _ _ _) _); apply ps_if; (· wtm_at "fo t"); (· wtm_at "fo ss"); (· wtm_at "fo ss"))
  | fail "no")
local macro_rules | `(tactic| wtm_at "fo ss") => `(tactic| first
  | with_reducible exact pss_nil
  | ((with_reducible show PSs _ [_] _); apply pss_one; wtm_at "fo s")
  | (apply pss_cons; (· wtm_at "fo s"); (· wtm_at "fo ss"))
  | fail "no")
local macro_rules | `(tactic| wtm_at "fo hp") => `(tactic| first
  | assumption
  | exact upd_same
  | (refine (upd_ne ?ne).trans ?hp; (case ne => wtm_at "fo ne"); (case hp => wtm_at "fo hp"))
  | fail "no")
local macro_rules | `(tactic| wtm_at "fo ne") => `(tactic| first
  | assumption
  | (apply Ne.symm; assumption)
  | exact ne_of_none (by assumption) (by assumption)
  | exact Ne.symm (ne_of_none (by assumption) (by assumption))
  | fail "no")
local macro_rules | `(tactic| wtm_at "fo sz") => `(tactic| first
  | exact (Nat.le_of_ble_eq_true rfl : _ ≤ sizeLine)
  | exact (Nat.le_of_ble_eq_true rfl : _ < sizeLine)
  | exact Nat.lt_of_le_of_lt (m := 100000) (by first | assumption | omega | (simp; omega)) (by decide)
  | exact Nat.le_trans (m := 100000) (by first | assumption | omega | (simp; omega)) (by decide)
  | fail "no")
local macro_rules | `(tactic| wtm_at "fo r1") => `(tactic| first
  | refine ⟨(Nat.le_of_ble_eq_true rfl : _ ≤ sizeLine), fun p np => ?_⟩
  | (refine' ⟨_, _, rfl, Or.inl (SqL.of ?h), ?_⟩; (case h => wtm_at "fo hp"))
  | refine ⟨_, rfl, ?_⟩
  | refine ⟨_, _, rfl, rfl, ?_⟩
  | refine ⟨_, _, rfl, ⟨by omega, by omega, by omega, by omega⟩, ?_⟩
  | refine ⟨_, rfl, by omega, by omega, ?_⟩
  | refine Or.inl ⟨_, rfl, ?_⟩
  | refine Or.inl ⟨rfl, ?_⟩
  | refine Or.inl ⟨_, _, rfl, rfl, ?_⟩
  | (refine' Or.inl ⟨_, _, _, _, rfl, rfl, SqL.of ?h, ?a, ?_⟩; (case h => wtm_at "fo hp"); (case a => rfl))
  | (refine' ⟨_, _, _, _, rfl, rfl, ?h, ?a, ?_⟩; (case h => wtm_at "fo hp"); (case a => rfl))
  | (refine' ⟨.inl ⟨rfl, _, SqL.of ?h⟩, ?_⟩; (case h => wtm_at "fo hp"))
  | (refine' ⟨_, _, _, rfl, rfl, ?h, ?z, ?_⟩; (case h => wtm_at "fo hp"); (case z => wtm_at "fo sz"))
  | (refine' ⟨_, rfl, ⟨_, SqL.of ?h⟩, ?_⟩; (case h => wtm_at "fo hp"))
  | fail "no")
local macro_rules | `(tactic| wtm_at "fo side") => `(tactic| ((try dsimp only [CMul, CDiv]); first
  | assumption
  | decide
  | omega
  | exact ⟨by decide, by decide⟩
  | exact ⟨by omega, by omega⟩
  | decide +kernel
  | fail "no"))
local macro_rules | `(tactic| wtm_at "fo r2") => `(tactic| first
  | wtm_at "fo r1"
  | refine And.intro (by wtm_at "fo side") ?_
  | fail "no")
local macro_rules | `(tactic| wtm_at "fo r") => `(tactic| repeat wtm_at "fo r2")
/-- a def of the text whose run has no repr under way -/
structure CalG (P : Program) (w : World) (K : PySem.W.Frag) (mg : Str → Option Value) (base : Heap) (x : Str) (k : Nat) (ps : List Str) (sp : Sp) : Prop where
  ex : ∃ (f : Addr) (fd : FuncData), FnG P w K mg base CX0 k f fd ps sp ∧ mg x = some (.ref f) ∧ PySem.W.keepIn K (.ref f) = true ∧ Binds K fd ps []
section
variable {X : Cx} {x : Str} {p pos : Pos} {e : Expr} {es : List Expr} {t : TA} {k j : Nat} {ps : List Str} {sp : Sp}
theorem pe_calG (C : CalG X.prog X.w X.K X.mg X.base x k ps sp) (hr : Room j X.A) (hkj : k ≤ j) (hgd : X.A.guards = some []) (hg : Gl X x) (ha : PA X (e :: es) t)
    (hdb : (x == ("__debug__" : Str)) = false := by decide)
    (he : starEach (e :: es) X.env = (false, eval e X.env) :: starEach es X.env := by rfl)
    (hpl : (backTo pos (starEach es X.env)).any (·.1) = false := by rfl) :
    PE X (.Call (.Name x p) (e :: es) [] pos) (tCall sp [] E0 t) := by
  obtain ⟨f, fd, F, hm, hk, hb⟩ := C.ex
  exact Fo.pe_callG F (hr.mono hkj) hgd hg hm hk hb .nil pass0 ha hdb he hpl
end
local macro_rules | `(tactic| wtm_at "fo call") => `(tactic| (refine' pe_calG (by assumption) (by assumption) (by decide) (by assumption) (by rfl) ?ka; (case ka => wtm_at "fo a")))
local macro_rules | `(tactic| wtm_at "fo e") => `(tactic| first
  | ((with_reducible show PE _ (.BoolOp _ [_] _) _); apply pe_one; wtm_at "fo e")
  | ((with_reducible show PE _ (.BoolOp .And _ _) _); apply pe_and <;> wtm_at "fo e"))
theorem cut6 (ns : List Int) : (cutV (ns.map V.int) none (some 6)).length ≤ 6 := by
  unfold cutV
  rw [List.length_take]
  refine Nat.le_trans (Nat.min_le_left _ _) (Nat.le_trans (Nat.sub_le _ _) ?_)
  unfold HT.sIx
  simp only [show ¬ (6 : Int) < 0 by decide, if_false]
  omega
theorem cutInt {ns : List Int} {lo hi : Option Int} {x : V} (h : x ∈ cutV (ns.map V.int) lo hi) : ∃ i, x = V.int i := by
  unfold cutV at h
  obtain ⟨i, _, rfl⟩ := List.mem_map.mp (List.mem_of_mem_drop (List.mem_of_mem_take h))
  exact ⟨i, rfl⟩
theorem call_webZ {d : Addr} {k kd z : Int} {H : Hp} {Q : VK} {E : XK} (hd : Dr H d k) (hk : k ≤ 900000) (hn : 1 ≤ z) (hn2 : z ≤ 12) (h0 : 0 ≤ kd) (h2 : kd ≤ 2)
    (fin : ∀ p H' k' fs, Simp z fs → fs.length ≤ 200 → SameBut d H H' → H p = none → Pairs H' p fs → Dr H' d k' → k' ≤ k + 2000 → Q (.ref p) H') : spWeb [.ref d, .int z, .int kd] H Q E := by
  obtain ⟨n, rfl⟩ := Int.eq_ofNat_of_zero_le (show 0 ≤ z by omega)
  exact call_web hd hk (by omega) (by omega) h0 h2 fin
theorem call_rightZ {q : Addr} {z : Int} {es : List Edge} {H : Hp} {Q : VK} {E : XK} (h1 : 1 ≤ z) (h2 : z ≤ 12) (hq : Pairs H q es) (hS : Simp z es) (hl : es.length ≤ 200) (fin : ∀ H', Same H H' → Q (.bl true) H') : spRight [.int z, .ref q] H Q E := by
  obtain ⟨n, rfl⟩ := Int.eq_ofNat_of_zero_le (show 0 ≤ z by omega)
  exact call_right (by omega) (by omega) hq hS hl fin
theorem call_prightZ {q1 q2 : Addr} {z y : Int} {es fs : List Edge} {H : Hp} {Q : VK} {E : XK} (h1 : 1 ≤ z) (h2 : 1 ≤ y) (h3 : y ≤ 12 / z) (h4 : z ≤ 12) (a1 : Pairs H q1 es) (a2 : Simp z es) (a3 : es.length ≤ 200) (b1 : Pairs H q2 fs) (b2 : Simp y fs) (b3 : fs.length ≤ 200)
    (fin : ∀ H', Same H H' → Q (.bl true) H') : spPRight [.int z, .ref q1, .int y, .ref q2] H Q E := by
  obtain ⟨n, rfl⟩ := Int.eq_ofNat_of_zero_le (show 0 ≤ z by omega)
  obtain ⟨m, rfl⟩ := Int.eq_ofNat_of_zero_le (show 0 ≤ y by omega)
  have h5 : (m : Int) * n ≤ 12 := (Int.le_ediv_iff_mul_le (by omega)).mp h3
  have h6 : n * m ≤ 12 := by rw [Nat.mul_comm]; exact_mod_cast h5
  have h7 : m ≤ 12 := Nat.le_trans (Nat.le_mul_of_pos_left m (show 0 < n by omega)) h6
  exact call_pright (by omega) (by omega) h6 (by omega) h7 a1 a2 a3 b1 b2 b3 fin
/-! ### nets written in the text -/
structure RowAt (H : Hp) (rs : List Addr) (es : List Edge) : Prop where
  len : rs.length = es.length
  at_ : ∀ (i : Nat) (r : Addr) (e : Edge), rs[i]? = some r → es[i]? = some e → H r = some (.lst [.int e.1, .int e.2])
theorem RowAt.nil (H : Hp) : RowAt H [] [] := ⟨rfl, fun i r e h _ => by simp at h⟩
theorem RowAt.same {H H' : Hp} {rs : List Addr} {es : List Edge} (h : RowAt H rs es) (s : Same H H') : RowAt H' rs es := ⟨h.len, fun i r e a b => s _ _ (h.at_ i r e a b)⟩
theorem RowAt.snoc {H : Hp} {rs : List Addr} {es : List Edge} {r : Addr} {a b : Int} (h : RowAt H rs es) (nr : H r = none) : RowAt (upd H r (.lst [.int a, .int b])) (rs ++ [r]) (es ++ [(a, b)]) := by
  have hs := h.same (same_upd (o := .lst [.int a, .int b]) (Same.refl _) nr)
  refine ⟨by simp [h.len], fun i r2 e h1 h2 => ?_⟩
  by_cases hi : i < rs.length
  · rw [List.getElem?_append_left hi] at h1
    rw [List.getElem?_append_left (by rw [← h.len]; exact hi)] at h2
    exact hs.at_ i r2 e h1 h2
  · have hlt : i < (rs ++ [r]).length := (List.getElem?_eq_some_iff.mp h1).1
    have hi2 : i = rs.length := by rw [List.length_append, List.length_singleton] at hlt; omega
    subst hi2
    rw [List.getElem?_concat_length] at h1
    rw [h.len, List.getElem?_concat_length] at h2
    cases h1
    cases h2
    exact upd_same
theorem RowAt.net {H : Hp} {rs : List Addr} {es : List Edge} {q : Addr} (h : RowAt H rs es) (nq : H q = none) : PsAt (upd H q (.lst (rs.map V.ref))) q rs es :=
  let hs := h.same (same_upd (o := .lst (rs.map V.ref)) (Same.refl _) nq)
  ⟨upd_same, hs.len, hs.at_⟩
theorem simp_of {n : Int} {es : List Edge} (h1 : ∀ e ∈ es, 1 ≤ e.1 ∧ e.1 ≤ n ∧ 1 ≤ e.2 ∧ e.2 ≤ n ∧ e.1 ≠ e.2) (h2 : es.Pairwise fun a b => a ≠ b ∧ a ≠ (b.2, b.1)) : Simp n es := ⟨h1, h2⟩
theorem eqv_dI (xs : List Int) : PyData.eqv (dI xs) (dI xs) = true := by
  unfold dI
  induction xs with
  | nil => simp [PyData.eqv, PyData.eqvAll]
  | cons a l ih => simp_all [PyData.eqv, PyData.eqvAll]
@[irreducible] def spLaw (K : PySem.W.Frag) : Sp := fun vs H Q _ => ∃ (a : Addr) (ns : List Int), vs = [.ref a] ∧ SqL K H a (ns.map V.int) ∧ ns.length ≤ sizeLine ∧ ∀ H', Q (.bl true) H'
variable {P : Program} {w : World} {K : PySem.W.Frag} {mg : Str → Option Value} {base : Heap}
set_option maxHeartbeats 8000000 in
theorem ok_law {f : Addr} {fd : FuncData} (F : Fun K "law" "law" s_law f fd) (mr : mg "range" = none) (mi : mg "int" = none)
    (C1 : Cal P w K mg base "_law_next" 1 ["_law_draws_here"] spNext) (C2 : Cal P w K mg base "_law_draws" 1 ["_law_cell"] spDraws)
    (C3 : Cal P w K mg base "_law_web" 3 ["_law_draws_here", "_law_size", "_law_kind"] spWeb)
    (C4 : Cal P w K mg base "_law_shuffled" 2 ["_law_draws_here", "_law_things"] spShuf)
    (C5 : CalG P w K mg base "_law_right" 5 ["_law_size", "_law_sides"] spRight)
    (C6 : CalG P w K mg base "_law_product_right" 5 ["_law_size", "_law_sides", "_law_far", "_law_bars"] spPRight)
    (C7 : Cal P w K mg base "beside" 3 ["places", "lines", "place"] spBeside)
    (C8 : Cal P w K mg base "product" 3 ["places", "lines", "more", "ties"] spProd) :
    FnG P w K mg base CX0 6 f fd ["_law_script"] (spLaw K) := by
  refine okG F sc_law (fun vs H Q E h => ?_) (fun cdv A outer s H vs Q E hr hgd h => ?_)
  · unfold spLaw at h
    obtain ⟨a, ns, rfl, _⟩ := h
    rfl
  · have nd := sc_law.nd
    have hS := sc_law
    have hKM : KMark K := ⟨⟩
    refine' mk_body ?body ?rd
    case body =>
      show PSs _ [_, _, _, _, _] _
      wtm_at "fo ss"
    case rd =>
     unfold spLaw at h
     obtain ⟨a, ns, rfl, hq, hl, fin⟩ := h
     wtm_at "fo r"
     refine ⟨a, _, rfl, hq, fun p1 np1 => ?_⟩
     have hc1 := cut6 ns
     have hc2 : ∀ x ∈ cutV (ns.map V.int) none (some 6), ∃ i, x = V.int i := fun x hx => cutInt hx
     generalize cutV (ns.map V.int) none (some 6) = xs at *
     wtm_at "fo r"
     rename_i p2 np2
     have h12 : p1 ≠ p2 := ne_of_none upd_same np2
     refine Or.inr ⟨p1, p2, xs, [.int 0], rfl, rfl, by rw [upd_ne h12]; exact upd_same, upd_same, ?_, fun c nc => ?_⟩
     · exact Nat.le_trans (m := 100) (by simp; omega) (by decide)
     have hxs : ∀ x ∈ xs ++ [V.int 0], ∃ i, x = V.int i := by
       intro x hx
       rcases List.mem_append.mp hx with hx | hx
       · exact hc2 x hx
       · exact ⟨0, by simpa using hx⟩
     have hlx : (xs ++ [V.int 0]).length ≤ 7 := by simp; omega
     generalize xs ++ [V.int 0] = zs at *
     generalize (upd (upd H p1 (.lst xs)) p2 (.lst [.int 0])) = H0 at *
     refine ⟨c, rfl, ⟨_, SqL.of upd_same⟩, fun D nD => ?_⟩
     have hcD : c ≠ D := ne_of_none upd_same nD
     refine lc_list (K := K) (xs := zs) (fun i H1 => H1 c = some (.lst zs) ∧ ∃ rs : List Addr, H1 D = some (.lst (rs.map V.ref)) ∧ rs.length = i ∧ rs.Nodup ∧ ∀ r ∈ rs, Dr H1 r 0) ?_ ?_ ?_ ?_
     · exact ⟨by rw [upd_ne hcD]; exact upd_same, [], upd_same, rfl, List.nodup_nil, by simp⟩
     · rintro i H1 _ ⟨hc, _⟩
       exact SqL.of hc
     · rintro i x H1 hx ⟨hc, rs, hD, hln, hnd, hdr⟩
       obtain ⟨z, rfl⟩ := hxs x (List.mem_of_getElem? hx)
       have hi : i < zs.length := (List.getElem?_eq_some_iff.mp hx).1
       refine ⟨rfl, ?_⟩
       wtm_at "fo r"
       refine call_draws (fun p ca cb np => ?_)
       have hDp : D ≠ p := ne_of_none hD np
       have hcp : c ≠ p := ne_of_none hc np
       refine ⟨rs.map V.ref, ?_, ?_, ?_, rs ++ [p], ?_, ?_, ?_, ?_⟩
       · rw [upd_ne hDp]
         exact hD
       · rw [List.length_map, hln]
         exact Nat.lt_of_lt_of_le (m := 7) (by omega) (by decide)
       · rw [upd_ne hcD, upd_ne hcp]
         exact hc
       · rw [upd_same, List.map_append]
         rfl
       · rw [List.length_append, hln]
         rfl
       · refine List.nodup_append.mpr ⟨hnd, by simp, ?_⟩
         intro x hx y hy e
         rw [List.mem_singleton.mp hy] at e
         obtain ⟨_, _, h2, _⟩ := hdr x hx
         rw [e, np] at h2
         cases h2
       · intro r hr
         rcases List.mem_append.mp hr with hr | hr
         · obtain ⟨x1, x2, h2, h3⟩ := hdr r hr
           refine ⟨x1, x2, ?_, h3⟩
           have e1 : r ≠ p := ne_of_none h2 np
           have e2 : r ≠ D := ((hdr r hr).ne_refs hD).symm
           rw [upd_ne e2, upd_ne e1]
           exact h2
         · rw [List.mem_singleton.mp hr]
           refine ⟨ca, cb, ?_, by omega⟩
           rw [upd_ne hDp.symm]
           exact upd_same
     · rintro H1 ⟨hc, rs, hD, hln, hnd, hdr⟩
       wtm_at "fo r"
       refine ⟨⟨_, SqL.of hD⟩, ?_⟩
       refine for_list (K := K) (xs := rs.map V.ref) (fun i σ H2 => ∃ y1 y3 y4 y5 y6 y7, σ = [some (.ref a), y1, none, y3, y4, y5, y6, y7, none] ∧ H2 D = some (.lst (rs.map V.ref)) ∧ ∀ j r, i ≤ j → rs[j]? = some r → Dr H2 r 0) ?_ ?_ ?_ ?_
       · exact ⟨none, none, none, none, none, none, rfl, hD, fun j r _ hr => hdr r (List.mem_of_getElem? hr)⟩
       · rintro i σ H2 _ ⟨y1, y3, y4, y5, y6, y7, rfl, hD2, hdr2⟩
         exact SqL.of hD2
       · rintro i x σ H2 hx ⟨y1, y3, y4, y5, y6, y7, rfl, hD2, hdr2⟩
         obtain ⟨d, hr, rfl⟩ := ref_at hx
         have hd2 := hdr2 i d (Nat.le_refl i) hr
         have hDd : D ≠ d := hd2.ne_refs hD2
         wtm_at "fo r"
         refine for_range (fun i4 σ H3 => ∃ y3 y4 y5 y6 y7 k3, σ = [some (.ref a), some (.ref d), none, y3, y4, y5, y6, y7, none] ∧ SameBut d H2 H3 ∧ Dr H3 d k3 ∧ k3 ≤ 10000 * (i4 : Int) ∧ 0 ≤ k3) ?_ ?_ ?_
         · exact ⟨y3, y4, y5, y6, y7, 0, rfl, SameBut.refl d H2, hd2, by omega, by omega⟩
         · rintro i4 σ H3 hi4 ⟨y3, y4, y5, y6, y7, k3, rfl, sb3, hd3, hk3, hk03⟩
           have hi4' : i4 < 3 := by simpa using hi4
           wtm_at "fo r"
           refine call_next hd3 (by omega) (fun n1 H4 hn1 sb4 hd4 => ?_)
           have gg1 := Int.emod_nonneg n1 (show (12 : Int) ≠ 0 by decide)
           have gg2 := Int.emod_lt_of_pos n1 (show (0 : Int) < 12 by decide)
           wtm_at "fo r"
           refine call_webZ (z := 1 + n1 % 12) (kd := 0 + (i4 : Int)) hd4 (by omega) (by omega) (by omega) (by omega) (by omega) (fun q H5 k5 es hS5 hl5 sb5 nq5 hq5 hd5 hk5 => ?_)
           have hk05 : 0 ≤ k5 := hd5.elim fun _ ⟨_, _, h0⟩ => h0
           wtm_at "fo r"
           refine call_rightZ (z := 1 + n1 % 12) (by omega) (by omega) hq5 hS5 hl5 (fun H6 sm6 => ?_)
           wtm_at "fo r"
           have hd6 := hd5.same sm6
           obtain ⟨rq, hpq⟩ := PsAt.of hq5
           have hp6 := hpq.same sm6
           refine call_shuf hd6 (by omega) hp6.hD ?_ ?_ ?_
           · rw [List.length_map, hp6.len]
             exact hl5
           · intro x hx
             obtain ⟨r, hr, rfl⟩ := List.mem_map.mp hx
             obtain ⟨e, he, hre⟩ := hp6.mem hr
             have := hS5.rng e he
             exact .inr ⟨r, _, _, rfl, hre, by omega, by omega⟩
           intro p9 ys H7 k7 hperm sb7 np7 hp7 hd7 hk7
           obtain ⟨es9, rs9, hq1, hq2⟩ := hp6.perm hperm hp7 (fun r e hr he => sb7 r _ (hd6.ne_pair he) he)
           have hk07 : 0 ≤ k7 := hd7.elim fun _ ⟨_, _, h0⟩ => h0
           wtm_at "fo r"
           refine call_rightZ (z := 1 + n1 % 12) (by omega) (by omega) hq2.pairs (simp_perm hS5 hq1) (by rw [hq1.length_eq]; exact hl5) (fun H8 sm8 => ?_)
           have hd8 := hd7.same sm8
           have sb8 : SameBut d H2 H8 := ((((sb3.trans sb4).trans sb5).trans (Same.but d sm6)).trans sb7).trans (Same.but d sm8)
           wtm_at "fo r"
           refine call_next hd8 (by omega) (fun n2 H9 hn2 sb9 hd9 => ?_)
           have gg3 := Int.emod_nonneg n2 (show (12 : Int) ≠ 0 by decide)
           have gg4 := Int.emod_lt_of_pos n2 (show (0 : Int) < 12 by decide)
           wtm_at "fo r"
           refine call_next hd9 (by omega) (fun n3 H10 hn3 sb10 hd10 => ?_)
           have ggd : 0 < 12 / (1 + n2 % 12) := (Int.le_ediv_iff_mul_le (show (0 : Int) < 1 + n2 % 12 by omega)).mpr (by omega)
           have gt : (12 : Int) / (1 + n2 % 12) ≤ 12 := Int.ediv_le_self _ (by decide)
           have gg5 := Int.emod_nonneg n3 (show (12 : Int) / (1 + n2 % 12) ≠ 0 by omega)
           have gg6 := Int.emod_lt_of_pos n3 ggd
           have far1 : 1 ≤ 1 + n3 % (12 / (1 + n2 % 12)) := by omega
           have far2 : 1 + n3 % (12 / (1 + n2 % 12)) ≤ 12 / (1 + n2 % 12) := by omega
           have far3 : 1 + n3 % (12 / (1 + n2 % 12)) ≤ 12 := by omega
           wtm_at "fo r"
           refine call_next hd10 (by omega) (fun n4 H11 hn4 sb11 hd11 => ?_)
           have gg7 := Int.emod_nonneg n4 (show (3 : Int) ≠ 0 by decide)
           have gg8 := Int.emod_lt_of_pos n4 (show (0 : Int) < 3 by decide)
           wtm_at "fo r"
           refine call_webZ (z := 1 + n3 % (12 / (1 + n2 % 12))) (kd := n4 % 3) hd11 (by omega) far1 far3 (by omega) (by omega) (fun qb H12 k12 eb hS12 hl12 sb12 nq12 hq12 hd12 hk12 => ?_)
           have hk012 : 0 ≤ k12 := hd12.elim fun _ ⟨_, _, h0⟩ => h0
           wtm_at "fo r"
           refine call_webZ (z := 1 + n2 % 12) (kd := 0 + (i4 : Int)) hd12 (by omega) (by omega) (by omega) (by omega) (by omega) (fun qa H13 k13 ea hS13 hl13 sb13 nq13 hq13 hd13 hk13 => ?_)
           have hk013 : 0 ≤ k13 := hd13.elim fun _ ⟨_, _, h0⟩ => h0
           obtain ⟨rb, hpb⟩ := PsAt.of hq12
           have hpb13 := hpb.but sb13 hd12
           wtm_at "fo r"
           refine call_prightZ (z := 1 + n2 % 12) (y := 1 + n3 % (12 / (1 + n2 % 12))) (by omega) far1 far2 (by omega) hq13 hS13 hl13 hpb13.pairs hS12 hl12 (fun H14 sm14 => ?_)
           have sbE : SameBut d H2 H14 := (((((sb8.trans sb9).trans sb10).trans sb11).trans sb12).trans sb13).trans (Same.but d sm14)
           have hdE := hd13.same sm14
           wtm_at "fo r"
           refine ⟨_, _, _, _, _, k13, rfl, sbE, hdE, by omega, hk013⟩
         · rintro σ H3 ⟨y3, y4, y5, y6, y7, k3, rfl, sb3, hd3, hk3, hk03⟩
           refine ⟨_, y3, y4, y5, y6, y7, rfl, sb3 D _ hDd hD2, fun j r hj hr2 => ?_⟩
           have hne : r ≠ d := fun e => by
             rw [e] at hr2
             have := nd_ix hnd hr2 hr
             omega
           obtain ⟨x1, x2, h2, h3⟩ := hdr2 j r (by omega) hr2
           exact ⟨x1, x2, sb3 r _ hne h2, h3⟩
       · rintro σ H2 ⟨y1, y3, y4, y5, y6, y7, rfl, hD2, hdr2⟩
         clear hdr2 hD2
         wtm_at "fo r"
         rename_i r1 n1 r2 n2 r3 n3 q1 nq1
         have hn1 := (((RowAt.nil H2).snoc (a := 2) (b := 1) n1).snoc (a := 2) (b := 3) n2 |>.snoc (a := 3) (b := 4) n3).net nq1
         refine call_beside (n := 4) (es := [(2, 1), (2, 3), (3, 4)]) (by decide) (by decide) (by decide) (by decide) hn1.pairs (simp_of (by decide) (by decide)) (by decide) (fun u1 H3 sm3 nu1 hu1 => ?_)
         rw [show besideM 4 [(2, 1), (2, 3), (3, 4)] 2 = [1, 2, 3] by decide] at hu1
         wtm_at "fo r"
         rename_i w1 nw1
         have sw1 : Same H3 (upd H3 w1 (.lst [.int 1, .int 2, .int 3])) := same_upd (Same.refl _) nw1
         refine Or.inr ⟨dI [1, 2, 3], dI [1, 2, 3], dp_dI (SqL.of (sw1 _ _ hu1)), dp_dI (SqL.of upd_same), rfl, rfl, _, rfl, ?_⟩
         refine ifF (by rw [eqv_dI]; rfl) ?_
         generalize upd H3 w1 (.lst [.int 1, .int 2, .int 3]) = H3b at *
         wtm_at "fo r"
         rename_i q2 nq2
         have hn2 := (RowAt.nil H3b).net nq2
         refine call_beside (n := 1) (es := []) (by decide) (by decide) (by decide) (by decide) hn2.pairs (simp_nil _) (by decide) (fun u2 H4 sm4 nu2 hu2 => ?_)
         rw [show besideM 1 [] 1 = [1] by decide] at hu2
         wtm_at "fo r"
         rename_i w2 nw2
         have sw2 : Same H4 (upd H4 w2 (.lst [.int 1])) := same_upd (Same.refl _) nw2
         refine Or.inr ⟨dI [1], dI [1], dp_dI (SqL.of (sw2 _ _ hu2)), dp_dI (SqL.of upd_same), rfl, rfl, _, rfl, ?_⟩
         refine ifF (by rw [eqv_dI]; rfl) ?_
         generalize upd H4 w2 (.lst [.int 1]) = H5 at *
         wtm_at "fo r"
         rename_i a1 b1 a2 b2 a3 b3 a4 b4 g ng s1 m1 s2 m2 g2 ng2
         have hn3 := ((((RowAt.nil H5).snoc (a := 1) (b := 2) b1).snoc (a := 2) (b := 3) b2 |>.snoc (a := 3) (b := 4) b3).snoc (a := 4) (b := 1) b4).net ng
         have sw3 := ((same_upd (o := .lst [.int 1, .int 2]) (Same.refl _) m1).trans (same_upd (o := .lst [.int 2, .int 3]) (Same.refl _) m2)).trans (same_upd (o := .lst [.ref s1, .ref s2]) (Same.refl _) ng2)
         have hn3b := hn3.same sw3
         have hn4 := (((RowAt.nil _).snoc (a := 1) (b := 2) m1).snoc (a := 2) (b := 3) m2).net ng2
         refine call_pright (n := 4) (m := 3) (es := [(1, 2), (2, 3), (3, 4), (4, 1)]) (fs := [(1, 2), (2, 3)]) (by decide) (by decide) (by decide) (by decide) (by decide) hn3b.pairs (simp_of (by decide) (by decide)) (by decide) hn4.pairs (simp_of (by decide) (by decide)) (by decide) (fun H6 _ => ?_)
         wtm_at "fo r"
         rename_i g3 ng3 g4 ng4
         have hn5 := (RowAt.nil H6).net ng3
         have hn6 := (RowAt.nil _).net ng4
         refine call_pright (n := 1) (m := 12) (es := []) (fs := []) (by decide) (by decide) (by decide) (by decide) (by decide) (hn5.same (same_upd (Same.refl _) ng4)).pairs (simp_nil _) (by decide) hn6.pairs (simp_nil _) (by decide) (fun H7 _ => ?_)
         wtm_at "fo r"
         rename_i a5 b5 g5 ng5 g6 ng6
         have hn7 := ((RowAt.nil H7).snoc (a := 1) (b := 2) b5).net ng5
         have hn8 := (RowAt.nil _).net ng6
         refine call_prod (n := 2) (m := 2) (es := [(1, 2)]) (fs := []) (by decide) (by decide) (by decide) (by decide) (by decide) (hn7.same (same_upd (Same.refl _) ng6)).pairs (simp_of (by decide) (by decide)) (by decide) hn8.pairs (simp_nil _) (by decide) (fun p9 l9 rs9 H9 sm9 np9 nl9 hp9 hl9 _ _ => ?_)
         rw [show prodM 2 [(1, 2)] 2 [] = [(1, 3), (2, 4)] by decide +kernel] at hl9
         wtm_at "fo r"
         rename_i x1 z1 x2 z2 x3 z3 x4 z4
         have hn9 := (((RowAt.nil H9).snoc (a := 1) (b := 3) z1).snoc (a := 2) (b := 4) z2).net z3
         have sw9 := (((same_upd (o := .lst [.int 1, .int 3]) (Same.refl H9) z1).trans (same_upd (o := .lst [.int 2, .int 4]) (Same.refl _) z2)).trans (same_upd (o := .lst [.ref x1, .ref x2]) (Same.refl _) z3)).trans (same_upd (o := .tup [.int 4, .ref x3]) (Same.refl _) z4)
         refine Or.inr ⟨dP 4 [(1, 3), (2, 4)], dP 4 [(1, 3), (2, 4)], dp_dP (sw9 _ _ hp9) (hl9.same sw9).pairs, dp_dP upd_same (hn9.same (same_upd (Same.refl _) z4)).pairs, rfl, rfl, _, rfl, ?_⟩
         refine ifT (by simp [dP, dE, PyData.eqv, PyData.eqvAll]) ?_
         wtm_at "fo r"
         rename_i g7 ng7 g8 ng8
         have hn10 := (RowAt.nil _).net ng7
         have hn11 := (RowAt.nil _).net ng8
         exact call_pright (n := 12) (m := 1) (es := []) (fs := []) (by decide) (by decide) (by decide) (by decide) (by decide) (hn10.same (same_upd (Same.refl _) ng8)).pairs (simp_nil _) (by decide) hn11.pairs (simp_nil _) (by decide) (fun H12 _ => fin H12)

end Fo

/-! piece NB -/
namespace Fo
open PySem PySem.Spec PyProof.Rows L2
/-! ### lots as numbers: the bits -/
def nb0 (n : Nat) : List Nat := 0 :: (List.range n).map fun i => 2 ^ (i + 1)
def addB (t : List Nat) (e : Edge) : List Nat := (t.modify e.1.toNat (· ||| 2 ^ e.2.toNat)).modify e.2.toNat (· ||| 2 ^ e.1.toNat)
def nearB (n : Nat) (es : List Edge) : List Nat := es.foldl addB (nb0 n)
theorem addB_length (t : List Nat) (e : Edge) : (addB t e).length = t.length := by
  unfold addB
  rw [List.length_modify, List.length_modify]
theorem foldl_addB_length : ∀ (es : List Edge) (t : List Nat), (es.foldl addB t).length = t.length
  | [], _ => rfl
  | e :: es, t => by rw [List.foldl_cons, foldl_addB_length es, addB_length]
theorem nb0_length (n : Nat) : (nb0 n).length = n + 1 := by simp [nb0]
theorem nearB_length (n : Nat) (es : List Edge) : (nearB n es).length = n + 1 := by
  unfold nearB
  rw [foldl_addB_length, nb0_length]
theorem addB_swap (t : List Nat) {a b : Int} (h : a.toNat ≠ b.toNat) : addB t (a, b) = addB t (b, a) := by
  unfold addB
  apply List.ext_getElem?
  intro i
  simp only [List.getElem?_modify]
  by_cases h1 : a.toNat = i <;> by_cases h2 : b.toNat = i
  · omega
  · cases t[i]? <;> simp [h1, h2]
  · cases t[i]? <;> simp [h1, h2]
  · cases t[i]? <;> simp [h1, h2]
/-- the bits of the entry at p -/
theorem addB_bit {t : List Nat} {e : Edge} {p : Nat} {v : Nat} (h1 : 1 ≤ e.1) (h2 : 1 ≤ e.2) (hne : e.1 ≠ e.2) (h : t[p]? = some v) :
    ∃ u, (addB t e)[p]? = some u ∧ ∀ k : Nat, u.testBit k = (v.testBit k || decide ((e.1 = p ∧ e.2 = k) ∨ (e.2 = p ∧ e.1 = k))) := by
  unfold addB
  simp only [List.getElem?_modify, h]
  by_cases a1 : e.1.toNat = p <;> by_cases a2 : e.2.toNat = p
  · omega
  · refine ⟨v ||| 2 ^ e.2.toNat, by simp [a1, a2], fun k => ?_⟩
    rw [Nat.testBit_or, Nat.testBit_two_pow]
    congr 1
    apply decide_eq_decide.mpr
    omega
  · refine ⟨v ||| 2 ^ e.1.toNat, by simp [a1, a2], fun k => ?_⟩
    rw [Nat.testBit_or, Nat.testBit_two_pow]
    congr 1
    apply decide_eq_decide.mpr
    omega
  · refine ⟨v, by simp [a1, a2], fun k => ?_⟩
    have : decide ((e.1 = p ∧ e.2 = k) ∨ (e.2 = p ∧ e.1 = k)) = false := by
      apply decide_eq_false
      omega
    rw [this, Bool.or_false]
theorem foldl_addB_bit {p : Nat} : ∀ (es : List Edge) (t : List Nat) (v : Nat), (∀ e ∈ es, 1 ≤ e.1 ∧ 1 ≤ e.2 ∧ e.1 ≠ e.2) → t[p]? = some v →
    ∃ u, (es.foldl addB t)[p]? = some u ∧ ∀ k : Nat, u.testBit k = (v.testBit k || decide ((k : Int) ∈ mates p es))
  | [], t, v, _, h => ⟨v, h, fun k => by simp [mates]⟩
  | e :: es, t, v, hr, h => by
    have he := hr e (List.mem_cons_self ..)
    obtain ⟨u1, h1, b1⟩ := addB_bit he.1 he.2.1 he.2.2 h
    obtain ⟨u, h2, b2⟩ := foldl_addB_bit es (addB t e) u1 (fun x hx => hr x (List.mem_cons_of_mem _ hx)) h1
    refine ⟨u, h2, fun k => ?_⟩
    rw [b2, b1, Bool.or_assoc]
    congr 1
    rw [← Bool.decide_or]
    apply decide_eq_decide.mpr
    unfold mates
    rw [List.filterMap_cons]
    by_cases hc : e.1 = (p : Int) ∨ e.2 = (p : Int)
    · rw [if_pos hc]
      simp only [List.mem_cons]
      constructor
      · rintro (h | h)
        · left; omega
        · exact .inr h
      · rintro (h | h)
        · left; omega
        · exact .inr h
    · rw [if_neg hc]
      simp only
      constructor
      · rintro (h | h)
        · exact absurd (by omega) hc
        · exact h
      · exact .inr
theorem nearB_bit {n : Nat} {es : List Edge} (hr : ∀ e ∈ es, 1 ≤ e.1 ∧ 1 ≤ e.2 ∧ e.1 ≠ e.2) {p : Nat} (h1 : 1 ≤ p) (h2 : p ≤ n) :
    ∃ u, (nearB n es)[p]? = some u ∧ ∀ k : Nat, u.testBit k = decide ((k : Int) ∈ (p : Int) :: mates p es) := by
  have h0 : (nb0 n)[p]? = some (2 ^ p) := by
    unfold nb0
    cases p with
    | zero => omega
    | succ q =>
      rw [List.getElem?_cons_succ, List.getElem?_map, List.getElem?_range (by omega)]
      rfl
  obtain ⟨u, h3, h4⟩ := foldl_addB_bit es (nb0 n) _ hr h0
  refine ⟨u, h3, fun k => ?_⟩
  rw [h4, Nat.testBit_two_pow, ← Bool.decide_or]
  apply decide_eq_decide.mpr
  rw [List.mem_cons]
  constructor
  · rintro (h | h)
    · left; omega
    · exact .inr h
  · rintro (h | h)
    · left; omega
    · exact .inr h
theorem nearB_zero {n : Nat} {es : List Edge} (hr : ∀ e ∈ es, 1 ≤ e.1 ∧ 1 ≤ e.2 ∧ e.1 ≠ e.2) : (nearB n es)[0]? = some 0 := by
  obtain ⟨u, h3, h4⟩ := foldl_addB_bit (p := 0) es (nb0 n) 0 hr rfl
  have : u = 0 := by
    apply Nat.eq_of_testBit_eq
    intro k
    rw [h4, Nat.zero_testBit, Bool.false_or]
    apply decide_eq_false
    intro h
    obtain ⟨e, he, hf⟩ := List.mem_filterMap.mp h
    have := hr e he
    split at hf
    · omega
    · cases hf
  subst this
  exact h3
theorem and_pow_zero {v k : Nat} (h : v.testBit k = false) : v &&& 2 ^ k = 0 := by
  apply Nat.eq_of_testBit_eq
  intro i
  rw [Nat.testBit_and, Nat.testBit_two_pow, Nat.zero_testBit]
  by_cases e : k = i
  · subst e; rw [h]; rfl
  · simp [e]
/-- a line that no earlier one joins: its bit is not there yet -/
theorem fresh_bit {n : Nat} {es : List Edge} {a b : Nat} (hr : ∀ e ∈ es, 1 ≤ e.1 ∧ 1 ≤ e.2 ∧ e.1 ≠ e.2) (ha : 1 ≤ a) (han : a ≤ n) (hab : a ≠ b)
    (hf : ∀ e ∈ es, Apart e ((a : Int), (b : Int))) : ∃ u, (nearB n es)[a]? = some u ∧ u &&& 2 ^ b = 0 := by
  obtain ⟨u, h1, h2⟩ := nearB_bit hr ha han
  refine ⟨u, h1, and_pow_zero ?_⟩
  rw [h2]
  apply decide_eq_false
  rw [List.mem_cons]
  rintro (h | h)
  · omega
  · obtain ⟨e, he, hx⟩ := List.mem_filterMap.mp h
    have q := hf e he
    have q1 := q.1
    have q2 := q.2
    obtain ⟨e1, e2⟩ := e
    simp only at hx
    split at hx
    · rename_i hc
      have hx := Option.some.inj hx
      rcases hc with hc | hc
      · exact q1 (by rw [Prod.mk.injEq]; exact ⟨hc, by omega⟩)
      · exact q2 (by rw [Prod.mk.injEq]; exact ⟨by omega, hc⟩)
    · cases hx
/-! ### the places of a lot -/
def bitLen (v : Nat) : Nat := if v = 0 then 0 else v.log2 + 1
theorem bit_lt {v k : Nat} (h : v.testBit k = true) : k < bitLen v := by
  unfold bitLen
  by_cases e : v = 0
  · subst e; simp at h
  · rw [if_neg e]
    have h1 := Nat.ge_two_pow_of_testBit h
    have h2 := (Nat.le_log2 e).mpr h1
    omega
def membersM (v : Nat) : List Int := ((List.range (bitLen v - 1)).map fun (i : Nat) => (i : Int) + 1).filter fun x => v.testBit x.toNat
theorem membersM_lt (v : Nat) : (membersM v).Pairwise (· < ·) := by
  unfold membersM
  apply List.Pairwise.filter
  rw [List.pairwise_map]
  exact List.pairwise_lt_range.imp fun h => by omega
theorem membersM_mem (v : Nat) (x : Int) : x ∈ membersM v ↔ 1 ≤ x ∧ v.testBit x.toNat = true := by
  unfold membersM
  rw [List.mem_filter]
  constructor
  · rintro ⟨h1, h2⟩
    obtain ⟨i, hi, rfl⟩ := List.mem_map.mp h1
    exact ⟨by omega, h2⟩
  · rintro ⟨h1, h2⟩
    have := bit_lt h2
    exact ⟨List.mem_map.mpr ⟨(x - 1).toNat, List.mem_range.mpr (by omega), by omega⟩, h2⟩
theorem membersM_near {n : Nat} {es : List Edge} (h : Simp n es) {p : Nat} (h1 : 1 ≤ p) (h2 : p ≤ n) :
    ∃ u, (nearB n es)[p]? = some u ∧ membersM u = besideM n es p := by
  obtain ⟨u, hu, hb⟩ := nearB_bit (n := n) (es := es) (fun e he => by have := h.rng e he; omega) h1 h2
  refine ⟨u, hu, lt_unique (membersM_lt u) (besideM_lt n es p) fun x => ?_⟩
  rw [membersM_mem, besideM_mem h (by omega) (by omega)]
  constructor
  · rintro ⟨h3, h4⟩
    rw [hb] at h4
    have := of_decide_eq_true h4
    rwa [show ((x.toNat : Nat) : Int) = x by omega] at this
  · intro h3
    have : 1 ≤ x := by
      rcases List.mem_cons.mp h3 with e | e
      · omega
      · exact (mates_rng h x e).1
    refine ⟨this, ?_⟩
    rw [hb]
    apply decide_eq_true
    rwa [show ((x.toNat : Nat) : Int) = x by omega]
theorem nearB_members {n : Nat} {es : List Edge} (h : Simp n es) : (nearB n es).map membersM = [] :: (List.range n).map fun (i : Nat) => besideM n es ((i : Int) + 1) := by
  apply List.ext_getElem?
  intro i
  rw [List.getElem?_map]
  by_cases h0 : i = 0
  · subst h0
    rw [nearB_zero (fun e he => by have := h.rng e he; omega)]
    rfl
  · obtain ⟨j, rfl⟩ : ∃ j, i = j + 1 := ⟨i - 1, by omega⟩
    by_cases hi : j < n
    · obtain ⟨u, hu, hm⟩ := membersM_near h (p := j + 1) (by omega) (by omega)
      rw [hu, List.getElem?_cons_succ, List.getElem?_map, List.getElem?_range hi]
      simp only [Option.map_some]
      rw [hm]
      rfl
    · rw [List.getElem?_eq_none (by rw [nearB_length]; omega), List.getElem?_eq_none (by simp; omega)]
      rfl
theorem nearB_small {n : Nat} {es : List Edge} (h : Simp n es) {p u : Nat} (hu : (nearB n es)[p]? = some u) : u < 2 ^ (n + 1) := by
  apply Nat.lt_pow_two_of_testBit
  intro k hk
  have hp : p < n + 1 := by
    have := (List.getElem?_eq_some_iff.mp hu).1
    rwa [nearB_length] at this
  by_cases h0 : p = 0
  · subst h0
    rw [nearB_zero (fun e he => by have := h.rng e he; omega)] at hu
    cases hu
    exact Nat.zero_testBit _
  · obtain ⟨v, hv, hb⟩ := nearB_bit (n := n) (es := es) (fun e he => by have := h.rng e he; omega) (p := p) (by omega) (by omega)
    rw [hu] at hv
    cases hv
    rw [hb]
    apply decide_eq_false
    intro hm
    rcases List.mem_cons.mp hm with e | e
    · omega
    · have := mates_rng h _ e
      omega

end Fo

/-! piece PL -/
namespace Fo
open PySem PySem.Spec PyProof.Rows L2
/-! ### the product, told row by row -/
def rowsM (n : Nat) (es : List Edge) (m a : Nat) : List Int := ((besideM n es ((a : Int) + 1)).filter fun one => decide (((a : Int) + 1) ≤ one)).map fun one => (one - 1) * m
def highsM (n : Nat) (es : List Edge) (m : Nat) (fs : List Edge) (a b : Nat) : List Int :=
  (rowsM n es m a).flatMap fun r => ((besideM m fs ((b : Int) + 1)).filter fun (two : Int) => decide (((a * m + b + 1 : Nat) : Int) < r + two)).map fun two => r + two
def rowE (n : Nat) (es : List Edge) (m : Nat) (fs : List Edge) (a b : Nat) : List Edge := (highsM n es m fs a b).map fun h => (((a * m + b + 1 : Nat) : Int), h)
def prodL (n : Nat) (es : List Edge) (m : Nat) (fs : List Edge) : List Edge := (List.range n).flatMap fun a => (List.range m).flatMap fun b => rowE n es m fs a b
theorem range_mul {α : Type} (m : Nat) (F : Nat → List α) : ∀ n : Nat, (List.range (n * m)).flatMap F = (List.range n).flatMap fun a => (List.range m).flatMap fun b => F (a * m + b)
  | 0 => by simp
  | n + 1 => by
    rw [Nat.succ_mul, List.range_add, List.flatMap_append, range_mul m F n, List.range_succ, List.flatMap_append, List.flatMap_map]
    simp
theorem partsM_get {n m a b : Nat} (ha : a < n) (hb : b < m) : (partsM n m)[a * m + b]? = some ((a : Int) + 1, (b : Int) + 1) := by
  induction n with
  | zero => omega
  | succ n ih =>
    have hs : partsM (n + 1) m = partsM n m ++ (List.range m).map fun (b : Nat) => ((n : Int) + 1, (b : Int) + 1) := by
      unfold partsM
      rw [List.range_succ, List.flatMap_append]
      simp
    rw [hs]
    by_cases h : a < n
    · rw [List.getElem?_append_left ?_]
      · exact ih h
      · rw [partsM_length]
        have : (a + 1) * m ≤ n * m := Nat.mul_le_mul_right m h
        rw [Nat.succ_mul] at this
        omega
    · have e : a = n := by omega
      subst e
      rw [List.getElem?_append_right (by rw [partsM_length]; omega), partsM_length, Nat.add_sub_cancel_left, List.getElem?_map, List.getElem?_range hb]
      rfl
theorem rowsM_lt {n m : Nat} {es : List Edge} {a : Nat} (hm : 1 ≤ m) : (rowsM n es m a).Pairwise fun (x y : Int) => x + (m : Int) ≤ y := by
  unfold rowsM
  rw [List.pairwise_map]
  refine (List.Pairwise.filter _ (besideM_lt n es _)).imp ?_
  intro x y h
  have h1 : x ≤ y - 1 := by omega
  have h2 : x * (m : Int) ≤ (y - 1) * m := Int.mul_le_mul_of_nonneg_right h1 (by omega)
  have h3 : x * (m : Int) = (x - 1) * m + m := by rw [Int.sub_mul]; omega
  omega
theorem highsM_lt {n m : Nat} {es fs : List Edge} {a b : Nat} (hm : 1 ≤ m) (h2 : Simp m fs) (hb : b < m) : (highsM n es m fs a b).Pairwise (· < ·) := by
  unfold highsM
  rw [List.pairwise_flatMap]
  constructor
  · intro r _
    rw [List.pairwise_map]
    refine (List.Pairwise.filter _ (besideM_lt m fs _)).imp ?_
    intro x y h
    omega
  · refine (rowsM_lt hm).imp ?_
    intro r s hrs x hx y hy
    obtain ⟨t, ht, rfl⟩ := List.mem_map.mp hx
    obtain ⟨u, hu, rfl⟩ := List.mem_map.mp hy
    have h3 := (besideM_mem h2 (p := (b : Int) + 1) (by omega) (by omega) t).mp (List.mem_filter.mp ht).1
    have h4 := (besideM_mem h2 (p := (b : Int) + 1) (by omega) (by omega) u).mp (List.mem_filter.mp hu).1
    have h5 : t ≤ m := by
      rcases List.mem_cons.mp h3 with e | e
      · omega
      · exact (mates_rng h2 t e).2.1
    have h6 : 1 ≤ u := by
      rcases List.mem_cons.mp h4 with e | e
      · omega
      · exact (mates_rng h2 u e).1
    omega
theorem mem_highs {n m : Nat} {es fs : List Edge} {a b : Nat} (h1 : Simp n es) (h2 : Simp m fs) (ha : a < n) (hb : b < m) (h : Int) :
    h ∈ highsM n es m fs a b ↔ ∃ c d : Nat, c < n ∧ d < m ∧ h = ((c * m + d + 1 : Nat) : Int) ∧ a * m + b < c * m + d ∧ (c : Int) + 1 ∈ ((a : Int) + 1) :: mates ((a : Int) + 1) es ∧ (d : Int) + 1 ∈ ((b : Int) + 1) :: mates ((b : Int) + 1) fs := by
  unfold highsM rowsM
  rw [List.mem_flatMap]
  constructor
  · rintro ⟨r, hr, hx⟩
    obtain ⟨one, ho, rfl⟩ := List.mem_map.mp hr
    obtain ⟨two, ht, rfl⟩ := List.mem_map.mp hx
    obtain ⟨ho1, ho2⟩ := List.mem_filter.mp ho
    obtain ⟨ht1, ht2⟩ := List.mem_filter.mp ht
    have ho3 := (besideM_mem h1 (p := (a : Int) + 1) (by omega) (by omega) one).mp ho1
    have ht3 := (besideM_mem h2 (p := (b : Int) + 1) (by omega) (by omega) two).mp ht1
    have ht4 := of_decide_eq_true ht2
    have r1 : 1 ≤ one ∧ one ≤ n := by
      rcases List.mem_cons.mp ho3 with e | e
      · omega
      · have := mates_rng h1 _ e; omega
    have r2 : 1 ≤ two ∧ two ≤ m := by
      rcases List.mem_cons.mp ht3 with e | e
      · omega
      · have := mates_rng h2 _ e; omega
    obtain ⟨c, rfl⟩ : ∃ c : Nat, one = (c : Int) + 1 := ⟨(one - 1).toNat, by omega⟩
    obtain ⟨d, rfl⟩ : ∃ d : Nat, two = (d : Int) + 1 := ⟨(two - 1).toNat, by omega⟩
    have e1 : ((c : Int) + 1 - 1) * m = ((c * m : Nat) : Int) := by rw [Int.add_sub_cancel, Int.natCast_mul]
    rw [e1] at ht4 ⊢
    exact ⟨c, d, by omega, by omega, by omega, by omega, ho3, ht3⟩
  · rintro ⟨c, d, hc, hd, rfl, hlt, h3, h4⟩
    have e1 : ((c : Int) + 1 - 1) * m = ((c * m : Nat) : Int) := by rw [Int.add_sub_cancel, Int.natCast_mul]
    have hca : a ≤ c := by
      rcases Nat.lt_or_ge c a with h | h
      · have : (c + 1) * m ≤ a * m := Nat.mul_le_mul_right m h
        rw [Nat.succ_mul] at this
        omega
      · exact h
    refine ⟨((c : Int) + 1 - 1) * m, List.mem_map.mpr ⟨(c : Int) + 1, List.mem_filter.mpr ⟨(besideM_mem h1 (by omega) (by omega) _).mpr h3, decide_eq_true (by omega)⟩, rfl⟩, ?_⟩
    refine List.mem_map.mpr ⟨(d : Int) + 1, List.mem_filter.mpr ⟨(besideM_mem h2 (by omega) (by omega) _).mpr h4, decide_eq_true ?_⟩, ?_⟩
    · rw [e1]; omega
    · rw [e1]; omega
def joinH (es fs : List Edge) (ps : List Edge) (i j : Nat) : Option Int :=
  match ps[i]?, ps[j]? with
  | some x, some y => if i < j ∧ y.1 ∈ x.1 :: mates x.1 es ∧ y.2 ∈ x.2 :: mates x.2 fs then some ((j : Int) + 1) else none
  | _, _ => none
theorem join_high {es fs ps : List Edge} (i j : Nat) : joinM es fs ps i j = (joinH es fs ps i j).map fun h => ((i : Int) + 1, h) := by
  unfold joinM joinH
  cases ps[i]? with
  | none => rfl
  | some x => cases ps[j]? with
    | none => rfl
    | some y =>
      simp only
      split <;> rfl
theorem joinH_lt {es fs ps : List Edge} (i k : Nat) : ((List.range k).filterMap fun j => joinH es fs ps i j).Pairwise (· < ·) := by
  rw [List.pairwise_filterMap]
  refine List.pairwise_lt_range.imp ?_
  intro x y hxy u hu v hv
  have e : ∀ {x : Nat} {u : Int}, joinH es fs ps i x = some u → u = (x : Int) + 1 := by
    intro x u h
    unfold joinH at h
    split at h
    · split at h
      · exact (Option.some.inj h).symm
      · cases h
    · cases h
  rw [e hu, e hv]
  omega
theorem joinH_mem {n m : Nat} {es fs : List Edge} {a b : Nat} (ha : a < n) (hb : b < m) (h : Int) :
    h ∈ ((List.range (n * m)).filterMap fun j => joinH es fs (partsM n m) (a * m + b) j) ↔ ∃ c d : Nat, c < n ∧ d < m ∧ h = ((c * m + d + 1 : Nat) : Int) ∧ a * m + b < c * m + d ∧ (c : Int) + 1 ∈ ((a : Int) + 1) :: mates ((a : Int) + 1) es ∧ (d : Int) + 1 ∈ ((b : Int) + 1) :: mates ((b : Int) + 1) fs := by
  rw [List.mem_filterMap]
  constructor
  · rintro ⟨j, hj, hx⟩
    have hj := List.mem_range.mp hj
    have hm0 : 0 < m := by omega
    have hc : j / m < n := Nat.div_lt_of_lt_mul (by rw [Nat.mul_comm]; exact hj)
    have hd := Nat.mod_lt j hm0
    have hjm : j / m * m + j % m = j := by rw [Nat.mul_comm]; exact Nat.div_add_mod j m
    have hg := partsM_get hc hd
    rw [hjm] at hg
    unfold joinH at hx
    rw [partsM_get ha hb, hg] at hx
    simp only at hx
    split at hx
    · rename_i hif
      have hx := Option.some.inj hx
      exact ⟨j / m, j % m, hc, hd, by omega, by omega, hif.2.1, hif.2.2⟩
    · cases hx
  · rintro ⟨c, d, hc, hd, rfl, hlt, h3, h4⟩
    refine ⟨c * m + d, List.mem_range.mpr ?_, ?_⟩
    · have : (c + 1) * m ≤ n * m := Nat.mul_le_mul_right m hc
      rw [Nat.succ_mul] at this
      omega
    · unfold joinH
      rw [partsM_get ha hb, partsM_get hc hd]
      simp only
      rw [if_pos ⟨hlt, h3, h4⟩]
      congr 1
theorem flatMap_eq {α β : Type} {f g : α → List β} : ∀ {l : List α}, (∀ x ∈ l, f x = g x) → l.flatMap f = l.flatMap g
  | [], _ => rfl
  | x :: l, h => by rw [List.flatMap_cons, List.flatMap_cons, h x (List.mem_cons_self ..), flatMap_eq fun y hy => h y (List.mem_cons_of_mem _ hy)]
theorem filterMap_eq {α β : Type} {f g : α → Option β} : ∀ {l : List α}, (∀ x ∈ l, f x = g x) → l.filterMap f = l.filterMap g
  | [], _ => rfl
  | x :: l, h => by rw [List.filterMap_cons, List.filterMap_cons, h x (List.mem_cons_self ..), filterMap_eq fun y hy => h y (List.mem_cons_of_mem _ hy)]
theorem prodL_eq {n m : Nat} {es fs : List Edge} (h1 : Simp n es) (h2 : Simp m fs) : prodL n es m fs = prodM n es m fs := by
  unfold prodL prodM
  rw [partsM_length, range_mul]
  refine flatMap_eq fun a ha => flatMap_eq fun b hb => ?_
  have ha := List.mem_range.mp ha
  have hb := List.mem_range.mp hb
  unfold rowE
  have e : highsM n es m fs a b = (List.range (n * m)).filterMap fun j => joinH es fs (partsM n m) (a * m + b) j :=
    lt_unique (highsM_lt (by omega) h2 hb) (joinH_lt _ _) fun x => (mem_highs h1 h2 ha hb x).trans (joinH_mem ha hb x).symm
  rw [e, List.map_filterMap]
  refine filterMap_eq fun j _ => ?_
  rw [join_high]
  rfl

end Fo

/-! piece D11 -/
namespace Fo
open PySem PySem.Spec PyProof.Rows L2
local macro_rules | `(tactic| wtm_at "fo a") => `(tactic| first
  | exact pa_nil
  | (refine' pa_cons ?k1 ?k2; (case k1 => wtm_at "fo e"); (case k2 => wtm_at "fo a"))
  | fail "no")
local macro_rules | `(tactic| wtm_at "fo v") => `(tactic| first
  | exact pv 0
  | exact pv 1
  | exact pv 2
  | exact pv 3
  | exact pv 4
  | exact pv 5
  | exact pv 6
  | exact pv 7
  | exact pv 8
  | exact pv 9
  | exact pv 10
  | exact pv 11
  | exact pv 12
  | exact pv 13
  | exact pv 14
  | exact pv 15
  | fail "no")
local macro_rules | `(tactic| wtm_at "fo e") => `(tactic| first
  | with_reducible exact pe_int
  | with_reducible exact pe_bl
  | with_reducible exact pe_non
  | with_reducible exact pe_str
  | ((with_reducible show PE _ (.Name _ _) _); wtm_at "fo v")
  | ((with_reducible show PE _ (.BinOp _ .Add _ _) _); apply pe_op opAddB <;> wtm_at "fo e")
  | ((with_reducible show PE _ (.BinOp _ .Sub _ _) _); apply pe_op op_sub <;> wtm_at "fo e")
  | ((with_reducible show PE _ (.BinOp _ .Mult _ _) _); apply pe_op op_mul <;> wtm_at "fo e")
  | ((with_reducible show PE _ (.BinOp _ .Mod _ _) _); apply pe_op op_mod <;> wtm_at "fo e")
  | ((with_reducible show PE _ (.BinOp _ .FloorDiv _ _) _); apply pe_op op_fdiv <;> wtm_at "fo e")
  | ((with_reducible show PE _ (.BinOp _ .Pow _ _) _); apply pe_op op_powW <;> wtm_at "fo e")
  | ((with_reducible show PE _ (.BinOp _ .LShift _ _) _); apply pe_op op_shl <;> wtm_at "fo e")
  | ((with_reducible show PE _ (.BinOp _ .RShift _ _) _); apply pe_op op_shr <;> wtm_at "fo e")
  | ((with_reducible show PE _ (.BinOp _ .BitAnd _ _) _); apply pe_op op_and <;> wtm_at "fo e")
  | ((with_reducible show PE _ (.List _ _) _); apply pe_lst; wtm_at "fo a")
  | ((with_reducible show PE _ (.Tuple _ _ _) _); apply pe_tup; wtm_at "fo a")
  | ((with_reducible show PE _ (.ListComp _ [_] _ _) _); wtm_at "fo lc")
  | ((with_reducible show PE _ (.IfExp _ _ _ _) _); apply pe_ifExp; (· wtm_at "fo t"); (· wtm_at "fo e"); (· wtm_at "fo e"))
  | ((with_reducible show PE _ (.UnaryOp .USub _ _) _); apply pe_un un_neg; wtm_at "fo e")
  | ((with_reducible show PE _ (.Call (.Name _ _) [] (_ :: _) _) _); wtm_at "fo kcall")
  | ((with_reducible show PE _ (.Call (.Name _ _) _ _ _) _); wtm_at "fo call")
  | ((with_reducible show PE _ (.Call (.Attribute _ _ _) _ _ _) _); wtm_at "fo meth")
  | ((with_reducible show PE _ (.Compare _ _ _ _) _); wtm_at "fo cmp")
  | ((with_reducible show PE _ (.Subscript _ (.Slice _ _ _ _) _) _); wtm_at "fo slice")
  | ((with_reducible show PE _ (.Subscript _ _ _) _); refine' pe_ix (ix_seqK (by assumption) (by exact rfl)) ?ka ?kb (fun _ _ => rfl); (case ka => wtm_at "fo e"); (case kb => wtm_at "fo e"))
  | fail "no")
local macro_rules | `(tactic| wtm_at "fo own") => `(tactic| first
  | ((show _ = [0]); kernel_rfl!)
  | ((show _ = [1]); kernel_rfl!)
  | ((show _ = [2]); kernel_rfl!)
  | ((show _ = [3]); kernel_rfl!)
  | ((show _ = [4]); kernel_rfl!)
  | ((show _ = [5]); kernel_rfl!)
  | ((show _ = [6]); kernel_rfl!)
  | ((show _ = [7]); kernel_rfl!)
  | ((show _ = [8]); kernel_rfl!)
  | ((show _ = [9]); kernel_rfl!)
  | ((show _ = [10]); kernel_rfl!)
  | ((show _ = [11]); kernel_rfl!)
  | ((show _ = [12]); kernel_rfl!)
  | ((show _ = [13]); kernel_rfl!)
  | ((show _ = [14]); kernel_rfl!)
  | ((show _ = [15]); kernel_rfl!)
  | ((show _ = [0, 1]); kernel_rfl!)
  | ((show _ = [1, 2]); kernel_rfl!)
  | ((show _ = [2, 3]); kernel_rfl!)
  | ((show _ = [3, 4]); kernel_rfl!)
  | ((show _ = [4, 5]); kernel_rfl!)
  | ((show _ = [5, 6]); kernel_rfl!)
  | ((show _ = [6, 7]); kernel_rfl!)
  | ((show _ = [7, 8]); kernel_rfl!)
  | ((show _ = [8, 9]); kernel_rfl!)
  | ((show _ = [9, 10]); kernel_rfl!)
  | ((show _ = [10, 11]); kernel_rfl!)
  | ((show _ = [11, 12]); kernel_rfl!)
  | ((show _ = [12, 13]); kernel_rfl!)
  | ((show _ = [13, 14]); kernel_rfl!)
  | ((show _ = [14, 15]); kernel_rfl!)
  | fail "no")
local macro_rules | `(tactic| wtm_at "fo ts") => `(tactic| first
  | exact pts_nil
  | (apply pts_one; wtm_at "fo t")
  | fail "no")
local macro_rules | `(tactic| wtm_at "fo lc") => `(tactic| first
  | (refine' pe_lcO (by assumption) (by exact rfl) (by exact rfl) (by wtm_at "fo own") (by decide +kernel) rfl ?ki ?kg ?kt ?ke; (case ki => wtm_at "fo i"); (case kg => (intro _ _ _ _ _; wtm_at "fo g")); (case kt => (intro _ _ _ _ _; wtm_at "fo ts")); (case ke => (intro _ _ _ _ _; wtm_at "fo e")))
  | fail "no")
local macro_rules | `(tactic| wtm_at "fo part") => `(tactic| first
  | exact po_none
  | (apply po_some; wtm_at "fo e")
  | fail "no")
local macro_rules | `(tactic| wtm_at "fo slice") => `(tactic| first
  | ((with_reducible show PE _ (.Subscript _ (.Slice _ _ none _) _) _); refine' pe_slice (sl_listK (by assumption) (by exact rfl)) ?ka ?kb ?kc; (case ka => wtm_at "fo e"); (case kb => wtm_at "fo part"); (case kc => wtm_at "fo part"))
  | ((with_reducible show PE _ (.Subscript _ (.Slice none none (some _) _) _) _); refine' pe_stepK (by assumption) (by exact rfl) ?ka ?kb; (case ka => wtm_at "fo e"); (case kb => wtm_at "fo e"))
  | fail "no")
local macro_rules | `(tactic| wtm_at "fo cmp") => `(tactic| first
  | ((with_reducible show PE _ (.Compare _ [.Lt] _ _) _); refine' pe_cmpR op_lt ?ka ?kb (nomark _); (case ka => wtm_at "fo e"); (case kb => wtm_at "fo e"))
  | ((with_reducible show PE _ (.Compare _ [.LtE] _ _) _); refine' pe_cmpR op_le ?ka ?kb (nomark _); (case ka => wtm_at "fo e"); (case kb => wtm_at "fo e"))
  | ((with_reducible show PE _ (.Compare _ [.Gt] _ _) _); refine' pe_cmpR op_gt ?ka ?kb (nomark _); (case ka => wtm_at "fo e"); (case kb => wtm_at "fo e"))
  | ((with_reducible show PE _ (.Compare _ [.GtE] _ _) _); refine' pe_cmpR op_ge ?ka ?kb (nomark _); (case ka => wtm_at "fo e"); (case kb => wtm_at "fo e"))
  | ((with_reducible show PE _ (.Compare _ [.Eq] _ _) _); refine' pe_cmpR (op_eqK (by assumption) (by exact rfl) (Room.units (by assumption))) ?ka ?kb (nomark _); (case ka => wtm_at "fo e"); (case kb => wtm_at "fo e"))
  | ((with_reducible show PE _ (.Compare _ [.NotEq] _ _) _); refine' pe_cmpR (op_neK (by assumption) (by exact rfl) (Room.units (by assumption))) ?ka ?kb (nomark _); (case ka => wtm_at "fo e"); (case kb => wtm_at "fo e"))
  | fail "no")
local macro_rules | `(tactic| wtm_at "fo tcmp") => `(tactic| first
  | ((with_reducible show PT _ (.Compare _ [.Lt] _ _) _); refine' pt_cmpR op_lt ?ka ?kb (nomark _); (case ka => wtm_at "fo e"); (case kb => wtm_at "fo e"))
  | ((with_reducible show PT _ (.Compare _ [.LtE] _ _) _); refine' pt_cmpR op_le ?ka ?kb (nomark _); (case ka => wtm_at "fo e"); (case kb => wtm_at "fo e"))
  | ((with_reducible show PT _ (.Compare _ [.Gt] _ _) _); refine' pt_cmpR op_gt ?ka ?kb (nomark _); (case ka => wtm_at "fo e"); (case kb => wtm_at "fo e"))
  | ((with_reducible show PT _ (.Compare _ [.GtE] _ _) _); refine' pt_cmpR op_ge ?ka ?kb (nomark _); (case ka => wtm_at "fo e"); (case kb => wtm_at "fo e"))
  | ((with_reducible show PT _ (.Compare _ [.Eq] _ _) _); refine' pt_cmpR (op_eqK (by assumption) (by exact rfl) (Room.units (by assumption))) ?ka ?kb (nomark _); (case ka => wtm_at "fo e"); (case kb => wtm_at "fo e"))
  | ((with_reducible show PT _ (.Compare _ [.NotEq] _ _) _); refine' pt_cmpR (op_neK (by assumption) (by exact rfl) (Room.units (by assumption))) ?ka ?kb (nomark _); (case ka => wtm_at "fo e"); (case kb => wtm_at "fo e"))
  | ((with_reducible show PT _ (.Compare _ [.In] _ _) _); refine' pt_cmpR (op_inK (by assumption) (by exact rfl)) ?ka ?kb rfl; (case ka => wtm_at "fo e"); (case kb => wtm_at "fo e"))
  | ((with_reducible show PT _ (.Compare _ [.NotIn] _ _) _); refine' pt_cmpR (op_notInK (by assumption) (by exact rfl)) ?ka ?kb rfl; (case ka => wtm_at "fo e"); (case kb => wtm_at "fo e"))
  | fail "no")
local macro_rules | `(tactic| wtm_at "fo w") => `(tactic| first
  | ((with_reducible show PW _ (.BoolOp .And [_] _) _); apply pw_and1; wtm_at "fo t")
  | ((with_reducible show PW _ (.BoolOp .And _ _) _); apply pw_and; (· wtm_at "fo t"); (· wtm_at "fo w"))
  | ((with_reducible show PW _ (.BoolOp .Or [_] _) _); apply pw_or1; wtm_at "fo t")
  | ((with_reducible show PW _ (.BoolOp .Or _ _) _); apply pw_or; (· wtm_at "fo t"); (· wtm_at "fo w"))
  | fail "no")
local macro_rules | `(tactic| wtm_at "fo meth") => `(tactic| first
  | ((with_reducible show PE _ (.Call (.Attribute _ (Str.ofString "append") _) _ _ _) _); refine' pe_bm PySem.F.plainAttrs_list PySem.F.slot_list_append PySem.F.type_list_append mt_append ?ka ?kb; (case ka => wtm_at "fo e"); (case kb => wtm_at "fo a"))
  | ((with_reducible show PE _ (.Call (.Attribute _ (Str.ofString "pop") _) [_] _ _) _); refine' pe_bm PySem.F.plainAttrs_list PySem.F.slot_list_pop PySem.F.type_list_pop mt_popAt ?ka ?kb; (case ka => wtm_at "fo e"); (case kb => wtm_at "fo a"))
  | ((with_reducible show PE _ (.Call (.Attribute _ (Str.ofString "pop") _) [] _ _) _); refine' pe_bm0 PySem.F.plainAttrs_list PySem.F.slot_list_pop PySem.F.type_list_pop mt_pop ?ka; (case ka => wtm_at "fo e"))
  | fail "no")
local macro_rules | `(tactic| wtm_at "fo k") => `(tactic| first
  | exact pk_nil
  | (refine' pk_cons ?k1 ?k2; (case k1 => wtm_at "fo e"); (case k2 => wtm_at "fo k"))
  | fail "no")
local macro_rules | `(tactic| wtm_at "fo kcall") => `(tactic| first
  | (refine' pe_kcal (by assumption) (by assumption) (by decide) (by rfl) ?ka; (case ka => wtm_at "fo k"))
  | fail "no")
local macro_rules | `(tactic| wtm_at "fo call") => `(tactic| first
  | ((with_reducible show PE _ (.Call (.Name (Str.ofString "int") _) _ _ _) _); refine' pe_callTy call_intB (by rfl) (by assumption) (by decide +kernel) ?ka; (case ka => wtm_at "fo a"))
  | ((with_reducible show PE _ (.Call (.Name (Str.ofString "len") _) _ _ _) _); refine' pe_callB (call_lenK (by assumption) (by exact rfl)) (by rfl) (by assumption) PySem.boot_len ?ka; (case ka => wtm_at "fo a"))
  | ((with_reducible show PE _ (.Call (.Name (Str.ofString "list") _) [.Call (.Name (Str.ofString "range") _) [_, _] _ _] _ _) _); refine' pe_listRg rfl (by rfl) (by assumption) (prg_2 (by rfl) (by assumption) ?ka ?kb); (case ka => wtm_at "fo e"); (case kb => wtm_at "fo e"))
  | ((with_reducible show PE _ (.Call (.Name (Str.ofString "list") _) _ _ _) _); refine' pe_callTy (call_listK (by assumption) (by exact rfl)) (by rfl) (by assumption) (by decide +kernel) ?ka; (case ka => wtm_at "fo a"))
  | ((with_reducible show PE _ (.Call (.Name (Str.ofString "min") _) [_, _] _ _) _); refine' pe_callB (call_min2 rfl) (by rfl) (by assumption) (by decide +kernel) ?ka; (case ka => wtm_at "fo a"))
  | ((with_reducible show PE _ (.Call (.Name (Str.ofString "sorted") _) [_] _ _) _); refine' pe_callB (cr_sortedK (by assumption) (by exact rfl)) (by rfl) (by assumption) (by decide +kernel) ?ka; (case ka => wtm_at "fo a"))
  | ((with_reducible show PE _ (.Call (.Name (Str.ofString "repr") _) [_] _ _) _); refine' pe_callB (call_reprK (by assumption) (by exact rfl) (by assumption) (Room.units (by assumption))) (by rfl) (by assumption) (by decide +kernel) ?ka; (case ka => wtm_at "fo a"))
  | (refine' pe_cal (by assumption) (by assumption) (by decide) (by rfl) ?ka; (case ka => wtm_at "fo a"))
  | fail "no")
local macro_rules | `(tactic| wtm_at "fo setlc") => `(tactic| first
  | (refine' ps_setLcO (i := 0) (by assumption) (by exact rfl) (by exact rfl) (by wtm_at "fo own") (by decide +kernel) rfl rfl rfl (sw_true rfl rfl rfl (by decide +kernel)) ?ki ?kg ?kt ?ke; (case ki => wtm_at "fo i"); (case kg => (intro _ _ _ _ _; wtm_at "fo g")); (case kt => (intro _ _ _ _ _; wtm_at "fo ts")); (case ke => (intro _ _ _ _ _; wtm_at "fo e")))
  | (refine' ps_setLcO (i := 1) (by assumption) (by exact rfl) (by exact rfl) (by wtm_at "fo own") (by decide +kernel) rfl rfl rfl (sw_true rfl rfl rfl (by decide +kernel)) ?ki ?kg ?kt ?ke; (case ki => wtm_at "fo i"); (case kg => (intro _ _ _ _ _; wtm_at "fo g")); (case kt => (intro _ _ _ _ _; wtm_at "fo ts")); (case ke => (intro _ _ _ _ _; wtm_at "fo e")))
  | (refine' ps_setLcO (i := 2) (by assumption) (by exact rfl) (by exact rfl) (by wtm_at "fo own") (by decide +kernel) rfl rfl rfl (sw_true rfl rfl rfl (by decide +kernel)) ?ki ?kg ?kt ?ke; (case ki => wtm_at "fo i"); (case kg => (intro _ _ _ _ _; wtm_at "fo g")); (case kt => (intro _ _ _ _ _; wtm_at "fo ts")); (case ke => (intro _ _ _ _ _; wtm_at "fo e")))
  | (refine' ps_setLcO (i := 3) (by assumption) (by exact rfl) (by exact rfl) (by wtm_at "fo own") (by decide +kernel) rfl rfl rfl (sw_true rfl rfl rfl (by decide +kernel)) ?ki ?kg ?kt ?ke; (case ki => wtm_at "fo i"); (case kg => (intro _ _ _ _ _; wtm_at "fo g")); (case kt => (intro _ _ _ _ _; wtm_at "fo ts")); (case ke => (intro _ _ _ _ _; wtm_at "fo e")))
  | (refine' ps_setLcO (i := 4) (by assumption) (by exact rfl) (by exact rfl) (by wtm_at "fo own") (by decide +kernel) rfl rfl rfl (sw_true rfl rfl rfl (by decide +kernel)) ?ki ?kg ?kt ?ke; (case ki => wtm_at "fo i"); (case kg => (intro _ _ _ _ _; wtm_at "fo g")); (case kt => (intro _ _ _ _ _; wtm_at "fo ts")); (case ke => (intro _ _ _ _ _; wtm_at "fo e")))
  | (refine' ps_setLcO (i := 5) (by assumption) (by exact rfl) (by exact rfl) (by wtm_at "fo own") (by decide +kernel) rfl rfl rfl (sw_true rfl rfl rfl (by decide +kernel)) ?ki ?kg ?kt ?ke; (case ki => wtm_at "fo i"); (case kg => (intro _ _ _ _ _; wtm_at "fo g")); (case kt => (intro _ _ _ _ _; wtm_at "fo ts")); (case ke => (intro _ _ _ _ _; wtm_at "fo e")))
  | (refine' ps_setLcO (i := 6) (by assumption) (by exact rfl) (by exact rfl) (by wtm_at "fo own") (by decide +kernel) rfl rfl rfl (sw_true rfl rfl rfl (by decide +kernel)) ?ki ?kg ?kt ?ke; (case ki => wtm_at "fo i"); (case kg => (intro _ _ _ _ _; wtm_at "fo g")); (case kt => (intro _ _ _ _ _; wtm_at "fo ts")); (case ke => (intro _ _ _ _ _; wtm_at "fo e")))
  | (refine' ps_setLcO (i := 7) (by assumption) (by exact rfl) (by exact rfl) (by wtm_at "fo own") (by decide +kernel) rfl rfl rfl (sw_true rfl rfl rfl (by decide +kernel)) ?ki ?kg ?kt ?ke; (case ki => wtm_at "fo i"); (case kg => (intro _ _ _ _ _; wtm_at "fo g")); (case kt => (intro _ _ _ _ _; wtm_at "fo ts")); (case ke => (intro _ _ _ _ _; wtm_at "fo e")))
  | (refine' ps_setLcO (i := 8) (by assumption) (by exact rfl) (by exact rfl) (by wtm_at "fo own") (by decide +kernel) rfl rfl rfl (sw_true rfl rfl rfl (by decide +kernel)) ?ki ?kg ?kt ?ke; (case ki => wtm_at "fo i"); (case kg => (intro _ _ _ _ _; wtm_at "fo g")); (case kt => (intro _ _ _ _ _; wtm_at "fo ts")); (case ke => (intro _ _ _ _ _; wtm_at "fo e")))
  | (refine' ps_setLcO (i := 9) (by assumption) (by exact rfl) (by exact rfl) (by wtm_at "fo own") (by decide +kernel) rfl rfl rfl (sw_true rfl rfl rfl (by decide +kernel)) ?ki ?kg ?kt ?ke; (case ki => wtm_at "fo i"); (case kg => (intro _ _ _ _ _; wtm_at "fo g")); (case kt => (intro _ _ _ _ _; wtm_at "fo ts")); (case ke => (intro _ _ _ _ _; wtm_at "fo e")))
  | (refine' ps_setLcO (i := 10) (by assumption) (by exact rfl) (by exact rfl) (by wtm_at "fo own") (by decide +kernel) rfl rfl rfl (sw_true rfl rfl rfl (by decide +kernel)) ?ki ?kg ?kt ?ke; (case ki => wtm_at "fo i"); (case kg => (intro _ _ _ _ _; wtm_at "fo g")); (case kt => (intro _ _ _ _ _; wtm_at "fo ts")); (case ke => (intro _ _ _ _ _; wtm_at "fo e")))
  | (refine' ps_setLcO (i := 11) (by assumption) (by exact rfl) (by exact rfl) (by wtm_at "fo own") (by decide +kernel) rfl rfl rfl (sw_true rfl rfl rfl (by decide +kernel)) ?ki ?kg ?kt ?ke; (case ki => wtm_at "fo i"); (case kg => (intro _ _ _ _ _; wtm_at "fo g")); (case kt => (intro _ _ _ _ _; wtm_at "fo ts")); (case ke => (intro _ _ _ _ _; wtm_at "fo e")))
  | (refine' ps_setLcO (i := 12) (by assumption) (by exact rfl) (by exact rfl) (by wtm_at "fo own") (by decide +kernel) rfl rfl rfl (sw_true rfl rfl rfl (by decide +kernel)) ?ki ?kg ?kt ?ke; (case ki => wtm_at "fo i"); (case kg => (intro _ _ _ _ _; wtm_at "fo g")); (case kt => (intro _ _ _ _ _; wtm_at "fo ts")); (case ke => (intro _ _ _ _ _; wtm_at "fo e")))
  | (refine' ps_setLcO (i := 13) (by assumption) (by exact rfl) (by exact rfl) (by wtm_at "fo own") (by decide +kernel) rfl rfl rfl (sw_true rfl rfl rfl (by decide +kernel)) ?ki ?kg ?kt ?ke; (case ki => wtm_at "fo i"); (case kg => (intro _ _ _ _ _; wtm_at "fo g")); (case kt => (intro _ _ _ _ _; wtm_at "fo ts")); (case ke => (intro _ _ _ _ _; wtm_at "fo e")))
  | (refine' ps_setLcO (i := 14) (by assumption) (by exact rfl) (by exact rfl) (by wtm_at "fo own") (by decide +kernel) rfl rfl rfl (sw_true rfl rfl rfl (by decide +kernel)) ?ki ?kg ?kt ?ke; (case ki => wtm_at "fo i"); (case kg => (intro _ _ _ _ _; wtm_at "fo g")); (case kt => (intro _ _ _ _ _; wtm_at "fo ts")); (case ke => (intro _ _ _ _ _; wtm_at "fo e")))
  | (refine' ps_setLcO (i := 15) (by assumption) (by exact rfl) (by exact rfl) (by wtm_at "fo own") (by decide +kernel) rfl rfl rfl (sw_true rfl rfl rfl (by decide +kernel)) ?ki ?kg ?kt ?ke; (case ki => wtm_at "fo i"); (case kg => (intro _ _ _ _ _; wtm_at "fo g")); (case kt => (intro _ _ _ _ _; wtm_at "fo ts")); (case ke => (intro _ _ _ _ _; wtm_at "fo e")))
  | fail "no")
local macro_rules | `(tactic| wtm_at "fo set") => `(tactic| first
  | (refine' ps_set (i := 0) (by assumption) rfl (by first | exact Or.inl rfl | exact Or.inr rfl) ?ka; (case ka => wtm_at "fo e"))
  | (refine' ps_set (i := 1) (by assumption) rfl (by first | exact Or.inl rfl | exact Or.inr rfl) ?ka; (case ka => wtm_at "fo e"))
  | (refine' ps_set (i := 2) (by assumption) rfl (by first | exact Or.inl rfl | exact Or.inr rfl) ?ka; (case ka => wtm_at "fo e"))
  | (refine' ps_set (i := 3) (by assumption) rfl (by first | exact Or.inl rfl | exact Or.inr rfl) ?ka; (case ka => wtm_at "fo e"))
  | (refine' ps_set (i := 4) (by assumption) rfl (by first | exact Or.inl rfl | exact Or.inr rfl) ?ka; (case ka => wtm_at "fo e"))
  | (refine' ps_set (i := 5) (by assumption) rfl (by first | exact Or.inl rfl | exact Or.inr rfl) ?ka; (case ka => wtm_at "fo e"))
  | (refine' ps_set (i := 6) (by assumption) rfl (by first | exact Or.inl rfl | exact Or.inr rfl) ?ka; (case ka => wtm_at "fo e"))
  | (refine' ps_set (i := 7) (by assumption) rfl (by first | exact Or.inl rfl | exact Or.inr rfl) ?ka; (case ka => wtm_at "fo e"))
  | (refine' ps_set (i := 8) (by assumption) rfl (by first | exact Or.inl rfl | exact Or.inr rfl) ?ka; (case ka => wtm_at "fo e"))
  | (refine' ps_set (i := 9) (by assumption) rfl (by first | exact Or.inl rfl | exact Or.inr rfl) ?ka; (case ka => wtm_at "fo e"))
  | (refine' ps_set (i := 10) (by assumption) rfl (by first | exact Or.inl rfl | exact Or.inr rfl) ?ka; (case ka => wtm_at "fo e"))
  | (refine' ps_set (i := 11) (by assumption) rfl (by first | exact Or.inl rfl | exact Or.inr rfl) ?ka; (case ka => wtm_at "fo e"))
  | (refine' ps_set (i := 12) (by assumption) rfl (by first | exact Or.inl rfl | exact Or.inr rfl) ?ka; (case ka => wtm_at "fo e"))
  | (refine' ps_set (i := 13) (by assumption) rfl (by first | exact Or.inl rfl | exact Or.inr rfl) ?ka; (case ka => wtm_at "fo e"))
  | fail "no")
local macro_rules | `(tactic| wtm_at "fo t") => `(tactic| first
  | ((with_reducible show PT _ (.BoolOp _ _ _) _); apply PW.pt; wtm_at "fo w")
  | ((with_reducible show PT _ (.UnaryOp .Not _ _) _); apply pt_not; wtm_at "fo t")
  | ((with_reducible show PT _ (.Compare _ _ _ _) _); wtm_at "fo tcmp")
  | (refine' pt_truthK (by assumption) (by exact rfl) ?ka (by intro _; rfl); (case ka => wtm_at "fo e"))
  | fail "no")
local macro_rules | `(tactic| wtm_at "fo gn") => `(tactic| first
  | exact pg_name (i := 0) (by assumption) rfl (by first | exact Or.inl rfl | exact Or.inr rfl)
  | exact pg_name (i := 1) (by assumption) rfl (by first | exact Or.inl rfl | exact Or.inr rfl)
  | exact pg_name (i := 2) (by assumption) rfl (by first | exact Or.inl rfl | exact Or.inr rfl)
  | exact pg_name (i := 3) (by assumption) rfl (by first | exact Or.inl rfl | exact Or.inr rfl)
  | exact pg_name (i := 4) (by assumption) rfl (by first | exact Or.inl rfl | exact Or.inr rfl)
  | exact pg_name (i := 5) (by assumption) rfl (by first | exact Or.inl rfl | exact Or.inr rfl)
  | exact pg_name (i := 6) (by assumption) rfl (by first | exact Or.inl rfl | exact Or.inr rfl)
  | exact pg_name (i := 7) (by assumption) rfl (by first | exact Or.inl rfl | exact Or.inr rfl)
  | exact pg_name (i := 8) (by assumption) rfl (by first | exact Or.inl rfl | exact Or.inr rfl)
  | exact pg_name (i := 9) (by assumption) rfl (by first | exact Or.inl rfl | exact Or.inr rfl)
  | exact pg_name (i := 10) (by assumption) rfl (by first | exact Or.inl rfl | exact Or.inr rfl)
  | exact pg_name (i := 11) (by assumption) rfl (by first | exact Or.inl rfl | exact Or.inr rfl)
  | exact pg_name (i := 12) (by assumption) rfl (by first | exact Or.inl rfl | exact Or.inr rfl)
  | exact pg_name (i := 13) (by assumption) rfl (by first | exact Or.inl rfl | exact Or.inr rfl)
  | exact pg_name (i := 14) (by assumption) rfl (by first | exact Or.inl rfl | exact Or.inr rfl)
  | exact pg_name (i := 15) (by assumption) rfl (by first | exact Or.inl rfl | exact Or.inr rfl)
  | fail "no")
local macro_rules | `(tactic| wtm_at "fo par") => `(tactic| first
  | (refine' ps_par (i := 0) (j := 1) rfl (by assumption) rfl rfl (by decide) rfl rfl ?ka (by rfl); (case ka => wtm_at "fo a"))
  | (refine' ps_par (i := 1) (j := 2) rfl (by assumption) rfl rfl (by decide) rfl rfl ?ka (by rfl); (case ka => wtm_at "fo a"))
  | (refine' ps_par (i := 2) (j := 3) rfl (by assumption) rfl rfl (by decide) rfl rfl ?ka (by rfl); (case ka => wtm_at "fo a"))
  | (refine' ps_par (i := 3) (j := 4) rfl (by assumption) rfl rfl (by decide) rfl rfl ?ka (by rfl); (case ka => wtm_at "fo a"))
  | (refine' ps_par (i := 4) (j := 5) rfl (by assumption) rfl rfl (by decide) rfl rfl ?ka (by rfl); (case ka => wtm_at "fo a"))
  | (refine' ps_par (i := 5) (j := 6) rfl (by assumption) rfl rfl (by decide) rfl rfl ?ka (by rfl); (case ka => wtm_at "fo a"))
  | (refine' ps_par (i := 6) (j := 7) rfl (by assumption) rfl rfl (by decide) rfl rfl ?ka (by rfl); (case ka => wtm_at "fo a"))
  | (refine' ps_par (i := 7) (j := 8) rfl (by assumption) rfl rfl (by decide) rfl rfl ?ka (by rfl); (case ka => wtm_at "fo a"))
  | (refine' ps_par (i := 8) (j := 9) rfl (by assumption) rfl rfl (by decide) rfl rfl ?ka (by rfl); (case ka => wtm_at "fo a"))
  | (refine' ps_par (i := 9) (j := 10) rfl (by assumption) rfl rfl (by decide) rfl rfl ?ka (by rfl); (case ka => wtm_at "fo a"))
  | (refine' ps_par (i := 10) (j := 11) rfl (by assumption) rfl rfl (by decide) rfl rfl ?ka (by rfl); (case ka => wtm_at "fo a"))
  | (refine' ps_par (i := 11) (j := 12) rfl (by assumption) rfl rfl (by decide) rfl rfl ?ka (by rfl); (case ka => wtm_at "fo a"))
  | (refine' ps_par (i := 12) (j := 13) rfl (by assumption) rfl rfl (by decide) rfl rfl ?ka (by rfl); (case ka => wtm_at "fo a"))
  | (refine' ps_par (i := 13) (j := 14) rfl (by assumption) rfl rfl (by decide) rfl rfl ?ka (by rfl); (case ka => wtm_at "fo a"))
  | (refine' ps_par (i := 14) (j := 15) rfl (by assumption) rfl rfl (by decide) rfl rfl ?ka (by rfl); (case ka => wtm_at "fo a"))
  | fail "no")
local macro_rules | `(tactic| wtm_at "fo g") => `(tactic| first
  | ((with_reducible show PG _ (.Name _ _) _); wtm_at "fo gn")
  | ((with_reducible show PG _ (.Tuple _ _ _) _); apply PG_or; (· refine' pg_tup2 (by assumption) (by exact rfl) rfl ?kg; (case kg => wtm_at "fo gs")); (· refine' pg_unl2 (by assumption) (by exact rfl) rfl ?kg; (case kg => wtm_at "fo gs")))
  | fail "no")
local macro_rules | `(tactic| wtm_at "fo gs") => `(tactic| first
  | exact pgs_nil
  | (refine' pgs_cons ?k1 ?k2; (case k1 => wtm_at "fo g"); (case k2 => wtm_at "fo gs"))
  | fail "no")
local macro_rules | `(tactic| wtm_at "fo i") => `(tactic| first
  | ((with_reducible show PI _ _ (.Call (.Name (Str.ofString "range") _) [_] _ _) _); refine' pi_range1 (by rfl) (by assumption) ?ka; (case ka => wtm_at "fo a"))
  | ((with_reducible show PI _ _ (.Call (.Name (Str.ofString "range") _) [_, _] _ _) _); refine' pi_range2 (by rfl) (by assumption) ?ka; (case ka => wtm_at "fo a"))
  | ((with_reducible show PI _ _ (.Call (.Name (Str.ofString "enumerate") _) [_] _ _) _); refine' pi_enum (by rfl) (by assumption) ?ka; (case ka => wtm_at "fo a"))
  | (refine' pi_listK (by assumption) (by exact rfl) ?ka; (case ka => wtm_at "fo e"))
  | fail "no")
local macro_rules | `(tactic| wtm_at "fo s") => `(tactic| first
  | ((with_reducible show PS _ (.While _ _ _ _) _); refine' ps_while PassesOwn.never ?kt ?kb; (case kt => wtm_at "fo t"); (case kb => wtm_at "fo ss"))
  | ((with_reducible show PS _ (.For _ _ _ _ _) _); refine' ps_for PassesOwn.never rfl ?ki ?kg ?kb; (case ki => wtm_at "fo i"); (case kg => wtm_at "fo g"); (case kb => wtm_at "fo ss"))
  | ((with_reducible show PS _ (.Assign [.Name _ _] (.ListComp _ [_] _ _) _) _); wtm_at "fo setlc")
  | ((with_reducible show PS _ (.Assign [.Name _ _] _ _) _); wtm_at "fo set")
  | ((with_reducible show PS _ (.Assign [.Tuple [.Name _ _, .Name _ _] _ _] (.Tuple [_, _] _ _) _) _); wtm_at "fo par")
  | ((with_reducible show PS _ (.Assign [.Subscript _ _ _] _ _) _); refine' ps_asg ?ka (pg_sub ?kb ?kc set_list); (case ka => wtm_at "fo e"); (case kb => wtm_at "fo e"); (case kc => wtm_at "fo e"))
  | ((with_reducible show PS _ (.Return (some _) _) _); apply ps_ret; wtm_at "fo e")
  | ((with_reducible show PS _ (.Expr _ _) _); refine' ps_expr ?ka; (case ka => wtm_at "fo e"))
  | ((with_reducible show PS _ (.If _ _ _ _) _); apply ps_if; (· wtm_at "fo t"); (· wtm_at "fo ss"); (· wtm_at "fo ss"))
  | fail "no")
local macro_rules | `(tactic| wtm_at "fo ss") => `(tactic| first
  | with_reducible exact pss_nil
  | ((with_reducible show PSs _ [_] _); apply pss_one; wtm_at "fo s")
  | (apply pss_cons; (· wtm_at "fo s"); (· wtm_at "fo ss"))
  | fail "no")
local macro_rules | `(tactic| wtm_at "fo hp") => `(tactic| first
  | assumption
  | exact upd_same
  | (refine (upd_ne ?ne).trans ?hp; (case ne => wtm_at "fo ne"); (case hp => wtm_at "fo hp"))
  | fail "no")
local macro_rules | `(tactic| wtm_at "fo ne") => `(tactic| first
  | assumption
  | (apply Ne.symm; assumption)
  | exact ne_of_none (by assumption) (by assumption)
  | exact Ne.symm (ne_of_none (by assumption) (by assumption))
  | fail "no")
local macro_rules | `(tactic| wtm_at "fo sz") => `(tactic| first
  | exact (Nat.le_of_ble_eq_true rfl : _ ≤ sizeLine)
  | exact (Nat.le_of_ble_eq_true rfl : _ < sizeLine)
  | exact Nat.lt_of_le_of_lt (m := 100000) (by first | assumption | omega | (simp; omega)) (by decide)
  | exact Nat.le_trans (m := 100000) (by first | assumption | omega | (simp; omega)) (by decide)
  | fail "no")
local macro_rules | `(tactic| wtm_at "fo r1") => `(tactic| first
  | refine ⟨(Nat.le_of_ble_eq_true rfl : _ ≤ sizeLine), fun p np => ?_⟩
  | (refine' ⟨_, _, rfl, Or.inl (SqL.of ?h), ?_⟩; (case h => wtm_at "fo hp"))
  | refine ⟨_, rfl, ?_⟩
  | refine ⟨_, _, rfl, rfl, ?_⟩
  | refine ⟨_, _, rfl, ⟨by omega, by omega, by omega, by omega⟩, ?_⟩
  | refine ⟨_, rfl, by omega, by omega, ?_⟩
  | refine Or.inl ⟨_, rfl, ?_⟩
  | refine Or.inl ⟨rfl, ?_⟩
  | refine Or.inl ⟨_, _, rfl, rfl, ?_⟩
  | (refine' Or.inl ⟨_, _, _, _, rfl, rfl, SqL.of ?h, ?a, ?_⟩; (case h => wtm_at "fo hp"); (case a => rfl))
  | (refine' ⟨_, _, _, _, rfl, rfl, ?h, ?a, ?_⟩; (case h => wtm_at "fo hp"); (case a => rfl))
  | (refine' ⟨.inl ⟨rfl, _, SqL.of ?h⟩, ?_⟩; (case h => wtm_at "fo hp"))
  | (refine' ⟨_, _, _, rfl, rfl, ?h, ?z, ?_⟩; (case h => wtm_at "fo hp"); (case z => wtm_at "fo sz"))
  | (refine' ⟨_, rfl, ⟨_, SqL.of ?h⟩, ?_⟩; (case h => wtm_at "fo hp"))
  | fail "no")
local macro_rules | `(tactic| wtm_at "fo side") => `(tactic| ((try dsimp only [CMul, CDiv]); first
  | assumption
  | decide
  | omega
  | exact ⟨by decide, by decide⟩
  | exact ⟨by omega, by omega⟩
  | decide +kernel
  | fail "no"))
local macro_rules | `(tactic| wtm_at "fo r2") => `(tactic| first
  | wtm_at "fo r1"
  | refine And.intro (by wtm_at "fo side") ?_
  | fail "no")
local macro_rules | `(tactic| wtm_at "fo r") => `(tactic| repeat wtm_at "fo r2")
theorem call_isiK' {X : Cx} {K : PySem.W.Frag} (_ : KMark K) (h : X.K = K) : CallR X (.builtin "isinstance") (rIsi K) := h ▸ call_isi
local macro_rules | `(tactic| wtm_at "fo v") => `(tactic| first
  | ((with_reducible show PE _ (.Name (Str.ofString "int") _) _); exact pe_bltn (v := .ty "int") (by rfl) (by assumption) (by decide +kernel) rfl)
  | ((with_reducible show PE _ (.Name (Str.ofString "list") _) _); exact pe_bltn (v := .ty "list") (by rfl) (by assumption) (by decide +kernel) rfl)
  | ((with_reducible show PE _ (.Name (Str.ofString "MOST_PLACES") _) _); exact pe_glob (v := .int 12) (by rfl) (by assumption) ⟨_, rfl⟩)
  | fail "no")
local macro_rules | `(tactic| wtm_at "fo e") => `(tactic| first
  | ((with_reducible show PE _ (.BoolOp .And [_] _) _); apply pe_one; wtm_at "fo e")
  | ((with_reducible show PE _ (.BoolOp .And _ _) _); apply pe_and; (· wtm_at "fo e"); (· wtm_at "fo e"))
  | ((with_reducible show PE _ (.Compare _ [.IsNot] [.Constant (.bool true) _ _] _) _); refine' pe_cmpR op_notT ?ka ?kb (nomark _); (case ka => wtm_at "fo e"); (case kb => wtm_at "fo e"))
  | ((with_reducible show PE _ (.Compare _ [.LtE, .LtE] _ _) _); refine' pe_chain op_le op_le ?ka ?kb ?kc; (case ka => wtm_at "fo e"); (case kb => wtm_at "fo e"); (case kc => wtm_at "fo e"))
  | ((with_reducible show PE _ (.Call (.Name (Str.ofString "isinstance") _) _ _ _) _); refine' pe_callB (call_isiK' (by assumption) (by exact rfl)) (by rfl) (by assumption) (by decide +kernel) ?ka; (case ka => wtm_at "fo a"))
  | ((with_reducible show PE _ (.Call (.Attribute _ (Str.ofString "bit_length") _) [] [] _) _); refine' pe_bits ?ka; (case ka => wtm_at "fo e"))
  | fail "no")
local macro_rules | `(tactic| wtm_at "fo t") => `(tactic| first
  | ((with_reducible show PT _ (.Compare _ [.IsNot] [.Constant (.bool true) _ _] _) _); refine' pt_cmpR op_notT ?ka ?kb (nomark _); (case ka => wtm_at "fo e"); (case kb => wtm_at "fo e"))
  | ((with_reducible show PT _ (.Compare _ [.Lt, .Lt, .LtE] _ _) _); refine' pt_chain3 op_lt op_lt op_le ?ka ?kb ?kc ?kd; (case ka => wtm_at "fo e"); (case kb => wtm_at "fo e"); (case kc => wtm_at "fo e"); (case kd => wtm_at "fo e"))
  | fail "no")
local macro_rules | `(tactic| wtm_at "fo s") => `(tactic| first
  | ((with_reducible show PS _ (.Raise _ _ _) _); exact ps_never)
  | ((with_reducible show PS _ (.Continue _) _); exact ps_continue)
  | ((with_reducible show PS _ (.AugAssign (.Subscript _ _ _) .BitOr _ _) _); refine' ps_augS ?ka ?kb get_list ?kc ip_or set_list; (case ka => wtm_at "fo e"); (case kb => wtm_at "fo e"); (case kc => wtm_at "fo e"))
  | ((with_reducible show PS _ (.Assign [.Tuple _ _ _] (.Name _ _) _) _); refine' ps_asg ?ka ?kb; (case ka => wtm_at "fo e"); (case kb => wtm_at "fo g"))
  | fail "no")
variable {P : Program} {w : World} {K : PySem.W.Frag} {mg : Str → Option Value} {base : Heap}
/-! ### is_place, members -/
@[irreducible] def spIsPlace : Sp := fun vs H Q _ => ∃ i n : Int, vs = [.int i, .int n] ∧ Q (.bl (decide (1 ≤ i ∧ i ≤ n))) H
theorem call_isplace {i n : Int} {H : Hp} {Q : VK} {E : XK} (q : Q (.bl (decide (1 ≤ i ∧ i ≤ n))) H) : spIsPlace [.int i, .int n] H Q E := by
  unfold spIsPlace
  exact ⟨i, n, rfl, q⟩
set_option maxHeartbeats 2000000 in
theorem ok_isplace {f : Addr} {fd : FuncData} (F : Fun K "is_place" "is_place" s_is_place f fd) (mi : mg "isinstance" = none) (mt : mg "int" = none) :
    FnOk P w K mg base CX0 1 f fd ["place", "places"] spIsPlace := by
  refine F.ok sc_is_place (fun vs H Q E h => ?_) (fun cdv A outer s H vs Q E hr h => ?_)
  · unfold spIsPlace at h
    obtain ⟨i, n, rfl, _⟩ := h
    rfl
  · have nd := sc_is_place.nd
    have hS := sc_is_place
    have hKM : KMark K := ⟨⟩
    refine' mk_body ?body ?rd
    case body =>
      show PSs _ [_] _
      wtm_at "fo ss"
    case rd =>
     unfold spIsPlace at h
     obtain ⟨i, n, rfl, q⟩ := h
     wtm_at "fo r"
     refine ⟨.int i, .ty "int", _, _, true, rfl, .ty "int", .base (.int i), kit_ty (by decide +kernel), ?_⟩
     refine ⟨_, rfl, ?_⟩
     refine ifT rfl ?_
     refine ⟨_, rfl, rfl, _, rfl, ifT rfl ?_⟩
     refine ⟨_, rfl, _, _, rfl, rfl, _, rfl, ?_⟩
     by_cases h1 : 1 ≤ i
     · refine ifT (decide_eq_true h1) ?_
       refine ⟨_, rfl, _, _, rfl, rfl, ?_⟩
       rw [show decide (1 ≤ i ∧ i ≤ n) = decide (i ≤ n) by simp [h1]] at q
       exact q
     · refine ifF (decide_eq_false h1) ?_
       rw [show decide (1 ≤ i ∧ i ≤ n) = false by simp [h1]] at q
       exact q

@[irreducible] def spMembers : Sp := fun vs H Q _ => ∃ v : Nat, vs = [.int v] ∧ v < 2 ^ 20 ∧ ∀ p H', Same H H' → H p = none → H' p = some (.lst ((membersM v).map V.int)) → Q (.ref p) H'
theorem call_members {v : Nat} {H : Hp} {Q : VK} {E : XK} (hv : v < 2 ^ 20) (q : ∀ p H', Same H H' → H p = none → H' p = some (.lst ((membersM v).map V.int)) → Q (.ref p) H') : spMembers [.int v] H Q E := by
  unfold spMembers
  exact ⟨v, rfl, hv, q⟩
theorem bitLen_eq (v : Nat) : Builtin.Int.intBits (v : Int) = bitLen v := by
  unfold Builtin.Int.intBits bitLen
  by_cases h : v = 0
  · subst h; rfl
  · rw [if_neg h, if_neg (by simp; omega)]
    rfl
theorem bitLen_le {v k : Nat} (h : v < 2 ^ k) : bitLen v ≤ k := by
  unfold bitLen
  by_cases e : v = 0
  · rw [if_pos e]; omega
  · rw [if_neg e]
    have := (Nat.log2_lt e).mpr h
    omega
set_option maxHeartbeats 2000000 in
theorem ok_members {f : Addr} {fd : FuncData} (F : Fun K "members" "members" s_members f fd) (mr : mg "range" = none) :
    FnOk P w K mg base CX0 1 f fd ["lot"] spMembers := by
  refine F.ok sc_members (fun vs H Q E h => ?_) (fun cdv A outer s H vs Q E hr h => ?_)
  · unfold spMembers at h
    obtain ⟨v, rfl, _⟩ := h
    rfl
  · have nd := sc_members.nd
    have hS := sc_members
    have hKM : KMark K := ⟨⟩
    refine' mk_body ?body ?rd
    case body =>
      show PSs _ [_] _
      wtm_at "fo ss"
    case rd =>
     unfold spMembers at h
     obtain ⟨v, rfl, hv, q⟩ := h
     wtm_at "fo r"
     rw [bitLen_eq]
     have hb := bitLen_le hv
     refine ⟨1, (bitLen v : Int), rfl, ⟨by decide, by decide, by omega, by omega⟩, fun D nD => ?_⟩
     have hN : ((bitLen v : Int) - 1).toNat = bitLen v - 1 := by omega
     refine lc_range (fun i H1 => i ≤ bitLen v - 1 ∧ H1 = upd H D (.lst ((((List.range i).map fun (i : Nat) => (i : Int) + 1).filter fun x => v.testBit x.toNat).map V.int))) ⟨Nat.zero_le _, rfl⟩ ?_ ?_
     · rintro i H1 hi ⟨hi2, rfl⟩
       rw [hN] at hi
       refine ⟨rfl, ?_⟩
       wtm_at "fo r"
       rw [show (1 + (i : Int)).toNat = i + 1 by omega, bit_test]
       have hlen : ((((List.range i).map fun (i : Nat) => (i : Int) + 1).filter fun x => v.testBit x.toNat).map V.int).length ≤ i := by
         rw [List.length_map]
         exact Nat.le_trans (List.length_filter_le ..) (by simp)
       have hr1 : ((List.range (i + 1)).map fun (i : Nat) => (i : Int) + 1).filter (fun x => v.testBit x.toNat) = ((List.range i).map fun (i : Nat) => (i : Int) + 1).filter (fun x => v.testBit x.toNat) ++ (if v.testBit (i + 1) then [(i : Int) + 1] else []) := by
         rw [List.range_succ, List.map_append, List.filter_append]
         congr 1
         show List.filter _ [(i : Int) + 1] = _
         rw [List.filter_cons, show ((i : Int) + 1).toNat = i + 1 by omega]
         rfl
       rw [hr1]
       cases hb1 : v.testBit (i + 1) with
       | true =>
         refine ifT rfl ⟨_, rfl, _, upd_same, Nat.lt_of_le_of_lt (m := 20) (by omega) (by decide), by omega, ?_⟩
         rw [upd_upd, if_pos rfl, List.map_append, show (1 + (i : Int)) = (i : Int) + 1 by omega]
         rfl
       | false =>
         refine ifF rfl ⟨by omega, ?_⟩
         rw [if_neg (by decide), List.append_nil]
     · rintro H1 ⟨_, rfl⟩
       rw [hN]
       exact q D _ (same_upd (Same.refl _) nD) nD upd_same

end Fo

/-! piece D12 -/
namespace Fo
open PySem PySem.Spec PyProof.Rows L2
local macro_rules | `(tactic| wtm_at "fo a") => `(tactic| first
  | exact pa_nil
  | (refine' pa_cons ?k1 ?k2; (case k1 => wtm_at "fo e"); (case k2 => wtm_at "fo a"))
  | fail "no")
local macro_rules | `(tactic| wtm_at "fo v") => `(tactic| first
  | exact pv 0
  | exact pv 1
  | exact pv 2
  | exact pv 3
  | exact pv 4
  | exact pv 5
  | exact pv 6
  | exact pv 7
  | exact pv 8
  | exact pv 9
  | exact pv 10
  | exact pv 11
  | exact pv 12
  | exact pv 13
  | exact pv 14
  | exact pv 15
  | fail "no")
local macro_rules | `(tactic| wtm_at "fo e") => `(tactic| first
  | with_reducible exact pe_int
  | with_reducible exact pe_bl
  | with_reducible exact pe_non
  | with_reducible exact pe_str
  | ((with_reducible show PE _ (.Name _ _) _); wtm_at "fo v")
  | ((with_reducible show PE _ (.BinOp _ .Add _ _) _); apply pe_op opAddB <;> wtm_at "fo e")
  | ((with_reducible show PE _ (.BinOp _ .Sub _ _) _); apply pe_op op_sub <;> wtm_at "fo e")
  | ((with_reducible show PE _ (.BinOp _ .Mult _ _) _); apply pe_op op_mul <;> wtm_at "fo e")
  | ((with_reducible show PE _ (.BinOp _ .Mod _ _) _); apply pe_op op_mod <;> wtm_at "fo e")
  | ((with_reducible show PE _ (.BinOp _ .FloorDiv _ _) _); apply pe_op op_fdiv <;> wtm_at "fo e")
  | ((with_reducible show PE _ (.BinOp _ .Pow _ _) _); apply pe_op op_powW <;> wtm_at "fo e")
  | ((with_reducible show PE _ (.BinOp _ .LShift _ _) _); apply pe_op op_shl <;> wtm_at "fo e")
  | ((with_reducible show PE _ (.BinOp _ .RShift _ _) _); apply pe_op op_shr <;> wtm_at "fo e")
  | ((with_reducible show PE _ (.BinOp _ .BitAnd _ _) _); apply pe_op op_and <;> wtm_at "fo e")
  | ((with_reducible show PE _ (.List _ _) _); apply pe_lst; wtm_at "fo a")
  | ((with_reducible show PE _ (.Tuple _ _ _) _); apply pe_tup; wtm_at "fo a")
  | ((with_reducible show PE _ (.ListComp _ [_] _ _) _); wtm_at "fo lc")
  | ((with_reducible show PE _ (.IfExp _ _ _ _) _); apply pe_ifExp; (· wtm_at "fo t"); (· wtm_at "fo e"); (· wtm_at "fo e"))
  | ((with_reducible show PE _ (.UnaryOp .USub _ _) _); apply pe_un un_neg; wtm_at "fo e")
  | ((with_reducible show PE _ (.Call (.Name _ _) [] (_ :: _) _) _); wtm_at "fo kcall")
  | ((with_reducible show PE _ (.Call (.Name _ _) _ _ _) _); wtm_at "fo call")
  | ((with_reducible show PE _ (.Call (.Attribute _ _ _) _ _ _) _); wtm_at "fo meth")
  | ((with_reducible show PE _ (.Compare _ _ _ _) _); wtm_at "fo cmp")
  | ((with_reducible show PE _ (.Subscript _ (.Slice _ _ _ _) _) _); wtm_at "fo slice")
  | ((with_reducible show PE _ (.Subscript _ _ _) _); refine' pe_ix (ix_seqK (by assumption) (by exact rfl)) ?ka ?kb (fun _ _ => rfl); (case ka => wtm_at "fo e"); (case kb => wtm_at "fo e"))
  | fail "no")
local macro_rules | `(tactic| wtm_at "fo own") => `(tactic| first
  | ((show _ = [0]); kernel_rfl!)
  | ((show _ = [1]); kernel_rfl!)
  | ((show _ = [2]); kernel_rfl!)
  | ((show _ = [3]); kernel_rfl!)
  | ((show _ = [4]); kernel_rfl!)
  | ((show _ = [5]); kernel_rfl!)
  | ((show _ = [6]); kernel_rfl!)
  | ((show _ = [7]); kernel_rfl!)
  | ((show _ = [8]); kernel_rfl!)
  | ((show _ = [9]); kernel_rfl!)
  | ((show _ = [10]); kernel_rfl!)
  | ((show _ = [11]); kernel_rfl!)
  | ((show _ = [12]); kernel_rfl!)
  | ((show _ = [13]); kernel_rfl!)
  | ((show _ = [14]); kernel_rfl!)
  | ((show _ = [15]); kernel_rfl!)
  | ((show _ = [0, 1]); kernel_rfl!)
  | ((show _ = [1, 2]); kernel_rfl!)
  | ((show _ = [2, 3]); kernel_rfl!)
  | ((show _ = [3, 4]); kernel_rfl!)
  | ((show _ = [4, 5]); kernel_rfl!)
  | ((show _ = [5, 6]); kernel_rfl!)
  | ((show _ = [6, 7]); kernel_rfl!)
  | ((show _ = [7, 8]); kernel_rfl!)
  | ((show _ = [8, 9]); kernel_rfl!)
  | ((show _ = [9, 10]); kernel_rfl!)
  | ((show _ = [10, 11]); kernel_rfl!)
  | ((show _ = [11, 12]); kernel_rfl!)
  | ((show _ = [12, 13]); kernel_rfl!)
  | ((show _ = [13, 14]); kernel_rfl!)
  | ((show _ = [14, 15]); kernel_rfl!)
  | fail "no")
local macro_rules | `(tactic| wtm_at "fo ts") => `(tactic| first
  | exact pts_nil
  | (apply pts_one; wtm_at "fo t")
  | fail "no")
local macro_rules | `(tactic| wtm_at "fo lc") => `(tactic| first
  | (refine' pe_lcO (by assumption) (by exact rfl) (by exact rfl) (by wtm_at "fo own") (by decide +kernel) rfl ?ki ?kg ?kt ?ke; (case ki => wtm_at "fo i"); (case kg => (intro _ _ _ _ _; wtm_at "fo g")); (case kt => (intro _ _ _ _ _; wtm_at "fo ts")); (case ke => (intro _ _ _ _ _; wtm_at "fo e")))
  | fail "no")
local macro_rules | `(tactic| wtm_at "fo part") => `(tactic| first
  | exact po_none
  | (apply po_some; wtm_at "fo e")
  | fail "no")
local macro_rules | `(tactic| wtm_at "fo slice") => `(tactic| first
  | ((with_reducible show PE _ (.Subscript _ (.Slice _ _ none _) _) _); refine' pe_slice (sl_listK (by assumption) (by exact rfl)) ?ka ?kb ?kc; (case ka => wtm_at "fo e"); (case kb => wtm_at "fo part"); (case kc => wtm_at "fo part"))
  | ((with_reducible show PE _ (.Subscript _ (.Slice none none (some _) _) _) _); refine' pe_stepK (by assumption) (by exact rfl) ?ka ?kb; (case ka => wtm_at "fo e"); (case kb => wtm_at "fo e"))
  | fail "no")
local macro_rules | `(tactic| wtm_at "fo cmp") => `(tactic| first
  | ((with_reducible show PE _ (.Compare _ [.Lt] _ _) _); refine' pe_cmpR op_lt ?ka ?kb (nomark _); (case ka => wtm_at "fo e"); (case kb => wtm_at "fo e"))
  | ((with_reducible show PE _ (.Compare _ [.LtE] _ _) _); refine' pe_cmpR op_le ?ka ?kb (nomark _); (case ka => wtm_at "fo e"); (case kb => wtm_at "fo e"))
  | ((with_reducible show PE _ (.Compare _ [.Gt] _ _) _); refine' pe_cmpR op_gt ?ka ?kb (nomark _); (case ka => wtm_at "fo e"); (case kb => wtm_at "fo e"))
  | ((with_reducible show PE _ (.Compare _ [.GtE] _ _) _); refine' pe_cmpR op_ge ?ka ?kb (nomark _); (case ka => wtm_at "fo e"); (case kb => wtm_at "fo e"))
  | ((with_reducible show PE _ (.Compare _ [.Eq] _ _) _); refine' pe_cmpR (op_eqK (by assumption) (by exact rfl) (Room.units (by assumption))) ?ka ?kb (nomark _); (case ka => wtm_at "fo e"); (case kb => wtm_at "fo e"))
  | ((with_reducible show PE _ (.Compare _ [.NotEq] _ _) _); refine' pe_cmpR (op_neK (by assumption) (by exact rfl) (Room.units (by assumption))) ?ka ?kb (nomark _); (case ka => wtm_at "fo e"); (case kb => wtm_at "fo e"))
  | fail "no")
local macro_rules | `(tactic| wtm_at "fo tcmp") => `(tactic| first
  | ((with_reducible show PT _ (.Compare _ [.Lt] _ _) _); refine' pt_cmpR op_lt ?ka ?kb (nomark _); (case ka => wtm_at "fo e"); (case kb => wtm_at "fo e"))
  | ((with_reducible show PT _ (.Compare _ [.LtE] _ _) _); refine' pt_cmpR op_le ?ka ?kb (nomark _); (case ka => wtm_at "fo e"); (case kb => wtm_at "fo e"))
  | ((with_reducible show PT _ (.Compare _ [.Gt] _ _) _); refine' pt_cmpR op_gt ?ka ?kb (nomark _); (case ka => wtm_at "fo e"); (case kb => wtm_at "fo e"))
  | ((with_reducible show PT _ (.Compare _ [.GtE] _ _) _); refine' pt_cmpR op_ge ?ka ?kb (nomark _); (case ka => wtm_at "fo e"); (case kb => wtm_at "fo e"))
  | ((with_reducible show PT _ (.Compare _ [.Eq] _ _) _); refine' pt_cmpR (op_eqK (by assumption) (by exact rfl) (Room.units (by assumption))) ?ka ?kb (nomark _); (case ka => wtm_at "fo e"); (case kb => wtm_at "fo e"))
  | ((with_reducible show PT _ (.Compare _ [.NotEq] _ _) _); refine' pt_cmpR (op_neK (by assumption) (by exact rfl) (Room.units (by assumption))) ?ka ?kb (nomark _); (case ka => wtm_at "fo e"); (case kb => wtm_at "fo e"))
  | ((with_reducible show PT _ (.Compare _ [.In] _ _) _); refine' pt_cmpR (op_inK (by assumption) (by exact rfl)) ?ka ?kb rfl; (case ka => wtm_at "fo e"); (case kb => wtm_at "fo e"))
  | ((with_reducible show PT _ (.Compare _ [.NotIn] _ _) _); refine' pt_cmpR (op_notInK (by assumption) (by exact rfl)) ?ka ?kb rfl; (case ka => wtm_at "fo e"); (case kb => wtm_at "fo e"))
  | fail "no")
local macro_rules | `(tactic| wtm_at "fo w") => `(tactic| first
  | ((with_reducible show PW _ (.BoolOp .And [_] _) _); apply pw_and1; wtm_at "fo t")
  | ((with_reducible show PW _ (.BoolOp .And _ _) _); apply pw_and; (· wtm_at "fo t"); (· wtm_at "fo w"))
  | ((with_reducible show PW _ (.BoolOp .Or [_] _) _); apply pw_or1; wtm_at "fo t")
  | ((with_reducible show PW _ (.BoolOp .Or _ _) _); apply pw_or; (· wtm_at "fo t"); (· wtm_at "fo w"))
  | fail "no")
local macro_rules | `(tactic| wtm_at "fo meth") => `(tactic| first
  | ((with_reducible show PE _ (.Call (.Attribute _ (Str.ofString "append") _) _ _ _) _); refine' pe_bm PySem.F.plainAttrs_list PySem.F.slot_list_append PySem.F.type_list_append mt_append ?ka ?kb; (case ka => wtm_at "fo e"); (case kb => wtm_at "fo a"))
  | ((with_reducible show PE _ (.Call (.Attribute _ (Str.ofString "pop") _) [_] _ _) _); refine' pe_bm PySem.F.plainAttrs_list PySem.F.slot_list_pop PySem.F.type_list_pop mt_popAt ?ka ?kb; (case ka => wtm_at "fo e"); (case kb => wtm_at "fo a"))
  | ((with_reducible show PE _ (.Call (.Attribute _ (Str.ofString "pop") _) [] _ _) _); refine' pe_bm0 PySem.F.plainAttrs_list PySem.F.slot_list_pop PySem.F.type_list_pop mt_pop ?ka; (case ka => wtm_at "fo e"))
  | fail "no")
local macro_rules | `(tactic| wtm_at "fo k") => `(tactic| first
  | exact pk_nil
  | (refine' pk_cons ?k1 ?k2; (case k1 => wtm_at "fo e"); (case k2 => wtm_at "fo k"))
  | fail "no")
local macro_rules | `(tactic| wtm_at "fo kcall") => `(tactic| first
  | (refine' pe_kcal (by assumption) (by assumption) (by decide) (by rfl) ?ka; (case ka => wtm_at "fo k"))
  | fail "no")
local macro_rules | `(tactic| wtm_at "fo call") => `(tactic| first
  | ((with_reducible show PE _ (.Call (.Name (Str.ofString "int") _) _ _ _) _); refine' pe_callTy call_intB (by rfl) (by assumption) (by decide +kernel) ?ka; (case ka => wtm_at "fo a"))
  | ((with_reducible show PE _ (.Call (.Name (Str.ofString "len") _) _ _ _) _); refine' pe_callB (call_lenK (by assumption) (by exact rfl)) (by rfl) (by assumption) PySem.boot_len ?ka; (case ka => wtm_at "fo a"))
  | ((with_reducible show PE _ (.Call (.Name (Str.ofString "list") _) [.Call (.Name (Str.ofString "range") _) [_, _] _ _] _ _) _); refine' pe_listRg rfl (by rfl) (by assumption) (prg_2 (by rfl) (by assumption) ?ka ?kb); (case ka => wtm_at "fo e"); (case kb => wtm_at "fo e"))
  | ((with_reducible show PE _ (.Call (.Name (Str.ofString "list") _) _ _ _) _); refine' pe_callTy (call_listK (by assumption) (by exact rfl)) (by rfl) (by assumption) (by decide +kernel) ?ka; (case ka => wtm_at "fo a"))
  | ((with_reducible show PE _ (.Call (.Name (Str.ofString "min") _) [_, _] _ _) _); refine' pe_callB (call_min2 rfl) (by rfl) (by assumption) (by decide +kernel) ?ka; (case ka => wtm_at "fo a"))
  | ((with_reducible show PE _ (.Call (.Name (Str.ofString "sorted") _) [_] _ _) _); refine' pe_callB (cr_sortedK (by assumption) (by exact rfl)) (by rfl) (by assumption) (by decide +kernel) ?ka; (case ka => wtm_at "fo a"))
  | ((with_reducible show PE _ (.Call (.Name (Str.ofString "repr") _) [_] _ _) _); refine' pe_callB (call_reprK (by assumption) (by exact rfl) (by assumption) (Room.units (by assumption))) (by rfl) (by assumption) (by decide +kernel) ?ka; (case ka => wtm_at "fo a"))
  | (refine' pe_cal (by assumption) (by assumption) (by decide) (by rfl) ?ka; (case ka => wtm_at "fo a"))
  | fail "no")
local macro_rules | `(tactic| wtm_at "fo setlc") => `(tactic| first
  | (refine' ps_setLcO (i := 0) (by assumption) (by exact rfl) (by exact rfl) (by wtm_at "fo own") (by decide +kernel) rfl rfl rfl (sw_true rfl rfl rfl (by decide +kernel)) ?ki ?kg ?kt ?ke; (case ki => wtm_at "fo i"); (case kg => (intro _ _ _ _ _; wtm_at "fo g")); (case kt => (intro _ _ _ _ _; wtm_at "fo ts")); (case ke => (intro _ _ _ _ _; wtm_at "fo e")))
  | (refine' ps_setLcO (i := 1) (by assumption) (by exact rfl) (by exact rfl) (by wtm_at "fo own") (by decide +kernel) rfl rfl rfl (sw_true rfl rfl rfl (by decide +kernel)) ?ki ?kg ?kt ?ke; (case ki => wtm_at "fo i"); (case kg => (intro _ _ _ _ _; wtm_at "fo g")); (case kt => (intro _ _ _ _ _; wtm_at "fo ts")); (case ke => (intro _ _ _ _ _; wtm_at "fo e")))
  | (refine' ps_setLcO (i := 2) (by assumption) (by exact rfl) (by exact rfl) (by wtm_at "fo own") (by decide +kernel) rfl rfl rfl (sw_true rfl rfl rfl (by decide +kernel)) ?ki ?kg ?kt ?ke; (case ki => wtm_at "fo i"); (case kg => (intro _ _ _ _ _; wtm_at "fo g")); (case kt => (intro _ _ _ _ _; wtm_at "fo ts")); (case ke => (intro _ _ _ _ _; wtm_at "fo e")))
  | (refine' ps_setLcO (i := 3) (by assumption) (by exact rfl) (by exact rfl) (by wtm_at "fo own") (by decide +kernel) rfl rfl rfl (sw_true rfl rfl rfl (by decide +kernel)) ?ki ?kg ?kt ?ke; (case ki => wtm_at "fo i"); (case kg => (intro _ _ _ _ _; wtm_at "fo g")); (case kt => (intro _ _ _ _ _; wtm_at "fo ts")); (case ke => (intro _ _ _ _ _; wtm_at "fo e")))
  | (refine' ps_setLcO (i := 4) (by assumption) (by exact rfl) (by exact rfl) (by wtm_at "fo own") (by decide +kernel) rfl rfl rfl (sw_true rfl rfl rfl (by decide +kernel)) ?ki ?kg ?kt ?ke; (case ki => wtm_at "fo i"); (case kg => (intro _ _ _ _ _; wtm_at "fo g")); (case kt => (intro _ _ _ _ _; wtm_at "fo ts")); (case ke => (intro _ _ _ _ _; wtm_at "fo e")))
  | (refine' ps_setLcO (i := 5) (by assumption) (by exact rfl) (by exact rfl) (by wtm_at "fo own") (by decide +kernel) rfl rfl rfl (sw_true rfl rfl rfl (by decide +kernel)) ?ki ?kg ?kt ?ke; (case ki => wtm_at "fo i"); (case kg => (intro _ _ _ _ _; wtm_at "fo g")); (case kt => (intro _ _ _ _ _; wtm_at "fo ts")); (case ke => (intro _ _ _ _ _; wtm_at "fo e")))
  | (refine' ps_setLcO (i := 6) (by assumption) (by exact rfl) (by exact rfl) (by wtm_at "fo own") (by decide +kernel) rfl rfl rfl (sw_true rfl rfl rfl (by decide +kernel)) ?ki ?kg ?kt ?ke; (case ki => wtm_at "fo i"); (case kg => (intro _ _ _ _ _; wtm_at "fo g")); (case kt => (intro _ _ _ _ _; wtm_at "fo ts")); (case ke => (intro _ _ _ _ _; wtm_at "fo e")))
  | (refine' ps_setLcO (i := 7) (by assumption) (by exact rfl) (by exact rfl) (by wtm_at "fo own") (by decide +kernel) rfl rfl rfl (sw_true rfl rfl rfl (by decide +kernel)) ?ki ?kg ?kt ?ke; (case ki => wtm_at "fo i"); (case kg => (intro _ _ _ _ _; wtm_at "fo g")); (case kt => (intro _ _ _ _ _; wtm_at "fo ts")); (case ke => (intro _ _ _ _ _; wtm_at "fo e")))
  | (refine' ps_setLcO (i := 8) (by assumption) (by exact rfl) (by exact rfl) (by wtm_at "fo own") (by decide +kernel) rfl rfl rfl (sw_true rfl rfl rfl (by decide +kernel)) ?ki ?kg ?kt ?ke; (case ki => wtm_at "fo i"); (case kg => (intro _ _ _ _ _; wtm_at "fo g")); (case kt => (intro _ _ _ _ _; wtm_at "fo ts")); (case ke => (intro _ _ _ _ _; wtm_at "fo e")))
  | (refine' ps_setLcO (i := 9) (by assumption) (by exact rfl) (by exact rfl) (by wtm_at "fo own") (by decide +kernel) rfl rfl rfl (sw_true rfl rfl rfl (by decide +kernel)) ?ki ?kg ?kt ?ke; (case ki => wtm_at "fo i"); (case kg => (intro _ _ _ _ _; wtm_at "fo g")); (case kt => (intro _ _ _ _ _; wtm_at "fo ts")); (case ke => (intro _ _ _ _ _; wtm_at "fo e")))
  | (refine' ps_setLcO (i := 10) (by assumption) (by exact rfl) (by exact rfl) (by wtm_at "fo own") (by decide +kernel) rfl rfl rfl (sw_true rfl rfl rfl (by decide +kernel)) ?ki ?kg ?kt ?ke; (case ki => wtm_at "fo i"); (case kg => (intro _ _ _ _ _; wtm_at "fo g")); (case kt => (intro _ _ _ _ _; wtm_at "fo ts")); (case ke => (intro _ _ _ _ _; wtm_at "fo e")))
  | (refine' ps_setLcO (i := 11) (by assumption) (by exact rfl) (by exact rfl) (by wtm_at "fo own") (by decide +kernel) rfl rfl rfl (sw_true rfl rfl rfl (by decide +kernel)) ?ki ?kg ?kt ?ke; (case ki => wtm_at "fo i"); (case kg => (intro _ _ _ _ _; wtm_at "fo g")); (case kt => (intro _ _ _ _ _; wtm_at "fo ts")); (case ke => (intro _ _ _ _ _; wtm_at "fo e")))
  | (refine' ps_setLcO (i := 12) (by assumption) (by exact rfl) (by exact rfl) (by wtm_at "fo own") (by decide +kernel) rfl rfl rfl (sw_true rfl rfl rfl (by decide +kernel)) ?ki ?kg ?kt ?ke; (case ki => wtm_at "fo i"); (case kg => (intro _ _ _ _ _; wtm_at "fo g")); (case kt => (intro _ _ _ _ _; wtm_at "fo ts")); (case ke => (intro _ _ _ _ _; wtm_at "fo e")))
  | (refine' ps_setLcO (i := 13) (by assumption) (by exact rfl) (by exact rfl) (by wtm_at "fo own") (by decide +kernel) rfl rfl rfl (sw_true rfl rfl rfl (by decide +kernel)) ?ki ?kg ?kt ?ke; (case ki => wtm_at "fo i"); (case kg => (intro _ _ _ _ _; wtm_at "fo g")); (case kt => (intro _ _ _ _ _; wtm_at "fo ts")); (case ke => (intro _ _ _ _ _; wtm_at "fo e")))
  | (refine' ps_setLcO (i := 14) (by assumption) (by exact rfl) (by exact rfl) (by wtm_at "fo own") (by decide +kernel) rfl rfl rfl (sw_true rfl rfl rfl (by decide +kernel)) ?ki ?kg ?kt ?ke; (case ki => wtm_at "fo i"); (case kg => (intro _ _ _ _ _; wtm_at "fo g")); (case kt => (intro _ _ _ _ _; wtm_at "fo ts")); (case ke => (intro _ _ _ _ _; wtm_at "fo e")))
  | (refine' ps_setLcO (i := 15) (by assumption) (by exact rfl) (by exact rfl) (by wtm_at "fo own") (by decide +kernel) rfl rfl rfl (sw_true rfl rfl rfl (by decide +kernel)) ?ki ?kg ?kt ?ke; (case ki => wtm_at "fo i"); (case kg => (intro _ _ _ _ _; wtm_at "fo g")); (case kt => (intro _ _ _ _ _; wtm_at "fo ts")); (case ke => (intro _ _ _ _ _; wtm_at "fo e")))
  | fail "no")
local macro_rules | `(tactic| wtm_at "fo set") => `(tactic| first
  | (refine' ps_set (i := 0) (by assumption) rfl (by first | exact Or.inl rfl | exact Or.inr rfl) ?ka; (case ka => wtm_at "fo e"))
  | (refine' ps_set (i := 1) (by assumption) rfl (by first | exact Or.inl rfl | exact Or.inr rfl) ?ka; (case ka => wtm_at "fo e"))
  | (refine' ps_set (i := 2) (by assumption) rfl (by first | exact Or.inl rfl | exact Or.inr rfl) ?ka; (case ka => wtm_at "fo e"))
  | (refine' ps_set (i := 3) (by assumption) rfl (by first | exact Or.inl rfl | exact Or.inr rfl) ?ka; (case ka => wtm_at "fo e"))
  | (refine' ps_set (i := 4) (by assumption) rfl (by first | exact Or.inl rfl | exact Or.inr rfl) ?ka; (case ka => wtm_at "fo e"))
  | (refine' ps_set (i := 5) (by assumption) rfl (by first | exact Or.inl rfl | exact Or.inr rfl) ?ka; (case ka => wtm_at "fo e"))
  | (refine' ps_set (i := 6) (by assumption) rfl (by first | exact Or.inl rfl | exact Or.inr rfl) ?ka; (case ka => wtm_at "fo e"))
  | (refine' ps_set (i := 7) (by assumption) rfl (by first | exact Or.inl rfl | exact Or.inr rfl) ?ka; (case ka => wtm_at "fo e"))
  | (refine' ps_set (i := 8) (by assumption) rfl (by first | exact Or.inl rfl | exact Or.inr rfl) ?ka; (case ka => wtm_at "fo e"))
  | (refine' ps_set (i := 9) (by assumption) rfl (by first | exact Or.inl rfl | exact Or.inr rfl) ?ka; (case ka => wtm_at "fo e"))
  | (refine' ps_set (i := 10) (by assumption) rfl (by first | exact Or.inl rfl | exact Or.inr rfl) ?ka; (case ka => wtm_at "fo e"))
  | (refine' ps_set (i := 11) (by assumption) rfl (by first | exact Or.inl rfl | exact Or.inr rfl) ?ka; (case ka => wtm_at "fo e"))
  | (refine' ps_set (i := 12) (by assumption) rfl (by first | exact Or.inl rfl | exact Or.inr rfl) ?ka; (case ka => wtm_at "fo e"))
  | (refine' ps_set (i := 13) (by assumption) rfl (by first | exact Or.inl rfl | exact Or.inr rfl) ?ka; (case ka => wtm_at "fo e"))
  | fail "no")
local macro_rules | `(tactic| wtm_at "fo t") => `(tactic| first
  | ((with_reducible show PT _ (.BoolOp _ _ _) _); apply PW.pt; wtm_at "fo w")
  | ((with_reducible show PT _ (.UnaryOp .Not _ _) _); apply pt_not; wtm_at "fo t")
  | ((with_reducible show PT _ (.Compare _ _ _ _) _); wtm_at "fo tcmp")
  | (refine' pt_truthK (by assumption) (by exact rfl) ?ka (by intro _; rfl); (case ka => wtm_at "fo e"))
  | fail "no")
local macro_rules | `(tactic| wtm_at "fo gn") => `(tactic| first
  | exact pg_name (i := 0) (by assumption) rfl (by first | exact Or.inl rfl | exact Or.inr rfl)
  | exact pg_name (i := 1) (by assumption) rfl (by first | exact Or.inl rfl | exact Or.inr rfl)
  | exact pg_name (i := 2) (by assumption) rfl (by first | exact Or.inl rfl | exact Or.inr rfl)
  | exact pg_name (i := 3) (by assumption) rfl (by first | exact Or.inl rfl | exact Or.inr rfl)
  | exact pg_name (i := 4) (by assumption) rfl (by first | exact Or.inl rfl | exact Or.inr rfl)
  | exact pg_name (i := 5) (by assumption) rfl (by first | exact Or.inl rfl | exact Or.inr rfl)
  | exact pg_name (i := 6) (by assumption) rfl (by first | exact Or.inl rfl | exact Or.inr rfl)
  | exact pg_name (i := 7) (by assumption) rfl (by first | exact Or.inl rfl | exact Or.inr rfl)
  | exact pg_name (i := 8) (by assumption) rfl (by first | exact Or.inl rfl | exact Or.inr rfl)
  | exact pg_name (i := 9) (by assumption) rfl (by first | exact Or.inl rfl | exact Or.inr rfl)
  | exact pg_name (i := 10) (by assumption) rfl (by first | exact Or.inl rfl | exact Or.inr rfl)
  | exact pg_name (i := 11) (by assumption) rfl (by first | exact Or.inl rfl | exact Or.inr rfl)
  | exact pg_name (i := 12) (by assumption) rfl (by first | exact Or.inl rfl | exact Or.inr rfl)
  | exact pg_name (i := 13) (by assumption) rfl (by first | exact Or.inl rfl | exact Or.inr rfl)
  | exact pg_name (i := 14) (by assumption) rfl (by first | exact Or.inl rfl | exact Or.inr rfl)
  | exact pg_name (i := 15) (by assumption) rfl (by first | exact Or.inl rfl | exact Or.inr rfl)
  | fail "no")
local macro_rules | `(tactic| wtm_at "fo par") => `(tactic| first
  | (refine' ps_par (i := 0) (j := 1) rfl (by assumption) rfl rfl (by decide) rfl rfl ?ka (by rfl); (case ka => wtm_at "fo a"))
  | (refine' ps_par (i := 1) (j := 2) rfl (by assumption) rfl rfl (by decide) rfl rfl ?ka (by rfl); (case ka => wtm_at "fo a"))
  | (refine' ps_par (i := 2) (j := 3) rfl (by assumption) rfl rfl (by decide) rfl rfl ?ka (by rfl); (case ka => wtm_at "fo a"))
  | (refine' ps_par (i := 3) (j := 4) rfl (by assumption) rfl rfl (by decide) rfl rfl ?ka (by rfl); (case ka => wtm_at "fo a"))
  | (refine' ps_par (i := 4) (j := 5) rfl (by assumption) rfl rfl (by decide) rfl rfl ?ka (by rfl); (case ka => wtm_at "fo a"))
  | (refine' ps_par (i := 5) (j := 6) rfl (by assumption) rfl rfl (by decide) rfl rfl ?ka (by rfl); (case ka => wtm_at "fo a"))
  | (refine' ps_par (i := 6) (j := 7) rfl (by assumption) rfl rfl (by decide) rfl rfl ?ka (by rfl); (case ka => wtm_at "fo a"))
  | (refine' ps_par (i := 7) (j := 8) rfl (by assumption) rfl rfl (by decide) rfl rfl ?ka (by rfl); (case ka => wtm_at "fo a"))
  | (refine' ps_par (i := 8) (j := 9) rfl (by assumption) rfl rfl (by decide) rfl rfl ?ka (by rfl); (case ka => wtm_at "fo a"))
  | (refine' ps_par (i := 9) (j := 10) rfl (by assumption) rfl rfl (by decide) rfl rfl ?ka (by rfl); (case ka => wtm_at "fo a"))
  | (refine' ps_par (i := 10) (j := 11) rfl (by assumption) rfl rfl (by decide) rfl rfl ?ka (by rfl); (case ka => wtm_at "fo a"))
  | (refine' ps_par (i := 11) (j := 12) rfl (by assumption) rfl rfl (by decide) rfl rfl ?ka (by rfl); (case ka => wtm_at "fo a"))
  | (refine' ps_par (i := 12) (j := 13) rfl (by assumption) rfl rfl (by decide) rfl rfl ?ka (by rfl); (case ka => wtm_at "fo a"))
  | (refine' ps_par (i := 13) (j := 14) rfl (by assumption) rfl rfl (by decide) rfl rfl ?ka (by rfl); (case ka => wtm_at "fo a"))
  | (refine' ps_par (i := 14) (j := 15) rfl (by assumption) rfl rfl (by decide) rfl rfl ?ka (by rfl); (case ka => wtm_at "fo a"))
  | fail "no")
local macro_rules | `(tactic| wtm_at "fo g") => `(tactic| first
  | ((with_reducible show PG _ (.Name _ _) _); wtm_at "fo gn")
  | ((with_reducible show PG _ (.Tuple _ _ _) _); apply PG_or; (· refine' pg_tup2 (by assumption) (by exact rfl) rfl ?kg; (case kg => wtm_at "fo gs")); (· refine' pg_unl2 (by assumption) (by exact rfl) rfl ?kg; (case kg => wtm_at "fo gs")))
  | fail "no")
local macro_rules | `(tactic| wtm_at "fo gs") => `(tactic| first
  | exact pgs_nil
  | (refine' pgs_cons ?k1 ?k2; (case k1 => wtm_at "fo g"); (case k2 => wtm_at "fo gs"))
  | fail "no")
local macro_rules | `(tactic| wtm_at "fo i") => `(tactic| first
  | ((with_reducible show PI _ _ (.Call (.Name (Str.ofString "range") _) [_] _ _) _); refine' pi_range1 (by rfl) (by assumption) ?ka; (case ka => wtm_at "fo a"))
  | ((with_reducible show PI _ _ (.Call (.Name (Str.ofString "range") _) [_, _] _ _) _); refine' pi_range2 (by rfl) (by assumption) ?ka; (case ka => wtm_at "fo a"))
  | ((with_reducible show PI _ _ (.Call (.Name (Str.ofString "enumerate") _) [_] _ _) _); refine' pi_enum (by rfl) (by assumption) ?ka; (case ka => wtm_at "fo a"))
  | (refine' pi_listK (by assumption) (by exact rfl) ?ka; (case ka => wtm_at "fo e"))
  | fail "no")
local macro_rules | `(tactic| wtm_at "fo s") => `(tactic| first
  | ((with_reducible show PS _ (.While _ _ _ _) _); refine' ps_while PassesOwn.never ?kt ?kb; (case kt => wtm_at "fo t"); (case kb => wtm_at "fo ss"))
  | ((with_reducible show PS _ (.For _ _ _ _ _) _); refine' ps_for PassesOwn.never rfl ?ki ?kg ?kb; (case ki => wtm_at "fo i"); (case kg => wtm_at "fo g"); (case kb => wtm_at "fo ss"))
  | ((with_reducible show PS _ (.Assign [.Name _ _] (.ListComp _ [_] _ _) _) _); wtm_at "fo setlc")
  | ((with_reducible show PS _ (.Assign [.Name _ _] _ _) _); wtm_at "fo set")
  | ((with_reducible show PS _ (.Assign [.Tuple [.Name _ _, .Name _ _] _ _] (.Tuple [_, _] _ _) _) _); wtm_at "fo par")
  | ((with_reducible show PS _ (.Assign [.Subscript _ _ _] _ _) _); refine' ps_asg ?ka (pg_sub ?kb ?kc set_list); (case ka => wtm_at "fo e"); (case kb => wtm_at "fo e"); (case kc => wtm_at "fo e"))
  | ((with_reducible show PS _ (.Return (some _) _) _); apply ps_ret; wtm_at "fo e")
  | ((with_reducible show PS _ (.Expr _ _) _); refine' ps_expr ?ka; (case ka => wtm_at "fo e"))
  | ((with_reducible show PS _ (.If _ _ _ _) _); apply ps_if; (· wtm_at "fo t"); (· wtm_at "fo ss"); (· wtm_at "fo ss"))
  | fail "no")
local macro_rules | `(tactic| wtm_at "fo ss") => `(tactic| first
  | with_reducible exact pss_nil
  | ((with_reducible show PSs _ [_] _); apply pss_one; wtm_at "fo s")
  | (apply pss_cons; (· wtm_at "fo s"); (· wtm_at "fo ss"))
  | fail "no")
local macro_rules | `(tactic| wtm_at "fo hp") => `(tactic| first
  | assumption
  | exact upd_same
  | (refine (upd_ne ?ne).trans ?hp; (case ne => wtm_at "fo ne"); (case hp => wtm_at "fo hp"))
  | fail "no")
local macro_rules | `(tactic| wtm_at "fo ne") => `(tactic| first
  | assumption
  | (apply Ne.symm; assumption)
  | exact ne_of_none (by assumption) (by assumption)
  | exact Ne.symm (ne_of_none (by assumption) (by assumption))
  | fail "no")
local macro_rules | `(tactic| wtm_at "fo sz") => `(tactic| first
  | exact (Nat.le_of_ble_eq_true rfl : _ ≤ sizeLine)
  | exact (Nat.le_of_ble_eq_true rfl : _ < sizeLine)
  | exact Nat.lt_of_le_of_lt (m := 100000) (by first | assumption | omega | (simp; omega)) (by decide)
  | exact Nat.le_trans (m := 100000) (by first | assumption | omega | (simp; omega)) (by decide)
  | fail "no")
local macro_rules | `(tactic| wtm_at "fo r1") => `(tactic| first
  | refine ⟨(Nat.le_of_ble_eq_true rfl : _ ≤ sizeLine), fun p np => ?_⟩
  | (refine' ⟨_, _, rfl, Or.inl (SqL.of ?h), ?_⟩; (case h => wtm_at "fo hp"))
  | refine ⟨_, rfl, ?_⟩
  | refine ⟨_, _, rfl, rfl, ?_⟩
  | refine ⟨_, _, rfl, ⟨by omega, by omega, by omega, by omega⟩, ?_⟩
  | refine ⟨_, rfl, by omega, by omega, ?_⟩
  | refine Or.inl ⟨_, rfl, ?_⟩
  | refine Or.inl ⟨rfl, ?_⟩
  | refine Or.inl ⟨_, _, rfl, rfl, ?_⟩
  | (refine' Or.inl ⟨_, _, _, _, rfl, rfl, SqL.of ?h, ?a, ?_⟩; (case h => wtm_at "fo hp"); (case a => rfl))
  | (refine' ⟨_, _, _, _, rfl, rfl, ?h, ?a, ?_⟩; (case h => wtm_at "fo hp"); (case a => rfl))
  | (refine' ⟨.inl ⟨rfl, _, SqL.of ?h⟩, ?_⟩; (case h => wtm_at "fo hp"))
  | (refine' ⟨_, _, _, rfl, rfl, ?h, ?z, ?_⟩; (case h => wtm_at "fo hp"); (case z => wtm_at "fo sz"))
  | (refine' ⟨_, rfl, ⟨_, SqL.of ?h⟩, ?_⟩; (case h => wtm_at "fo hp"))
  | fail "no")
local macro_rules | `(tactic| wtm_at "fo side") => `(tactic| ((try dsimp only [CMul, CDiv]); first
  | assumption
  | decide
  | omega
  | exact ⟨by decide, by decide⟩
  | exact ⟨by omega, by omega⟩
  | decide +kernel
  | fail "no"))
local macro_rules | `(tactic| wtm_at "fo r2") => `(tactic| first
  | wtm_at "fo r1"
  | refine And.intro (by wtm_at "fo side") ?_
  | fail "no")
local macro_rules | `(tactic| wtm_at "fo r") => `(tactic| repeat wtm_at "fo r2")
local macro_rules | `(tactic| wtm_at "fo v") => `(tactic| first
  | ((with_reducible show PE _ (.Name (Str.ofString "int") _) _); exact pe_bltn (v := .ty "int") (by rfl) (by assumption) (by decide +kernel) rfl)
  | ((with_reducible show PE _ (.Name (Str.ofString "list") _) _); exact pe_bltn (v := .ty "list") (by rfl) (by assumption) (by decide +kernel) rfl)
  | ((with_reducible show PE _ (.Name (Str.ofString "MOST_PLACES") _) _); exact pe_glob (v := .int 12) (by rfl) (by assumption) ⟨_, rfl⟩)
  | fail "no")
local macro_rules | `(tactic| wtm_at "fo e") => `(tactic| first
  | ((with_reducible show PE _ (.BoolOp .And [_] _) _); apply pe_one; wtm_at "fo e")
  | ((with_reducible show PE _ (.BoolOp .And _ _) _); apply pe_and; (· wtm_at "fo e"); (· wtm_at "fo e"))
  | ((with_reducible show PE _ (.Compare _ [.IsNot] [.Constant (.bool true) _ _] _) _); refine' pe_cmpR op_notT ?ka ?kb (nomark _); (case ka => wtm_at "fo e"); (case kb => wtm_at "fo e"))
  | ((with_reducible show PE _ (.Compare _ [.LtE, .LtE] _ _) _); refine' pe_chain op_le op_le ?ka ?kb ?kc; (case ka => wtm_at "fo e"); (case kb => wtm_at "fo e"); (case kc => wtm_at "fo e"))
  | ((with_reducible show PE _ (.Call (.Name (Str.ofString "isinstance") _) _ _ _) _); refine' pe_callB (call_isiK' (by assumption) (by exact rfl)) (by rfl) (by assumption) (by decide +kernel) ?ka; (case ka => wtm_at "fo a"))
  | ((with_reducible show PE _ (.Call (.Attribute _ (Str.ofString "bit_length") _) [] [] _) _); refine' pe_bits ?ka; (case ka => wtm_at "fo e"))
  | fail "no")
local macro_rules | `(tactic| wtm_at "fo t") => `(tactic| first
  | ((with_reducible show PT _ (.Compare _ [.IsNot] [.Constant (.bool true) _ _] _) _); refine' pt_cmpR op_notT ?ka ?kb (nomark _); (case ka => wtm_at "fo e"); (case kb => wtm_at "fo e"))
  | ((with_reducible show PT _ (.Compare _ [.Lt, .Lt, .LtE] _ _) _); refine' pt_chain3 op_lt op_lt op_le ?ka ?kb ?kc ?kd; (case ka => wtm_at "fo e"); (case kb => wtm_at "fo e"); (case kc => wtm_at "fo e"); (case kd => wtm_at "fo e"))
  | fail "no")
local macro_rules | `(tactic| wtm_at "fo s") => `(tactic| first
  | ((with_reducible show PS _ (.Raise _ _ _) _); exact ps_never)
  | ((with_reducible show PS _ (.Continue _) _); exact ps_continue)
  | ((with_reducible show PS _ (.AugAssign (.Subscript _ _ _) .BitOr _ _) _); refine' ps_augS ?ka ?kb get_list ?kc ip_or set_list; (case ka => wtm_at "fo e"); (case kb => wtm_at "fo e"); (case kc => wtm_at "fo e"))
  | ((with_reducible show PS _ (.Assign [.Tuple _ _ _] (.Name _ _) _) _); refine' ps_asg ?ka ?kb; (case ka => wtm_at "fo e"); (case kb => wtm_at "fo g"))
  | fail "no")
theorem take_apart {es : List Edge} (h : es.Pairwise Apart) {i : Nat} (hi : i < es.length) : ∀ e ∈ es.take i, Apart e es[i] := by
  intro e he
  obtain ⟨j, hj⟩ := List.getElem?_of_mem he
  rw [List.getElem?_take] at hj
  split at hj
  · rename_i hji
    have hjl : j < es.length := by omega
    rw [List.getElem?_eq_getElem hjl] at hj
    cases hj
    exact List.pairwise_iff_getElem.mp h j i hjl hi hji
  · cases hj
theorem at_nb {t : List Nat} {p u : Nat} (h : t[p]? = some u) : atI (t.map fun (v : Nat) => V.int v) (p : Int) = some (.int u) :=
  at_of (j := p) rfl (by rw [List.getElem?_map, h]; rfl)
theorem get_nb {t : List Nat} {p u : Nat} (h : t[p]? = some u) : (t.map fun (v : Nat) => V.int v)[p]? = some (.int u) := by
  rw [List.getElem?_map, h]
  rfl
theorem get_nb2 {t : List Nat} {p q u : Nat} {x : V} (hq : q ≠ p) (h : t[p]? = some u) : ((t.map fun (v : Nat) => V.int v).set q x)[p]? = some (.int u) := by
  rw [List.getElem?_set_ne hq, get_nb h]
theorem at_pw {n p : Nat} (h : p ≤ n) : atI ((List.range (n + 1)).map fun (k : Nat) => V.int ((2 ^ k : Nat) : Int)) (p : Int) = some (.int ((2 ^ p : Nat) : Int)) :=
  at_of (j := p) rfl (by rw [List.getElem?_map, List.getElem?_range (by omega)]; rfl)
theorem ix_n {n j : Nat} (h : j < n) : ixN n (j : Int) = some j := by
  unfold ixN
  rw [if_pos (Int.natCast_nonneg j), if_pos (by omega)]
  rfl
theorem set_addB {t : List Nat} {a b u w : Nat} (hu : t[a]? = some u) (hw : t[b]? = some w) (hne : a ≠ b) :
    (((t.map fun (v : Nat) => V.int v).set a (.int (Builtin.bitOr u (2 ^ b : Nat)))).set b (.int (Builtin.bitOr w (2 ^ a : Nat)))) = (addB t ((a : Int), (b : Int))).map fun (v : Nat) => V.int v := by
  rw [bOr, bOr]
  have ha := (List.getElem?_eq_some_iff.mp hu).1
  have hb := (List.getElem?_eq_some_iff.mp hw).1
  apply List.ext_getElem?
  intro i
  unfold addB
  rw [List.getElem?_map, List.getElem?_modify, List.getElem?_modify, List.getElem?_set, List.getElem?_set, List.getElem?_map]
  simp only [List.length_set, List.length_map, Int.toNat_natCast]
  by_cases h1 : b = i
  · subst h1
    simp [hb, hne, (List.getElem?_eq_some_iff.mp hw).2]
  · by_cases h2 : a = i
    · subst h2
      simp [ha, h1, (List.getElem?_eq_some_iff.mp hu).2]
    · simp [h1, h2]
variable {P : Program} {w : World} {K : PySem.W.Frag} {mg : Str → Option Value} {base : Heap}
/-! ### read_net, where all is right -/
def nLst (t : List Nat) : HO := .lst (t.map fun (v : Nat) => V.int v)
@[irreducible] def spRead : Sp := fun vs H Q _ => ∃ (q : Addr) (n : Nat) (es : List Edge), vs = [.int n, .ref q] ∧ 1 ≤ n ∧ n ≤ 12 ∧ Pairs H q es ∧ Simp n es ∧ es.length ≤ 200 ∧
  ∀ r H', Same H H' → H r = none → H' r = some (nLst (nearB n es)) → Q (.ref r) H'
theorem call_read {q : Addr} {n : Nat} {es : List Edge} {H : Hp} {Q : VK} {E : XK} (h1 : 1 ≤ n) (h2 : n ≤ 12) (hq : Pairs H q es) (hS : Simp n es) (hl : es.length ≤ 200)
    (fin : ∀ r H', Same H H' → H r = none → H' r = some (nLst (nearB n es)) → Q (.ref r) H') : spRead [.int n, .ref q] H Q E := by
  unfold spRead
  exact ⟨q, n, es, rfl, h1, h2, hq, hS, hl, fin⟩
set_option maxHeartbeats 4000000 in
theorem ok_read {f : Addr} {fd : FuncData} (F : Fun K "read_net" "read_net" s_read_net f fd) (mi : mg "isinstance" = none) (mt : mg "int" = none) (ml : mg "list" = none) (mr : mg "range" = none) (me : mg "enumerate" = none) (mn : mg "len" = none)
    {tk : Tok} (mP : mg "MOST_PLACES" = some (.int 12 tk)) (C : Cal P w K mg base "is_place" 1 ["place", "places"] spIsPlace) :
    FnOk P w K mg base CX0 2 f fd ["places", "lines"] spRead := by
  refine F.ok sc_read_net (fun vs H Q E h => ?_) (fun cdv A outer s H vs Q E hr h => ?_)
  · unfold spRead at h
    obtain ⟨q, n, es, rfl, _⟩ := h
    rfl
  · have nd := sc_read_net.nd
    have hS := sc_read_net
    have hKM : KMark K := ⟨⟩
    refine' mk_body ?body ?rd
    case body =>
      show PSs _ [_, _, _, _, _, _] _
      wtm_at "fo ss"
    case rd =>
     unfold spRead at h
     obtain ⟨q, n, es, rfl, h1, h2, hq, hSi, hl, fin⟩ := h
     wtm_at "fo r"
     refine call_isplace ⟨_, rfl, ?_⟩
     refine ifF (by rw [decide_eq_true (by omega)]; rfl) ?_
     obtain ⟨rs, hD, hrl, hat⟩ := hq
     wtm_at "fo r"
     refine ⟨.ref q, .ty "list", _, _, true, rfl, .ty "list", .base (.lst hD), kit_ty (by decide +kernel), ?_⟩
     wtm_at "fo r"
     refine fun D nD => ?_
     have hN : (((n : Int) + 1)).toNat = n + 1 := by omega
     refine lc_range (fun i H1 => i ≤ n + 1 ∧ H1 = upd H D (.lst ((List.range i).map fun (k : Nat) => V.int ((2 ^ k : Nat) : Int)))) ⟨Nat.zero_le _, rfl⟩ ?_ ?_
     · rintro i H1 hi ⟨hi2, rfl⟩
       rw [hN] at hi
       refine ⟨rfl, ?_⟩
       wtm_at "fo r"
       have hlen : ((List.range i).map fun (k : Nat) => V.int ((2 ^ k : Nat) : Int)).length = i := by simp
       refine ⟨_, upd_same, by rw [hlen]; exact Nat.lt_of_le_of_lt (m := 20) (by omega) (by decide), by omega, ?_⟩
       rw [upd_upd, List.range_succ, List.map_append]
       have ev : V.int (1 * 2 ^ (0 + (i : Int)).toNat) = V.int ((2 ^ i : Nat) : Int) := by
         rw [show (0 + (i : Int)).toNat = i by omega, Int.one_mul, Int.natCast_pow]
         rfl
       show upd H D (HO.lst (_ ++ [V.int (1 * 2 ^ (0 + (i : Int)).toNat)])) = _
       rw [ev]
       rfl
     · rintro H1 ⟨_, rfl⟩
       rw [hN]
       wtm_at "fo r"
       rename_i p np
       have sm1 : Same H (upd H D (.lst ((List.range (n + 1)).map fun (k : Nat) => V.int ((2 ^ k : Nat) : Int)))) := same_upd (Same.refl _) nD
       have hD1 : (upd H D (.lst ((List.range (n + 1)).map fun (k : Nat) => V.int ((2 ^ k : Nat) : Int)))) D = some (.lst ((List.range (n + 1)).map fun (k : Nat) => V.int ((2 ^ k : Nat) : Int))) := upd_same
       generalize upd H D (.lst ((List.range (n + 1)).map fun (k : Nat) => V.int ((2 ^ k : Nat) : Int))) = H1 at *
       have sm2 : Same H (upd H1 p (.lst [.int 0])) := same_upd sm1 (sm1.free np)
       have hp2 : (upd H1 p (.lst [.int 0])) p = some (.lst [.int 0]) := upd_same
       have hD2 : (upd H1 p (.lst [.int 0])) D = some (.lst ((List.range (n + 1)).map fun (k : Nat) => V.int ((2 ^ k : Nat) : Int))) := (upd_ne (ne_of_none hD1 np)).trans hD1
       generalize upd H1 p (.lst [.int 0]) = H2 at *
       refine ⟨D, _, rfl, SqL.of hD2, fun c nc => ?_⟩
       rw [cut_1]
       have sm3 : Same H2 (upd H2 c (.lst (((List.range (n + 1)).map fun (k : Nat) => V.int ((2 ^ k : Nat) : Int)).drop 1))) := same_upd (Same.refl _) nc
       have hc3 : (upd H2 c (.lst (((List.range (n + 1)).map fun (k : Nat) => V.int ((2 ^ k : Nat) : Int)).drop 1))) c = some (.lst (((List.range (n + 1)).map fun (k : Nat) => V.int ((2 ^ k : Nat) : Int)).drop 1)) := upd_same
       generalize upd H2 c (.lst (((List.range (n + 1)).map fun (k : Nat) => V.int ((2 ^ k : Nat) : Int)).drop 1)) = H3 at *
       refine Or.inr ⟨p, c, _, _, rfl, rfl, sm3 _ _ hp2, hc3, ?_, fun r nr => ?_⟩
       · rw [List.length_drop, List.length_map, List.length_range]
         exact Nat.le_trans (m := 20) (by simp; omega) (by decide)
       have e0 : [V.int 0] ++ ((List.range (n + 1)).map fun (k : Nat) => V.int ((2 ^ k : Nat) : Int)).drop 1 = (nearB n []).map fun (v : Nat) => V.int v := by
         show _ = (nb0 n).map _
         unfold nb0
         rw [List.range_succ_eq_map, List.map_cons, List.drop_succ_cons, List.drop_zero, List.map_map, List.map_cons, List.map_map]
         rfl
       rw [e0]
       have sm03 : Same H H3 := sm2.trans sm3
       have sm4 : Same H (upd H3 r (.lst ((nearB n []).map fun (v : Nat) => V.int v))) := same_upd sm03 (sm03.free nr)
       have hD4 : (upd H3 r (.lst ((nearB n []).map fun (v : Nat) => V.int v))) D = some (.lst ((List.range (n + 1)).map fun (k : Nat) => V.int ((2 ^ k : Nat) : Int))) := (upd_ne (ne_of_none (sm3 _ _ hD2) nr)).trans (sm3 _ _ hD2)
       have hr4 : (upd H3 r (.lst ((nearB n []).map fun (v : Nat) => V.int v))) r = some (nLst (nearB n [])) := upd_same
       have nr0 : H r = none := sm03.free nr
       have hDr0 : D ≠ r := ne_of_none (sm3 _ _ hD2) nr
       generalize upd H3 r (.lst ((nearB n []).map fun (v : Nat) => V.int v)) = H4 at *
       refine ⟨_, rfl, q, rs.map V.ref, rfl, SqL.of (sm4 _ _ hD), ?_⟩
       refine for_enum (K := K) (xs := rs.map V.ref) (fun i σ H5 => ∃ y5 y6 y7 y8, σ = [some (.int n), some (.ref q), some (.ref D), none, some (.ref r), y5, y6, y7, y8] ∧ Same H H5 ∧
         H5 D = some (.lst ((List.range (n + 1)).map fun (k : Nat) => V.int ((2 ^ k : Nat) : Int))) ∧ H5 r = some (nLst (nearB n (es.take i)))) ?_ ?_ ?_ ?_
       · exact ⟨none, none, none, none, rfl, sm4, hD4, hr4⟩
       · rintro i σ H5 _ ⟨y5, y6, y7, y8, rfl, sm5, hD5, hr5⟩
         exact SqL.of (sm5 _ _ hD)
       · rintro i x T σ H5 hx ⟨y5, y6, y7, y8, rfl, sm5, hD5, hr5⟩ nT
         obtain ⟨ri, hri, rfl⟩ := ref_at hx
         have hi : i < es.length := by rw [← hrl]; exact (List.getElem?_eq_some_iff.mp hri).1
         have hei : es[i]? = some es[i] := List.getElem?_eq_getElem hi
         have hti := hat i ri _ hri hei
         have hrg := hSi.rng _ (List.getElem_mem hi)
         have hap : ∀ e ∈ es.take i, Apart e es[i] := take_apart hSi.ap hi
         have htk : es.take (i + 1) = es.take i ++ [es[i]] := by rw [List.take_add_one, hei]; rfl
         have hpos : ∀ e ∈ es.take i, 1 ≤ e.1 ∧ 1 ≤ e.2 ∧ e.1 ≠ e.2 := fun e he => by
           have := hSi.rng e (List.mem_of_mem_take he)
           omega
         generalize hee : es[i] = e at *
         obtain ⟨a, b⟩ := e
         simp only at hti hrg
         obtain ⟨a, rfl⟩ : ∃ k : Nat, a = (k : Int) := ⟨a.toNat, by omega⟩
         obtain ⟨b, rfl⟩ : ∃ k : Nat, b = (k : Int) := ⟨b.toNat, by omega⟩
         have sm6 : Same H (upd H5 T (.tup [.int (i : Nat), .ref ri])) := same_upd sm5 (sm5.free nT)
         have hD6 : (upd H5 T (.tup [.int (i : Nat), .ref ri])) D = _ := (upd_ne (ne_of_none hD5 nT)).trans hD5
         have hnr6 : (upd H5 T (.tup [.int (i : Nat), .ref ri])) r = _ := (upd_ne (ne_of_none hr5 nT)).trans hr5
         refine Or.inl ⟨T, [.int (i : Nat), .ref ri], rfl, SqT.of upd_same, rfl, .int (i : Nat), [.ref ri], rfl, .ref ri, [], rfl, rfl, ?_⟩
         generalize upd H5 T (.tup [.int (i : Nat), .ref ri]) = H6 at *
         have hti6 := sm6 _ _ hti
         wtm_at "fo r"
         refine ⟨.ref ri, .ty "list", _, _, true, rfl, .ty "list", .base (.lst hti6), kit_ty (by decide +kernel), ?_⟩
         refine ⟨true, rfl, ifT rfl ?_⟩
         refine ⟨_, rfl, ri, _, rfl, Or.inl (SqL.of hti6), Or.inl ⟨rfl, _, rfl, ifT (by rfl) ?_⟩⟩
         refine ⟨_, rfl, Or.inr ⟨ri, [.int a, .int b], rfl, SqL.of hti6, rfl, .int a, [.int b], rfl, .int b, [], rfl, rfl, ?_⟩⟩
         refine ⟨_, rfl, .int a, .ty "int", _, _, true, rfl, .ty "int", .base (.int a), kit_ty (by decide +kernel), true, rfl, ifT rfl ?_⟩
         refine ⟨_, rfl, .int b, .ty "int", _, _, true, rfl, .ty "int", .base (.int b), kit_ty (by decide +kernel), true, rfl, ifT rfl ?_⟩
         refine ⟨_, rfl, _, rfl, _, _, rfl, rfl, _, rfl, ?_⟩
         refine ite2 (fun hc => ?_) (fun hc => ?_)
         · refine ⟨_, rfl, Or.inr ⟨ri, [.int a, .int b], rfl, SqL.of hti6, rfl, .int a, [.int b], rfl, .int b, [], rfl, rfl, ?_⟩⟩
           have hba := of_decide_eq_true hc
           have hfr : ∀ e ∈ es.take i, Apart e ((b : Nat), (a : Nat)) := fun e he => ⟨fun h => (hap e he).2 (by rw [h]), fun h => (hap e he).1 (by rw [h])⟩
           have hfr2 : ∀ e ∈ es.take i, Apart e ((a : Nat), (b : Nat)) := fun e he => ⟨fun h => (hfr e he).2 (by rw [h]), fun h => (hfr e he).1 (by rw [h])⟩
           obtain ⟨u, hu, hu0⟩ := fresh_bit (n := n) hpos (a := b) (b := a) (by omega) (by omega) (by omega) hfr
           obtain ⟨u2, hu2, _⟩ := fresh_bit (n := n) hpos (a := a) (b := b) (by omega) (by omega) (by omega) hfr2
           refine ⟨_, rfl, rfl, _, rfl, ifT rfl ?_⟩
           refine ⟨_, rfl, _, _, rfl, rfl, _, rfl, ifT (decide_eq_true (by omega)) ?_⟩
           refine ⟨_, rfl, _, _, rfl, rfl, _, rfl, ifT (decide_eq_true (by omega)) ?_⟩
           refine ⟨_, rfl, _, _, rfl, rfl, _, rfl, ifT (decide_eq_true (by omega)) ?_⟩
           refine ⟨_, rfl, _, rfl, Or.inl ⟨r, _, (b : Nat), _, rfl, rfl, SqL.of hnr6, at_nb hu, ?_⟩⟩
           refine ⟨_, rfl, _, rfl, Or.inl ⟨D, _, (a : Nat), _, rfl, rfl, SqL.of hD6, at_pw (by omega), ?_⟩⟩
           refine ⟨_, _, rfl, rfl, _, rfl, ifT (by rw [bAnd, hu0]; rfl) ?_⟩
           refine ⟨_, rfl, _, rfl, r, _, _, b, _, rfl, rfl, hnr6, by omega, by omega, get_nb hu, ?_⟩
           refine ⟨_, rfl, _, rfl, Or.inl ⟨D, _, (a : Nat), _, rfl, rfl, SqL.of hD6, at_pw (by omega), ?_⟩⟩
           refine ⟨_, _, rfl, rfl, r, _, _, b, rfl, rfl, hnr6, ix_n (by rw [List.length_map]; exact (List.getElem?_eq_some_iff.mp hu).1), ?_⟩
           have hDr : D ≠ r := hDr0
           have hr7 : (upd H6 r (.lst (((nearB n (es.take i)).map fun (v : Nat) => V.int v).set b (.int (Builtin.bitOr u (2 ^ a : Nat)))))) r = some (.lst (((nearB n (es.take i)).map fun (v : Nat) => V.int v).set b (.int (Builtin.bitOr u (2 ^ a : Nat))))) := upd_same
           have hD7 : (upd H6 r (.lst (((nearB n (es.take i)).map fun (v : Nat) => V.int v).set b (.int (Builtin.bitOr u (2 ^ a : Nat)))))) D = some (.lst ((List.range (n + 1)).map fun (k : Nat) => V.int ((2 ^ k : Nat) : Int))) := (upd_ne hDr).trans hD6
           refine ⟨_, rfl, _, rfl, r, _, _, a, _, rfl, rfl, hr7, by omega, by omega, get_nb2 (by omega) hu2, ?_⟩
           refine ⟨_, rfl, _, rfl, Or.inl ⟨D, _, (b : Nat), _, rfl, rfl, SqL.of hD7, at_pw (by omega), ?_⟩⟩
           refine ⟨_, _, rfl, rfl, r, _, _, a, rfl, rfl, hr7, ix_n (by rw [List.length_set, List.length_map]; exact (List.getElem?_eq_some_iff.mp hu2).1), ?_⟩
           refine ⟨_, _, _, _, rfl, same_upd (same_upd sm6 nr0) nr0, ?_, ?_⟩
           · rw [upd_ne hDr]
             exact hD7
           · rw [upd_same, set_addB hu hu2 (by omega), htk]
             unfold nearB nLst
             rw [List.foldl_append]
             rw [addB_swap _ (by show ((b : Int)).toNat ≠ ((a : Int)).toNat; omega)]; rfl

         · skip
           have hba : ¬ ((b : Int) < a) := fun h => hc (decide_eq_true h)
           have hfr : ∀ e ∈ es.take i, Apart e ((a : Nat), (b : Nat)) := hap
           have hfr2 : ∀ e ∈ es.take i, Apart e ((b : Nat), (a : Nat)) := fun e he => ⟨fun h => (hfr e he).2 (by rw [h]), fun h => (hfr e he).1 (by rw [h])⟩
           obtain ⟨u, hu, hu0⟩ := fresh_bit (n := n) hpos (a := a) (b := b) (by omega) (by omega) (by omega) hfr
           obtain ⟨u2, hu2, _⟩ := fresh_bit (n := n) hpos (a := b) (b := a) (by omega) (by omega) (by omega) hfr2
           refine ⟨_, rfl, rfl, _, rfl, ifT rfl ?_⟩
           refine ⟨_, rfl, _, _, rfl, rfl, _, rfl, ifT (decide_eq_true (by omega)) ?_⟩
           refine ⟨_, rfl, _, _, rfl, rfl, _, rfl, ifT (decide_eq_true (by omega)) ?_⟩
           refine ⟨_, rfl, _, _, rfl, rfl, _, rfl, ifT (decide_eq_true (by omega)) ?_⟩
           refine ⟨_, rfl, _, rfl, Or.inl ⟨r, _, (a : Nat), _, rfl, rfl, SqL.of hnr6, at_nb hu, ?_⟩⟩
           refine ⟨_, rfl, _, rfl, Or.inl ⟨D, _, (b : Nat), _, rfl, rfl, SqL.of hD6, at_pw (by omega), ?_⟩⟩
           refine ⟨_, _, rfl, rfl, _, rfl, ifT (by rw [bAnd, hu0]; rfl) ?_⟩
           refine ⟨_, rfl, _, rfl, r, _, _, a, _, rfl, rfl, hnr6, by omega, by omega, get_nb hu, ?_⟩
           refine ⟨_, rfl, _, rfl, Or.inl ⟨D, _, (b : Nat), _, rfl, rfl, SqL.of hD6, at_pw (by omega), ?_⟩⟩
           refine ⟨_, _, rfl, rfl, r, _, _, a, rfl, rfl, hnr6, ix_n (by rw [List.length_map]; exact (List.getElem?_eq_some_iff.mp hu).1), ?_⟩
           have hDr : D ≠ r := hDr0
           have hr7 : (upd H6 r (.lst (((nearB n (es.take i)).map fun (v : Nat) => V.int v).set a (.int (Builtin.bitOr u (2 ^ b : Nat)))))) r = some (.lst (((nearB n (es.take i)).map fun (v : Nat) => V.int v).set a (.int (Builtin.bitOr u (2 ^ b : Nat))))) := upd_same
           have hD7 : (upd H6 r (.lst (((nearB n (es.take i)).map fun (v : Nat) => V.int v).set a (.int (Builtin.bitOr u (2 ^ b : Nat)))))) D = some (.lst ((List.range (n + 1)).map fun (k : Nat) => V.int ((2 ^ k : Nat) : Int))) := (upd_ne hDr).trans hD6
           refine ⟨_, rfl, _, rfl, r, _, _, b, _, rfl, rfl, hr7, by omega, by omega, get_nb2 (by omega) hu2, ?_⟩
           refine ⟨_, rfl, _, rfl, Or.inl ⟨D, _, (a : Nat), _, rfl, rfl, SqL.of hD7, at_pw (by omega), ?_⟩⟩
           refine ⟨_, _, rfl, rfl, r, _, _, b, rfl, rfl, hr7, ix_n (by rw [List.length_set, List.length_map]; exact (List.getElem?_eq_some_iff.mp hu2).1), ?_⟩
           refine ⟨_, _, _, _, rfl, same_upd (same_upd sm6 nr0) nr0, ?_, ?_⟩
           · rw [upd_ne hDr]
             exact hD7
           · rw [upd_same, set_addB hu hu2 (by omega), htk]
             unfold nearB nLst
             rw [List.foldl_append]
             rfl

       · rintro σ H5 ⟨y5, y6, y7, y8, rfl, sm5, hD5, hr5⟩
         refine ⟨_, rfl, ?_⟩
         rw [List.length_map, hrl, List.take_length] at hr5
         exact fin r H5 sm5 nr0 hr5

end Fo

/-! piece D13 -/
namespace Fo
open PySem PySem.Spec PyProof.Rows L2
local macro_rules | `(tactic| wtm_at "fo a") => `(tactic| first
  | exact pa_nil
  | (refine' pa_cons ?k1 ?k2; (case k1 => wtm_at "fo e"); (case k2 => wtm_at "fo a"))
  | fail "no")
local macro_rules | `(tactic| wtm_at "fo v") => `(tactic| first
  | exact pv 0
  | exact pv 1
  | exact pv 2
  | exact pv 3
  | exact pv 4
  | exact pv 5
  | exact pv 6
  | exact pv 7
  | exact pv 8
  | exact pv 9
  | exact pv 10
  | exact pv 11
  | exact pv 12
  | exact pv 13
  | exact pv 14
  | exact pv 15
  | fail "no")
local macro_rules | `(tactic| wtm_at "fo e") => `(tactic| first
  | with_reducible exact pe_int
  | with_reducible exact pe_bl
  | with_reducible exact pe_non
  | with_reducible exact pe_str
  | ((with_reducible show PE _ (.Name _ _) _); wtm_at "fo v")
  | ((with_reducible show PE _ (.BinOp _ .Add _ _) _); apply pe_op opAddB <;> wtm_at "fo e")
  | ((with_reducible show PE _ (.BinOp _ .Sub _ _) _); apply pe_op op_sub <;> wtm_at "fo e")
  | ((with_reducible show PE _ (.BinOp _ .Mult _ _) _); apply pe_op op_mul <;> wtm_at "fo e")
  | ((with_reducible show PE _ (.BinOp _ .Mod _ _) _); apply pe_op op_mod <;> wtm_at "fo e")
  | ((with_reducible show PE _ (.BinOp _ .FloorDiv _ _) _); apply pe_op op_fdiv <;> wtm_at "fo e")
  | ((with_reducible show PE _ (.BinOp _ .Pow _ _) _); apply pe_op op_powW <;> wtm_at "fo e")
  | ((with_reducible show PE _ (.BinOp _ .LShift _ _) _); apply pe_op op_shl <;> wtm_at "fo e")
  | ((with_reducible show PE _ (.BinOp _ .RShift _ _) _); apply pe_op op_shr <;> wtm_at "fo e")
  | ((with_reducible show PE _ (.BinOp _ .BitAnd _ _) _); apply pe_op op_and <;> wtm_at "fo e")
  | ((with_reducible show PE _ (.List _ _) _); apply pe_lst; wtm_at "fo a")
  | ((with_reducible show PE _ (.Tuple _ _ _) _); apply pe_tup; wtm_at "fo a")
  | ((with_reducible show PE _ (.ListComp _ [_] _ _) _); wtm_at "fo lc")
  | ((with_reducible show PE _ (.IfExp _ _ _ _) _); apply pe_ifExp; (· wtm_at "fo t"); (· wtm_at "fo e"); (· wtm_at "fo e"))
  | ((with_reducible show PE _ (.UnaryOp .USub _ _) _); apply pe_un un_neg; wtm_at "fo e")
  | ((with_reducible show PE _ (.Call (.Name _ _) [] (_ :: _) _) _); wtm_at "fo kcall")
  | ((with_reducible show PE _ (.Call (.Name _ _) _ _ _) _); wtm_at "fo call")
  | ((with_reducible show PE _ (.Call (.Attribute _ _ _) _ _ _) _); wtm_at "fo meth")
  | ((with_reducible show PE _ (.Compare _ _ _ _) _); wtm_at "fo cmp")
  | ((with_reducible show PE _ (.Subscript _ (.Slice _ _ _ _) _) _); wtm_at "fo slice")
  | ((with_reducible show PE _ (.Subscript _ _ _) _); refine' pe_ix (ix_seqK (by assumption) (by exact rfl)) ?ka ?kb (fun _ _ => rfl); (case ka => wtm_at "fo e"); (case kb => wtm_at "fo e"))
  | fail "no")
local macro_rules | `(tactic| wtm_at "fo own") => `(tactic| first
  | ((show _ = [0]); kernel_rfl!)
  | ((show _ = [1]); kernel_rfl!)
  | ((show _ = [2]); kernel_rfl!)
  | ((show _ = [3]); kernel_rfl!)
  | ((show _ = [4]); kernel_rfl!)
  | ((show _ = [5]); kernel_rfl!)
  | ((show _ = [6]); kernel_rfl!)
  | ((show _ = [7]); kernel_rfl!)
  | ((show _ = [8]); kernel_rfl!)
  | ((show _ = [9]); kernel_rfl!)
  | ((show _ = [10]); kernel_rfl!)
  | ((show _ = [11]); kernel_rfl!)
  | ((show _ = [12]); kernel_rfl!)
  | ((show _ = [13]); kernel_rfl!)
  | ((show _ = [14]); kernel_rfl!)
  | ((show _ = [15]); kernel_rfl!)
  | ((show _ = [0, 1]); kernel_rfl!)
  | ((show _ = [1, 2]); kernel_rfl!)
  | ((show _ = [2, 3]); kernel_rfl!)
  | ((show _ = [3, 4]); kernel_rfl!)
  | ((show _ = [4, 5]); kernel_rfl!)
  | ((show _ = [5, 6]); kernel_rfl!)
  | ((show _ = [6, 7]); kernel_rfl!)
  | ((show _ = [7, 8]); kernel_rfl!)
  | ((show _ = [8, 9]); kernel_rfl!)
  | ((show _ = [9, 10]); kernel_rfl!)
  | ((show _ = [10, 11]); kernel_rfl!)
  | ((show _ = [11, 12]); kernel_rfl!)
  | ((show _ = [12, 13]); kernel_rfl!)
  | ((show _ = [13, 14]); kernel_rfl!)
  | ((show _ = [14, 15]); kernel_rfl!)
  | fail "no")
local macro_rules | `(tactic| wtm_at "fo ts") => `(tactic| first
  | exact pts_nil
  | (apply pts_one; wtm_at "fo t")
  | fail "no")
local macro_rules | `(tactic| wtm_at "fo lc") => `(tactic| first
  | (refine' pe_lcO (by assumption) (by exact rfl) (by exact rfl) (by wtm_at "fo own") (by decide +kernel) rfl ?ki ?kg ?kt ?ke; (case ki => wtm_at "fo i"); (case kg => (intro _ _ _ _ _; wtm_at "fo g")); (case kt => (intro _ _ _ _ _; wtm_at "fo ts")); (case ke => (intro _ _ _ _ _; wtm_at "fo e")))
  | fail "no")
local macro_rules | `(tactic| wtm_at "fo part") => `(tactic| first
  | exact po_none
  | (apply po_some; wtm_at "fo e")
  | fail "no")
local macro_rules | `(tactic| wtm_at "fo slice") => `(tactic| first
  | ((with_reducible show PE _ (.Subscript _ (.Slice _ _ none _) _) _); refine' pe_slice (sl_listK (by assumption) (by exact rfl)) ?ka ?kb ?kc; (case ka => wtm_at "fo e"); (case kb => wtm_at "fo part"); (case kc => wtm_at "fo part"))
  | ((with_reducible show PE _ (.Subscript _ (.Slice none none (some _) _) _) _); refine' pe_stepK (by assumption) (by exact rfl) ?ka ?kb; (case ka => wtm_at "fo e"); (case kb => wtm_at "fo e"))
  | fail "no")
local macro_rules | `(tactic| wtm_at "fo cmp") => `(tactic| first
  | ((with_reducible show PE _ (.Compare _ [.Lt] _ _) _); refine' pe_cmpR op_lt ?ka ?kb (nomark _); (case ka => wtm_at "fo e"); (case kb => wtm_at "fo e"))
  | ((with_reducible show PE _ (.Compare _ [.LtE] _ _) _); refine' pe_cmpR op_le ?ka ?kb (nomark _); (case ka => wtm_at "fo e"); (case kb => wtm_at "fo e"))
  | ((with_reducible show PE _ (.Compare _ [.Gt] _ _) _); refine' pe_cmpR op_gt ?ka ?kb (nomark _); (case ka => wtm_at "fo e"); (case kb => wtm_at "fo e"))
  | ((with_reducible show PE _ (.Compare _ [.GtE] _ _) _); refine' pe_cmpR op_ge ?ka ?kb (nomark _); (case ka => wtm_at "fo e"); (case kb => wtm_at "fo e"))
  | ((with_reducible show PE _ (.Compare _ [.Eq] _ _) _); refine' pe_cmpR (op_eqK (by assumption) (by exact rfl) (Room.units (by assumption))) ?ka ?kb (nomark _); (case ka => wtm_at "fo e"); (case kb => wtm_at "fo e"))
  | ((with_reducible show PE _ (.Compare _ [.NotEq] _ _) _); refine' pe_cmpR (op_neK (by assumption) (by exact rfl) (Room.units (by assumption))) ?ka ?kb (nomark _); (case ka => wtm_at "fo e"); (case kb => wtm_at "fo e"))
  | fail "no")
local macro_rules | `(tactic| wtm_at "fo tcmp") => `(tactic| first
  | ((with_reducible show PT _ (.Compare _ [.Lt] _ _) _); refine' pt_cmpR op_lt ?ka ?kb (nomark _); (case ka => wtm_at "fo e"); (case kb => wtm_at "fo e"))
  | ((with_reducible show PT _ (.Compare _ [.LtE] _ _) _); refine' pt_cmpR op_le ?ka ?kb (nomark _); (case ka => wtm_at "fo e"); (case kb => wtm_at "fo e"))
  | ((with_reducible show PT _ (.Compare _ [.Gt] _ _) _); refine' pt_cmpR op_gt ?ka ?kb (nomark _); (case ka => wtm_at "fo e"); (case kb => wtm_at "fo e"))
  | ((with_reducible show PT _ (.Compare _ [.GtE] _ _) _); refine' pt_cmpR op_ge ?ka ?kb (nomark _); (case ka => wtm_at "fo e"); (case kb => wtm_at "fo e"))
  | ((with_reducible show PT _ (.Compare _ [.Eq] _ _) _); refine' pt_cmpR (op_eqK (by assumption) (by exact rfl) (Room.units (by assumption))) ?ka ?kb (nomark _); (case ka => wtm_at "fo e"); (case kb => wtm_at "fo e"))
  | ((with_reducible show PT _ (.Compare _ [.NotEq] _ _) _); refine' pt_cmpR (op_neK (by assumption) (by exact rfl) (Room.units (by assumption))) ?ka ?kb (nomark _); (case ka => wtm_at "fo e"); (case kb => wtm_at "fo e"))
  | ((with_reducible show PT _ (.Compare _ [.In] _ _) _); refine' pt_cmpR (op_inK (by assumption) (by exact rfl)) ?ka ?kb rfl; (case ka => wtm_at "fo e"); (case kb => wtm_at "fo e"))
  | ((with_reducible show PT _ (.Compare _ [.NotIn] _ _) _); refine' pt_cmpR (op_notInK (by assumption) (by exact rfl)) ?ka ?kb rfl; (case ka => wtm_at "fo e"); (case kb => wtm_at "fo e"))
  | fail "no")
local macro_rules | `(tactic| wtm_at "fo w") => `(tactic| first
  | ((with_reducible show PW _ (.BoolOp .And [_] _) _); apply pw_and1; wtm_at "fo t")
  | ((with_reducible show PW _ (.BoolOp .And _ _) _); apply pw_and; (· wtm_at "fo t"); (· wtm_at "fo w"))
  | ((with_reducible show PW _ (.BoolOp .Or [_] _) _); apply pw_or1; wtm_at "fo t")
  | ((with_reducible show PW _ (.BoolOp .Or _ _) _); apply pw_or; (· wtm_at "fo t"); (· wtm_at "fo w"))
  | fail "no")
local macro_rules | `(tactic| wtm_at "fo meth") => `(tactic| first
  | ((with_reducible show PE _ (.Call (.Attribute _ (Str.ofString "append") _) _ _ _) _); refine' pe_bm PySem.F.plainAttrs_list PySem.F.slot_list_append PySem.F.type_list_append mt_append ?ka ?kb; (case ka => wtm_at "fo e"); (case kb => wtm_at "fo a"))
  | ((with_reducible show PE _ (.Call (.Attribute _ (Str.ofString "pop") _) [_] _ _) _); refine' pe_bm PySem.F.plainAttrs_list PySem.F.slot_list_pop PySem.F.type_list_pop mt_popAt ?ka ?kb; (case ka => wtm_at "fo e"); (case kb => wtm_at "fo a"))
  | ((with_reducible show PE _ (.Call (.Attribute _ (Str.ofString "pop") _) [] _ _) _); refine' pe_bm0 PySem.F.plainAttrs_list PySem.F.slot_list_pop PySem.F.type_list_pop mt_pop ?ka; (case ka => wtm_at "fo e"))
  | fail "no")
local macro_rules | `(tactic| wtm_at "fo k") => `(tactic| first
  | exact pk_nil
  | (refine' pk_cons ?k1 ?k2; (case k1 => wtm_at "fo e"); (case k2 => wtm_at "fo k"))
  | fail "no")
local macro_rules | `(tactic| wtm_at "fo kcall") => `(tactic| first
  | (refine' pe_kcal (by assumption) (by assumption) (by decide) (by rfl) ?ka; (case ka => wtm_at "fo k"))
  | fail "no")
local macro_rules | `(tactic| wtm_at "fo call") => `(tactic| first
  | ((with_reducible show PE _ (.Call (.Name (Str.ofString "int") _) _ _ _) _); refine' pe_callTy call_intB (by rfl) (by assumption) (by decide +kernel) ?ka; (case ka => wtm_at "fo a"))
  | ((with_reducible show PE _ (.Call (.Name (Str.ofString "len") _) _ _ _) _); refine' pe_callB (call_lenK (by assumption) (by exact rfl)) (by rfl) (by assumption) PySem.boot_len ?ka; (case ka => wtm_at "fo a"))
  | ((with_reducible show PE _ (.Call (.Name (Str.ofString "list") _) [.Call (.Name (Str.ofString "range") _) [_, _] _ _] _ _) _); refine' pe_listRg rfl (by rfl) (by assumption) (prg_2 (by rfl) (by assumption) ?ka ?kb); (case ka => wtm_at "fo e"); (case kb => wtm_at "fo e"))
  | ((with_reducible show PE _ (.Call (.Name (Str.ofString "list") _) _ _ _) _); refine' pe_callTy (call_listK (by assumption) (by exact rfl)) (by rfl) (by assumption) (by decide +kernel) ?ka; (case ka => wtm_at "fo a"))
  | ((with_reducible show PE _ (.Call (.Name (Str.ofString "min") _) [_, _] _ _) _); refine' pe_callB (call_min2 rfl) (by rfl) (by assumption) (by decide +kernel) ?ka; (case ka => wtm_at "fo a"))
  | ((with_reducible show PE _ (.Call (.Name (Str.ofString "sorted") _) [_] _ _) _); refine' pe_callB (cr_sortedK (by assumption) (by exact rfl)) (by rfl) (by assumption) (by decide +kernel) ?ka; (case ka => wtm_at "fo a"))
  | ((with_reducible show PE _ (.Call (.Name (Str.ofString "repr") _) [_] _ _) _); refine' pe_callB (call_reprK (by assumption) (by exact rfl) (by assumption) (Room.units (by assumption))) (by rfl) (by assumption) (by decide +kernel) ?ka; (case ka => wtm_at "fo a"))
  | (refine' pe_cal (by assumption) (by assumption) (by decide) (by rfl) ?ka; (case ka => wtm_at "fo a"))
  | fail "no")
local macro_rules | `(tactic| wtm_at "fo setlc") => `(tactic| first
  | (refine' ps_setLcO (i := 0) (by assumption) (by exact rfl) (by exact rfl) (by wtm_at "fo own") (by decide +kernel) rfl rfl rfl (sw_true rfl rfl rfl (by decide +kernel)) ?ki ?kg ?kt ?ke; (case ki => wtm_at "fo i"); (case kg => (intro _ _ _ _ _; wtm_at "fo g")); (case kt => (intro _ _ _ _ _; wtm_at "fo ts")); (case ke => (intro _ _ _ _ _; wtm_at "fo e")))
  | (refine' ps_setLcO (i := 1) (by assumption) (by exact rfl) (by exact rfl) (by wtm_at "fo own") (by decide +kernel) rfl rfl rfl (sw_true rfl rfl rfl (by decide +kernel)) ?ki ?kg ?kt ?ke; (case ki => wtm_at "fo i"); (case kg => (intro _ _ _ _ _; wtm_at "fo g")); (case kt => (intro _ _ _ _ _; wtm_at "fo ts")); (case ke => (intro _ _ _ _ _; wtm_at "fo e")))
  | (refine' ps_setLcO (i := 2) (by assumption) (by exact rfl) (by exact rfl) (by wtm_at "fo own") (by decide +kernel) rfl rfl rfl (sw_true rfl rfl rfl (by decide +kernel)) ?ki ?kg ?kt ?ke; (case ki => wtm_at "fo i"); (case kg => (intro _ _ _ _ _; wtm_at "fo g")); (case kt => (intro _ _ _ _ _; wtm_at "fo ts")); (case ke => (intro _ _ _ _ _; wtm_at "fo e")))
  | (refine' ps_setLcO (i := 3) (by assumption) (by exact rfl) (by exact rfl) (by wtm_at "fo own") (by decide +kernel) rfl rfl rfl (sw_true rfl rfl rfl (by decide +kernel)) ?ki ?kg ?kt ?ke; (case ki => wtm_at "fo i"); (case kg => (intro _ _ _ _ _; wtm_at "fo g")); (case kt => (intro _ _ _ _ _; wtm_at "fo ts")); (case ke => (intro _ _ _ _ _; wtm_at "fo e")))
  | (refine' ps_setLcO (i := 4) (by assumption) (by exact rfl) (by exact rfl) (by wtm_at "fo own") (by decide +kernel) rfl rfl rfl (sw_true rfl rfl rfl (by decide +kernel)) ?ki ?kg ?kt ?ke; (case ki => wtm_at "fo i"); (case kg => (intro _ _ _ _ _; wtm_at "fo g")); (case kt => (intro _ _ _ _ _; wtm_at "fo ts")); (case ke => (intro _ _ _ _ _; wtm_at "fo e")))
  | (refine' ps_setLcO (i := 5) (by assumption) (by exact rfl) (by exact rfl) (by wtm_at "fo own") (by decide +kernel) rfl rfl rfl (sw_true rfl rfl rfl (by decide +kernel)) ?ki ?kg ?kt ?ke; (case ki => wtm_at "fo i"); (case kg => (intro _ _ _ _ _; wtm_at "fo g")); (case kt => (intro _ _ _ _ _; wtm_at "fo ts")); (case ke => (intro _ _ _ _ _; wtm_at "fo e")))
  | (refine' ps_setLcO (i := 6) (by assumption) (by exact rfl) (by exact rfl) (by wtm_at "fo own") (by decide +kernel) rfl rfl rfl (sw_true rfl rfl rfl (by decide +kernel)) ?ki ?kg ?kt ?ke; (case ki => wtm_at "fo i"); (case kg => (intro _ _ _ _ _; wtm_at "fo g")); (case kt => (intro _ _ _ _ _; wtm_at "fo ts")); (case ke => (intro _ _ _ _ _; wtm_at "fo e")))
  | (refine' ps_setLcO (i := 7) (by assumption) (by exact rfl) (by exact rfl) (by wtm_at "fo own") (by decide +kernel) rfl rfl rfl (sw_true rfl rfl rfl (by decide +kernel)) ?ki ?kg ?kt ?ke; (case ki => wtm_at "fo i"); (case kg => (intro _ _ _ _ _; wtm_at "fo g")); (case kt => (intro _ _ _ _ _; wtm_at "fo ts")); (case ke => (intro _ _ _ _ _; wtm_at "fo e")))
  | (refine' ps_setLcO (i := 8) (by assumption) (by exact rfl) (by exact rfl) (by wtm_at "fo own") (by decide +kernel) rfl rfl rfl (sw_true rfl rfl rfl (by decide +kernel)) ?ki ?kg ?kt ?ke; (case ki => wtm_at "fo i"); (case kg => (intro _ _ _ _ _; wtm_at "fo g")); (case kt => (intro _ _ _ _ _; wtm_at "fo ts")); (case ke => (intro _ _ _ _ _; wtm_at "fo e")))
  | (refine' ps_setLcO (i := 9) (by assumption) (by exact rfl) (by exact rfl) (by wtm_at "fo own") (by decide +kernel) rfl rfl rfl (sw_true rfl rfl rfl (by decide +kernel)) ?ki ?kg ?kt ?ke; (case ki => wtm_at "fo i"); (case kg => (intro _ _ _ _ _; wtm_at "fo g")); (case kt => (intro _ _ _ _ _; wtm_at "fo ts")); (case ke => (intro _ _ _ _ _; wtm_at "fo e")))
  | (refine' ps_setLcO (i := 10) (by assumption) (by exact rfl) (by exact rfl) (by wtm_at "fo own") (by decide +kernel) rfl rfl rfl (sw_true rfl rfl rfl (by decide +kernel)) ?ki ?kg ?kt ?ke; (case ki => wtm_at "fo i"); (case kg => (intro _ _ _ _ _; wtm_at "fo g")); (case kt => (intro _ _ _ _ _; wtm_at "fo ts")); (case ke => (intro _ _ _ _ _; wtm_at "fo e")))
  | (refine' ps_setLcO (i := 11) (by assumption) (by exact rfl) (by exact rfl) (by wtm_at "fo own") (by decide +kernel) rfl rfl rfl (sw_true rfl rfl rfl (by decide +kernel)) ?ki ?kg ?kt ?ke; (case ki => wtm_at "fo i"); (case kg => (intro _ _ _ _ _; wtm_at "fo g")); (case kt => (intro _ _ _ _ _; wtm_at "fo ts")); (case ke => (intro _ _ _ _ _; wtm_at "fo e")))
  | (refine' ps_setLcO (i := 12) (by assumption) (by exact rfl) (by exact rfl) (by wtm_at "fo own") (by decide +kernel) rfl rfl rfl (sw_true rfl rfl rfl (by decide +kernel)) ?ki ?kg ?kt ?ke; (case ki => wtm_at "fo i"); (case kg => (intro _ _ _ _ _; wtm_at "fo g")); (case kt => (intro _ _ _ _ _; wtm_at "fo ts")); (case ke => (intro _ _ _ _ _; wtm_at "fo e")))
  | (refine' ps_setLcO (i := 13) (by assumption) (by exact rfl) (by exact rfl) (by wtm_at "fo own") (by decide +kernel) rfl rfl rfl (sw_true rfl rfl rfl (by decide +kernel)) ?ki ?kg ?kt ?ke; (case ki => wtm_at "fo i"); (case kg => (intro _ _ _ _ _; wtm_at "fo g")); (case kt => (intro _ _ _ _ _; wtm_at "fo ts")); (case ke => (intro _ _ _ _ _; wtm_at "fo e")))
  | (refine' ps_setLcO (i := 14) (by assumption) (by exact rfl) (by exact rfl) (by wtm_at "fo own") (by decide +kernel) rfl rfl rfl (sw_true rfl rfl rfl (by decide +kernel)) ?ki ?kg ?kt ?ke; (case ki => wtm_at "fo i"); (case kg => (intro _ _ _ _ _; wtm_at "fo g")); (case kt => (intro _ _ _ _ _; wtm_at "fo ts")); (case ke => (intro _ _ _ _ _; wtm_at "fo e")))
  | (refine' ps_setLcO (i := 15) (by assumption) (by exact rfl) (by exact rfl) (by wtm_at "fo own") (by decide +kernel) rfl rfl rfl (sw_true rfl rfl rfl (by decide +kernel)) ?ki ?kg ?kt ?ke; (case ki => wtm_at "fo i"); (case kg => (intro _ _ _ _ _; wtm_at "fo g")); (case kt => (intro _ _ _ _ _; wtm_at "fo ts")); (case ke => (intro _ _ _ _ _; wtm_at "fo e")))
  | fail "no")
local macro_rules | `(tactic| wtm_at "fo set") => `(tactic| first
  | (refine' ps_set (i := 0) (by assumption) rfl (by first | exact Or.inl rfl | exact Or.inr rfl) ?ka; (case ka => wtm_at "fo e"))
  | (refine' ps_set (i := 1) (by assumption) rfl (by first | exact Or.inl rfl | exact Or.inr rfl) ?ka; (case ka => wtm_at "fo e"))
  | (refine' ps_set (i := 2) (by assumption) rfl (by first | exact Or.inl rfl | exact Or.inr rfl) ?ka; (case ka => wtm_at "fo e"))
  | (refine' ps_set (i := 3) (by assumption) rfl (by first | exact Or.inl rfl | exact Or.inr rfl) ?ka; (case ka => wtm_at "fo e"))
  | (refine' ps_set (i := 4) (by assumption) rfl (by first | exact Or.inl rfl | exact Or.inr rfl) ?ka; (case ka => wtm_at "fo e"))
  | (refine' ps_set (i := 5) (by assumption) rfl (by first | exact Or.inl rfl | exact Or.inr rfl) ?ka; (case ka => wtm_at "fo e"))
  | (refine' ps_set (i := 6) (by assumption) rfl (by first | exact Or.inl rfl | exact Or.inr rfl) ?ka; (case ka => wtm_at "fo e"))
  | (refine' ps_set (i := 7) (by assumption) rfl (by first | exact Or.inl rfl | exact Or.inr rfl) ?ka; (case ka => wtm_at "fo e"))
  | (refine' ps_set (i := 8) (by assumption) rfl (by first | exact Or.inl rfl | exact Or.inr rfl) ?ka; (case ka => wtm_at "fo e"))
  | (refine' ps_set (i := 9) (by assumption) rfl (by first | exact Or.inl rfl | exact Or.inr rfl) ?ka; (case ka => wtm_at "fo e"))
  | (refine' ps_set (i := 10) (by assumption) rfl (by first | exact Or.inl rfl | exact Or.inr rfl) ?ka; (case ka => wtm_at "fo e"))
  | (refine' ps_set (i := 11) (by assumption) rfl (by first | exact Or.inl rfl | exact Or.inr rfl) ?ka; (case ka => wtm_at "fo e"))
  | (refine' ps_set (i := 12) (by assumption) rfl (by first | exact Or.inl rfl | exact Or.inr rfl) ?ka; (case ka => wtm_at "fo e"))
  | (refine' ps_set (i := 13) (by assumption) rfl (by first | exact Or.inl rfl | exact Or.inr rfl) ?ka; (case ka => wtm_at "fo e"))
  | fail "no")
local macro_rules | `(tactic| wtm_at "fo t") => `(tactic| first
  | ((with_reducible show PT _ (.BoolOp _ _ _) _); apply PW.pt; wtm_at "fo w")
  | ((with_reducible show PT _ (.UnaryOp .Not _ _) _); apply pt_not; wtm_at "fo t")
  | ((with_reducible show PT _ (.Compare _ _ _ _) _); wtm_at "fo tcmp")
  | (refine' pt_truthK (by assumption) (by exact rfl) ?ka (by intro _; rfl); (case ka => wtm_at "fo e"))
  | fail "no")
local macro_rules | `(tactic| wtm_at "fo gn") => `(tactic| first
  | exact pg_name (i := 0) (by assumption) rfl (by first | exact Or.inl rfl | exact Or.inr rfl)
  | exact pg_name (i := 1) (by assumption) rfl (by first | exact Or.inl rfl | exact Or.inr rfl)
  | exact pg_name (i := 2) (by assumption) rfl (by first | exact Or.inl rfl | exact Or.inr rfl)
  | exact pg_name (i := 3) (by assumption) rfl (by first | exact Or.inl rfl | exact Or.inr rfl)
  | exact pg_name (i := 4) (by assumption) rfl (by first | exact Or.inl rfl | exact Or.inr rfl)
  | exact pg_name (i := 5) (by assumption) rfl (by first | exact Or.inl rfl | exact Or.inr rfl)
  | exact pg_name (i := 6) (by assumption) rfl (by first | exact Or.inl rfl | exact Or.inr rfl)
  | exact pg_name (i := 7) (by assumption) rfl (by first | exact Or.inl rfl | exact Or.inr rfl)
  | exact pg_name (i := 8) (by assumption) rfl (by first | exact Or.inl rfl | exact Or.inr rfl)
  | exact pg_name (i := 9) (by assumption) rfl (by first | exact Or.inl rfl | exact Or.inr rfl)
  | exact pg_name (i := 10) (by assumption) rfl (by first | exact Or.inl rfl | exact Or.inr rfl)
  | exact pg_name (i := 11) (by assumption) rfl (by first | exact Or.inl rfl | exact Or.inr rfl)
  | exact pg_name (i := 12) (by assumption) rfl (by first | exact Or.inl rfl | exact Or.inr rfl)
  | exact pg_name (i := 13) (by assumption) rfl (by first | exact Or.inl rfl | exact Or.inr rfl)
  | exact pg_name (i := 14) (by assumption) rfl (by first | exact Or.inl rfl | exact Or.inr rfl)
  | exact pg_name (i := 15) (by assumption) rfl (by first | exact Or.inl rfl | exact Or.inr rfl)
  | fail "no")
local macro_rules | `(tactic| wtm_at "fo par") => `(tactic| first
  | (refine' ps_par (i := 0) (j := 1) rfl (by assumption) rfl rfl (by decide) rfl rfl ?ka (by rfl); (case ka => wtm_at "fo a"))
  | (refine' ps_par (i := 1) (j := 2) rfl (by assumption) rfl rfl (by decide) rfl rfl ?ka (by rfl); (case ka => wtm_at "fo a"))
  | (refine' ps_par (i := 2) (j := 3) rfl (by assumption) rfl rfl (by decide) rfl rfl ?ka (by rfl); (case ka => wtm_at "fo a"))
  | (refine' ps_par (i := 3) (j := 4) rfl (by assumption) rfl rfl (by decide) rfl rfl ?ka (by rfl); (case ka => wtm_at "fo a"))
  | (refine' ps_par (i := 4) (j := 5) rfl (by assumption) rfl rfl (by decide) rfl rfl ?ka (by rfl); (case ka => wtm_at "fo a"))
  | (refine' ps_par (i := 5) (j := 6) rfl (by assumption) rfl rfl (by decide) rfl rfl ?ka (by rfl); (case ka => wtm_at "fo a"))
  | (refine' ps_par (i := 6) (j := 7) rfl (by assumption) rfl rfl (by decide) rfl rfl ?ka (by rfl); (case ka => wtm_at "fo a"))
  | (refine' ps_par (i := 7) (j := 8) rfl (by assumption) rfl rfl (by decide) rfl rfl ?ka (by rfl); (case ka => wtm_at "fo a"))
  | (refine' ps_par (i := 8) (j := 9) rfl (by assumption) rfl rfl (by decide) rfl rfl ?ka (by rfl); (case ka => wtm_at "fo a"))
  | (refine' ps_par (i := 9) (j := 10) rfl (by assumption) rfl rfl (by decide) rfl rfl ?ka (by rfl); (case ka => wtm_at "fo a"))
  | (refine' ps_par (i := 10) (j := 11) rfl (by assumption) rfl rfl (by decide) rfl rfl ?ka (by rfl); (case ka => wtm_at "fo a"))
  | (refine' ps_par (i := 11) (j := 12) rfl (by assumption) rfl rfl (by decide) rfl rfl ?ka (by rfl); (case ka => wtm_at "fo a"))
  | (refine' ps_par (i := 12) (j := 13) rfl (by assumption) rfl rfl (by decide) rfl rfl ?ka (by rfl); (case ka => wtm_at "fo a"))
  | (refine' ps_par (i := 13) (j := 14) rfl (by assumption) rfl rfl (by decide) rfl rfl ?ka (by rfl); (case ka => wtm_at "fo a"))
  | (refine' ps_par (i := 14) (j := 15) rfl (by assumption) rfl rfl (by decide) rfl rfl ?ka (by rfl); (case ka => wtm_at "fo a"))
  | fail "no")
local macro_rules | `(tactic| wtm_at "fo g") => `(tactic| first
  | ((with_reducible show PG _ (.Name _ _) _); wtm_at "fo gn")
  | ((with_reducible show PG _ (.Tuple _ _ _) _); apply PG_or; (· refine' pg_tup2 (by assumption) (by exact rfl) rfl ?kg; (case kg => wtm_at "fo gs")); (· refine' pg_unl2 (by assumption) (by exact rfl) rfl ?kg; (case kg => wtm_at "fo gs")))
  | fail "no")
local macro_rules | `(tactic| wtm_at "fo gs") => `(tactic| first
  | exact pgs_nil
  | (refine' pgs_cons ?k1 ?k2; (case k1 => wtm_at "fo g"); (case k2 => wtm_at "fo gs"))
  | fail "no")
local macro_rules | `(tactic| wtm_at "fo i") => `(tactic| first
  | ((with_reducible show PI _ _ (.Call (.Name (Str.ofString "range") _) [_] _ _) _); refine' pi_range1 (by rfl) (by assumption) ?ka; (case ka => wtm_at "fo a"))
  | ((with_reducible show PI _ _ (.Call (.Name (Str.ofString "range") _) [_, _] _ _) _); refine' pi_range2 (by rfl) (by assumption) ?ka; (case ka => wtm_at "fo a"))
  | ((with_reducible show PI _ _ (.Call (.Name (Str.ofString "enumerate") _) [_] _ _) _); refine' pi_enum (by rfl) (by assumption) ?ka; (case ka => wtm_at "fo a"))
  | (refine' pi_listK (by assumption) (by exact rfl) ?ka; (case ka => wtm_at "fo e"))
  | fail "no")
local macro_rules | `(tactic| wtm_at "fo s") => `(tactic| first
  | ((with_reducible show PS _ (.While _ _ _ _) _); refine' ps_while PassesOwn.never ?kt ?kb; (case kt => wtm_at "fo t"); (case kb => wtm_at "fo ss"))
  | ((with_reducible show PS _ (.For _ _ _ _ _) _); refine' ps_for PassesOwn.never rfl ?ki ?kg ?kb; (case ki => wtm_at "fo i"); (case kg => wtm_at "fo g"); (case kb => wtm_at "fo ss"))
  | ((with_reducible show PS _ (.Assign [.Name _ _] (.ListComp _ [_] _ _) _) _); wtm_at "fo setlc")
  | ((with_reducible show PS _ (.Assign [.Name _ _] _ _) _); wtm_at "fo set")
  | ((with_reducible show PS _ (.Assign [.Tuple [.Name _ _, .Name _ _] _ _] (.Tuple [_, _] _ _) _) _); wtm_at "fo par")
  | ((with_reducible show PS _ (.Assign [.Subscript _ _ _] _ _) _); refine' ps_asg ?ka (pg_sub ?kb ?kc set_list); (case ka => wtm_at "fo e"); (case kb => wtm_at "fo e"); (case kc => wtm_at "fo e"))
  | ((with_reducible show PS _ (.Return (some _) _) _); apply ps_ret; wtm_at "fo e")
  | ((with_reducible show PS _ (.Expr _ _) _); refine' ps_expr ?ka; (case ka => wtm_at "fo e"))
  | ((with_reducible show PS _ (.If _ _ _ _) _); apply ps_if; (· wtm_at "fo t"); (· wtm_at "fo ss"); (· wtm_at "fo ss"))
  | fail "no")
local macro_rules | `(tactic| wtm_at "fo ss") => `(tactic| first
  | with_reducible exact pss_nil
  | ((with_reducible show PSs _ [_] _); apply pss_one; wtm_at "fo s")
  | (apply pss_cons; (· wtm_at "fo s"); (· wtm_at "fo ss"))
  | fail "no")
local macro_rules | `(tactic| wtm_at "fo hp") => `(tactic| first
  | assumption
  | exact upd_same
  | (refine (upd_ne ?ne).trans ?hp; (case ne => wtm_at "fo ne"); (case hp => wtm_at "fo hp"))
  | fail "no")
local macro_rules | `(tactic| wtm_at "fo ne") => `(tactic| first
  | assumption
  | (apply Ne.symm; assumption)
  | exact ne_of_none (by assumption) (by assumption)
  | exact Ne.symm (ne_of_none (by assumption) (by assumption))
  | fail "no")
local macro_rules | `(tactic| wtm_at "fo sz") => `(tactic| first
  | exact (Nat.le_of_ble_eq_true rfl : _ ≤ sizeLine)
  | exact (Nat.le_of_ble_eq_true rfl : _ < sizeLine)
  | exact Nat.lt_of_le_of_lt (m := 100000) (by first | assumption | omega | (simp; omega)) (by decide)
  | exact Nat.le_trans (m := 100000) (by first | assumption | omega | (simp; omega)) (by decide)
  | fail "no")
local macro_rules | `(tactic| wtm_at "fo r1") => `(tactic| first
  | refine ⟨(Nat.le_of_ble_eq_true rfl : _ ≤ sizeLine), fun p np => ?_⟩
  | (refine' ⟨_, _, rfl, Or.inl (SqL.of ?h), ?_⟩; (case h => wtm_at "fo hp"))
  | refine ⟨_, rfl, ?_⟩
  | refine ⟨_, _, rfl, rfl, ?_⟩
  | refine ⟨_, _, rfl, ⟨by omega, by omega, by omega, by omega⟩, ?_⟩
  | refine ⟨_, rfl, by omega, by omega, ?_⟩
  | refine Or.inl ⟨_, rfl, ?_⟩
  | refine Or.inl ⟨rfl, ?_⟩
  | refine Or.inl ⟨_, _, rfl, rfl, ?_⟩
  | (refine' Or.inl ⟨_, _, _, _, rfl, rfl, SqL.of ?h, ?a, ?_⟩; (case h => wtm_at "fo hp"); (case a => rfl))
  | (refine' ⟨_, _, _, _, rfl, rfl, ?h, ?a, ?_⟩; (case h => wtm_at "fo hp"); (case a => rfl))
  | (refine' ⟨.inl ⟨rfl, _, SqL.of ?h⟩, ?_⟩; (case h => wtm_at "fo hp"))
  | (refine' ⟨_, _, _, rfl, rfl, ?h, ?z, ?_⟩; (case h => wtm_at "fo hp"); (case z => wtm_at "fo sz"))
  | (refine' ⟨_, rfl, ⟨_, SqL.of ?h⟩, ?_⟩; (case h => wtm_at "fo hp"))
  | fail "no")
local macro_rules | `(tactic| wtm_at "fo side") => `(tactic| ((try dsimp only [CMul, CDiv]); first
  | assumption
  | decide
  | omega
  | exact ⟨by decide, by decide⟩
  | exact ⟨by omega, by omega⟩
  | decide +kernel
  | fail "no"))
local macro_rules | `(tactic| wtm_at "fo r2") => `(tactic| first
  | wtm_at "fo r1"
  | refine And.intro (by wtm_at "fo side") ?_
  | fail "no")
local macro_rules | `(tactic| wtm_at "fo r") => `(tactic| repeat wtm_at "fo r2")
local macro_rules | `(tactic| wtm_at "fo v") => `(tactic| first
  | ((with_reducible show PE _ (.Name (Str.ofString "int") _) _); exact pe_bltn (v := .ty "int") (by rfl) (by assumption) (by decide +kernel) rfl)
  | ((with_reducible show PE _ (.Name (Str.ofString "list") _) _); exact pe_bltn (v := .ty "list") (by rfl) (by assumption) (by decide +kernel) rfl)
  | ((with_reducible show PE _ (.Name (Str.ofString "MOST_PLACES") _) _); exact pe_glob (v := .int 12) (by rfl) (by assumption) ⟨_, rfl⟩)
  | fail "no")
local macro_rules | `(tactic| wtm_at "fo e") => `(tactic| first
  | ((with_reducible show PE _ (.BoolOp .And [_] _) _); apply pe_one; wtm_at "fo e")
  | ((with_reducible show PE _ (.BoolOp .And _ _) _); apply pe_and; (· wtm_at "fo e"); (· wtm_at "fo e"))
  | ((with_reducible show PE _ (.Compare _ [.IsNot] [.Constant (.bool true) _ _] _) _); refine' pe_cmpR op_notT ?ka ?kb (nomark _); (case ka => wtm_at "fo e"); (case kb => wtm_at "fo e"))
  | ((with_reducible show PE _ (.Compare _ [.LtE, .LtE] _ _) _); refine' pe_chain op_le op_le ?ka ?kb ?kc; (case ka => wtm_at "fo e"); (case kb => wtm_at "fo e"); (case kc => wtm_at "fo e"))
  | ((with_reducible show PE _ (.Call (.Name (Str.ofString "isinstance") _) _ _ _) _); refine' pe_callB (call_isiK' (by assumption) (by exact rfl)) (by rfl) (by assumption) (by decide +kernel) ?ka; (case ka => wtm_at "fo a"))
  | ((with_reducible show PE _ (.Call (.Attribute _ (Str.ofString "bit_length") _) [] [] _) _); refine' pe_bits ?ka; (case ka => wtm_at "fo e"))
  | fail "no")
local macro_rules | `(tactic| wtm_at "fo t") => `(tactic| first
  | ((with_reducible show PT _ (.Compare _ [.IsNot] [.Constant (.bool true) _ _] _) _); refine' pt_cmpR op_notT ?ka ?kb (nomark _); (case ka => wtm_at "fo e"); (case kb => wtm_at "fo e"))
  | ((with_reducible show PT _ (.Compare _ [.Lt, .Lt, .LtE] _ _) _); refine' pt_chain3 op_lt op_lt op_le ?ka ?kb ?kc ?kd; (case ka => wtm_at "fo e"); (case kb => wtm_at "fo e"); (case kc => wtm_at "fo e"); (case kd => wtm_at "fo e"))
  | fail "no")
local macro_rules | `(tactic| wtm_at "fo s") => `(tactic| first
  | ((with_reducible show PS _ (.Raise _ _ _) _); exact ps_never)
  | ((with_reducible show PS _ (.Continue _) _); exact ps_continue)
  | ((with_reducible show PS _ (.AugAssign (.Subscript _ _ _) .BitOr _ _) _); refine' ps_augS ?ka ?kb get_list ?kc ip_or set_list; (case ka => wtm_at "fo e"); (case kb => wtm_at "fo e"); (case kc => wtm_at "fo e"))
  | ((with_reducible show PS _ (.Assign [.Tuple _ _ _] (.Name _ _) _) _); refine' ps_asg ?ka ?kb; (case ka => wtm_at "fo e"); (case kb => wtm_at "fo g"))
  | fail "no")
section
variable {X : Cx}
theorem pe_lc2O {N ps : List Str} {sc : Scope} {elt tg iter tg1 iter1 : Expr} {ifs ifs1 : List Expr} {scope : Scope} {pos : Pos} {wi wi1 : TI} {g g1 : TG} {tt tt1 : TT} {te : TE} {vs vs1 : List Nat}
    (S : FnScope N ps sc) (hXN : X.N = N) (hXs : X.env.scope = sc)
    (hv : (ownOf N scope).map (·.2) = vs) (hv1 : (vs1.all fun i => vs.contains i) = true) (hb : blkC N sc scope (ownOf N scope) = true) (hc : X.calm = true) (hi : PI X tg iter wi)
    (hg : ∀ (s : Shared) (H : Hp) (C : Addr) (cl : List (Str × Addr)) (fp : List Addr), PG (X.blk s H scope (compEnvC scope cl C X.env) fp) tg g)
    (ht : ∀ (s : Shared) (H : Hp) (C : Addr) (cl : List (Str × Addr)) (fp : List Addr), PTs (X.blk s H scope (compEnvC scope cl C X.env) fp) ifs tt)
    (hi1 : ∀ (s : Shared) (H : Hp) (C : Addr) (cl : List (Str × Addr)) (fp : List Addr), PI (X.blk s H scope (compEnvC scope cl C X.env) fp) tg1 iter1 wi1)
    (hg1 : ∀ (s : Shared) (H : Hp) (C : Addr) (cl : List (Str × Addr)) (fp : List Addr), PG (X.blk s H scope (compEnvC scope cl C X.env) fp) tg1 g1)
    (ht1 : ∀ (s : Shared) (H : Hp) (C : Addr) (cl : List (Str × Addr)) (fp : List Addr), PTs (X.blk s H scope (compEnvC scope cl C X.env) fp) ifs1 tt1)
    (he : ∀ (s : Shared) (H : Hp) (C : Addr) (cl : List (Str × Addr)) (fp : List Addr), PE (X.blk s H scope (compEnvC scope cl C X.env) fp) elt te)
    (hs : ∀ x, foldedSetIterable iter X.env x = pure x := by intro _; rfl) (hs1 : ∀ env x, foldedSetIterable iter1 env x = pure x := by intro _ _; rfl) :
    PE X (.ListComp elt [⟨tg, iter, ifs, 0⟩, ⟨tg1, iter1, ifs1, 0⟩] scope pos) (tLc2 wi g tt wi1 g1 tt1 te vs vs1) := by
  subst hv
  refine pe_lc2 hc (by rw [hXN]; exact S.nd) hi ?_ (fun i h => ?_) hg ht hi1 hg1 ht1 he hs hs1
  · rw [hXN, hXs]
    exact blkOk_by hb
  · have := List.all_eq_true.mp hv1 i h
    simpa using this
end
/-- two walks in one comprehension: the outer one over a list -/
theorem lc2_list {K : PySem.W.Frag} {a : Addr} {xs : List V} {g : TG} {tt : TT} {wi1 : TI} {g1 : TG} {tt1 : TT} {te : TE} {vs vs1 : List Nat} {σ : Sl} {H1 : Hp} {D : Addr} {Qd : Hp → Prop} (Pv : Nat → Hp → Prop) (h0 : Pv 0 (upd H1 D (.lst []))) (hl : ∀ i H, i ≤ xs.length → Pv i H → SqL K H a xs)
    (hs : ∀ i x H, xs[i]? = some x → Pv i H → g x (wipe σ vs) H fun σ2 H2 => wipe σ2 vs = wipe σ vs ∧ tt σ2 H2 fun b H3 =>
      if b = true then wi1 σ2 H3 fun J1 H4 => ∃ W1 : Nat → Nat → Hp → Prop, (∃ m, W1 0 m H4) ∧ ∀ j k H, W1 j k H →
        (J1.stop j H ∧ Pv (i + 1) H) ∨ (J1.go j H ∧ ∃ Nx1 : Hp → Prop, (∀ H', Nx1 H' → ∃ k', k' < k ∧ W1 (j + 1) k' H') ∧ ∀ x H', J1.yld j H x H' → g1 x (wipe σ2 vs1) H' fun σ3 H5 => wipe σ3 vs1 = wipe σ2 vs1 ∧ tt1 σ3 H5 fun b H6 =>
          if b = true then te σ3 H6 fun y H7 => ∃ acc, H7 D = some (.lst acc) ∧ acc.length < sizeLine ∧ Nx1 (upd H7 D (.lst (acc ++ [y]))) else Nx1 H6)
      else Pv (i + 1) H3) (hd : ∀ H, Pv xs.length H → Qd H) :
    ∃ W : Nat → Nat → Hp → Prop, (∃ m, W 0 m (upd H1 D (.lst []))) ∧ ∀ i m H, W i m H →
      ((Itl K a).stop i H ∧ Qd H) ∨ ((Itl K a).go i H ∧ ∃ Nx : Hp → Prop, (∀ H', Nx H' → ∃ m', m' < m ∧ W (i + 1) m' H') ∧ ∀ x H', (Itl K a).yld i H x H' → g x (wipe σ vs) H' fun σ2 H2 => wipe σ2 vs = wipe σ vs ∧ tt σ2 H2 fun b H3 =>
        if b = true then wi1 σ2 H3 fun J1 H4 => ∃ W1 : Nat → Nat → Hp → Prop, (∃ m, W1 0 m H4) ∧ ∀ j k H, W1 j k H →
          (J1.stop j H ∧ Nx H) ∨ (J1.go j H ∧ ∃ Nx1 : Hp → Prop, (∀ H', Nx1 H' → ∃ k', k' < k ∧ W1 (j + 1) k' H') ∧ ∀ x H', J1.yld j H x H' → g1 x (wipe σ2 vs1) H' fun σ3 H5 => wipe σ3 vs1 = wipe σ2 vs1 ∧ tt1 σ3 H5 fun b H6 =>
            if b = true then te σ3 H6 fun y H7 => ∃ acc, H7 D = some (.lst acc) ∧ acc.length < sizeLine ∧ Nx1 (upd H7 D (.lst (acc ++ [y]))) else Nx1 H6)
        else Nx H3) := by
  refine ⟨fun i m H => m = xs.length - i ∧ i ≤ xs.length ∧ Pv i H, ⟨xs.length, by simp, Nat.zero_le _, h0⟩, ?_⟩
  rintro i m H ⟨rfl, hi, p⟩
  have q := hl i H hi p
  by_cases hlt : i < xs.length
  · refine .inr ⟨⟨xs, xs[i], q, by simp [hlt]⟩, Pv (i + 1), fun H' p' => ⟨xs.length - (i + 1), by omega, rfl, hlt, p'⟩, fun x H' y => ?_⟩
    obtain ⟨e, y⟩ := y
    subst e
    exact hs i x _ (y xs q) p
  · have e : i = xs.length := by omega
    subst e
    exact .inl ⟨⟨xs, q, Nat.le_refl _⟩, hd H p⟩
/-- the inner one over a list -/
theorem lc2_in {K : PySem.W.Frag} {a : Addr} {xs : List V} {g1 : TG} {tt1 : TT} {te : TE} {vs1 : List Nat} {σ2 : Sl} {H4 : Hp} {D : Addr} {Qd : Hp → Prop} (Pv : Nat → Hp → Prop) (h0 : Pv 0 H4) (hl : ∀ i H, i ≤ xs.length → Pv i H → SqL K H a xs)
    (hs : ∀ i x H, xs[i]? = some x → Pv i H → g1 x (wipe σ2 vs1) H fun σ3 H5 => wipe σ3 vs1 = wipe σ2 vs1 ∧ tt1 σ3 H5 fun b H6 =>
          if b = true then te σ3 H6 fun y H7 => ∃ acc, H7 D = some (.lst acc) ∧ acc.length < sizeLine ∧ Pv (i + 1) (upd H7 D (.lst (acc ++ [y]))) else Pv (i + 1) H6)
    (hd : ∀ H, Pv xs.length H → Qd H) :
    ∃ W1 : Nat → Nat → Hp → Prop, (∃ m, W1 0 m H4) ∧ ∀ j k H, W1 j k H →
        ((Itl K a).stop j H ∧ Qd H) ∨ ((Itl K a).go j H ∧ ∃ Nx1 : Hp → Prop, (∀ H', Nx1 H' → ∃ k', k' < k ∧ W1 (j + 1) k' H') ∧ ∀ x H', (Itl K a).yld j H x H' → g1 x (wipe σ2 vs1) H' fun σ3 H5 => wipe σ3 vs1 = wipe σ2 vs1 ∧ tt1 σ3 H5 fun b H6 =>
          if b = true then te σ3 H6 fun y H7 => ∃ acc, H7 D = some (.lst acc) ∧ acc.length < sizeLine ∧ Nx1 (upd H7 D (.lst (acc ++ [y]))) else Nx1 H6) := by
  refine ⟨fun i m H => m = xs.length - i ∧ i ≤ xs.length ∧ Pv i H, ⟨xs.length, by simp, Nat.zero_le _, h0⟩, ?_⟩
  rintro i m H ⟨rfl, hi, p⟩
  have q := hl i H hi p
  by_cases hlt : i < xs.length
  · refine .inr ⟨⟨xs, xs[i], q, by simp [hlt]⟩, Pv (i + 1), fun H' p' => ⟨xs.length - (i + 1), by omega, rfl, hlt, p'⟩, fun x H' y => ?_⟩
    obtain ⟨e, y⟩ := y
    subst e
    exact hs i x _ (y xs q) p
  · have e : i = xs.length := by omega
    subst e
    exact .inl ⟨⟨xs, q, Nat.le_refl _⟩, hd H p⟩
local macro_rules | `(tactic| wtm_at "fo e") => `(tactic| (with_reducible show PE _ (.ListComp _ [_, _] _ _) _); wtm_at "fo lc2")
local macro_rules | `(tactic| wtm_at "fo lc2") => `(tactic| (refine' pe_lc2O (vs1 := [13]) (by assumption) (by exact rfl) (by exact rfl) (by wtm_at "fo own") (by rfl) (by decide +kernel) rfl ?ki ?kg ?kt ?ki1 ?kg1 ?kt1 ?ke; (case ki => wtm_at "fo i"); (case kg => (intro _ _ _ _ _; wtm_at "fo g")); (case kt => (intro _ _ _ _ _; wtm_at "fo ts")); (case ki1 => (intro _ _ _ _ _; wtm_at "fo i")); (case kg1 => (intro _ _ _ _ _; wtm_at "fo g")); (case kt1 => (intro _ _ _ _ _; wtm_at "fo ts")); (case ke => (intro _ _ _ _ _; wtm_at "fo e"))))
local macro_rules | `(tactic| wtm_at "fo meth") => `(tactic| ((with_reducible show PE _ (.Call (.Attribute _ (Str.ofString "extend") _) _ _ _) _); refine' pe_bm PySem.F.plainAttrs_list PySem.F.slot_list_extend PySem.F.type_list_extend mt_extend ?ka ?kb; (case ka => wtm_at "fo e"); (case kb => wtm_at "fo a")))
variable {P : Program} {w : World} {K : PySem.W.Frag} {mg : Str → Option Value} {base : Heap}
/-! ### check_place -/
@[irreducible] def spCheck : Sp := fun vs H Q _ => ∃ (r : Addr) (xs : List V) (p : Int), vs = [.ref r, .int p] ∧ H r = some (.lst xs) ∧ 1 ≤ p ∧ p < xs.length ∧ Q .non H
theorem call_check {r : Addr} {xs : List V} {p : Int} {H : Hp} {Q : VK} {E : XK} (hr : H r = some (.lst xs)) (h1 : 1 ≤ p) (h2 : p < xs.length) (q : Q .non H) : spCheck [.ref r, .int p] H Q E := by
  unfold spCheck
  exact ⟨r, xs, p, rfl, hr, h1, h2, q⟩
set_option maxHeartbeats 2000000 in
theorem ok_check {f : Addr} {fd : FuncData} (F : Fun K "check_place" "check_place" s_check_place f fd) (mn : mg "len" = none) (C : Cal P w K mg base "is_place" 1 ["place", "places"] spIsPlace) :
    FnOk P w K mg base CX0 2 f fd ["near", "place"] spCheck := by
  refine F.ok sc_check_place (fun vs H Q E h => ?_) (fun cdv A outer s H vs Q E hr h => ?_)
  · unfold spCheck at h
    obtain ⟨r, xs, p, rfl, _⟩ := h
    rfl
  · have nd := sc_check_place.nd
    have hS := sc_check_place
    have hKM : KMark K := ⟨⟩
    refine' mk_body ?body ?rd
    case body =>
      show PSs _ [_] _
      wtm_at "fo ss"
    case rd =>
     unfold spCheck at h
     obtain ⟨r, xs, p, rfl, hr0, h1, h2, q⟩ := h
     wtm_at "fo r"
     refine call_isplace ⟨_, rfl, ?_⟩
     refine ifF (by rw [decide_eq_true (by omega)]; rfl) ?_
     exact q
/-! ### beside -/
set_option maxHeartbeats 2000000 in
theorem ok_beside {f : Addr} {fd : FuncData} (F : Fun K "beside" "beside" s_beside f fd) (C : Cal P w K mg base "read_net" 2 ["places", "lines"] spRead) (C2 : Cal P w K mg base "check_place" 2 ["near", "place"] spCheck) (C3 : Cal P w K mg base "members" 1 ["lot"] spMembers) :
    FnOk P w K mg base CX0 3 f fd ["places", "lines", "place"] spBeside := by
  refine F.ok sc_beside (fun vs H Q E h => ?_) (fun cdv A outer s H vs Q E hr h => ?_)
  · unfold spBeside at h
    obtain ⟨q, n, p, es, rfl, _⟩ := h
    rfl
  · have nd := sc_beside.nd
    have hS := sc_beside
    have hKM : KMark K := ⟨⟩
    refine' mk_body ?body ?rd
    case body =>
      show PSs _ [_, _, _] _
      wtm_at "fo ss"
    case rd =>
     unfold spBeside at h
     obtain ⟨q, n, p, es, rfl, h1, h2, h3, h4, hq, hSi, hl, fin⟩ := h
     wtm_at "fo r"
     refine call_read h1 h2 hq hSi hl (fun r H1 sm1 nr hr1 => ?_)
     wtm_at "fo r"
     refine call_check hr1 h3 (by rw [List.length_map, nearB_length]; omega) ?_
     wtm_at "fo r"
     obtain ⟨pn, rfl⟩ : ∃ k : Nat, p = (k : Int) := ⟨p.toNat, by omega⟩
     obtain ⟨u, hu, hm⟩ := membersM_near hSi (p := pn) (by omega) (by omega)
     refine Or.inl ⟨r, _, (pn : Nat), _, rfl, rfl, SqL.of hr1, at_nb hu, ?_⟩
     refine call_members (Nat.lt_of_lt_of_le (nearB_small hSi hu) (Nat.pow_le_pow_right (by decide) (by omega))) (fun p2 H2 sm2 np2 hp2 => ?_)
     rw [hm] at hp2
     exact fin p2 H2 (sm1.trans sm2) (sm1.free np2) hp2

end Fo

/-! piece D14 -/
namespace Fo
open PySem PySem.Spec PyProof.Rows L2
local macro_rules | `(tactic| wtm_at "fo a") => `(tactic| first
  | exact pa_nil
  | (refine' pa_cons ?k1 ?k2; (case k1 => wtm_at "fo e"); (case k2 => wtm_at "fo a"))
  | fail "no")
local macro_rules | `(tactic| wtm_at "fo v") => `(tactic| first
  | exact pv 0
  | exact pv 1
  | exact pv 2
  | exact pv 3
  | exact pv 4
  | exact pv 5
  | exact pv 6
  | exact pv 7
  | exact pv 8
  | exact pv 9
  | exact pv 10
  | exact pv 11
  | exact pv 12
  | exact pv 13
  | exact pv 14
  | exact pv 15
  | fail "no")
local macro_rules | `(tactic| wtm_at "fo e") => `(tactic| first
  | with_reducible exact pe_int
  | with_reducible exact pe_bl
  | with_reducible exact pe_non
  | with_reducible exact pe_str
  | ((with_reducible show PE _ (.Name _ _) _); wtm_at "fo v")
  | ((with_reducible show PE _ (.BinOp _ .Add _ _) _); apply pe_op opAddB <;> wtm_at "fo e")
  | ((with_reducible show PE _ (.BinOp _ .Sub _ _) _); apply pe_op op_sub <;> wtm_at "fo e")
  | ((with_reducible show PE _ (.BinOp _ .Mult _ _) _); apply pe_op op_mul <;> wtm_at "fo e")
  | ((with_reducible show PE _ (.BinOp _ .Mod _ _) _); apply pe_op op_mod <;> wtm_at "fo e")
  | ((with_reducible show PE _ (.BinOp _ .FloorDiv _ _) _); apply pe_op op_fdiv <;> wtm_at "fo e")
  | ((with_reducible show PE _ (.BinOp _ .Pow _ _) _); apply pe_op op_powW <;> wtm_at "fo e")
  | ((with_reducible show PE _ (.BinOp _ .LShift _ _) _); apply pe_op op_shl <;> wtm_at "fo e")
  | ((with_reducible show PE _ (.BinOp _ .RShift _ _) _); apply pe_op op_shr <;> wtm_at "fo e")
  | ((with_reducible show PE _ (.BinOp _ .BitAnd _ _) _); apply pe_op op_and <;> wtm_at "fo e")
  | ((with_reducible show PE _ (.List _ _) _); apply pe_lst; wtm_at "fo a")
  | ((with_reducible show PE _ (.Tuple _ _ _) _); apply pe_tup; wtm_at "fo a")
  | ((with_reducible show PE _ (.ListComp _ [_] _ _) _); wtm_at "fo lc")
  | ((with_reducible show PE _ (.IfExp _ _ _ _) _); apply pe_ifExp; (· wtm_at "fo t"); (· wtm_at "fo e"); (· wtm_at "fo e"))
  | ((with_reducible show PE _ (.UnaryOp .USub _ _) _); apply pe_un un_neg; wtm_at "fo e")
  | ((with_reducible show PE _ (.Call (.Name _ _) [] (_ :: _) _) _); wtm_at "fo kcall")
  | ((with_reducible show PE _ (.Call (.Name _ _) _ _ _) _); wtm_at "fo call")
  | ((with_reducible show PE _ (.Call (.Attribute _ _ _) _ _ _) _); wtm_at "fo meth")
  | ((with_reducible show PE _ (.Compare _ _ _ _) _); wtm_at "fo cmp")
  | ((with_reducible show PE _ (.Subscript _ (.Slice _ _ _ _) _) _); wtm_at "fo slice")
  | ((with_reducible show PE _ (.Subscript _ _ _) _); refine' pe_ix (ix_seqK (by assumption) (by exact rfl)) ?ka ?kb (fun _ _ => rfl); (case ka => wtm_at "fo e"); (case kb => wtm_at "fo e"))
  | fail "no")
local macro_rules | `(tactic| wtm_at "fo own") => `(tactic| first
  | ((show _ = [0]); kernel_rfl!)
  | ((show _ = [1]); kernel_rfl!)
  | ((show _ = [2]); kernel_rfl!)
  | ((show _ = [3]); kernel_rfl!)
  | ((show _ = [4]); kernel_rfl!)
  | ((show _ = [5]); kernel_rfl!)
  | ((show _ = [6]); kernel_rfl!)
  | ((show _ = [7]); kernel_rfl!)
  | ((show _ = [8]); kernel_rfl!)
  | ((show _ = [9]); kernel_rfl!)
  | ((show _ = [10]); kernel_rfl!)
  | ((show _ = [11]); kernel_rfl!)
  | ((show _ = [12]); kernel_rfl!)
  | ((show _ = [13]); kernel_rfl!)
  | ((show _ = [14]); kernel_rfl!)
  | ((show _ = [15]); kernel_rfl!)
  | ((show _ = [0, 1]); kernel_rfl!)
  | ((show _ = [1, 2]); kernel_rfl!)
  | ((show _ = [2, 3]); kernel_rfl!)
  | ((show _ = [3, 4]); kernel_rfl!)
  | ((show _ = [4, 5]); kernel_rfl!)
  | ((show _ = [5, 6]); kernel_rfl!)
  | ((show _ = [6, 7]); kernel_rfl!)
  | ((show _ = [7, 8]); kernel_rfl!)
  | ((show _ = [8, 9]); kernel_rfl!)
  | ((show _ = [9, 10]); kernel_rfl!)
  | ((show _ = [10, 11]); kernel_rfl!)
  | ((show _ = [11, 12]); kernel_rfl!)
  | ((show _ = [12, 13]); kernel_rfl!)
  | ((show _ = [13, 14]); kernel_rfl!)
  | ((show _ = [14, 15]); kernel_rfl!)
  | fail "no")
local macro_rules | `(tactic| wtm_at "fo ts") => `(tactic| first
  | exact pts_nil
  | (apply pts_one; wtm_at "fo t")
  | fail "no")
local macro_rules | `(tactic| wtm_at "fo lc") => `(tactic| first
  | (refine' pe_lcO (by assumption) (by exact rfl) (by exact rfl) (by wtm_at "fo own") (by decide +kernel) rfl ?ki ?kg ?kt ?ke; (case ki => wtm_at "fo i"); (case kg => (intro _ _ _ _ _; wtm_at "fo g")); (case kt => (intro _ _ _ _ _; wtm_at "fo ts")); (case ke => (intro _ _ _ _ _; wtm_at "fo e")))
  | fail "no")
local macro_rules | `(tactic| wtm_at "fo part") => `(tactic| first
  | exact po_none
  | (apply po_some; wtm_at "fo e")
  | fail "no")
local macro_rules | `(tactic| wtm_at "fo slice") => `(tactic| first
  | ((with_reducible show PE _ (.Subscript _ (.Slice _ _ none _) _) _); refine' pe_slice (sl_listK (by assumption) (by exact rfl)) ?ka ?kb ?kc; (case ka => wtm_at "fo e"); (case kb => wtm_at "fo part"); (case kc => wtm_at "fo part"))
  | ((with_reducible show PE _ (.Subscript _ (.Slice none none (some _) _) _) _); refine' pe_stepK (by assumption) (by exact rfl) ?ka ?kb; (case ka => wtm_at "fo e"); (case kb => wtm_at "fo e"))
  | fail "no")
local macro_rules | `(tactic| wtm_at "fo cmp") => `(tactic| first
  | ((with_reducible show PE _ (.Compare _ [.Lt] _ _) _); refine' pe_cmpR op_lt ?ka ?kb (nomark _); (case ka => wtm_at "fo e"); (case kb => wtm_at "fo e"))
  | ((with_reducible show PE _ (.Compare _ [.LtE] _ _) _); refine' pe_cmpR op_le ?ka ?kb (nomark _); (case ka => wtm_at "fo e"); (case kb => wtm_at "fo e"))
  | ((with_reducible show PE _ (.Compare _ [.Gt] _ _) _); refine' pe_cmpR op_gt ?ka ?kb (nomark _); (case ka => wtm_at "fo e"); (case kb => wtm_at "fo e"))
  | ((with_reducible show PE _ (.Compare _ [.GtE] _ _) _); refine' pe_cmpR op_ge ?ka ?kb (nomark _); (case ka => wtm_at "fo e"); (case kb => wtm_at "fo e"))
  | ((with_reducible show PE _ (.Compare _ [.Eq] _ _) _); refine' pe_cmpR (op_eqK (by assumption) (by exact rfl) (Room.units (by assumption))) ?ka ?kb (nomark _); (case ka => wtm_at "fo e"); (case kb => wtm_at "fo e"))
  | ((with_reducible show PE _ (.Compare _ [.NotEq] _ _) _); refine' pe_cmpR (op_neK (by assumption) (by exact rfl) (Room.units (by assumption))) ?ka ?kb (nomark _); (case ka => wtm_at "fo e"); (case kb => wtm_at "fo e"))
  | fail "no")
local macro_rules | `(tactic| wtm_at "fo tcmp") => `(tactic| first
  | ((with_reducible show PT _ (.Compare _ [.Lt] _ _) _); refine' pt_cmpR op_lt ?ka ?kb (nomark _); (case ka => wtm_at "fo e"); (case kb => wtm_at "fo e"))
  | ((with_reducible show PT _ (.Compare _ [.LtE] _ _) _); refine' pt_cmpR op_le ?ka ?kb (nomark _); (case ka => wtm_at "fo e"); (case kb => wtm_at "fo e"))
  | ((with_reducible show PT _ (.Compare _ [.Gt] _ _) _); refine' pt_cmpR op_gt ?ka ?kb (nomark _); (case ka => wtm_at "fo e"); (case kb => wtm_at "fo e"))
  | ((with_reducible show PT _ (.Compare _ [.GtE] _ _) _); refine' pt_cmpR op_ge ?ka ?kb (nomark _); (case ka => wtm_at "fo e"); (case kb => wtm_at "fo e"))
  | ((with_reducible show PT _ (.Compare _ [.Eq] _ _) _); refine' pt_cmpR (op_eqK (by assumption) (by exact rfl) (Room.units (by assumption))) ?ka ?kb (nomark _); (case ka => wtm_at "fo e"); (case kb => wtm_at "fo e"))
  | ((with_reducible show PT _ (.Compare _ [.NotEq] _ _) _); refine' pt_cmpR (op_neK (by assumption) (by exact rfl) (Room.units (by assumption))) ?ka ?kb (nomark _); (case ka => wtm_at "fo e"); (case kb => wtm_at "fo e"))
  | ((with_reducible show PT _ (.Compare _ [.In] _ _) _); refine' pt_cmpR (op_inK (by assumption) (by exact rfl)) ?ka ?kb rfl; (case ka => wtm_at "fo e"); (case kb => wtm_at "fo e"))
  | ((with_reducible show PT _ (.Compare _ [.NotIn] _ _) _); refine' pt_cmpR (op_notInK (by assumption) (by exact rfl)) ?ka ?kb rfl; (case ka => wtm_at "fo e"); (case kb => wtm_at "fo e"))
  | fail "no")
local macro_rules | `(tactic| wtm_at "fo w") => `(tactic| first
  | ((with_reducible show PW _ (.BoolOp .And [_] _) _); apply pw_and1; wtm_at "fo t")
  | ((with_reducible show PW _ (.BoolOp .And _ _) _); apply pw_and; (· wtm_at "fo t"); (· wtm_at "fo w"))
  | ((with_reducible show PW _ (.BoolOp .Or [_] _) _); apply pw_or1; wtm_at "fo t")
  | ((with_reducible show PW _ (.BoolOp .Or _ _) _); apply pw_or; (· wtm_at "fo t"); (· wtm_at "fo w"))
  | fail "no")
local macro_rules | `(tactic| wtm_at "fo meth") => `(tactic| first
  | ((with_reducible show PE _ (.Call (.Attribute _ (Str.ofString "append") _) _ _ _) _); refine' pe_bm PySem.F.plainAttrs_list PySem.F.slot_list_append PySem.F.type_list_append mt_append ?ka ?kb; (case ka => wtm_at "fo e"); (case kb => wtm_at "fo a"))
  | ((with_reducible show PE _ (.Call (.Attribute _ (Str.ofString "pop") _) [_] _ _) _); refine' pe_bm PySem.F.plainAttrs_list PySem.F.slot_list_pop PySem.F.type_list_pop mt_popAt ?ka ?kb; (case ka => wtm_at "fo e"); (case kb => wtm_at "fo a"))
  | ((with_reducible show PE _ (.Call (.Attribute _ (Str.ofString "pop") _) [] _ _) _); refine' pe_bm0 PySem.F.plainAttrs_list PySem.F.slot_list_pop PySem.F.type_list_pop mt_pop ?ka; (case ka => wtm_at "fo e"))
  | fail "no")
local macro_rules | `(tactic| wtm_at "fo k") => `(tactic| first
  | exact pk_nil
  | (refine' pk_cons ?k1 ?k2; (case k1 => wtm_at "fo e"); (case k2 => wtm_at "fo k"))
  | fail "no")
local macro_rules | `(tactic| wtm_at "fo kcall") => `(tactic| first
  | (refine' pe_kcal (by assumption) (by assumption) (by decide) (by rfl) ?ka; (case ka => wtm_at "fo k"))
  | fail "no")
local macro_rules | `(tactic| wtm_at "fo call") => `(tactic| first
  | ((with_reducible show PE _ (.Call (.Name (Str.ofString "int") _) _ _ _) _); refine' pe_callTy call_intB (by rfl) (by assumption) (by decide +kernel) ?ka; (case ka => wtm_at "fo a"))
  | ((with_reducible show PE _ (.Call (.Name (Str.ofString "len") _) _ _ _) _); refine' pe_callB (call_lenK (by assumption) (by exact rfl)) (by rfl) (by assumption) PySem.boot_len ?ka; (case ka => wtm_at "fo a"))
  | ((with_reducible show PE _ (.Call (.Name (Str.ofString "list") _) [.Call (.Name (Str.ofString "range") _) [_, _] _ _] _ _) _); refine' pe_listRg rfl (by rfl) (by assumption) (prg_2 (by rfl) (by assumption) ?ka ?kb); (case ka => wtm_at "fo e"); (case kb => wtm_at "fo e"))
  | ((with_reducible show PE _ (.Call (.Name (Str.ofString "list") _) _ _ _) _); refine' pe_callTy (call_listK (by assumption) (by exact rfl)) (by rfl) (by assumption) (by decide +kernel) ?ka; (case ka => wtm_at "fo a"))
  | ((with_reducible show PE _ (.Call (.Name (Str.ofString "min") _) [_, _] _ _) _); refine' pe_callB (call_min2 rfl) (by rfl) (by assumption) (by decide +kernel) ?ka; (case ka => wtm_at "fo a"))
  | ((with_reducible show PE _ (.Call (.Name (Str.ofString "sorted") _) [_] _ _) _); refine' pe_callB (cr_sortedK (by assumption) (by exact rfl)) (by rfl) (by assumption) (by decide +kernel) ?ka; (case ka => wtm_at "fo a"))
  | ((with_reducible show PE _ (.Call (.Name (Str.ofString "repr") _) [_] _ _) _); refine' pe_callB (call_reprK (by assumption) (by exact rfl) (by assumption) (Room.units (by assumption))) (by rfl) (by assumption) (by decide +kernel) ?ka; (case ka => wtm_at "fo a"))
  | (refine' pe_cal (by assumption) (by assumption) (by decide) (by rfl) ?ka; (case ka => wtm_at "fo a"))
  | fail "no")
local macro_rules | `(tactic| wtm_at "fo setlc") => `(tactic| first
  | (refine' ps_setLcO (i := 0) (by assumption) (by exact rfl) (by exact rfl) (by wtm_at "fo own") (by decide +kernel) rfl rfl rfl (sw_true rfl rfl rfl (by decide +kernel)) ?ki ?kg ?kt ?ke; (case ki => wtm_at "fo i"); (case kg => (intro _ _ _ _ _; wtm_at "fo g")); (case kt => (intro _ _ _ _ _; wtm_at "fo ts")); (case ke => (intro _ _ _ _ _; wtm_at "fo e")))
  | (refine' ps_setLcO (i := 1) (by assumption) (by exact rfl) (by exact rfl) (by wtm_at "fo own") (by decide +kernel) rfl rfl rfl (sw_true rfl rfl rfl (by decide +kernel)) ?ki ?kg ?kt ?ke; (case ki => wtm_at "fo i"); (case kg => (intro _ _ _ _ _; wtm_at "fo g")); (case kt => (intro _ _ _ _ _; wtm_at "fo ts")); (case ke => (intro _ _ _ _ _; wtm_at "fo e")))
  | (refine' ps_setLcO (i := 2) (by assumption) (by exact rfl) (by exact rfl) (by wtm_at "fo own") (by decide +kernel) rfl rfl rfl (sw_true rfl rfl rfl (by decide +kernel)) ?ki ?kg ?kt ?ke; (case ki => wtm_at "fo i"); (case kg => (intro _ _ _ _ _; wtm_at "fo g")); (case kt => (intro _ _ _ _ _; wtm_at "fo ts")); (case ke => (intro _ _ _ _ _; wtm_at "fo e")))
  | (refine' ps_setLcO (i := 3) (by assumption) (by exact rfl) (by exact rfl) (by wtm_at "fo own") (by decide +kernel) rfl rfl rfl (sw_true rfl rfl rfl (by decide +kernel)) ?ki ?kg ?kt ?ke; (case ki => wtm_at "fo i"); (case kg => (intro _ _ _ _ _; wtm_at "fo g")); (case kt => (intro _ _ _ _ _; wtm_at "fo ts")); (case ke => (intro _ _ _ _ _; wtm_at "fo e")))
  | (refine' ps_setLcO (i := 4) (by assumption) (by exact rfl) (by exact rfl) (by wtm_at "fo own") (by decide +kernel) rfl rfl rfl (sw_true rfl rfl rfl (by decide +kernel)) ?ki ?kg ?kt ?ke; (case ki => wtm_at "fo i"); (case kg => (intro _ _ _ _ _; wtm_at "fo g")); (case kt => (intro _ _ _ _ _; wtm_at "fo ts")); (case ke => (intro _ _ _ _ _; wtm_at "fo e")))
  | (refine' ps_setLcO (i := 5) (by assumption) (by exact rfl) (by exact rfl) (by wtm_at "fo own") (by decide +kernel) rfl rfl rfl (sw_true rfl rfl rfl (by decide +kernel)) ?ki ?kg ?kt ?ke; (case ki => wtm_at "fo i"); (case kg => (intro _ _ _ _ _; wtm_at "fo g")); (case kt => (intro _ _ _ _ _; wtm_at "fo ts")); (case ke => (intro _ _ _ _ _; wtm_at "fo e")))
  | (refine' ps_setLcO (i := 6) (by assumption) (by exact rfl) (by exact rfl) (by wtm_at "fo own") (by decide +kernel) rfl rfl rfl (sw_true rfl rfl rfl (by decide +kernel)) ?ki ?kg ?kt ?ke; (case ki => wtm_at "fo i"); (case kg => (intro _ _ _ _ _; wtm_at "fo g")); (case kt => (intro _ _ _ _ _; wtm_at "fo ts")); (case ke => (intro _ _ _ _ _; wtm_at "fo e")))
  | (refine' ps_setLcO (i := 7) (by assumption) (by exact rfl) (by exact rfl) (by wtm_at "fo own") (by decide +kernel) rfl rfl rfl (sw_true rfl rfl rfl (by decide +kernel)) ?ki ?kg ?kt ?ke; (case ki => wtm_at "fo i"); (case kg => (intro _ _ _ _ _; wtm_at "fo g")); (case kt => (intro _ _ _ _ _; wtm_at "fo ts")); (case ke => (intro _ _ _ _ _; wtm_at "fo e")))
  | (refine' ps_setLcO (i := 8) (by assumption) (by exact rfl) (by exact rfl) (by wtm_at "fo own") (by decide +kernel) rfl rfl rfl (sw_true rfl rfl rfl (by decide +kernel)) ?ki ?kg ?kt ?ke; (case ki => wtm_at "fo i"); (case kg => (intro _ _ _ _ _; wtm_at "fo g")); (case kt => (intro _ _ _ _ _; wtm_at "fo ts")); (case ke => (intro _ _ _ _ _; wtm_at "fo e")))
  | (refine' ps_setLcO (i := 9) (by assumption) (by exact rfl) (by exact rfl) (by wtm_at "fo own") (by decide +kernel) rfl rfl rfl (sw_true rfl rfl rfl (by decide +kernel)) ?ki ?kg ?kt ?ke; (case ki => wtm_at "fo i"); (case kg => (intro _ _ _ _ _; wtm_at "fo g")); (case kt => (intro _ _ _ _ _; wtm_at "fo ts")); (case ke => (intro _ _ _ _ _; wtm_at "fo e")))
  | (refine' ps_setLcO (i := 10) (by assumption) (by exact rfl) (by exact rfl) (by wtm_at "fo own") (by decide +kernel) rfl rfl rfl (sw_true rfl rfl rfl (by decide +kernel)) ?ki ?kg ?kt ?ke; (case ki => wtm_at "fo i"); (case kg => (intro _ _ _ _ _; wtm_at "fo g")); (case kt => (intro _ _ _ _ _; wtm_at "fo ts")); (case ke => (intro _ _ _ _ _; wtm_at "fo e")))
  | (refine' ps_setLcO (i := 11) (by assumption) (by exact rfl) (by exact rfl) (by wtm_at "fo own") (by decide +kernel) rfl rfl rfl (sw_true rfl rfl rfl (by decide +kernel)) ?ki ?kg ?kt ?ke; (case ki => wtm_at "fo i"); (case kg => (intro _ _ _ _ _; wtm_at "fo g")); (case kt => (intro _ _ _ _ _; wtm_at "fo ts")); (case ke => (intro _ _ _ _ _; wtm_at "fo e")))
  | (refine' ps_setLcO (i := 12) (by assumption) (by exact rfl) (by exact rfl) (by wtm_at "fo own") (by decide +kernel) rfl rfl rfl (sw_true rfl rfl rfl (by decide +kernel)) ?ki ?kg ?kt ?ke; (case ki => wtm_at "fo i"); (case kg => (intro _ _ _ _ _; wtm_at "fo g")); (case kt => (intro _ _ _ _ _; wtm_at "fo ts")); (case ke => (intro _ _ _ _ _; wtm_at "fo e")))
  | (refine' ps_setLcO (i := 13) (by assumption) (by exact rfl) (by exact rfl) (by wtm_at "fo own") (by decide +kernel) rfl rfl rfl (sw_true rfl rfl rfl (by decide +kernel)) ?ki ?kg ?kt ?ke; (case ki => wtm_at "fo i"); (case kg => (intro _ _ _ _ _; wtm_at "fo g")); (case kt => (intro _ _ _ _ _; wtm_at "fo ts")); (case ke => (intro _ _ _ _ _; wtm_at "fo e")))
  | (refine' ps_setLcO (i := 14) (by assumption) (by exact rfl) (by exact rfl) (by wtm_at "fo own") (by decide +kernel) rfl rfl rfl (sw_true rfl rfl rfl (by decide +kernel)) ?ki ?kg ?kt ?ke; (case ki => wtm_at "fo i"); (case kg => (intro _ _ _ _ _; wtm_at "fo g")); (case kt => (intro _ _ _ _ _; wtm_at "fo ts")); (case ke => (intro _ _ _ _ _; wtm_at "fo e")))
  | (refine' ps_setLcO (i := 15) (by assumption) (by exact rfl) (by exact rfl) (by wtm_at "fo own") (by decide +kernel) rfl rfl rfl (sw_true rfl rfl rfl (by decide +kernel)) ?ki ?kg ?kt ?ke; (case ki => wtm_at "fo i"); (case kg => (intro _ _ _ _ _; wtm_at "fo g")); (case kt => (intro _ _ _ _ _; wtm_at "fo ts")); (case ke => (intro _ _ _ _ _; wtm_at "fo e")))
  | fail "no")
local macro_rules | `(tactic| wtm_at "fo set") => `(tactic| first
  | (refine' ps_set (i := 0) (by assumption) rfl (by first | exact Or.inl rfl | exact Or.inr rfl) ?ka; (case ka => wtm_at "fo e"))
  | (refine' ps_set (i := 1) (by assumption) rfl (by first | exact Or.inl rfl | exact Or.inr rfl) ?ka; (case ka => wtm_at "fo e"))
  | (refine' ps_set (i := 2) (by assumption) rfl (by first | exact Or.inl rfl | exact Or.inr rfl) ?ka; (case ka => wtm_at "fo e"))
  | (refine' ps_set (i := 3) (by assumption) rfl (by first | exact Or.inl rfl | exact Or.inr rfl) ?ka; (case ka => wtm_at "fo e"))
  | (refine' ps_set (i := 4) (by assumption) rfl (by first | exact Or.inl rfl | exact Or.inr rfl) ?ka; (case ka => wtm_at "fo e"))
  | (refine' ps_set (i := 5) (by assumption) rfl (by first | exact Or.inl rfl | exact Or.inr rfl) ?ka; (case ka => wtm_at "fo e"))
  | (refine' ps_set (i := 6) (by assumption) rfl (by first | exact Or.inl rfl | exact Or.inr rfl) ?ka; (case ka => wtm_at "fo e"))
  | (refine' ps_set (i := 7) (by assumption) rfl (by first | exact Or.inl rfl | exact Or.inr rfl) ?ka; (case ka => wtm_at "fo e"))
  | (refine' ps_set (i := 8) (by assumption) rfl (by first | exact Or.inl rfl | exact Or.inr rfl) ?ka; (case ka => wtm_at "fo e"))
  | (refine' ps_set (i := 9) (by assumption) rfl (by first | exact Or.inl rfl | exact Or.inr rfl) ?ka; (case ka => wtm_at "fo e"))
  | (refine' ps_set (i := 10) (by assumption) rfl (by first | exact Or.inl rfl | exact Or.inr rfl) ?ka; (case ka => wtm_at "fo e"))
  | (refine' ps_set (i := 11) (by assumption) rfl (by first | exact Or.inl rfl | exact Or.inr rfl) ?ka; (case ka => wtm_at "fo e"))
  | (refine' ps_set (i := 12) (by assumption) rfl (by first | exact Or.inl rfl | exact Or.inr rfl) ?ka; (case ka => wtm_at "fo e"))
  | (refine' ps_set (i := 13) (by assumption) rfl (by first | exact Or.inl rfl | exact Or.inr rfl) ?ka; (case ka => wtm_at "fo e"))
  | fail "no")
local macro_rules | `(tactic| wtm_at "fo t") => `(tactic| first
  | ((with_reducible show PT _ (.BoolOp _ _ _) _); apply PW.pt; wtm_at "fo w")
  | ((with_reducible show PT _ (.UnaryOp .Not _ _) _); apply pt_not; wtm_at "fo t")
  | ((with_reducible show PT _ (.Compare _ _ _ _) _); wtm_at "fo tcmp")
  | (refine' pt_truthK (by assumption) (by exact rfl) ?ka (by intro _; rfl); (case ka => wtm_at "fo e"))
  | fail "no")
local macro_rules | `(tactic| wtm_at "fo gn") => `(tactic| first
  | exact pg_name (i := 0) (by assumption) rfl (by first | exact Or.inl rfl | exact Or.inr rfl)
  | exact pg_name (i := 1) (by assumption) rfl (by first | exact Or.inl rfl | exact Or.inr rfl)
  | exact pg_name (i := 2) (by assumption) rfl (by first | exact Or.inl rfl | exact Or.inr rfl)
  | exact pg_name (i := 3) (by assumption) rfl (by first | exact Or.inl rfl | exact Or.inr rfl)
  | exact pg_name (i := 4) (by assumption) rfl (by first | exact Or.inl rfl | exact Or.inr rfl)
  | exact pg_name (i := 5) (by assumption) rfl (by first | exact Or.inl rfl | exact Or.inr rfl)
  | exact pg_name (i := 6) (by assumption) rfl (by first | exact Or.inl rfl | exact Or.inr rfl)
  | exact pg_name (i := 7) (by assumption) rfl (by first | exact Or.inl rfl | exact Or.inr rfl)
  | exact pg_name (i := 8) (by assumption) rfl (by first | exact Or.inl rfl | exact Or.inr rfl)
  | exact pg_name (i := 9) (by assumption) rfl (by first | exact Or.inl rfl | exact Or.inr rfl)
  | exact pg_name (i := 10) (by assumption) rfl (by first | exact Or.inl rfl | exact Or.inr rfl)
  | exact pg_name (i := 11) (by assumption) rfl (by first | exact Or.inl rfl | exact Or.inr rfl)
  | exact pg_name (i := 12) (by assumption) rfl (by first | exact Or.inl rfl | exact Or.inr rfl)
  | exact pg_name (i := 13) (by assumption) rfl (by first | exact Or.inl rfl | exact Or.inr rfl)
  | exact pg_name (i := 14) (by assumption) rfl (by first | exact Or.inl rfl | exact Or.inr rfl)
  | exact pg_name (i := 15) (by assumption) rfl (by first | exact Or.inl rfl | exact Or.inr rfl)
  | fail "no")
local macro_rules | `(tactic| wtm_at "fo par") => `(tactic| first
  | (refine' ps_par (i := 0) (j := 1) rfl (by assumption) rfl rfl (by decide) rfl rfl ?ka (by rfl); (case ka => wtm_at "fo a"))
  | (refine' ps_par (i := 1) (j := 2) rfl (by assumption) rfl rfl (by decide) rfl rfl ?ka (by rfl); (case ka => wtm_at "fo a"))
  | (refine' ps_par (i := 2) (j := 3) rfl (by assumption) rfl rfl (by decide) rfl rfl ?ka (by rfl); (case ka => wtm_at "fo a"))
  | (refine' ps_par (i := 3) (j := 4) rfl (by assumption) rfl rfl (by decide) rfl rfl ?ka (by rfl); (case ka => wtm_at "fo a"))
  | (refine' ps_par (i := 4) (j := 5) rfl (by assumption) rfl rfl (by decide) rfl rfl ?ka (by rfl); (case ka => wtm_at "fo a"))
  | (refine' ps_par (i := 5) (j := 6) rfl (by assumption) rfl rfl (by decide) rfl rfl ?ka (by rfl); (case ka => wtm_at "fo a"))
  | (refine' ps_par (i := 6) (j := 7) rfl (by assumption) rfl rfl (by decide) rfl rfl ?ka (by rfl); (case ka => wtm_at "fo a"))
  | (refine' ps_par (i := 7) (j := 8) rfl (by assumption) rfl rfl (by decide) rfl rfl ?ka (by rfl); (case ka => wtm_at "fo a"))
  | (refine' ps_par (i := 8) (j := 9) rfl (by assumption) rfl rfl (by decide) rfl rfl ?ka (by rfl); (case ka => wtm_at "fo a"))
  | (refine' ps_par (i := 9) (j := 10) rfl (by assumption) rfl rfl (by decide) rfl rfl ?ka (by rfl); (case ka => wtm_at "fo a"))
  | (refine' ps_par (i := 10) (j := 11) rfl (by assumption) rfl rfl (by decide) rfl rfl ?ka (by rfl); (case ka => wtm_at "fo a"))
  | (refine' ps_par (i := 11) (j := 12) rfl (by assumption) rfl rfl (by decide) rfl rfl ?ka (by rfl); (case ka => wtm_at "fo a"))
  | (refine' ps_par (i := 12) (j := 13) rfl (by assumption) rfl rfl (by decide) rfl rfl ?ka (by rfl); (case ka => wtm_at "fo a"))
  | (refine' ps_par (i := 13) (j := 14) rfl (by assumption) rfl rfl (by decide) rfl rfl ?ka (by rfl); (case ka => wtm_at "fo a"))
  | (refine' ps_par (i := 14) (j := 15) rfl (by assumption) rfl rfl (by decide) rfl rfl ?ka (by rfl); (case ka => wtm_at "fo a"))
  | fail "no")
local macro_rules | `(tactic| wtm_at "fo g") => `(tactic| first
  | ((with_reducible show PG _ (.Name _ _) _); wtm_at "fo gn")
  | ((with_reducible show PG _ (.Tuple _ _ _) _); apply PG_or; (· refine' pg_tup2 (by assumption) (by exact rfl) rfl ?kg; (case kg => wtm_at "fo gs")); (· refine' pg_unl2 (by assumption) (by exact rfl) rfl ?kg; (case kg => wtm_at "fo gs")))
  | fail "no")
local macro_rules | `(tactic| wtm_at "fo gs") => `(tactic| first
  | exact pgs_nil
  | (refine' pgs_cons ?k1 ?k2; (case k1 => wtm_at "fo g"); (case k2 => wtm_at "fo gs"))
  | fail "no")
local macro_rules | `(tactic| wtm_at "fo i") => `(tactic| first
  | ((with_reducible show PI _ _ (.Call (.Name (Str.ofString "range") _) [_] _ _) _); refine' pi_range1 (by rfl) (by assumption) ?ka; (case ka => wtm_at "fo a"))
  | ((with_reducible show PI _ _ (.Call (.Name (Str.ofString "range") _) [_, _] _ _) _); refine' pi_range2 (by rfl) (by assumption) ?ka; (case ka => wtm_at "fo a"))
  | ((with_reducible show PI _ _ (.Call (.Name (Str.ofString "enumerate") _) [_] _ _) _); refine' pi_enum (by rfl) (by assumption) ?ka; (case ka => wtm_at "fo a"))
  | (refine' pi_listK (by assumption) (by exact rfl) ?ka; (case ka => wtm_at "fo e"))
  | fail "no")
local macro_rules | `(tactic| wtm_at "fo s") => `(tactic| first
  | ((with_reducible show PS _ (.While _ _ _ _) _); refine' ps_while PassesOwn.never ?kt ?kb; (case kt => wtm_at "fo t"); (case kb => wtm_at "fo ss"))
  | ((with_reducible show PS _ (.For _ _ _ _ _) _); refine' ps_for PassesOwn.never rfl ?ki ?kg ?kb; (case ki => wtm_at "fo i"); (case kg => wtm_at "fo g"); (case kb => wtm_at "fo ss"))
  | ((with_reducible show PS _ (.Assign [.Name _ _] (.ListComp _ [_] _ _) _) _); wtm_at "fo setlc")
  | ((with_reducible show PS _ (.Assign [.Name _ _] _ _) _); wtm_at "fo set")
  | ((with_reducible show PS _ (.Assign [.Tuple [.Name _ _, .Name _ _] _ _] (.Tuple [_, _] _ _) _) _); wtm_at "fo par")
  | ((with_reducible show PS _ (.Assign [.Subscript _ _ _] _ _) _); refine' ps_asg ?ka (pg_sub ?kb ?kc set_list); (case ka => wtm_at "fo e"); (case kb => wtm_at "fo e"); (case kc => wtm_at "fo e"))
  | ((with_reducible show PS _ (.Return (some _) _) _); apply ps_ret; wtm_at "fo e")
  | ((with_reducible show PS _ (.Expr _ _) _); refine' ps_expr ?ka; (case ka => wtm_at "fo e"))
  | ((with_reducible show PS _ (.If _ _ _ _) _); apply ps_if; (· wtm_at "fo t"); (· wtm_at "fo ss"); (· wtm_at "fo ss"))
  | fail "no")
local macro_rules | `(tactic| wtm_at "fo ss") => `(tactic| first
  | with_reducible exact pss_nil
  | ((with_reducible show PSs _ [_] _); apply pss_one; wtm_at "fo s")
  | (apply pss_cons; (· wtm_at "fo s"); (· wtm_at "fo ss"))
  | fail "no")
local macro_rules | `(tactic| wtm_at "fo hp") => `(tactic| first
  | assumption
  | exact upd_same
  | (refine (upd_ne ?ne).trans ?hp; (case ne => wtm_at "fo ne"); (case hp => wtm_at "fo hp"))
  | fail "no")
local macro_rules | `(tactic| wtm_at "fo ne") => `(tactic| first
  | assumption
  | (apply Ne.symm; assumption)
  | exact ne_of_none (by assumption) (by assumption)
  | exact Ne.symm (ne_of_none (by assumption) (by assumption))
  | fail "no")
local macro_rules | `(tactic| wtm_at "fo sz") => `(tactic| first
  | exact (Nat.le_of_ble_eq_true rfl : _ ≤ sizeLine)
  | exact (Nat.le_of_ble_eq_true rfl : _ < sizeLine)
  | exact Nat.lt_of_le_of_lt (m := 100000) (by first | assumption | omega | (simp; omega)) (by decide)
  | exact Nat.le_trans (m := 100000) (by first | assumption | omega | (simp; omega)) (by decide)
  | fail "no")
local macro_rules | `(tactic| wtm_at "fo r1") => `(tactic| first
  | refine ⟨(Nat.le_of_ble_eq_true rfl : _ ≤ sizeLine), fun p np => ?_⟩
  | (refine' ⟨_, _, rfl, Or.inl (SqL.of ?h), ?_⟩; (case h => wtm_at "fo hp"))
  | refine ⟨_, rfl, ?_⟩
  | refine ⟨_, _, rfl, rfl, ?_⟩
  | refine ⟨_, _, rfl, ⟨by omega, by omega, by omega, by omega⟩, ?_⟩
  | refine ⟨_, rfl, by omega, by omega, ?_⟩
  | refine Or.inl ⟨_, rfl, ?_⟩
  | refine Or.inl ⟨rfl, ?_⟩
  | refine Or.inl ⟨_, _, rfl, rfl, ?_⟩
  | (refine' Or.inl ⟨_, _, _, _, rfl, rfl, SqL.of ?h, ?a, ?_⟩; (case h => wtm_at "fo hp"); (case a => rfl))
  | (refine' ⟨_, _, _, _, rfl, rfl, ?h, ?a, ?_⟩; (case h => wtm_at "fo hp"); (case a => rfl))
  | (refine' ⟨.inl ⟨rfl, _, SqL.of ?h⟩, ?_⟩; (case h => wtm_at "fo hp"))
  | (refine' ⟨_, _, _, rfl, rfl, ?h, ?z, ?_⟩; (case h => wtm_at "fo hp"); (case z => wtm_at "fo sz"))
  | (refine' ⟨_, rfl, ⟨_, SqL.of ?h⟩, ?_⟩; (case h => wtm_at "fo hp"))
  | fail "no")
local macro_rules | `(tactic| wtm_at "fo side") => `(tactic| ((try dsimp only [CMul, CDiv]); first
  | assumption
  | decide
  | omega
  | exact ⟨by decide, by decide⟩
  | exact ⟨by omega, by omega⟩
  | decide +kernel
  | fail "no"))
local macro_rules | `(tactic| wtm_at "fo r2") => `(tactic| first
  | wtm_at "fo r1"
  | refine And.intro (by wtm_at "fo side") ?_
  | fail "no")
local macro_rules | `(tactic| wtm_at "fo r") => `(tactic| repeat wtm_at "fo r2")
local macro_rules | `(tactic| wtm_at "fo v") => `(tactic| first
  | ((with_reducible show PE _ (.Name (Str.ofString "int") _) _); exact pe_bltn (v := .ty "int") (by rfl) (by assumption) (by decide +kernel) rfl)
  | ((with_reducible show PE _ (.Name (Str.ofString "list") _) _); exact pe_bltn (v := .ty "list") (by rfl) (by assumption) (by decide +kernel) rfl)
  | ((with_reducible show PE _ (.Name (Str.ofString "MOST_PLACES") _) _); exact pe_glob (v := .int 12) (by rfl) (by assumption) ⟨_, rfl⟩)
  | fail "no")
local macro_rules | `(tactic| wtm_at "fo e") => `(tactic| first
  | ((with_reducible show PE _ (.BoolOp .And [_] _) _); apply pe_one; wtm_at "fo e")
  | ((with_reducible show PE _ (.BoolOp .And _ _) _); apply pe_and; (· wtm_at "fo e"); (· wtm_at "fo e"))
  | ((with_reducible show PE _ (.Compare _ [.IsNot] [.Constant (.bool true) _ _] _) _); refine' pe_cmpR op_notT ?ka ?kb (nomark _); (case ka => wtm_at "fo e"); (case kb => wtm_at "fo e"))
  | ((with_reducible show PE _ (.Compare _ [.LtE, .LtE] _ _) _); refine' pe_chain op_le op_le ?ka ?kb ?kc; (case ka => wtm_at "fo e"); (case kb => wtm_at "fo e"); (case kc => wtm_at "fo e"))
  | ((with_reducible show PE _ (.Call (.Name (Str.ofString "isinstance") _) _ _ _) _); refine' pe_callB (call_isiK' (by assumption) (by exact rfl)) (by rfl) (by assumption) (by decide +kernel) ?ka; (case ka => wtm_at "fo a"))
  | ((with_reducible show PE _ (.Call (.Attribute _ (Str.ofString "bit_length") _) [] [] _) _); refine' pe_bits ?ka; (case ka => wtm_at "fo e"))
  | fail "no")
local macro_rules | `(tactic| wtm_at "fo t") => `(tactic| first
  | ((with_reducible show PT _ (.Compare _ [.IsNot] [.Constant (.bool true) _ _] _) _); refine' pt_cmpR op_notT ?ka ?kb (nomark _); (case ka => wtm_at "fo e"); (case kb => wtm_at "fo e"))
  | ((with_reducible show PT _ (.Compare _ [.Lt, .Lt, .LtE] _ _) _); refine' pt_chain3 op_lt op_lt op_le ?ka ?kb ?kc ?kd; (case ka => wtm_at "fo e"); (case kb => wtm_at "fo e"); (case kc => wtm_at "fo e"); (case kd => wtm_at "fo e"))
  | fail "no")
local macro_rules | `(tactic| wtm_at "fo s") => `(tactic| first
  | ((with_reducible show PS _ (.Raise _ _ _) _); exact ps_never)
  | ((with_reducible show PS _ (.Continue _) _); exact ps_continue)
  | ((with_reducible show PS _ (.AugAssign (.Subscript _ _ _) .BitOr _ _) _); refine' ps_augS ?ka ?kb get_list ?kc ip_or set_list; (case ka => wtm_at "fo e"); (case kb => wtm_at "fo e"); (case kc => wtm_at "fo e"))
  | ((with_reducible show PS _ (.Assign [.Tuple _ _ _] (.Name _ _) _) _); refine' ps_asg ?ka ?kb; (case ka => wtm_at "fo e"); (case kb => wtm_at "fo g"))
  | fail "no")
local macro_rules | `(tactic| wtm_at "fo e") => `(tactic| (with_reducible show PE _ (.ListComp _ [_, _] _ _) _); wtm_at "fo lc2")
local macro_rules | `(tactic| wtm_at "fo lc2") => `(tactic| (refine' pe_lc2O (vs1 := [13]) (by assumption) (by exact rfl) (by exact rfl) (by wtm_at "fo own") (by rfl) (by decide +kernel) rfl ?ki ?kg ?kt ?ki1 ?kg1 ?kt1 ?ke; (case ki => wtm_at "fo i"); (case kg => (intro _ _ _ _ _; wtm_at "fo g")); (case kt => (intro _ _ _ _ _; wtm_at "fo ts")); (case ki1 => (intro _ _ _ _ _; wtm_at "fo i")); (case kg1 => (intro _ _ _ _ _; wtm_at "fo g")); (case kt1 => (intro _ _ _ _ _; wtm_at "fo ts")); (case ke => (intro _ _ _ _ _; wtm_at "fo e"))))
local macro_rules | `(tactic| wtm_at "fo meth") => `(tactic| ((with_reducible show PE _ (.Call (.Attribute _ (Str.ofString "extend") _) _ _ _) _); refine' pe_bm PySem.F.plainAttrs_list PySem.F.slot_list_extend PySem.F.type_list_extend mt_extend ?ka ?kb; (case ka => wtm_at "fo e"); (case kb => wtm_at "fo a")))

theorem LsAt.pushS {H0 H H2 : Hp} {D r : Addr} {rs : List Addr} {ts : List (List Int)} {t : List Int} (L : LsAt H0 H D rs ts) (s : Same H H2) (nr : H r = none) (hr : H2 r = some (.lst (t.map V.int))) (n0 : H0 r = none) :
    LsAt H0 (upd H2 D (.lst (rs.map V.ref ++ [V.ref r]))) D (rs ++ [r]) (ts ++ [t]) := by
  have hDr : D ≠ r := ne_of_none L.hD nr
  have hrn : r ∉ rs := fun h => by
    obtain ⟨o, e⟩ := L.trk h
    rw [nr] at e
    cases e
  refine ⟨?_, ?_, ?_, ?_, ?_, ?_⟩
  · rw [upd_same, List.map_append]
    rfl
  · rw [List.nodup_append]
    refine ⟨L.nd, by simp, ?_⟩
    intro a ha b hb
    simp at hb
    subst hb
    rintro rfl
    exact hrn ha
  · rw [List.length_append, List.length_append, L.len]
    rfl
  · intro i a u ha hu
    by_cases hi : i < rs.length
    · rw [List.getElem?_append_left hi] at ha
      rw [List.getElem?_append_left (by rw [← L.len]; exact hi)] at hu
      have hm := List.mem_of_getElem? ha
      rw [upd_ne (show a ≠ D from fun e => L.nD (by rw [← e]; exact hm))]
      exact s _ _ (L.at_ i a u ha hu)
    · rw [List.getElem?_append_right (by omega)] at ha
      rw [List.getElem?_append_right (by rw [← L.len]; omega), ← L.len] at hu
      have e0 : i - rs.length = 0 := by
        have := (List.getElem?_eq_some_iff.mp ha).1
        simp at this
        omega
      rw [e0] at ha hu
      simp at ha hu
      subst ha hu
      rw [upd_ne hDr.symm]
      exact hr
  · intro a ha
    rcases List.mem_append.mp ha with ha | ha
    · exact L.fr a ha
    · simp at ha
      subst ha
      exact n0
  · intro h
    rcases List.mem_append.mp h with h | h
    · exact L.nD h
    · simp at h
      exact hDr h
/-- lines of our own, all new -/
structure PsF (H0 H : Hp) (D : Addr) (rs : List Addr) (es : List Edge) : Prop where
  ps : PsAt H D rs es
  nd : rs.Nodup
  fr : ∀ r ∈ rs, H0 r = none
theorem PsF.push {H0 H : Hp} {D r : Addr} {rs : List Addr} {es : List Edge} (h : PsF H0 H D rs es) (nr : H r = none) (n0 : H0 r = none) (e : Edge) :
    PsF H0 (upd (upd H r (.lst [.int e.1, .int e.2])) D (.lst (rs.map V.ref ++ [V.ref r]))) D (rs ++ [r]) (es ++ [e]) := by
  refine ⟨h.ps.push nr e, ?_, ?_⟩
  · rw [List.nodup_append]
    refine ⟨h.nd, by simp, ?_⟩
    intro a ha b hb
    simp at hb
    subst hb
    rintro rfl
    obtain ⟨e, _, he⟩ := h.ps.mem ha
    rw [nr] at he
    cases he
  · intro a ha
    rcases List.mem_append.mp ha with ha | ha
    · exact h.fr a ha
    · simp at ha
      subst ha
      exact n0
/-- one such list behind another one, in its place -/
theorem PsF.ext {H0 H H2 : Hp} {L D : Addr} {rs rs2 : List Addr} {es es2 : List Edge} (h : PsF H0 H L rs es) (s : Same H H2) (h2 : PsF H H2 D rs2 es2) (h0 : Same H0 H) (nL : H0 L = none) :
    PsF H0 (upd H2 L (.lst (rs.map V.ref ++ rs2.map V.ref))) L (rs ++ rs2) (es ++ es2) := by
  have k1 : ∀ r ∈ rs2, r ≠ L := fun r hr e => by
    have := h2.fr r hr
    rw [e, h.ps.hD] at this
    cases this
  have k2 : ∀ r ∈ rs, r ≠ L := fun r hr => h.ps.ne hr
  refine ⟨⟨by rw [upd_same, List.map_append], by rw [List.length_append, List.length_append, h.ps.len, h2.ps.len], ?_⟩, ?_, ?_⟩
  · intro i a u ha hu
    by_cases hi : i < rs.length
    · rw [List.getElem?_append_left hi] at ha
      rw [List.getElem?_append_left (by rw [← h.ps.len]; exact hi)] at hu
      rw [upd_ne (k2 a (List.mem_of_getElem? ha))]
      exact s _ _ (h.ps.at_ i a u ha hu)
    · rw [List.getElem?_append_right (by omega)] at ha
      rw [List.getElem?_append_right (by rw [← h.ps.len]; omega), ← h.ps.len] at hu
      rw [upd_ne (k1 a (List.mem_of_getElem? ha))]
      exact h2.ps.at_ _ a u ha hu
  · rw [List.nodup_append]
    refine ⟨h.nd, h2.nd, ?_⟩
    intro a ha b hb e
    subst e
    obtain ⟨e, _, he⟩ := h.ps.mem ha
    rw [h2.fr a hb] at he
    cases he
  · intro a ha
    rcases List.mem_append.mp ha with ha | ha
    · exact h.fr a ha
    · exact h0.free (h2.fr a ha)
theorem rows_head {n m : Nat} {es : List Edge} {a : Nat} (h : Simp n es) (ha : a < n) : (rowsM n es m a)[0]? = some ((a * m : Nat) : Int) := by
  unfold rowsM
  have hm : ((a : Int) + 1) ∈ (besideM n es ((a : Int) + 1)).filter fun one => decide (((a : Int) + 1) ≤ one) :=
    List.mem_filter.mpr ⟨(besideM_mem h (by omega) (by omega) _).mpr (List.mem_cons_self ..), decide_eq_true (Int.le_refl _)⟩
  have hs : ((besideM n es ((a : Int) + 1)).filter fun one => decide (((a : Int) + 1) ≤ one)).Pairwise (· < ·) := List.Pairwise.filter _ (besideM_lt n es _)
  have hge : ∀ x ∈ (besideM n es ((a : Int) + 1)).filter fun one => decide (((a : Int) + 1) ≤ one), (a : Int) + 1 ≤ x := fun x hx => of_decide_eq_true (List.mem_filter.mp hx).2
  cases hl : (besideM n es ((a : Int) + 1)).filter fun one => decide (((a : Int) + 1) ≤ one) with
  | nil => rw [hl] at hm; cases hm
  | cons y r =>
    rw [hl] at hm hs hge
    have : y = (a : Int) + 1 := by
      rcases List.mem_cons.mp hm with e | e
      · exact e.symm
      · have h1 := List.rel_of_pairwise_cons hs e
        have h2 := hge y (List.mem_cons_self ..)
        omega
    subst this
    rw [List.map_cons, List.getElem?_cons_zero, Int.add_sub_cancel, Int.natCast_mul]
theorem len_flat {α : Type} {f : Nat → List α} {k : Nat} (h : ∀ x, (f x).length ≤ k) : ∀ a : Nat, ((List.range a).flatMap f).length ≤ k * a
  | 0 => by simp
  | a + 1 => by
    rw [range_flat, List.length_append, Nat.mul_succ]
    have := len_flat h a
    have := h a
    omega
theorem len_flatL {α β : Type} {f : α → List β} {k : Nat} (h : ∀ x, (f x).length ≤ k) : ∀ l : List α, (l.flatMap f).length ≤ k * l.length
  | [] => by simp
  | x :: l => by
    rw [List.flatMap_cons, List.length_append, List.length_cons, Nat.mul_succ]
    have := len_flatL h l
    have := h x
    omega
theorem rowE_len {n m : Nat} {es fs : List Edge} (h4 : n ≤ 12) (h5 : m ≤ 12) (a b : Nat) : (rowE n es m fs a b).length ≤ 144 := by
  unfold rowE highsM rowsM
  rw [List.length_map]
  refine Nat.le_trans (len_flatL (k := 12) (fun r => ?_) _) ?_
  · rw [List.length_map]
    exact Nat.le_trans (List.length_filter_le ..) (besideM_length h5)
  · rw [List.length_map]
    have := Nat.le_trans (List.length_filter_le (fun one => decide (((a : Int) + 1) ≤ one)) (besideM n es ((a : Int) + 1))) (besideM_length h4)
    omega
variable {P : Program} {w : World} {K : PySem.W.Frag} {mg : Str → Option Value} {base : Heap}
@[irreducible] def spPLines : Sp := fun vs H Q _ => ∃ (r1 r2 : Addr) (n m : Nat) (es fs : List Edge), vs = [.ref r1, .ref r2] ∧ 1 ≤ n ∧ 1 ≤ m ∧ n * m ≤ 12 ∧ n ≤ 12 ∧ m ≤ 12 ∧ Simp n es ∧ Simp m fs ∧ H r1 = some (nLst (nearB n es)) ∧ H r2 = some (nLst (nearB m fs)) ∧
  ∀ l rs H', Same H H' → H l = none → PsAt H' l rs (prodM n es m fs) → rs.Nodup → (∀ r ∈ rs, H r = none) → Q (.ref l) H'
theorem call_plines {r1 r2 : Addr} {n m : Nat} {es fs : List Edge} {H : Hp} {Q : VK} {E : XK} (h1 : 1 ≤ n) (h2 : 1 ≤ m) (h3 : n * m ≤ 12) (h4 : n ≤ 12) (h5 : m ≤ 12) (hS : Simp n es) (hS2 : Simp m fs) (a : H r1 = some (nLst (nearB n es))) (b : H r2 = some (nLst (nearB m fs)))
    (fin : ∀ l rs H', Same H H' → H l = none → PsAt H' l rs (prodM n es m fs) → rs.Nodup → (∀ r ∈ rs, H r = none) → Q (.ref l) H') : spPLines [.ref r1, .ref r2] H Q E := by
  unfold spPLines
  exact ⟨r1, r2, n, m, es, fs, rfl, h1, h2, h3, h4, h5, hS, hS2, a, b, fin⟩
set_option maxHeartbeats 8000000 in
theorem ok_plines {f : Addr} {fd : FuncData} (F : Fun K "_product_lines" "_product_lines" s_product_lines f fd) (mn : mg "len" = none) (mr : mg "range" = none) (C3 : Cal P w K mg base "members" 1 ["lot"] spMembers) :
    FnOk P w K mg base CX0 2 f fd ["near", "near_more"] spPLines := by
  refine F.ok sc_product_lines (fun vs H Q E h => ?_) (fun cdv A outer s H vs Q E hr h => ?_)
  · unfold spPLines at h
    obtain ⟨r1, r2, n, m, es, fs, rfl, _⟩ := h
    rfl
  · have nd := sc_product_lines.nd
    have hS := sc_product_lines
    have hKM : KMark K := ⟨⟩
    refine' mk_body ?body ?rd
    case body =>
      show PSs _ [_, _, _, _, _, _] _
      wtm_at "fo ss"
    case rd =>
     unfold spPLines at h
     obtain ⟨r1, r2, n, m, es, fs, rfl, h1, h2, h3, h4, h5, hS1, hS2, ha, hb, fin⟩ := h
     wtm_at "fo r"
     have hla : ((nearB n es).map fun (v : Nat) => V.int v).length = n + 1 := by rw [List.length_map, nearB_length]
     have hlb : ((nearB m fs).map fun (v : Nat) => V.int v).length = m + 1 := by rw [List.length_map, nearB_length]
     refine ⟨⟨_, SqL.of ha⟩, fun D1 nD1 => ?_⟩
     refine lc_list (K := K) (a := r1) (xs := (nearB n es).map fun (v : Nat) => V.int v) (fun i H1 => Same H H1 ∧ ∃ rs, LsAt H H1 D1 rs (((nearB n es).take i).map membersM)) ⟨same_upd (Same.refl _) nD1, [], LsAt.nil upd_same⟩ ?_ ?_ ?_
     · rintro i H1 _ ⟨sm, _⟩
       exact SqL.of (sm _ _ ha)
     · rintro i x H1 hx ⟨sm, rs, hL⟩
       rw [List.getElem?_map] at hx
       cases hv : (nearB n es)[i]? with
       | none => rw [hv] at hx; cases hx
       | some v =>
         rw [hv] at hx
         cases hx
         refine ⟨rfl, _, rfl, ?_⟩
         refine call_members (Nat.lt_of_lt_of_le (nearB_small hS1 hv) (Nat.pow_le_pow_right (by decide) (by omega))) (fun p H2 sm2 np hp => ?_)
         refine ⟨rs.map V.ref, sm2 _ _ hL.hD, ?_, same_upd (sm.trans sm2) nD1, rs ++ [p], ?_⟩
         · rw [List.length_map, hL.len, List.length_map, List.length_take, nearB_length]
           exact Nat.lt_of_le_of_lt (m := 20) (by omega) (by decide)
         · rw [List.take_add_one, hv, List.map_append]
           exact hL.pushS sm2 np hp (sm.free np)
     rintro H1 ⟨sm1, rs1, hL1⟩
     rw [hla, List.take_of_length_le (by rw [nearB_length]; exact Nat.le_refl _), nearB_members hS1] at hL1
     wtm_at "fo r"
     refine ⟨⟨_, SqL.of (sm1 _ _ hb)⟩, fun D2 nD2 => ?_⟩
     refine lc_list (K := K) (a := r2) (xs := (nearB m fs).map fun (v : Nat) => V.int v) (fun i H2 => Same H1 H2 ∧ ∃ rs, LsAt H1 H2 D2 rs (((nearB m fs).take i).map membersM)) ⟨same_upd (Same.refl _) nD2, [], LsAt.nil upd_same⟩ ?_ ?_ ?_
     · rintro i H2 _ ⟨sm, _⟩
       exact SqL.of (sm _ _ (sm1 _ _ hb))
     · rintro i x H2 hx ⟨sm, rs, hL⟩
       rw [List.getElem?_map] at hx
       cases hv : (nearB m fs)[i]? with
       | none => rw [hv] at hx; cases hx
       | some v =>
         rw [hv] at hx
         cases hx
         refine ⟨rfl, _, rfl, ?_⟩
         refine call_members (Nat.lt_of_lt_of_le (nearB_small hS2 hv) (Nat.pow_le_pow_right (by decide) (by omega))) (fun p H3 sm2 np hp => ?_)
         refine ⟨rs.map V.ref, sm2 _ _ hL.hD, ?_, same_upd (sm.trans sm2) nD2, rs ++ [p], ?_⟩
         · rw [List.length_map, hL.len, List.length_map, List.length_take, nearB_length]
           exact Nat.lt_of_le_of_lt (m := 20) (by omega) (by decide)
         · rw [List.take_add_one, hv, List.map_append]
           exact hL.pushS sm2 np hp (sm.free np)
     rintro H2 ⟨sm2, rs2, hL2⟩
     rw [hlb, List.take_of_length_le (by rw [nearB_length]; exact Nat.le_refl _), nearB_members hS2] at hL2
     have hL1' := hL1.same sm2
     have s2 := sm1.trans sm2
     refine ⟨(Nat.le_of_ble_eq_true rfl : _ ≤ sizeLine), fun L nL => ?_⟩
     have nL0 : H L = none := s2.free nL
     have sL : Same H2 (upd H2 L (.lst [])) := same_upd (Same.refl _) nL
     have hLL : (upd H2 L (.lst [])) L = some (.lst []) := upd_same
     generalize upd H2 L (.lst []) = H3 at *
     wtm_at "fo r"
     refine ⟨r1, _, rfl, Or.inl (SqL.of (sL _ _ (s2 _ _ ha))), _, _, rfl, ⟨by decide, by decide, by omega, by omega⟩, ?_⟩
     have hN : ((((nearB n es).map fun (v : Nat) => V.int v).length : Int) - 1).toNat = n := by rw [hla]; omega
     refine for_range (fun i σ H4 => ∃ mm y7 y8 y10 y11 rs, mm = (m : Int) ∧ σ = [some (.ref r1), some (.ref r2), some (.int mm), some (.ref D1), none, some (.ref D2), some (.ref L), y7, y8, none, y10, y11, none, none] ∧ Same H2 H4 ∧
       PsF H H4 L rs ((List.range i).flatMap fun a => (List.range m).flatMap fun b => rowE n es m fs a b)) ?_ ?_ ?_
     · exact ⟨_, none, none, none, none, [], by rw [hlb]; omega, rfl, sL, PsAt.nil hLL, List.nodup_nil, fun r h => nomatch h⟩
     · rintro a σ H4 hi ⟨mm, y7, y8, y10, y11, rs, rfl, rfl, sm4, hP⟩
       rw [hN] at hi
       have hA4 := hL1'.same sm4
       have hB4 := hL2.same sm4
       have hl1 : rs1.length = n + 1 := by rw [hL1.len]; simp
       have hl2 : rs2.length = m + 1 := by rw [hL2.len]; simp
       have hra : rs1[a + 1]? = some rs1[a + 1] := List.getElem?_eq_getElem _
       have hlst : H4 rs1[a + 1] = some (.lst ((besideM n es ((a : Int) + 1)).map V.int)) := hA4.at_ (a + 1) _ _ hra (by rw [List.getElem?_cons_succ, List.getElem?_map, List.getElem?_range hi]; rfl)
       generalize rs1[a + 1] = ra at *
       wtm_at "fo r"
       refine Or.inl ⟨D1, _, 1 + (a : Int), .ref ra, rfl, rfl, SqL.of hA4.hD, at_of (j := a + 1) (by omega) (by rw [List.getElem?_map, hra]; rfl), ?_⟩
       refine ⟨ra, rfl, ⟨_, SqL.of hlst⟩, fun R nR => ?_⟩
       have nR2 : H2 R = none := sm4.free nR
       refine lc_list (K := K) (a := ra) (xs := (besideM n es ((a : Int) + 1)).map V.int) (fun j H5 => H5 = upd H4 R (.lst (((((besideM n es ((a : Int) + 1)).take j).filter fun one => decide (((a : Int) + 1) ≤ one)).map fun one => (one - 1) * (m : Int)).map V.int))) rfl ?_ ?_ ?_
       · rintro j H5 _ rfl
         exact SqL.of ((upd_ne (ne_of_none hlst nR)).trans hlst)
       · rintro j x H5 hx rfl
         rw [List.getElem?_map] at hx
         cases hv : (besideM n es ((a : Int) + 1))[j]? with
         | none => rw [hv] at hx; cases hx
         | some one =>
           rw [hv] at hx
           cases hx
           have hj : j < (besideM n es ((a : Int) + 1)).length := (List.getElem?_eq_some_iff.mp hv).1
           have hbl := besideM_length (es := es) (p := (a : Int) + 1) h4
           have hor := besideM_rng (List.mem_of_getElem? hv)
           have htk : (besideM n es ((a : Int) + 1)).take (j + 1) = (besideM n es ((a : Int) + 1)).take j ++ [one] := by rw [List.take_add_one, hv]; rfl
           refine ⟨rfl, _, rfl, _, rfl, _, _, rfl, rfl, _, rfl, ?_⟩
           refine ite2 (fun hc => ?_) (fun hc => ?_)
           · have hc := of_decide_eq_true hc
             refine ⟨_, rfl, _, _, rfl, rfl, _, rfl, _, _, rfl, rfl, Or.inr ⟨by omega, by omega⟩, _, upd_same, ?_, ?_⟩
             · rw [List.length_map, List.length_map]
               exact Nat.lt_of_le_of_lt (Nat.le_trans (List.length_filter_le ..) (by rw [List.length_take]; exact Nat.le_trans (Nat.min_le_left _ _) (show j ≤ 20 by omega))) (by decide)
             · rw [upd_upd, htk, List.filter_append, List.map_append, List.map_append]
               simp only [List.filter_cons, List.filter_nil]
               rw [if_pos (decide_eq_true (by omega))]
               rfl
           · rw [htk, List.filter_append, List.map_append, List.map_append]
             simp only [List.filter_cons, List.filter_nil]
             rw [if_neg (fun h => hc (decide_eq_true (by have := of_decide_eq_true h; omega)))]
             simp
       rintro H5 rfl
       rw [List.length_map, List.take_length]
       have hR5 : (upd H4 R (.lst ((((besideM n es ((a : Int) + 1)).filter fun one => decide (((a : Int) + 1) ≤ one)).map fun one => (one - 1) * (m : Int)).map V.int))) R = some (.lst ((rowsM n es m a).map V.int)) := upd_same
       have smR : Same H4 (upd H4 R (.lst ((((besideM n es ((a : Int) + 1)).filter fun one => decide (((a : Int) + 1) ≤ one)).map fun one => (one - 1) * (m : Int)).map V.int))) := same_upd (Same.refl _) nR
       generalize upd H4 R (.lst ((((besideM n es ((a : Int) + 1)).filter fun one => decide (((a : Int) + 1) ≤ one)).map fun one => (one - 1) * (m : Int)).map V.int)) = H5 at *
       have sm5 := sm4.trans smR
       wtm_at "fo r"
       refine ⟨r2, _, rfl, Or.inl (SqL.of (sm5 _ _ (s2 _ _ hb))), _, _, rfl, ⟨by decide, by decide, by omega, by omega⟩, ?_⟩
       have hM : ((((nearB m fs).map fun (v : Nat) => V.int v).length : Int) - 1).toNat = m := by rw [hlb]; omega
       have hP5 : PsF H H5 L rs ((List.range a).flatMap fun a => (List.range m).flatMap fun b => rowE n es m fs a b) := ⟨hP.ps.same smR, hP.nd, hP.fr⟩
       refine for_range (fun j σ H6 => ∃ y10 y11 rt, σ = [some (.ref r1), some (.ref r2), some (.int (m : Int)), some (.ref D1), none, some (.ref D2), some (.ref L), some (.int (1 + (a : Int))), some (.ref R), none, y10, y11, none, none] ∧ Same H2 H6 ∧ H6 R = some (.lst ((rowsM n es m a).map V.int)) ∧
         PsF H H6 L rt (((List.range a).flatMap fun a => (List.range m).flatMap fun b => rowE n es m fs a b) ++ (List.range j).flatMap fun b => rowE n es m fs a b)) ?_ ?_ ?_
       · exact ⟨_, _, rs, rfl, sm5, hR5, by simpa using hP5⟩
       · rintro b σ H6 hb2 ⟨y10, y11, rt, rfl, sm6, hR6, hP6⟩
         rw [hM] at hb2
         have hA6 := hL2.same sm6
         have hrb : rs2[b + 1]? = some rs2[b + 1] := List.getElem?_eq_getElem _
         have hlst2 : H6 rs2[b + 1] = some (.lst ((besideM m fs ((b : Int) + 1)).map V.int)) := hA6.at_ (b + 1) _ _ hrb (by rw [List.getElem?_cons_succ, List.getElem?_map, List.getElem?_range hb2]; rfl)
         generalize rs2[b + 1] = rb at *
         wtm_at "fo r"
         refine Or.inl ⟨R, _, 0, .int ((a * m : Nat) : Int), rfl, rfl, SqL.of hR6, at_of (j := 0) rfl (by rw [List.getElem?_map, rows_head hS1 hi]; rfl), ?_⟩
         wtm_at "fo r"
         have hlow : ((a * m : Nat) : Int) + (1 + (b : Int)) = ((a * m + b + 1 : Nat) : Int) := by omega
         refine ⟨.inl ⟨rfl, _, SqL.of hP6.ps.hD⟩, ?_⟩
         refine ⟨_, rfl, R, rfl, ⟨_, SqL.of hR6⟩, fun D nD => ?_⟩
         have nD2 : H2 D = none := sm6.free nD
         have hrl : (rowsM n es m a).length ≤ 12 := by
           unfold rowsM
           rw [List.length_map]
           exact Nat.le_trans (List.length_filter_le ..) (besideM_length h4)
         have hbl := besideM_length (es := fs) (p := (b : Int) + 1) h5
         have hsz : ∀ {k : Nat} {rd : List Addr} {l : List Edge} {X : Hp}, PsF H6 X D rd l → l.length ≤ k → k ≤ 1000 → (rd.map V.ref).length < sizeLine := fun h1 h2 h3 => by
           rw [List.length_map, h1.ps.len]
           exact Nat.lt_of_le_of_lt (Nat.le_trans h2 h3) (by decide)
         let pt : Int → List Int → List Edge := fun row tw => ((tw.filter fun two => decide (((a * m + b + 1 : Nat) : Int) < row + two)).map fun two => row + two).map fun h => (((a * m + b + 1 : Nat) : Int), h)
         have hpt : ∀ row tw, (pt row tw).length ≤ tw.length := fun row tw => by
           show (List.map _ (List.map _ _)).length ≤ _
           rw [List.length_map, List.length_map]
           exact List.length_filter_le ..
         have hcut : ∀ i, i ≤ 12 → (((rowsM n es m a).take i).flatMap fun row => pt row (besideM m fs ((b : Int) + 1))).length ≤ 12 * 12 := fun i hi12 => by
           rw [List.length_flatMap]
           have : ∀ l : List Int, l.length ≤ 12 → (l.map fun row => (pt row (besideM m fs ((b : Int) + 1))).length).sum ≤ 12 * l.length := fun l _ => by
             induction l with
             | nil => simp
             | cons y r ih =>
               rw [List.map_cons, List.sum_cons, List.length_cons]
               have := hpt y (besideM m fs ((b : Int) + 1))
               have := ih (by simp at *; omega)
               omega
           have h := this ((rowsM n es m a).take i) (by rw [List.length_take]; omega)
           rw [List.length_take] at h
           omega
         refine lc2_list (K := K) (a := R) (xs := (rowsM n es m a).map V.int) (fun i H7 => ∃ rd, Same H6 H7 ∧ PsF H6 H7 D rd (((rowsM n es m a).take i).flatMap fun row => pt row (besideM m fs ((b : Int) + 1)))) ?_ ?_ ?_ ?_
         · exact ⟨[], same_upd (Same.refl _) nD, PsAt.nil upd_same, List.nodup_nil, fun r h => nomatch h⟩
         · rintro i H7 _ ⟨rd, sm7, _⟩
           exact SqL.of (sm7 _ _ hR6)
         · rintro i x H7 hx ⟨rd, sm7, hP7⟩
           rw [List.getElem?_map] at hx
           cases hv : (rowsM n es m a)[i]? with
           | none => rw [hv] at hx; cases hx
           | some row =>
             rw [hv] at hx
             cases hx
             have hi12 : i < 12 := Nat.lt_of_lt_of_le (List.getElem?_eq_some_iff.mp hv).1 hrl
             have hci := hcut i (by omega)
             refine ⟨rfl, _, rfl, _, rfl, Or.inl ⟨D2, _, 1 + (b : Int), .ref rb, rfl, rfl, SqL.of (sm7 _ _ hA6.hD), at_of (j := b + 1) (by omega) (by rw [List.getElem?_map, hrb]; rfl), ?_⟩⟩
             refine ⟨rb, rfl, ⟨_, SqL.of (sm7 _ _ hlst2)⟩, ?_⟩
             have ht : (rowsM n es m a).take (i + 1) = (rowsM n es m a).take i ++ [row] := by rw [List.take_add_one, hv]; rfl
             refine lc2_in (K := K) (a := rb) (xs := (besideM m fs ((b : Int) + 1)).map V.int) (fun j H8 => ∃ rd, Same H6 H8 ∧ PsF H6 H8 D rd ((((rowsM n es m a).take i).flatMap fun row => pt row (besideM m fs ((b : Int) + 1))) ++ pt row ((besideM m fs ((b : Int) + 1)).take j))) ?_ ?_ ?_ ?_
             · exact ⟨rd, sm7, by simpa [pt] using hP7⟩
             · rintro j H8 _ ⟨rd, sm8, _⟩
               exact SqL.of (sm8 _ _ hlst2)
             · rintro j y H8 hy ⟨rd8, sm8, hP8⟩
               rw [List.getElem?_map] at hy
               cases hw : (besideM m fs ((b : Int) + 1))[j]? with
               | none => rw [hw] at hy; cases hy
               | some two =>
                 rw [hw] at hy
                 cases hy
                 have ht2 : (besideM m fs ((b : Int) + 1)).take (j + 1) = (besideM m fs ((b : Int) + 1)).take j ++ [two] := by rw [List.take_add_one, hw]; rfl
                 have hpp : pt row ((besideM m fs ((b : Int) + 1)).take (j + 1)) = pt row ((besideM m fs ((b : Int) + 1)).take j) ++ (if ((a * m + b + 1 : Nat) : Int) < row + two then [(((a * m + b + 1 : Nat) : Int), row + two)] else []) := by
                   show List.map _ (List.map _ (List.filter _ _)) = _
                   rw [ht2, List.filter_append, List.map_append, List.map_append]
                   congr 1
                   by_cases hc : ((a * m + b + 1 : Nat) : Int) < row + two
                   · rw [if_pos hc, List.filter_cons, if_pos (decide_eq_true hc)]
                     rfl
                   · rw [if_neg hc, List.filter_cons, if_neg (fun h => hc (of_decide_eq_true h))]
                     rfl
                 refine ⟨rfl, _, rfl, _, rfl, Or.inl ⟨_, _, rfl, rfl, _, rfl, _, _, rfl, rfl, _, rfl, ?_⟩⟩
                 rw [hlow]
                 refine ite2 (fun hc => ?_) (fun hc => ?_)
                 · have hc := of_decide_eq_true hc
                   refine ⟨_, rfl, _, rfl, _, rfl, Or.inl ⟨_, _, rfl, rfl, (Nat.le_of_ble_eq_true rfl : _ ≤ sizeLine), fun p np => ?_⟩⟩
                   have hDp : D ≠ p := ne_of_none hP8.ps.hD np
                   refine ⟨_, (upd_ne hDp).trans hP8.ps.hD, hsz (k := 300) hP8 ?_ (by decide), rd8 ++ [p], ?_, ?_⟩
                   · rw [List.length_append]
                     have := hpt row ((besideM m fs ((b : Int) + 1)).take j)
                     rw [List.length_take] at this
                     omega
                   · exact same_upd (same_upd sm8 (sm8.free np)) nD
                   · rw [hpp, if_pos hc, ← List.append_assoc]
                     show PsF H6 (upd (upd H8 p (.lst [V.int (((a * m : Nat) : Int) + (1 + (b : Int))), V.int (row + two)])) D (.lst (rd8.map V.ref ++ [V.ref p]))) D (rd8 ++ [p]) _
                     rw [hlow]
                     exact hP8.push np (sm8.free np) (((a * m + b + 1 : Nat) : Int), row + two)
                 · refine ⟨rd8, sm8, ?_⟩
                   rw [hpp, if_neg (fun h => hc (decide_eq_true h)), List.append_nil]
                   exact hP8
             · rintro H8 ⟨rd8, sm8, hP8⟩
               refine ⟨rd8, sm8, ?_⟩
               rw [List.length_map, List.take_length] at hP8
               rw [ht, List.flatMap_append]
               simpa using hP8
         · rintro H7 ⟨rd, sm7, hP7⟩
           rw [List.length_map, List.take_length] at hP7
           have hrow : ((rowsM n es m a).flatMap fun row => pt row (besideM m fs ((b : Int) + 1))) = rowE n es m fs a b := by
             unfold rowE highsM
             rw [List.map_flatMap]
           rw [hrow] at hP7
           have hL7 := sm7 _ _ hP6.ps.hD
           refine ⟨L, D, _, _, rfl, rfl, hL7, hP7.ps.hD, ?_, ?_⟩
           · rw [List.length_map, List.length_map, hP6.ps.len, hP7.ps.len]
             have hk : ∀ a b, (rowE n es m fs a b).length ≤ 144 := rowE_len h4 h5
             have k1 := len_flat (f := fun b => rowE n es m fs a b) (k := 144) (fun b => hk a b) b
             have k2 := len_flat (f := fun a => (List.range m).flatMap fun b => rowE n es m fs a b) (k := 144 * m) (fun a => len_flat (fun b => hk a b) m) a
             have k3 := hk a b
             have k4 : 144 * m * a ≤ 144 * 12 * 12 := Nat.mul_le_mul (Nat.mul_le_mul (Nat.le_refl _) h5) (by omega)
             rw [List.length_append]
             exact Nat.le_trans (m := 100000) (by omega) (by decide)
           · refine ⟨_, _, rt ++ rd, rfl, same_upd (sm6.trans sm7) nL, ?_, ?_⟩
             · rw [upd_ne (ne_of_none hP.ps.hD nR).symm]
               exact sm7 _ _ hR6
             · rw [range_flat, ← List.append_assoc]
               exact hP6.ext sm7 hP7 (s2.trans sm6) nL0
       · rintro σ H6 ⟨y10, y11, rt, rfl, sm6, hR6, hP6⟩
         rw [hM] at hP6
         refine ⟨_, _, _, _, _, rt, rfl, rfl, sm6, ?_⟩
         rw [range_flat]
         exact hP6
     · rintro σ H4 ⟨mm, y7, y8, y10, y11, rs, rfl, rfl, sm4, hP⟩
       rw [hN] at hP
       refine ⟨_, rfl, ?_⟩
       have hp := hP.ps
       rw [show ((List.range n).flatMap fun a => (List.range m).flatMap fun b => rowE n es m fs a b) = prodM n es m fs from prodL_eq hS1 hS2] at hp
       exact fin L rs H4 (s2.trans sm4) nL0 hp hP.nd hP.fr

end Fo

/-! piece D15 -/
namespace Fo
open PySem PySem.Spec PyProof.Rows L2
local macro_rules | `(tactic| wtm_at "fo a") => `(tactic| first
  | exact pa_nil
  | (refine' pa_cons ?k1 ?k2; (case k1 => wtm_at "fo e"); (case k2 => wtm_at "fo a"))
  | fail "no")
local macro_rules | `(tactic| wtm_at "fo v") => `(tactic| first
  | exact pv 0
  | exact pv 1
  | exact pv 2
  | exact pv 3
  | exact pv 4
  | exact pv 5
  | exact pv 6
  | exact pv 7
  | exact pv 8
  | exact pv 9
  | exact pv 10
  | exact pv 11
  | exact pv 12
  | exact pv 13
  | exact pv 14
  | exact pv 15
  | fail "no")
local macro_rules | `(tactic| wtm_at "fo e") => `(tactic| first
  | with_reducible exact pe_int
  | with_reducible exact pe_bl
  | with_reducible exact pe_non
  | with_reducible exact pe_str
  | ((with_reducible show PE _ (.Name _ _) _); wtm_at "fo v")
  | ((with_reducible show PE _ (.BinOp _ .Add _ _) _); apply pe_op opAddB <;> wtm_at "fo e")
  | ((with_reducible show PE _ (.BinOp _ .Sub _ _) _); apply pe_op op_sub <;> wtm_at "fo e")
  | ((with_reducible show PE _ (.BinOp _ .Mult _ _) _); apply pe_op op_mul <;> wtm_at "fo e")
  | ((with_reducible show PE _ (.BinOp _ .Mod _ _) _); apply pe_op op_mod <;> wtm_at "fo e")
  | ((with_reducible show PE _ (.BinOp _ .FloorDiv _ _) _); apply pe_op op_fdiv <;> wtm_at "fo e")
  | ((with_reducible show PE _ (.BinOp _ .Pow _ _) _); apply pe_op op_powW <;> wtm_at "fo e")
  | ((with_reducible show PE _ (.BinOp _ .LShift _ _) _); apply pe_op op_shl <;> wtm_at "fo e")
  | ((with_reducible show PE _ (.BinOp _ .RShift _ _) _); apply pe_op op_shr <;> wtm_at "fo e")
  | ((with_reducible show PE _ (.BinOp _ .BitAnd _ _) _); apply pe_op op_and <;> wtm_at "fo e")
  | ((with_reducible show PE _ (.List _ _) _); apply pe_lst; wtm_at "fo a")
  | ((with_reducible show PE _ (.Tuple _ _ _) _); apply pe_tup; wtm_at "fo a")
  | ((with_reducible show PE _ (.ListComp _ [_] _ _) _); wtm_at "fo lc")
  | ((with_reducible show PE _ (.IfExp _ _ _ _) _); apply pe_ifExp; (· wtm_at "fo t"); (· wtm_at "fo e"); (· wtm_at "fo e"))
  | ((with_reducible show PE _ (.UnaryOp .USub _ _) _); apply pe_un un_neg; wtm_at "fo e")
  | ((with_reducible show PE _ (.Call (.Name _ _) [] (_ :: _) _) _); wtm_at "fo kcall")
  | ((with_reducible show PE _ (.Call (.Name _ _) _ _ _) _); wtm_at "fo call")
  | ((with_reducible show PE _ (.Call (.Attribute _ _ _) _ _ _) _); wtm_at "fo meth")
  | ((with_reducible show PE _ (.Compare _ _ _ _) _); wtm_at "fo cmp")
  | ((with_reducible show PE _ (.Subscript _ (.Slice _ _ _ _) _) _); wtm_at "fo slice")
  | ((with_reducible show PE _ (.Subscript _ _ _) _); refine' pe_ix (ix_seqK (by assumption) (by exact rfl)) ?ka ?kb (fun _ _ => rfl); (case ka => wtm_at "fo e"); (case kb => wtm_at "fo e"))
  | fail "no")
local macro_rules | `(tactic| wtm_at "fo own") => `(tactic| first
  | ((show _ = [0]); kernel_rfl!)
  | ((show _ = [1]); kernel_rfl!)
  | ((show _ = [2]); kernel_rfl!)
  | ((show _ = [3]); kernel_rfl!)
  | ((show _ = [4]); kernel_rfl!)
  | ((show _ = [5]); kernel_rfl!)
  | ((show _ = [6]); kernel_rfl!)
  | ((show _ = [7]); kernel_rfl!)
  | ((show _ = [8]); kernel_rfl!)
  | ((show _ = [9]); kernel_rfl!)
  | ((show _ = [10]); kernel_rfl!)
  | ((show _ = [11]); kernel_rfl!)
  | ((show _ = [12]); kernel_rfl!)
  | ((show _ = [13]); kernel_rfl!)
  | ((show _ = [14]); kernel_rfl!)
  | ((show _ = [15]); kernel_rfl!)
  | ((show _ = [0, 1]); kernel_rfl!)
  | ((show _ = [1, 2]); kernel_rfl!)
  | ((show _ = [2, 3]); kernel_rfl!)
  | ((show _ = [3, 4]); kernel_rfl!)
  | ((show _ = [4, 5]); kernel_rfl!)
  | ((show _ = [5, 6]); kernel_rfl!)
  | ((show _ = [6, 7]); kernel_rfl!)
  | ((show _ = [7, 8]); kernel_rfl!)
  | ((show _ = [8, 9]); kernel_rfl!)
  | ((show _ = [9, 10]); kernel_rfl!)
  | ((show _ = [10, 11]); kernel_rfl!)
  | ((show _ = [11, 12]); kernel_rfl!)
  | ((show _ = [12, 13]); kernel_rfl!)
  | ((show _ = [13, 14]); kernel_rfl!)
  | ((show _ = [14, 15]); kernel_rfl!)
  | fail "no")
local macro_rules | `(tactic| wtm_at "fo ts") => `(tactic| first
  | exact pts_nil
  | (apply pts_one; wtm_at "fo t")
  | fail "no")
local macro_rules | `(tactic| wtm_at "fo lc") => `(tactic| first
  | (refine' pe_lcO (by assumption) (by exact rfl) (by exact rfl) (by wtm_at "fo own") (by decide +kernel) rfl ?ki ?kg ?kt ?ke; (case ki => wtm_at "fo i"); (case kg => (intro _ _ _ _ _; wtm_at "fo g")); (case kt => (intro _ _ _ _ _; wtm_at "fo ts")); (case ke => (intro _ _ _ _ _; wtm_at "fo e")))
  | fail "no")
local macro_rules | `(tactic| wtm_at "fo part") => `(tactic| first
  | exact po_none
  | (apply po_some; wtm_at "fo e")
  | fail "no")
local macro_rules | `(tactic| wtm_at "fo slice") => `(tactic| first
  | ((with_reducible show PE _ (.Subscript _ (.Slice _ _ none _) _) _); refine' pe_slice (sl_listK (by assumption) (by exact rfl)) ?ka ?kb ?kc; (case ka => wtm_at "fo e"); (case kb => wtm_at "fo part"); (case kc => wtm_at "fo part"))
  | ((with_reducible show PE _ (.Subscript _ (.Slice none none (some _) _) _) _); refine' pe_stepK (by assumption) (by exact rfl) ?ka ?kb; (case ka => wtm_at "fo e"); (case kb => wtm_at "fo e"))
  | fail "no")
local macro_rules | `(tactic| wtm_at "fo cmp") => `(tactic| first
  | ((with_reducible show PE _ (.Compare _ [.Lt] _ _) _); refine' pe_cmpR op_lt ?ka ?kb (nomark _); (case ka => wtm_at "fo e"); (case kb => wtm_at "fo e"))
  | ((with_reducible show PE _ (.Compare _ [.LtE] _ _) _); refine' pe_cmpR op_le ?ka ?kb (nomark _); (case ka => wtm_at "fo e"); (case kb => wtm_at "fo e"))
  | ((with_reducible show PE _ (.Compare _ [.Gt] _ _) _); refine' pe_cmpR op_gt ?ka ?kb (nomark _); (case ka => wtm_at "fo e"); (case kb => wtm_at "fo e"))
  | ((with_reducible show PE _ (.Compare _ [.GtE] _ _) _); refine' pe_cmpR op_ge ?ka ?kb (nomark _); (case ka => wtm_at "fo e"); (case kb => wtm_at "fo e"))
  | ((with_reducible show PE _ (.Compare _ [.Eq] _ _) _); refine' pe_cmpR (op_eqK (by assumption) (by exact rfl) (Room.units (by assumption))) ?ka ?kb (nomark _); (case ka => wtm_at "fo e"); (case kb => wtm_at "fo e"))
  | ((with_reducible show PE _ (.Compare _ [.NotEq] _ _) _); refine' pe_cmpR (op_neK (by assumption) (by exact rfl) (Room.units (by assumption))) ?ka ?kb (nomark _); (case ka => wtm_at "fo e"); (case kb => wtm_at "fo e"))
  | fail "no")
local macro_rules | `(tactic| wtm_at "fo tcmp") => `(tactic| first
  | ((with_reducible show PT _ (.Compare _ [.Lt] _ _) _); refine' pt_cmpR op_lt ?ka ?kb (nomark _); (case ka => wtm_at "fo e"); (case kb => wtm_at "fo e"))
  | ((with_reducible show PT _ (.Compare _ [.LtE] _ _) _); refine' pt_cmpR op_le ?ka ?kb (nomark _); (case ka => wtm_at "fo e"); (case kb => wtm_at "fo e"))
  | ((with_reducible show PT _ (.Compare _ [.Gt] _ _) _); refine' pt_cmpR op_gt ?ka ?kb (nomark _); (case ka => wtm_at "fo e"); (case kb => wtm_at "fo e"))
  | ((with_reducible show PT _ (.Compare _ [.GtE] _ _) _); refine' pt_cmpR op_ge ?ka ?kb (nomark _); (case ka => wtm_at "fo e"); (case kb => wtm_at "fo e"))
  | ((with_reducible show PT _ (.Compare _ [.Eq] _ _) _); refine' pt_cmpR (op_eqK (by assumption) (by exact rfl) (Room.units (by assumption))) ?ka ?kb (nomark _); (case ka => wtm_at "fo e"); (case kb => wtm_at "fo e"))
  | ((with_reducible show PT _ (.Compare _ [.NotEq] _ _) _); refine' pt_cmpR (op_neK (by assumption) (by exact rfl) (Room.units (by assumption))) ?ka ?kb (nomark _); (case ka => wtm_at "fo e"); (case kb => wtm_at "fo e"))
  | ((with_reducible show PT _ (.Compare _ [.In] _ _) _); refine' pt_cmpR (op_inK (by assumption) (by exact rfl)) ?ka ?kb rfl; (case ka => wtm_at "fo e"); (case kb => wtm_at "fo e"))
  | ((with_reducible show PT _ (.Compare _ [.NotIn] _ _) _); refine' pt_cmpR (op_notInK (by assumption) (by exact rfl)) ?ka ?kb rfl; (case ka => wtm_at "fo e"); (case kb => wtm_at "fo e"))
  | fail "no")
local macro_rules | `(tactic| wtm_at "fo w") => `(tactic| first
  | ((with_reducible show PW _ (.BoolOp .And [_] _) _); apply pw_and1; wtm_at "fo t")
  | ((with_reducible show PW _ (.BoolOp .And _ _) _); apply pw_and; (· wtm_at "fo t"); (· wtm_at "fo w"))
  | ((with_reducible show PW _ (.BoolOp .Or [_] _) _); apply pw_or1; wtm_at "fo t")
  | ((with_reducible show PW _ (.BoolOp .Or _ _) _); apply pw_or; (· wtm_at "fo t"); (· wtm_at "fo w"))
  | fail "no")
local macro_rules | `(tactic| wtm_at "fo meth") => `(tactic| first
  | ((with_reducible show PE _ (.Call (.Attribute _ (Str.ofString "append") _) _ _ _) _); refine' pe_bm PySem.F.plainAttrs_list PySem.F.slot_list_append PySem.F.type_list_append mt_append ?ka ?kb; (case ka => wtm_at "fo e"); (case kb => wtm_at "fo a"))
  | ((with_reducible show PE _ (.Call (.Attribute _ (Str.ofString "pop") _) [_] _ _) _); refine' pe_bm PySem.F.plainAttrs_list PySem.F.slot_list_pop PySem.F.type_list_pop mt_popAt ?ka ?kb; (case ka => wtm_at "fo e"); (case kb => wtm_at "fo a"))
  | ((with_reducible show PE _ (.Call (.Attribute _ (Str.ofString "pop") _) [] _ _) _); refine' pe_bm0 PySem.F.plainAttrs_list PySem.F.slot_list_pop PySem.F.type_list_pop mt_pop ?ka; (case ka => wtm_at "fo e"))
  | fail "no")
local macro_rules | `(tactic| wtm_at "fo k") => `(tactic| first
  | exact pk_nil
  | (refine' pk_cons ?k1 ?k2; (case k1 => wtm_at "fo e"); (case k2 => wtm_at "fo k"))
  | fail "no")
local macro_rules | `(tactic| wtm_at "fo kcall") => `(tactic| first
  | (refine' pe_kcal (by assumption) (by assumption) (by decide) (by rfl) ?ka; (case ka => wtm_at "fo k"))
  | fail "no")
local macro_rules | `(tactic| wtm_at "fo call") => `(tactic| first
  | ((with_reducible show PE _ (.Call (.Name (Str.ofString "int") _) _ _ _) _); refine' pe_callTy call_intB (by rfl) (by assumption) (by decide +kernel) ?ka; (case ka => wtm_at "fo a"))
  | ((with_reducible show PE _ (.Call (.Name (Str.ofString "len") _) _ _ _) _); refine' pe_callB (call_lenK (by assumption) (by exact rfl)) (by rfl) (by assumption) PySem.boot_len ?ka; (case ka => wtm_at "fo a"))
  | ((with_reducible show PE _ (.Call (.Name (Str.ofString "list") _) [.Call (.Name (Str.ofString "range") _) [_, _] _ _] _ _) _); refine' pe_listRg rfl (by rfl) (by assumption) (prg_2 (by rfl) (by assumption) ?ka ?kb); (case ka => wtm_at "fo e"); (case kb => wtm_at "fo e"))
  | ((with_reducible show PE _ (.Call (.Name (Str.ofString "list") _) _ _ _) _); refine' pe_callTy (call_listK (by assumption) (by exact rfl)) (by rfl) (by assumption) (by decide +kernel) ?ka; (case ka => wtm_at "fo a"))
  | ((with_reducible show PE _ (.Call (.Name (Str.ofString "min") _) [_, _] _ _) _); refine' pe_callB (call_min2 rfl) (by rfl) (by assumption) (by decide +kernel) ?ka; (case ka => wtm_at "fo a"))
  | ((with_reducible show PE _ (.Call (.Name (Str.ofString "sorted") _) [_] _ _) _); refine' pe_callB (cr_sortedK (by assumption) (by exact rfl)) (by rfl) (by assumption) (by decide +kernel) ?ka; (case ka => wtm_at "fo a"))
  | ((with_reducible show PE _ (.Call (.Name (Str.ofString "repr") _) [_] _ _) _); refine' pe_callB (call_reprK (by assumption) (by exact rfl) (by assumption) (Room.units (by assumption))) (by rfl) (by assumption) (by decide +kernel) ?ka; (case ka => wtm_at "fo a"))
  | (refine' pe_cal (by assumption) (by assumption) (by decide) (by rfl) ?ka; (case ka => wtm_at "fo a"))
  | fail "no")
local macro_rules | `(tactic| wtm_at "fo setlc") => `(tactic| first
  | (refine' ps_setLcO (i := 0) (by assumption) (by exact rfl) (by exact rfl) (by wtm_at "fo own") (by decide +kernel) rfl rfl rfl (sw_true rfl rfl rfl (by decide +kernel)) ?ki ?kg ?kt ?ke; (case ki => wtm_at "fo i"); (case kg => (intro _ _ _ _ _; wtm_at "fo g")); (case kt => (intro _ _ _ _ _; wtm_at "fo ts")); (case ke => (intro _ _ _ _ _; wtm_at "fo e")))
  | (refine' ps_setLcO (i := 1) (by assumption) (by exact rfl) (by exact rfl) (by wtm_at "fo own") (by decide +kernel) rfl rfl rfl (sw_true rfl rfl rfl (by decide +kernel)) ?ki ?kg ?kt ?ke; (case ki => wtm_at "fo i"); (case kg => (intro _ _ _ _ _; wtm_at "fo g")); (case kt => (intro _ _ _ _ _; wtm_at "fo ts")); (case ke => (intro _ _ _ _ _; wtm_at "fo e")))
  | (refine' ps_setLcO (i := 2) (by assumption) (by exact rfl) (by exact rfl) (by wtm_at "fo own") (by decide +kernel) rfl rfl rfl (sw_true rfl rfl rfl (by decide +kernel)) ?ki ?kg ?kt ?ke; (case ki => wtm_at "fo i"); (case kg => (intro _ _ _ _ _; wtm_at "fo g")); (case kt => (intro _ _ _ _ _; wtm_at "fo ts")); (case ke => (intro _ _ _ _ _; wtm_at "fo e")))
  | (refine' ps_setLcO (i := 3) (by assumption) (by exact rfl) (by exact rfl) (by wtm_at "fo own") (by decide +kernel) rfl rfl rfl (sw_true rfl rfl rfl (by decide +kernel)) ?ki ?kg ?kt ?ke; (case ki => wtm_at "fo i"); (case kg => (intro _ _ _ _ _; wtm_at "fo g")); (case kt => (intro _ _ _ _ _; wtm_at "fo ts")); (case ke => (intro _ _ _ _ _; wtm_at "fo e")))
  | (refine' ps_setLcO (i := 4) (by assumption) (by exact rfl) (by exact rfl) (by wtm_at "fo own") (by decide +kernel) rfl rfl rfl (sw_true rfl rfl rfl (by decide +kernel)) ?ki ?kg ?kt ?ke; (case ki => wtm_at "fo i"); (case kg => (intro _ _ _ _ _; wtm_at "fo g")); (case kt => (intro _ _ _ _ _; wtm_at "fo ts")); (case ke => (intro _ _ _ _ _; wtm_at "fo e")))
  | (refine' ps_setLcO (i := 5) (by assumption) (by exact rfl) (by exact rfl) (by wtm_at "fo own") (by decide +kernel) rfl rfl rfl (sw_true rfl rfl rfl (by decide +kernel)) ?ki ?kg ?kt ?ke; (case ki => wtm_at "fo i"); (case kg => (intro _ _ _ _ _; wtm_at "fo g")); (case kt => (intro _ _ _ _ _; wtm_at "fo ts")); (case ke => (intro _ _ _ _ _; wtm_at "fo e")))
  | (refine' ps_setLcO (i := 6) (by assumption) (by exact rfl) (by exact rfl) (by wtm_at "fo own") (by decide +kernel) rfl rfl rfl (sw_true rfl rfl rfl (by decide +kernel)) ?ki ?kg ?kt ?ke; (case ki => wtm_at "fo i"); (case kg => (intro _ _ _ _ _; wtm_at "fo g")); (case kt => (intro _ _ _ _ _; wtm_at "fo ts")); (case ke => (intro _ _ _ _ _; wtm_at "fo e")))
  | (refine' ps_setLcO (i := 7) (by assumption) (by exact rfl) (by exact rfl) (by wtm_at "fo own") (by decide +kernel) rfl rfl rfl (sw_true rfl rfl rfl (by decide +kernel)) ?ki ?kg ?kt ?ke; (case ki => wtm_at "fo i"); (case kg => (intro _ _ _ _ _; wtm_at "fo g")); (case kt => (intro _ _ _ _ _; wtm_at "fo ts")); (case ke => (intro _ _ _ _ _; wtm_at "fo e")))
  | (refine' ps_setLcO (i := 8) (by assumption) (by exact rfl) (by exact rfl) (by wtm_at "fo own") (by decide +kernel) rfl rfl rfl (sw_true rfl rfl rfl (by decide +kernel)) ?ki ?kg ?kt ?ke; (case ki => wtm_at "fo i"); (case kg => (intro _ _ _ _ _; wtm_at "fo g")); (case kt => (intro _ _ _ _ _; wtm_at "fo ts")); (case ke => (intro _ _ _ _ _; wtm_at "fo e")))
  | (refine' ps_setLcO (i := 9) (by assumption) (by exact rfl) (by exact rfl) (by wtm_at "fo own") (by decide +kernel) rfl rfl rfl (sw_true rfl rfl rfl (by decide +kernel)) ?ki ?kg ?kt ?ke; (case ki => wtm_at "fo i"); (case kg => (intro _ _ _ _ _; wtm_at "fo g")); (case kt => (intro _ _ _ _ _; wtm_at "fo ts")); (case ke => (intro _ _ _ _ _; wtm_at "fo e")))
  | (refine' ps_setLcO (i := 10) (by assumption) (by exact rfl) (by exact rfl) (by wtm_at "fo own") (by decide +kernel) rfl rfl rfl (sw_true rfl rfl rfl (by decide +kernel)) ?ki ?kg ?kt ?ke; (case ki => wtm_at "fo i"); (case kg => (intro _ _ _ _ _; wtm_at "fo g")); (case kt => (intro _ _ _ _ _; wtm_at "fo ts")); (case ke => (intro _ _ _ _ _; wtm_at "fo e")))
  | (refine' ps_setLcO (i := 11) (by assumption) (by exact rfl) (by exact rfl) (by wtm_at "fo own") (by decide +kernel) rfl rfl rfl (sw_true rfl rfl rfl (by decide +kernel)) ?ki ?kg ?kt ?ke; (case ki => wtm_at "fo i"); (case kg => (intro _ _ _ _ _; wtm_at "fo g")); (case kt => (intro _ _ _ _ _; wtm_at "fo ts")); (case ke => (intro _ _ _ _ _; wtm_at "fo e")))
  | (refine' ps_setLcO (i := 12) (by assumption) (by exact rfl) (by exact rfl) (by wtm_at "fo own") (by decide +kernel) rfl rfl rfl (sw_true rfl rfl rfl (by decide +kernel)) ?ki ?kg ?kt ?ke; (case ki => wtm_at "fo i"); (case kg => (intro _ _ _ _ _; wtm_at "fo g")); (case kt => (intro _ _ _ _ _; wtm_at "fo ts")); (case ke => (intro _ _ _ _ _; wtm_at "fo e")))
  | (refine' ps_setLcO (i := 13) (by assumption) (by exact rfl) (by exact rfl) (by wtm_at "fo own") (by decide +kernel) rfl rfl rfl (sw_true rfl rfl rfl (by decide +kernel)) ?ki ?kg ?kt ?ke; (case ki => wtm_at "fo i"); (case kg => (intro _ _ _ _ _; wtm_at "fo g")); (case kt => (intro _ _ _ _ _; wtm_at "fo ts")); (case ke => (intro _ _ _ _ _; wtm_at "fo e")))
  | (refine' ps_setLcO (i := 14) (by assumption) (by exact rfl) (by exact rfl) (by wtm_at "fo own") (by decide +kernel) rfl rfl rfl (sw_true rfl rfl rfl (by decide +kernel)) ?ki ?kg ?kt ?ke; (case ki => wtm_at "fo i"); (case kg => (intro _ _ _ _ _; wtm_at "fo g")); (case kt => (intro _ _ _ _ _; wtm_at "fo ts")); (case ke => (intro _ _ _ _ _; wtm_at "fo e")))
  | (refine' ps_setLcO (i := 15) (by assumption) (by exact rfl) (by exact rfl) (by wtm_at "fo own") (by decide +kernel) rfl rfl rfl (sw_true rfl rfl rfl (by decide +kernel)) ?ki ?kg ?kt ?ke; (case ki => wtm_at "fo i"); (case kg => (intro _ _ _ _ _; wtm_at "fo g")); (case kt => (intro _ _ _ _ _; wtm_at "fo ts")); (case ke => (intro _ _ _ _ _; wtm_at "fo e")))
  | fail "no")
local macro_rules | `(tactic| wtm_at "fo set") => `(tactic| first
  | (refine' ps_set (i := 0) (by assumption) rfl (by first | exact Or.inl rfl | exact Or.inr rfl) ?ka; (case ka => wtm_at "fo e"))
  | (refine' ps_set (i := 1) (by assumption) rfl (by first | exact Or.inl rfl | exact Or.inr rfl) ?ka; (case ka => wtm_at "fo e"))
  | (refine' ps_set (i := 2) (by assumption) rfl (by first | exact Or.inl rfl | exact Or.inr rfl) ?ka; (case ka => wtm_at "fo e"))
  | (refine' ps_set (i := 3) (by assumption) rfl (by first | exact Or.inl rfl | exact Or.inr rfl) ?ka; (case ka => wtm_at "fo e"))
  | (refine' ps_set (i := 4) (by assumption) rfl (by first | exact Or.inl rfl | exact Or.inr rfl) ?ka; (case ka => wtm_at "fo e"))
  | (refine' ps_set (i := 5) (by assumption) rfl (by first | exact Or.inl rfl | exact Or.inr rfl) ?ka; (case ka => wtm_at "fo e"))
  | (refine' ps_set (i := 6) (by assumption) rfl (by first | exact Or.inl rfl | exact Or.inr rfl) ?ka; (case ka => wtm_at "fo e"))
  | (refine' ps_set (i := 7) (by assumption) rfl (by first | exact Or.inl rfl | exact Or.inr rfl) ?ka; (case ka => wtm_at "fo e"))
  | (refine' ps_set (i := 8) (by assumption) rfl (by first | exact Or.inl rfl | exact Or.inr rfl) ?ka; (case ka => wtm_at "fo e"))
  | (refine' ps_set (i := 9) (by assumption) rfl (by first | exact Or.inl rfl | exact Or.inr rfl) ?ka; (case ka => wtm_at "fo e"))
  | (refine' ps_set (i := 10) (by assumption) rfl (by first | exact Or.inl rfl | exact Or.inr rfl) ?ka; (case ka => wtm_at "fo e"))
  | (refine' ps_set (i := 11) (by assumption) rfl (by first | exact Or.inl rfl | exact Or.inr rfl) ?ka; (case ka => wtm_at "fo e"))
  | (refine' ps_set (i := 12) (by assumption) rfl (by first | exact Or.inl rfl | exact Or.inr rfl) ?ka; (case ka => wtm_at "fo e"))
  | (refine' ps_set (i := 13) (by assumption) rfl (by first | exact Or.inl rfl | exact Or.inr rfl) ?ka; (case ka => wtm_at "fo e"))
  | fail "no")
local macro_rules | `(tactic| wtm_at "fo t") => `(tactic| first
  | ((with_reducible show PT _ (.BoolOp _ _ _) _); apply PW.pt; wtm_at "fo w")
  | ((with_reducible show PT _ (.UnaryOp .Not _ _) _); apply pt_not; wtm_at "fo t")
  | ((with_reducible show PT _ (.Compare _ _ _ _) _); wtm_at "fo tcmp")
  | (refine' pt_truthK (by assumption) (by exact rfl) ?ka (by intro _; rfl); (case ka => wtm_at "fo e"))
  | fail "no")
local macro_rules | `(tactic| wtm_at "fo gn") => `(tactic| first
  | exact pg_name (i := 0) (by assumption) rfl (by first | exact Or.inl rfl | exact Or.inr rfl)
  | exact pg_name (i := 1) (by assumption) rfl (by first | exact Or.inl rfl | exact Or.inr rfl)
  | exact pg_name (i := 2) (by assumption) rfl (by first | exact Or.inl rfl | exact Or.inr rfl)
  | exact pg_name (i := 3) (by assumption) rfl (by first | exact Or.inl rfl | exact Or.inr rfl)
  | exact pg_name (i := 4) (by assumption) rfl (by first | exact Or.inl rfl | exact Or.inr rfl)
  | exact pg_name (i := 5) (by assumption) rfl (by first | exact Or.inl rfl | exact Or.inr rfl)
  | exact pg_name (i := 6) (by assumption) rfl (by first | exact Or.inl rfl | exact Or.inr rfl)
  | exact pg_name (i := 7) (by assumption) rfl (by first | exact Or.inl rfl | exact Or.inr rfl)
  | exact pg_name (i := 8) (by assumption) rfl (by first | exact Or.inl rfl | exact Or.inr rfl)
  | exact pg_name (i := 9) (by assumption) rfl (by first | exact Or.inl rfl | exact Or.inr rfl)
  | exact pg_name (i := 10) (by assumption) rfl (by first | exact Or.inl rfl | exact Or.inr rfl)
  | exact pg_name (i := 11) (by assumption) rfl (by first | exact Or.inl rfl | exact Or.inr rfl)
  | exact pg_name (i := 12) (by assumption) rfl (by first | exact Or.inl rfl | exact Or.inr rfl)
  | exact pg_name (i := 13) (by assumption) rfl (by first | exact Or.inl rfl | exact Or.inr rfl)
  | exact pg_name (i := 14) (by assumption) rfl (by first | exact Or.inl rfl | exact Or.inr rfl)
  | exact pg_name (i := 15) (by assumption) rfl (by first | exact Or.inl rfl | exact Or.inr rfl)
  | fail "no")
local macro_rules | `(tactic| wtm_at "fo par") => `(tactic| first
  | (refine' ps_par (i := 0) (j := 1) rfl (by assumption) rfl rfl (by decide) rfl rfl ?ka (by rfl); (case ka => wtm_at "fo a"))
  | (refine' ps_par (i := 1) (j := 2) rfl (by assumption) rfl rfl (by decide) rfl rfl ?ka (by rfl); (case ka => wtm_at "fo a"))
  | (refine' ps_par (i := 2) (j := 3) rfl (by assumption) rfl rfl (by decide) rfl rfl ?ka (by rfl); (case ka => wtm_at "fo a"))
  | (refine' ps_par (i := 3) (j := 4) rfl (by assumption) rfl rfl (by decide) rfl rfl ?ka (by rfl); (case ka => wtm_at "fo a"))
  | (refine' ps_par (i := 4) (j := 5) rfl (by assumption) rfl rfl (by decide) rfl rfl ?ka (by rfl); (case ka => wtm_at "fo a"))
  | (refine' ps_par (i := 5) (j := 6) rfl (by assumption) rfl rfl (by decide) rfl rfl ?ka (by rfl); (case ka => wtm_at "fo a"))
  | (refine' ps_par (i := 6) (j := 7) rfl (by assumption) rfl rfl (by decide) rfl rfl ?ka (by rfl); (case ka => wtm_at "fo a"))
  | (refine' ps_par (i := 7) (j := 8) rfl (by assumption) rfl rfl (by decide) rfl rfl ?ka (by rfl); (case ka => wtm_at "fo a"))
  | (refine' ps_par (i := 8) (j := 9) rfl (by assumption) rfl rfl (by decide) rfl rfl ?ka (by rfl); (case ka => wtm_at "fo a"))
  | (refine' ps_par (i := 9) (j := 10) rfl (by assumption) rfl rfl (by decide) rfl rfl ?ka (by rfl); (case ka => wtm_at "fo a"))
  | (refine' ps_par (i := 10) (j := 11) rfl (by assumption) rfl rfl (by decide) rfl rfl ?ka (by rfl); (case ka => wtm_at "fo a"))
  | (refine' ps_par (i := 11) (j := 12) rfl (by assumption) rfl rfl (by decide) rfl rfl ?ka (by rfl); (case ka => wtm_at "fo a"))
  | (refine' ps_par (i := 12) (j := 13) rfl (by assumption) rfl rfl (by decide) rfl rfl ?ka (by rfl); (case ka => wtm_at "fo a"))
  | (refine' ps_par (i := 13) (j := 14) rfl (by assumption) rfl rfl (by decide) rfl rfl ?ka (by rfl); (case ka => wtm_at "fo a"))
  | (refine' ps_par (i := 14) (j := 15) rfl (by assumption) rfl rfl (by decide) rfl rfl ?ka (by rfl); (case ka => wtm_at "fo a"))
  | fail "no")
local macro_rules | `(tactic| wtm_at "fo g") => `(tactic| first
  | ((with_reducible show PG _ (.Name _ _) _); wtm_at "fo gn")
  | ((with_reducible show PG _ (.Tuple _ _ _) _); apply PG_or; (· refine' pg_tup2 (by assumption) (by exact rfl) rfl ?kg; (case kg => wtm_at "fo gs")); (· refine' pg_unl2 (by assumption) (by exact rfl) rfl ?kg; (case kg => wtm_at "fo gs")))
  | fail "no")
local macro_rules | `(tactic| wtm_at "fo gs") => `(tactic| first
  | exact pgs_nil
  | (refine' pgs_cons ?k1 ?k2; (case k1 => wtm_at "fo g"); (case k2 => wtm_at "fo gs"))
  | fail "no")
local macro_rules | `(tactic| wtm_at "fo i") => `(tactic| first
  | ((with_reducible show PI _ _ (.Call (.Name (Str.ofString "range") _) [_] _ _) _); refine' pi_range1 (by rfl) (by assumption) ?ka; (case ka => wtm_at "fo a"))
  | ((with_reducible show PI _ _ (.Call (.Name (Str.ofString "range") _) [_, _] _ _) _); refine' pi_range2 (by rfl) (by assumption) ?ka; (case ka => wtm_at "fo a"))
  | ((with_reducible show PI _ _ (.Call (.Name (Str.ofString "enumerate") _) [_] _ _) _); refine' pi_enum (by rfl) (by assumption) ?ka; (case ka => wtm_at "fo a"))
  | (refine' pi_listK (by assumption) (by exact rfl) ?ka; (case ka => wtm_at "fo e"))
  | fail "no")
local macro_rules | `(tactic| wtm_at "fo s") => `(tactic| first
  | ((with_reducible show PS _ (.While _ _ _ _) _); refine' ps_while PassesOwn.never ?kt ?kb; (case kt => wtm_at "fo t"); (case kb => wtm_at "fo ss"))
  | ((with_reducible show PS _ (.For _ _ _ _ _) _); refine' ps_for PassesOwn.never rfl ?ki ?kg ?kb; (case ki => wtm_at "fo i"); (case kg => wtm_at "fo g"); (case kb => wtm_at "fo ss"))
  | ((with_reducible show PS _ (.Assign [.Name _ _] (.ListComp _ [_] _ _) _) _); wtm_at "fo setlc")
  | ((with_reducible show PS _ (.Assign [.Name _ _] _ _) _); wtm_at "fo set")
  | ((with_reducible show PS _ (.Assign [.Tuple [.Name _ _, .Name _ _] _ _] (.Tuple [_, _] _ _) _) _); wtm_at "fo par")
  | ((with_reducible show PS _ (.Assign [.Subscript _ _ _] _ _) _); refine' ps_asg ?ka (pg_sub ?kb ?kc set_list); (case ka => wtm_at "fo e"); (case kb => wtm_at "fo e"); (case kc => wtm_at "fo e"))
  | ((with_reducible show PS _ (.Return (some _) _) _); apply ps_ret; wtm_at "fo e")
  | ((with_reducible show PS _ (.Expr _ _) _); refine' ps_expr ?ka; (case ka => wtm_at "fo e"))
  | ((with_reducible show PS _ (.If _ _ _ _) _); apply ps_if; (· wtm_at "fo t"); (· wtm_at "fo ss"); (· wtm_at "fo ss"))
  | fail "no")
local macro_rules | `(tactic| wtm_at "fo ss") => `(tactic| first
  | with_reducible exact pss_nil
  | ((with_reducible show PSs _ [_] _); apply pss_one; wtm_at "fo s")
  | (apply pss_cons; (· wtm_at "fo s"); (· wtm_at "fo ss"))
  | fail "no")
local macro_rules | `(tactic| wtm_at "fo hp") => `(tactic| first
  | assumption
  | exact upd_same
  | (refine (upd_ne ?ne).trans ?hp; (case ne => wtm_at "fo ne"); (case hp => wtm_at "fo hp"))
  | fail "no")
local macro_rules | `(tactic| wtm_at "fo ne") => `(tactic| first
  | assumption
  | (apply Ne.symm; assumption)
  | exact ne_of_none (by assumption) (by assumption)
  | exact Ne.symm (ne_of_none (by assumption) (by assumption))
  | fail "no")
local macro_rules | `(tactic| wtm_at "fo sz") => `(tactic| first
  | exact (Nat.le_of_ble_eq_true rfl : _ ≤ sizeLine)
  | exact (Nat.le_of_ble_eq_true rfl : _ < sizeLine)
  | exact Nat.lt_of_le_of_lt (m := 100000) (by first | assumption | omega | (simp; omega)) (by decide)
  | exact Nat.le_trans (m := 100000) (by first | assumption | omega | (simp; omega)) (by decide)
  | fail "no")
local macro_rules | `(tactic| wtm_at "fo r1") => `(tactic| first
  | refine ⟨(Nat.le_of_ble_eq_true rfl : _ ≤ sizeLine), fun p np => ?_⟩
  | (refine' ⟨_, _, rfl, Or.inl (SqL.of ?h), ?_⟩; (case h => wtm_at "fo hp"))
  | refine ⟨_, rfl, ?_⟩
  | refine ⟨_, _, rfl, rfl, ?_⟩
  | refine ⟨_, _, rfl, ⟨by omega, by omega, by omega, by omega⟩, ?_⟩
  | refine ⟨_, rfl, by omega, by omega, ?_⟩
  | refine Or.inl ⟨_, rfl, ?_⟩
  | refine Or.inl ⟨rfl, ?_⟩
  | refine Or.inl ⟨_, _, rfl, rfl, ?_⟩
  | (refine' Or.inl ⟨_, _, _, _, rfl, rfl, SqL.of ?h, ?a, ?_⟩; (case h => wtm_at "fo hp"); (case a => rfl))
  | (refine' ⟨_, _, _, _, rfl, rfl, ?h, ?a, ?_⟩; (case h => wtm_at "fo hp"); (case a => rfl))
  | (refine' ⟨.inl ⟨rfl, _, SqL.of ?h⟩, ?_⟩; (case h => wtm_at "fo hp"))
  | (refine' ⟨_, _, _, rfl, rfl, ?h, ?z, ?_⟩; (case h => wtm_at "fo hp"); (case z => wtm_at "fo sz"))
  | (refine' ⟨_, rfl, ⟨_, SqL.of ?h⟩, ?_⟩; (case h => wtm_at "fo hp"))
  | fail "no")
local macro_rules | `(tactic| wtm_at "fo side") => `(tactic| ((try dsimp only [CMul, CDiv]); first
  | assumption
  | decide
  | omega
  | exact ⟨by decide, by decide⟩
  | exact ⟨by omega, by omega⟩
  | decide +kernel
  | fail "no"))
local macro_rules | `(tactic| wtm_at "fo r2") => `(tactic| first
  | wtm_at "fo r1"
  | refine And.intro (by wtm_at "fo side") ?_
  | fail "no")
local macro_rules | `(tactic| wtm_at "fo r") => `(tactic| repeat wtm_at "fo r2")
local macro_rules | `(tactic| wtm_at "fo v") => `(tactic| first
  | ((with_reducible show PE _ (.Name (Str.ofString "int") _) _); exact pe_bltn (v := .ty "int") (by rfl) (by assumption) (by decide +kernel) rfl)
  | ((with_reducible show PE _ (.Name (Str.ofString "list") _) _); exact pe_bltn (v := .ty "list") (by rfl) (by assumption) (by decide +kernel) rfl)
  | ((with_reducible show PE _ (.Name (Str.ofString "MOST_PLACES") _) _); exact pe_glob (v := .int 12) (by rfl) (by assumption) ⟨_, rfl⟩)
  | fail "no")
local macro_rules | `(tactic| wtm_at "fo e") => `(tactic| first
  | ((with_reducible show PE _ (.BoolOp .And [_] _) _); apply pe_one; wtm_at "fo e")
  | ((with_reducible show PE _ (.BoolOp .And _ _) _); apply pe_and; (· wtm_at "fo e"); (· wtm_at "fo e"))
  | ((with_reducible show PE _ (.Compare _ [.IsNot] [.Constant (.bool true) _ _] _) _); refine' pe_cmpR op_notT ?ka ?kb (nomark _); (case ka => wtm_at "fo e"); (case kb => wtm_at "fo e"))
  | ((with_reducible show PE _ (.Compare _ [.LtE, .LtE] _ _) _); refine' pe_chain op_le op_le ?ka ?kb ?kc; (case ka => wtm_at "fo e"); (case kb => wtm_at "fo e"); (case kc => wtm_at "fo e"))
  | ((with_reducible show PE _ (.Call (.Name (Str.ofString "isinstance") _) _ _ _) _); refine' pe_callB (call_isiK' (by assumption) (by exact rfl)) (by rfl) (by assumption) (by decide +kernel) ?ka; (case ka => wtm_at "fo a"))
  | ((with_reducible show PE _ (.Call (.Attribute _ (Str.ofString "bit_length") _) [] [] _) _); refine' pe_bits ?ka; (case ka => wtm_at "fo e"))
  | fail "no")
local macro_rules | `(tactic| wtm_at "fo t") => `(tactic| first
  | ((with_reducible show PT _ (.Compare _ [.IsNot] [.Constant (.bool true) _ _] _) _); refine' pt_cmpR op_notT ?ka ?kb (nomark _); (case ka => wtm_at "fo e"); (case kb => wtm_at "fo e"))
  | ((with_reducible show PT _ (.Compare _ [.Lt, .Lt, .LtE] _ _) _); refine' pt_chain3 op_lt op_lt op_le ?ka ?kb ?kc ?kd; (case ka => wtm_at "fo e"); (case kb => wtm_at "fo e"); (case kc => wtm_at "fo e"); (case kd => wtm_at "fo e"))
  | fail "no")
local macro_rules | `(tactic| wtm_at "fo s") => `(tactic| first
  | ((with_reducible show PS _ (.Raise _ _ _) _); exact ps_never)
  | ((with_reducible show PS _ (.Continue _) _); exact ps_continue)
  | ((with_reducible show PS _ (.AugAssign (.Subscript _ _ _) .BitOr _ _) _); refine' ps_augS ?ka ?kb get_list ?kc ip_or set_list; (case ka => wtm_at "fo e"); (case kb => wtm_at "fo e"); (case kc => wtm_at "fo e"))
  | ((with_reducible show PS _ (.Assign [.Tuple _ _ _] (.Name _ _) _) _); refine' ps_asg ?ka ?kb; (case ka => wtm_at "fo e"); (case kb => wtm_at "fo g"))
  | fail "no")
variable {P : Program} {w : World} {K : PySem.W.Frag} {mg : Str → Option Value} {base : Heap}
/-! ### product -/
set_option maxHeartbeats 4000000 in
theorem ok_product {f : Addr} {fd : FuncData} (F : Fun K "product" "product" s_product f fd) {tk : Tok} (mP : mg "MOST_PLACES" = some (.int 12 tk))
    (C : Cal P w K mg base "read_net" 2 ["places", "lines"] spRead) (C2 : Cal P w K mg base "_product_lines" 2 ["near", "near_more"] spPLines) :
    FnOk P w K mg base CX0 3 f fd ["places", "lines", "more", "ties"] spProd := by
  refine F.ok sc_product (fun vs H Q E h => ?_) (fun cdv A outer s H vs Q E hr h => ?_)
  · unfold spProd at h
    obtain ⟨q1, q2, n, m, es, fs, rfl, _⟩ := h
    rfl
  · have nd := sc_product.nd
    have hS := sc_product
    have hKM : KMark K := ⟨⟩
    refine' mk_body ?body ?rd
    case body =>
      show PSs _ [_, _, _, _] _
      wtm_at "fo ss"
    case rd =>
     unfold spProd at h
     obtain ⟨q1, q2, n, m, es, fs, rfl, h1, h2, h3, h4, h5, a1, a2, a3, b1, b2, b3, fin⟩ := h
     wtm_at "fo r"
     refine call_read h1 h4 a1 a2 a3 (fun r H1 sm1 nr hr1 => ?_)
     wtm_at "fo r"
     refine call_read h2 h5 (b1.same sm1) b2 b3 (fun r2 H2 sm2 nr2 hr2 => ?_)
     wtm_at "fo r"
     refine ifF (decide_eq_false (by rw [← Int.natCast_mul]; omega)) ?_
     refine ⟨_, rfl, _, rfl, _, _, rfl, rfl, Or.inl ⟨by omega, by omega⟩, ?_⟩
     refine ⟨_, rfl, _, rfl, ?_⟩
     refine call_plines h1 h2 h3 h4 h5 a2 b2 (sm2 _ _ hr1) hr2 (fun l rs H3 sm3 nl hP hnd hfr => ?_)
     refine ⟨(Nat.le_of_ble_eq_true rfl : _ ≤ sizeLine), fun p np => ?_⟩
     have s2 := sm1.trans sm2
     have s3 := s2.trans sm3
     have e : ((n : Int) * (m : Int)) = ((n * m : Nat) : Int) := (Int.natCast_mul n m).symm
     show Q (V.ref p) (upd H3 p (.tup [.int ((n : Int) * (m : Int)), .ref l]))
     rw [e]
     have s4 := same_upd (o := .tup [.int ((n * m : Nat) : Int), .ref l]) s3 (s3.free np)
     exact fin p l rs _ s4 (s3.free np) (s2.free nl) upd_same (hP.same (same_upd (Same.refl _) np)) hnd (fun r hr => s2.free (hfr r hr))

end Fo

/-! piece D16 -/
namespace Fo
open PySem PySem.Spec PyProof.Rows L2
/-! ### what the top has written -/
def HasDef (K : PySem.W.Frag) (x : Str) (st : Stmt) (f : Addr) (fd : FuncData) : Prop := PySem.W.nsIn K mainGlobals x = some (some (.ref f)) ∧ Fun K x x st f fd
theorem hasDef_mk {K : PySem.W.Frag} {x : Str} {st : Stmt} {f : Addr} {oc : Value} {od an : Option Addr} {osl : Array (Option Value)} {kV doc pm cdv ct : Value} (a : PySem.W.nsIn K mainGlobals x = some (some (.ref f)))
    (l : K.lookup f = some ⟨oc, od, .func (PySem.W.fnOf x x (defArgs st) (defBody st) (defScope st) .none kV doc pm an cdv ct), osl⟩) (c : PySem.W.codeIn K cdv x = true) (k : PySem.W.keepIn K (.ref f) = true) :
    ∃ f fd, HasDef K x st f fd := ⟨f, _, a, fun_mk l c k⟩
theorem cal_of {P : Program} {w : World} {K : PySem.W.Frag} {mg : Str → Option Value} {base h : Heap} {x : Str} {st : Stmt} {f : Addr} {fd : FuncData} {k : Nat} {ps : List Str} {sp : Sp} (X : K.In h) (G : h.Ns mainGlobals mg) (D : HasDef K x st f fd)
    (hb : Binds K fd ps []) (F : FnOk P w K mg base CX0 k f fd ps sp) : Cal P w K mg base x k ps sp := ⟨f, fd, F, PySem.W.mg_of X G D.1, D.2.kp, hb⟩
theorem calG_of {P : Program} {w : World} {K : PySem.W.Frag} {mg : Str → Option Value} {base h : Heap} {x : Str} {st : Stmt} {f : Addr} {fd : FuncData} {k : Nat} {ps : List Str} {sp : Sp} (X : K.In h) (G : h.Ns mainGlobals mg) (D : HasDef K x st f fd)
    (hb : Binds K fd ps []) (F : FnG P w K mg base CX0 k f fd ps sp) : CalG P w K mg base x k ps sp := ⟨f, fd, F, PySem.W.mg_of X G D.1, D.2.kp, hb⟩
theorem kcal_of {P : Program} {w : World} {K : PySem.W.Frag} {mg : Str → Option Value} {base h : Heap} {x : Str} {st : Stmt} {f : Addr} {fd : FuncData} {k : Nat} {ps ks : List Str} {g : List Value → List Value → List Value} {gV : List V → List V → List V} {sp : Sp} (X : K.In h) (G : h.Ns mainGlobals mg) (D : HasDef K x st f fd)
    (hb : KBinds K fd ps ks g gV) (F : FnOk P w K mg base CX0 k f fd ps sp) : KCal P w K mg base x k ps ks g gV sp := ⟨f, fd, F, PySem.W.mg_of X G D.1, D.2.kp, hb⟩
theorem vals_rev3 : ∀ {vs : List V} {us : List Value} {zs : List V} {ws : List Value}, Vals vs us → Vals zs ws → Vals (g3 vs zs) (g3 us ws)
  | _, _, _, _, .nil, .cons a (.cons b (.cons c .nil)) => .cons c (.cons b (.cons a .nil))
  | _, _, _, _, .nil, .nil => .nil
  | _, _, _, _, .nil, .cons _ .nil => .nil
  | _, _, _, _, .nil, .cons _ (.cons _ .nil) => .nil
  | _, _, _, _, .nil, .cons _ (.cons _ (.cons _ (.cons _ _))) => .nil
  | _, _, _, _, .cons _ _, _ => .nil
theorem vals_rev4 : ∀ {vs : List V} {us : List Value} {zs : List V} {ws : List Value}, Vals vs us → Vals zs ws → Vals (g4 vs zs) (g4 us ws)
  | _, _, _, _, .nil, .cons a (.cons b (.cons c (.cons d .nil))) => .cons d (.cons c (.cons b (.cons a .nil)))
  | _, _, _, _, .nil, .nil => .nil
  | _, _, _, _, .nil, .cons _ .nil => .nil
  | _, _, _, _, .nil, .cons _ (.cons _ .nil) => .nil
  | _, _, _, _, .nil, .cons _ (.cons _ (.cons _ .nil)) => .nil
  | _, _, _, _, .nil, .cons _ (.cons _ (.cons _ (.cons _ (.cons _ _)))) => .nil
  | _, _, _, _, .cons _ _, _ => .nil
theorem kb_beside {K : PySem.W.Frag} {f : Addr} {fd : FuncData} (F : Fun K "beside" "beside" s_beside f fd) : KBinds K fd ["places", "lines", "place"] ["place", "lines", "places"] g3 g3 := by
  obtain ⟨oc, od, kV, doc, pm, an, cdv, ct, osl, rfl, lk, hcd⟩ := F.ex
  refine ⟨fun s us ws _ hl => ?_, vals_rev3⟩
  match us, ws, hl with
  | [], [a, b, c], _ => exact .of_eq rfl
theorem kb_product {K : PySem.W.Frag} {f : Addr} {fd : FuncData} (F : Fun K "product" "product" s_product f fd) : KBinds K fd ["places", "lines", "more", "ties"] ["ties", "more", "lines", "places"] g4 g4 := by
  obtain ⟨oc, od, kV, doc, pm, an, cdv, ct, osl, rfl, lk, hcd⟩ := F.ex
  refine ⟨fun s us ws _ hl => ?_, vals_rev4⟩
  match us, ws, hl with
  | [], [a, b, c, d], _ => exact .of_eq rfl
theorem all_mk {l : PySem.W.OpenLaw} {w : World} {K : PySem.W.Frag} {h : Heap} {mg : Str → Option Value} {fa : Addr} {tk : Tok} (X : K.In h) (G : h.Ns mainGlobals mg) (hfa : mg "law" = some (.ref fa))
    (d_is_place : ∃ f fd, HasDef K "is_place" s_is_place f fd)
    (d_read_net : ∃ f fd, HasDef K "read_net" s_read_net f fd)
    (d_check_place : ∃ f fd, HasDef K "check_place" s_check_place f fd)
    (d_members : ∃ f fd, HasDef K "members" s_members f fd)
    (d_beside : ∃ f fd, HasDef K "beside" s_beside f fd)
    (d_product : ∃ f fd, HasDef K "product" s_product f fd)
    (d_product_lines : ∃ f fd, HasDef K "_product_lines" s_product_lines f fd)
    (d_law_draws : ∃ f fd, HasDef K "_law_draws" s_law_draws f fd)
    (d_law_next : ∃ f fd, HasDef K "_law_next" s_law_next f fd)
    (d_law_shuffled : ∃ f fd, HasDef K "_law_shuffled" s_law_shuffled f fd)
    (d_law_grown : ∃ f fd, HasDef K "_law_grown" s_law_grown f fd)
    (d_law_web : ∃ f fd, HasDef K "_law_web" s_law_web f fd)
    (d_law_near : ∃ f fd, HasDef K "_law_near" s_law_near f fd)
    (d_law_right : ∃ f fd, HasDef K "_law_right" s_law_right f fd)
    (d_law_product : ∃ f fd, HasDef K "_law_product" s_law_product f fd)
    (d_law_product_right : ∃ f fd, HasDef K "_law_product_right" s_law_product_right f fd)
    (d_law : ∃ f fd, HasDef K "law" s_law f fd)
    (z_int : PySem.W.nsIn K mainGlobals "int" = some none)
    (z_range : PySem.W.nsIn K mainGlobals "range" = some none)
    (z_list : PySem.W.nsIn K mainGlobals "list" = some none)
    (z_len : PySem.W.nsIn K mainGlobals "len" = some none)
    (z_min : PySem.W.nsIn K mainGlobals "min" = some none)
    (z_repr : PySem.W.nsIn K mainGlobals "repr" = some none)
    (z_sorted : PySem.W.nsIn K mainGlobals "sorted" = some none)
    (z_enumerate : PySem.W.nsIn K mainGlobals "enumerate" = some none)
    (z_isinstance : PySem.W.nsIn K mainGlobals "isinstance" = some none)
    (z_most : PySem.W.nsIn K mainGlobals "MOST_PLACES" = some (some (.int 12 tk))) :
    ∃ fd : FuncData, (∀ (s : Shared) (v : Value), BindsTo s fd ⟨[v], []⟩ [("_law_script", v)]) ∧ ∀ base : Heap, K.In base → base.Ns mainGlobals mg → FnG l.prog w K mg base CX0 6 fa fd ["_law_script"] (spLaw K) := by
  obtain ⟨f_is_place, fd_is_place, e_is_place⟩ := d_is_place
  have b_is_place := e_is_place.2.binds (ps := ["place", "places"]) fun _ _ _ _ _ _ us hl => match us, hl with | [_, _], _ => rfl
  obtain ⟨f_read_net, fd_read_net, e_read_net⟩ := d_read_net
  have b_read_net := e_read_net.2.binds (ps := ["places", "lines"]) fun _ _ _ _ _ _ us hl => match us, hl with | [_, _], _ => rfl
  obtain ⟨f_check_place, fd_check_place, e_check_place⟩ := d_check_place
  have b_check_place := e_check_place.2.binds (ps := ["near", "place"]) fun _ _ _ _ _ _ us hl => match us, hl with | [_, _], _ => rfl
  obtain ⟨f_members, fd_members, e_members⟩ := d_members
  have b_members := e_members.2.binds (ps := ["lot"]) fun _ _ _ _ _ _ us hl => match us, hl with | [_], _ => rfl
  obtain ⟨f_beside, fd_beside, e_beside⟩ := d_beside
  have b_beside := e_beside.2.binds (ps := ["places", "lines", "place"]) fun _ _ _ _ _ _ us hl => match us, hl with | [_, _, _], _ => rfl
  obtain ⟨f_product, fd_product, e_product⟩ := d_product
  have b_product := e_product.2.binds (ps := ["places", "lines", "more", "ties"]) fun _ _ _ _ _ _ us hl => match us, hl with | [_, _, _, _], _ => rfl
  obtain ⟨f_product_lines, fd_product_lines, e_product_lines⟩ := d_product_lines
  have b_product_lines := e_product_lines.2.binds (ps := ["near", "near_more"]) fun _ _ _ _ _ _ us hl => match us, hl with | [_, _], _ => rfl
  obtain ⟨f_law_draws, fd_law_draws, e_law_draws⟩ := d_law_draws
  have b_law_draws := e_law_draws.2.binds (ps := ["_law_cell"]) fun _ _ _ _ _ _ us hl => match us, hl with | [_], _ => rfl
  obtain ⟨f_law_next, fd_law_next, e_law_next⟩ := d_law_next
  have b_law_next := e_law_next.2.binds (ps := ["_law_draws_here"]) fun _ _ _ _ _ _ us hl => match us, hl with | [_], _ => rfl
  obtain ⟨f_law_shuffled, fd_law_shuffled, e_law_shuffled⟩ := d_law_shuffled
  have b_law_shuffled := e_law_shuffled.2.binds (ps := ["_law_draws_here", "_law_things"]) fun _ _ _ _ _ _ us hl => match us, hl with | [_, _], _ => rfl
  obtain ⟨f_law_grown, fd_law_grown, e_law_grown⟩ := d_law_grown
  have b_law_grown := e_law_grown.2.binds (ps := ["_law_draws_here", "_law_size", "_law_sides", "_law_start"]) fun _ _ _ _ _ _ us hl => match us, hl with | [_, _, _, _], _ => rfl
  obtain ⟨f_law_web, fd_law_web, e_law_web⟩ := d_law_web
  have b_law_web := e_law_web.2.binds (ps := ["_law_draws_here", "_law_size", "_law_kind"]) fun _ _ _ _ _ _ us hl => match us, hl with | [_, _, _], _ => rfl
  obtain ⟨f_law_near, fd_law_near, e_law_near⟩ := d_law_near
  have b_law_near := e_law_near.2.binds (ps := ["_law_size", "_law_sides"]) fun _ _ _ _ _ _ us hl => match us, hl with | [_, _], _ => rfl
  obtain ⟨f_law_right, fd_law_right, e_law_right⟩ := d_law_right
  have b_law_right := e_law_right.2.binds (ps := ["_law_size", "_law_sides"]) fun _ _ _ _ _ _ us hl => match us, hl with | [_, _], _ => rfl
  obtain ⟨f_law_product, fd_law_product, e_law_product⟩ := d_law_product
  have b_law_product := e_law_product.2.binds (ps := ["_law_size", "_law_sides", "_law_far", "_law_bars"]) fun _ _ _ _ _ _ us hl => match us, hl with | [_, _, _, _], _ => rfl
  obtain ⟨f_law_product_right, fd_law_product_right, e_law_product_right⟩ := d_law_product_right
  have b_law_product_right := e_law_product_right.2.binds (ps := ["_law_size", "_law_sides", "_law_far", "_law_bars"]) fun _ _ _ _ _ _ us hl => match us, hl with | [_, _, _, _], _ => rfl
  obtain ⟨f_law, fd_law, e_law⟩ := d_law
  have b_law := e_law.2.binds (ps := ["_law_script"]) fun _ _ _ _ _ _ us hl => match us, hl with | [_], _ => rfl
  have m_int := PySem.W.mg_none_of X G z_int
  have m_range := PySem.W.mg_none_of X G z_range
  have m_list := PySem.W.mg_none_of X G z_list
  have m_len := PySem.W.mg_none_of X G z_len
  have m_min := PySem.W.mg_none_of X G z_min
  have m_repr := PySem.W.mg_none_of X G z_repr
  have m_sorted := PySem.W.mg_none_of X G z_sorted
  have m_enumerate := PySem.W.mg_none_of X G z_enumerate
  have m_isinstance := PySem.W.mg_none_of X G z_isinstance
  have m_most := PySem.W.mg_of X G z_most
  have e := hfa.symm.trans (PySem.W.mg_of X G e_law.1)
  cases e
  refine ⟨fd_law, fun s v => ?_, fun base _ _ => ?_⟩
  · obtain ⟨oc, od, kV, doc, pm, an, cdv, ct, osl, rfl, lk, hcd⟩ := e_law.2.ex
    exact .of_eq rfl
  have c_next := cal_of X G e_law_next b_law_next (ok_next (P := l.prog) (w := w) (K := K) (mg := mg) (base := base) e_law_next.2 m_int)
  have c_draws := cal_of X G e_law_draws b_law_draws (ok_draws (P := l.prog) (w := w) (K := K) (mg := mg) (base := base) e_law_draws.2 m_int)
  have c_shuf := cal_of X G e_law_shuffled b_law_shuffled (ok_shuf (P := l.prog) (w := w) (K := K) (mg := mg) (base := base) e_law_shuffled.2 m_int m_list m_len c_next)
  have c_grown := cal_of X G e_law_grown b_law_grown (ok_grown (P := l.prog) (w := w) (K := K) (mg := mg) (base := base) e_law_grown.2 m_range m_list m_int c_next)
  have c_web := cal_of X G e_law_web b_law_web (ok_web (P := l.prog) (w := w) (K := K) (mg := mg) (base := base) e_law_web.2 m_range m_list m_int m_min c_next c_shuf c_grown)
  have c_near := cal_of X G e_law_near b_law_near (ok_near (P := l.prog) (w := w) (K := K) (mg := mg) (base := base) e_law_near.2 m_range)
  have c_isp := cal_of X G e_is_place b_is_place (ok_isplace (P := l.prog) (w := w) (K := K) (mg := mg) (base := base) e_is_place.2 m_isinstance m_int)
  have c_read := cal_of X G e_read_net b_read_net (ok_read (P := l.prog) (w := w) (K := K) (mg := mg) (base := base) e_read_net.2 m_isinstance m_int m_list m_range m_enumerate m_len m_most c_isp)
  have c_mem := cal_of X G e_members b_members (ok_members (P := l.prog) (w := w) (K := K) (mg := mg) (base := base) e_members.2 m_range)
  have c_check := cal_of X G e_check_place b_check_place (ok_check (P := l.prog) (w := w) (K := K) (mg := mg) (base := base) e_check_place.2 m_len c_isp)
  have f_bes := ok_beside (P := l.prog) (w := w) (K := K) (mg := mg) (base := base) e_beside.2 c_read c_check c_mem
  have c_bes := cal_of X G e_beside b_beside f_bes
  have k_bes := kcal_of X G e_beside (kb_beside e_beside.2) f_bes
  have c_pl := cal_of X G e_product_lines b_product_lines (ok_plines (P := l.prog) (w := w) (K := K) (mg := mg) (base := base) e_product_lines.2 m_len m_range c_mem)
  have f_prod := ok_product (P := l.prog) (w := w) (K := K) (mg := mg) (base := base) e_product.2 m_most c_read c_pl
  have c_prod := cal_of X G e_product b_product f_prod
  have k_prod := kcal_of X G e_product (kb_product e_product.2) f_prod
  have c_lprod := cal_of X G e_law_product b_law_product (ok_lprod (P := l.prog) (w := w) (K := K) (mg := mg) (base := base) e_law_product.2 m_range m_enumerate c_near)
  have c_right := calG_of X G e_law_right b_law_right (ok_right (P := l.prog) (w := w) (K := K) (mg := mg) (base := base) e_law_right.2 m_range m_repr m_sorted c_near c_bes k_bes)
  have c_pright := calG_of X G e_law_product_right b_law_product_right (ok_pright (P := l.prog) (w := w) (K := K) (mg := mg) (base := base) e_law_product_right.2 m_repr c_lprod c_prod k_prod)
  exact ok_law (P := l.prog) (w := w) (K := K) (mg := mg) (base := base) e_law.2 m_range m_int c_next c_draws c_web c_shuf c_right c_pright c_bes c_prod
theorem walkL {l : PySem.W.OpenLaw} {q : Program} {loose : List Str} {XP : (Str → Option Value) → Heap → Prop} {YP : World → Heap → Prop} {d : DefRec} {K : Params → PySem.W.Frag} (hn : l.most = some 63) (hdf : d.params.defaults = [])
    (hY : ∀ (w : World) (h : Heap), YP w h → (K w.params).In h)
    (F : ∀ (w : World) (mg : Str → Option Value) (fa : Addr) (h : Heap), (K w.params).In h → h.Ns mainGlobals mg → mg d.name = some (.ref fa) →
      ∃ fd : FuncData, (∀ (s : Shared) (u : Value), BindsTo s fd ⟨[u], []⟩ [("_law_script", u)]) ∧ ∀ base : Heap, (K w.params).In base → base.Ns mainGlobals mg → FnG l.prog w (K w.params) mg base CX0 6 fa fd ["_law_script"] (spLaw (K w.params))) :
    PySem.W.WalkO q loose XP YP l.row.toRowW d [] (fun f vs => PySem.call f vs) :=
  walkG (n := 63) (k := 6) (x := "_law_script") (sp := fun w => spLaw (K w.params)) hn (by decide) hdf ⟨rfl, by decide, by decide⟩ hY F fun w H a ns hl _ hS => by
    unfold spLaw
    exact ⟨a, ns, rfl, hS, Nat.le_trans hl (by decide), fun _ => rfl⟩

end Fo

open PySem PySem.W PyProof.Rows
set_option maxHeartbeats 0 in
theorem PySem.Challenge.cw_foldednets_k01_nets_and_products_holds : PySem.Challenge.rw_foldednets_k01_nets_and_products.Holds := by
  w_on; o_law; k_head; (case hw => w_witness2)
  k_fill
  refine Fo.walkL (l := PySem.Challenge.rw_foldednets_k01_nets_and_products) rfl rfl (fun w h Y => PySem.W.kIn_of Y) ?F
  case F =>
    intro w mg fa h KX G hmg
    refine' Fo.all_mk KX G hmg ?d0 ?d1 ?d2 ?d3 ?d4 ?d5 ?d6 ?d7 ?d8 ?d9 ?d10 ?d11 ?d12 ?d13 ?d14 ?d15 ?d16 ?z_int ?z_range ?z_list ?z_len ?z_min ?z_repr ?z_sorted ?z_enumerate ?z_isinstance ?z_most
    (case d0 => refine' Fo.hasDef_mk ?a ?l ?c ?k; (case a => k_is); (case l => k_is); (case c => k_is); (case k => k_is))
    (case d1 => refine' Fo.hasDef_mk ?a ?l ?c ?k; (case a => k_is); (case l => k_is); (case c => k_is); (case k => k_is))
    (case d2 => refine' Fo.hasDef_mk ?a ?l ?c ?k; (case a => k_is); (case l => k_is); (case c => k_is); (case k => k_is))
    (case d3 => refine' Fo.hasDef_mk ?a ?l ?c ?k; (case a => k_is); (case l => k_is); (case c => k_is); (case k => k_is))
    (case d4 => refine' Fo.hasDef_mk ?a ?l ?c ?k; (case a => k_is); (case l => k_is); (case c => k_is); (case k => k_is))
    (case d5 => refine' Fo.hasDef_mk ?a ?l ?c ?k; (case a => k_is); (case l => k_is); (case c => k_is); (case k => k_is))
    (case d6 => refine' Fo.hasDef_mk ?a ?l ?c ?k; (case a => k_is); (case l => k_is); (case c => k_is); (case k => k_is))
    (case d7 => refine' Fo.hasDef_mk ?a ?l ?c ?k; (case a => k_is); (case l => k_is); (case c => k_is); (case k => k_is))
    (case d8 => refine' Fo.hasDef_mk ?a ?l ?c ?k; (case a => k_is); (case l => k_is); (case c => k_is); (case k => k_is))
    (case d9 => refine' Fo.hasDef_mk ?a ?l ?c ?k; (case a => k_is); (case l => k_is); (case c => k_is); (case k => k_is))
    (case d10 => refine' Fo.hasDef_mk ?a ?l ?c ?k; (case a => k_is); (case l => k_is); (case c => k_is); (case k => k_is))
    (case d11 => refine' Fo.hasDef_mk ?a ?l ?c ?k; (case a => k_is); (case l => k_is); (case c => k_is); (case k => k_is))
    (case d12 => refine' Fo.hasDef_mk ?a ?l ?c ?k; (case a => k_is); (case l => k_is); (case c => k_is); (case k => k_is))
    (case d13 => refine' Fo.hasDef_mk ?a ?l ?c ?k; (case a => k_is); (case l => k_is); (case c => k_is); (case k => k_is))
    (case d14 => refine' Fo.hasDef_mk ?a ?l ?c ?k; (case a => k_is); (case l => k_is); (case c => k_is); (case k => k_is))
    (case d15 => refine' Fo.hasDef_mk ?a ?l ?c ?k; (case a => k_is); (case l => k_is); (case c => k_is); (case k => k_is))
    (case d16 => refine' Fo.hasDef_mk ?a ?l ?c ?k; (case a => k_is); (case l => k_is); (case c => k_is); (case k => k_is))
    (case z_int => k_is)
    (case z_range => k_is)
    (case z_list => k_is)
    (case z_len => k_is)
    (case z_min => k_is)
    (case z_repr => k_is)
    (case z_sorted => k_is)
    (case z_enumerate => k_is)
    (case z_isinstance => k_is)
    (case z_most => k_is)
#print axioms PySem.Challenge.cw_foldednets_k01_nets_and_products_holds
