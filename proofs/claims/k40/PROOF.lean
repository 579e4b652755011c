import PyProof.Rows.All
import Wide.All
import OpenK.AllK
import Wide.FinOn
import HandS.Base
import HandS.Call
import HandS.List
import HandS.Comp
import HandS.Ends
import HandS.Words
import HandS.WordsList
import HandS.Dict
import HandS.Iter
import PyProof.ReprRoads
import HandS.ForMost
import HandS.Wide
import HandS.DictComp
import HandS.IsInst
import HandS.NoneIn
import HandS.Conv
import HandS.SortInts
import HandS.WideBits
import HandS.Style
import KE.GoesEnumKw
import HandS.Deep
import HandS.Codes
import KE.SortData
import HandS.MapSum
import KE.KDictList
import KE.KDictSum
import PyProof.Rows.ReprOcc
import PyProof.Rows.SeqMore3
import PySem.Challenge.RW_foldednets_k40_whole_people_on_a_net
set_option Elab.async false
set_option linter.all false
set_option maxRecDepth 100000
namespace Fo
open PySem PySem.Spec PyProof.Rows L2
/-! piece Aux1 -/
section
open PySem PySem.Spec PyProof.Rows L2
abbrev Sl := L2.St

/-! ## calls while no repr is under way -/
structure FnG (P : Program) (w : World) (K : PySem.W.Frag) (mg : Str → Option Value) (base : Heap)
    (CX : CXT) (k : Nat) (f : Addr) (fd : FuncData) (ps : List Str) (sp : Sp) : Prop where
  arity : ∀ vs H Q E, sp vs H Q E → vs.length = ps.length
  go : ∀ (A : Around) (outer : List Env) (s : Shared) (H : Hp) (args : Args) (us : List Value)
      (vs : List V) (Q : VK) (E : XK), Room k A → A.guards = some [] →
      Env0 P w K mg base A outer s H → BindsTo s fd args (ps.zip us) → Vals vs us → sp vs H Q E →
      codeAny (model P w) A (.call (.ref f) args) (CR CX outer P w H s Q E) s

theorem FnG.of {P : Program} {w : World} {K : PySem.W.Frag} {mg : Str → Option Value} {base : Heap}
    {CX : CXT} {k : Nat} {f : Addr} {fd : FuncData} {ps : List Str} {sp : Sp}
    (F : FnOk P w K mg base CX k f fd ps sp) : FnG P w K mg base CX k f fd ps sp :=
  ⟨F.len, fun A outer s H args us vs Q E hr _ => F.run A outer s H args us vs Q E hr⟩

section
variable {X : Cx} {CX : CXT} {k : Nat} {f : Addr} {fd : FuncData} {ps : List Str} {sp : Sp}
  {dvs : List V} {ds : List Value} {E : XK} {x : Str} {p pos : Pos} {e : Expr} {es : List Expr} {t : TA}
theorem go_fn {pins : List (Addr × Obj)} {σ : L2.St} {H : Hp} {s : Shared} {Q : VK} {us : List Value} {vs : List V}
    (F : FnG X.prog X.w X.K X.mg X.base CX k f fd ps sp) (hr : Room k X.A) (hgd : X.A.guards = some [])
    (hb : Binds X.K fd ps ds) (hd : Vals dvs ds) (hx : Passes CX X E)
    (I : Inv X pins σ H s) (r : Vals vs us) (h : sp (vs ++ dvs) H Q E) :
    wpAny (model X.prog X.w) X.A (call (.ref f) us) (EP X pins σ Q) X.xe s := by
  have rr := Vals.append r hd
  have hlen : (us ++ ds).length = ps.length := rr.length.symm.trans (F.arity _ _ _ _ h)
  have step := F.go X.A X.stack s H ⟨us, []⟩ (us ++ ds) (vs ++ dvs) Q E hr hgd I.env0 (hb s us I.kIn hlen) rr h
  refine wpAny_call (codeAny_mono step ?_)
  intro out s' hq
  match out, hq with
  | .error e, hq => exact hx pins σ H s e s' I hq
  | .ok (.ret u), hq => exact I.after hq
  | .ok .next, hq => exact hq.elim
  | .ok .brk, hq => exact hq.elim
  | .ok .cont, hq => exact hq.elim

theorem pe_callG (F : FnG X.prog X.w X.K X.mg X.base CX k f fd ps sp) (hr : Room k X.A) (hgd : X.A.guards = some [])
    (hg : Gl X x) (hm : X.mg x = some (.ref f)) (hk : PySem.W.keepIn X.K (.ref f) = true)
    (hb : Binds X.K fd ps ds) (hd : Vals dvs ds) (hx : Passes CX X E) (ha : PA X (e :: es) t)
    (hdb : (x == ("__debug__" : Str)) = false := by decide)
    (he : starEach (e :: es) X.env = (false, eval e X.env) :: starEach es X.env := by rfl)
    (hpl : (backTo pos (starEach es X.env)).any (·.1) = false := by rfl) :
    PE X (.Call (.Name x p) (e :: es) [] pos) (tCall sp dvs E t) := by
  constructor
  intro pins s σ H Q I h
  apply wpAny_Call_Name_kw
  apply ld_glob I hg hm _ hdb
  refine PySem.W.callWith_K (h₀ := X.base) I.ok.mod.kin hk (thn (ha.run pos pins s σ H _ I h) ?_) he hpl
  rintro us s1 ⟨vs, H1, I1, r, q⟩
  exact ⟨I1.kIn, go_fn F hr hgd hb hd hx I1 r q⟩

/-- f(k = v, ..), keywords alone -/
theorem pe_callK0 {ks : List Str} {kws : List Keyword} {tk : TA} {g : List Value → List Value → List Value}
    {gV : List V → List V → List V} (F : FnOk X.prog X.w X.K X.mg X.base CX k f fd ps sp) (hr : Room k X.A)
    (hg : Gl X x) (hm : X.mg x = some (.ref f)) (hk : PySem.W.keepIn X.K (.ref f) = true)
    (hb : KBinds X.K fd ps ks g gV) (hx : Passes CX X E) (hkw : PK X kws tk)
    (hall : (backToKw pos (keywordEach kws X.env)).all (·.1.isSome) = true := by rfl)
    (hks : (backToKw pos (keywordEach kws X.env)).filterMap (·.1) = ks := by rfl)
    (hdb : (x == ("__debug__" : Str)) = false := by decide)
    (hpl : ((backTo pos (starEach [] X.env)).any (·.1) || (backToKw pos (keywordEach kws X.env)).any (·.1.isNone)) = false := by rfl) :
    PE X (.Call (.Name x p) [] kws pos) (tCallK sp gV E tNil tk) := by
  constructor
  intro pins s σ H Q I h
  apply wpAny_Call_Name_kw
  apply ld_glob I hg hm _ hdb
  refine PySem.W.callWith_KW0 (h₀ := X.base) I.ok.mod.kin hk hall (thn (hkw.run pos pins s σ H _ I h) ?_) hpl
  rintro ws s2 ⟨zs, H2, I2, rz, q2⟩
  refine ⟨I2.kIn, ?_⟩
  rw [hks]
  exact run_fnk (us := []) F hr hb hx I2 .nil rz q2
end

section
variable {P : Program} {w : World} {K : PySem.W.Frag} {mg : Str → Option Value} {base : Heap}
/-- a def's body, where no repr is under way -/
theorem okG {x qual : Str} {st : Stmt} {f : Addr} {fd : FuncData} {N ps : List Str} {k : Nat} {sp : Sp}
    (F : Fun K x qual st f fd) (S : FnScope N ps (defScope st)) (len : ∀ vs H Q E, sp vs H Q E → vs.length = ps.length)
    (hbody : ∀ (cdv : Value) (A : Around) (outer : List Env) (s : Shared) (H : Hp) (vs : List V) (Q : VK) (E : XK),
      Room k (A.deeper (envOfC qual (defScope st) s.heap.objs.size f cdv)) → A.guards = some [] → sp vs H Q E →
      ∃ t, PSs (cxOf CX0 P w K mg base N qual (defScope st) f cdv A outer s H E).nox (defBody st) t ∧
        t { nx := fun _ H' => Q .non H', rt := Q } (start N vs) H) :
    FnG P w K mg base CX0 (k + 1) f fd ps sp := by
  obtain ⟨oc, od, kV, doc, pm, an, cdv, ct, osl, rfl, lk, hcd⟩ := F.ex
  constructor
  · exact len
  intro A outer s H args us vs Q E hr hgd e0 hb r hsp
  have keepB : ∀ b o, base.get? b = some o → s.heap.get? b = some o := fun b o e => (e0.bs b o e).1
  have inK : K.In s.heap := e0.mod.kin.keeps keepB
  have noLim : s.heap.NoLimit := e0.mod.nolimit.keeps keepB
  have kinds : ∀ y ∈ ps.zip us, (defScope st).names.lookup y.1 = some .local ∨
      ((defScope st).names.lookup y.1 = some .cell ∧
        ((cellsFrom (s.heap.objs.size + 1) (defScope st).names []).lookup y.1).isSome = true) := by
    rintro ⟨n, v⟩ hy
    cases S.par n (List.of_mem_zip hy).1 with
    | inl q => exact Or.inl q
    | inr q => exact Or.inr ⟨q, PySem.W.cellsFrom_some _ _ _ (Or.inl q)⟩
  refine codeAny_call_function hr.depth (inK _ _ lk) rfl S.co S.gen rfl (PySem.W.codeRec_of inK hcd) (hb _ _ _ _ ?_)
  apply wpAny_newFunctionEnv_cells S.kind kinds
  intro env henv s1 inC
  subst henv
  refine ⟨noLim.keeps inC.toInCall.keep, codeAny_func ?_⟩
  obtain ⟨t, ht, hq⟩ := hbody cdv A outer s H vs Q E (hr.deeper _) hgd hsp
  have I0 : Inv (cxOf CX0 P w K mg base N qual (defScope st) f cdv A outer s H E) [] (start N vs) H s1 :=
    inv_start S hr.hd e0 (len _ _ _ _ hsp) r inC
  refine wpAny_mono (ht.nox.run [] s1 (start N vs) H _ I0 hq) ?_ (fun _ _ z => z)
  intro fl s' hs
  match fl, hs with
  | .ret u, hs =>
    obtain ⟨v, σ', H', J, rv, q⟩ := hs
    exact ⟨v, H', J.os, J.bare, J.base, J.hok, rv, q⟩
  | .next, hs =>
    obtain ⟨σ', H', J, q⟩ := hs
    exact ⟨.non, H', J.os, J.bare, J.base, J.hok, rfl, q⟩
  | .brk, hs =>
    obtain ⟨_, _, _, q⟩ := hs
    exact q.elim
  | .cont, hs =>
    obtain ⟨_, _, _, q⟩ := hs
    exact q.elim
end

/-! ## repr of data -/
section
variable {X : Cx}
theorem call_reprD (hgd : X.A.guards = some []) (hu : X.A.units + 64 < cLine) :
    CallR X (.builtin "repr") (fun xs H Q => ∃ a d, xs = [.ref a] ∧ Dp X.K H (.ref a) d ∧ d.showable = true ∧
      d.hasDict = false ∧ d.depth ≤ 60 ∧ d.shown.length ≤ sizeLine ∧ Q (.str d.shown) H) := by
  intro pins s σ H xs us Q I r h
  obtain ⟨a, d, rfl, hd, hs, hn, hdp, hz, q⟩ := h
  obtain ⟨u, rfl, ru⟩ := vals1 r
  cases ru
  obtain ⟨as, rd⟩ := Dp.reads I d _ _ hd rfl
  exact repr_of_reads' rd hs (PyData.noDict_hsm hn) hgd (by omega) (fun _ _ z => z)
    (fun h' u tk hk => ⟨.str d.shown, H, I.kept hk, ⟨_, rfl⟩, q⟩) hz

/-! ## great powers -/
theorem op_powW : OpR X (binaryOp .Pow) (rI (fun i j => 0 ≤ j ∧ (Builtin.Int.intBits i : Int) * j ≤ 2 ^ 27) fun i j => .int (i ^ j.toNat)) :=
  opI fun _ _ _ _ _ _ _ hc q => pow_int hc.1 hc.2 q

/-! ## xs[::k], k 1 or -1 -/
def stepV (o : Option Int) (xs : List V) : List V := if o = some (-1) then xs.reverse else xs
def tStep (K : PySem.W.Frag) (te tk : TE) : TE := fun σ H Q => te σ H fun x H1 => tPart tk σ H1 fun o H2 =>
  ∃ a xs, x = .ref a ∧ (o = some 1 ∨ o = some (-1)) ∧ SqL K H2 a xs ∧ ∀ p, H2 p = none → Q (.ref p) (upd H2 p (.lst (stepV o xs)))
theorem slicePick_one (its : List Value) : slicePick its.toArray none none (some 1) = its.toArray := by
  have h := slicePick_cut its none none
  have e : slicePick its.toArray none none (some 1) = slicePick its.toArray none none none := rfl
  rw [e, h]
  simp [HT.sIx]

theorem pe_step {e st : Expr} {te tk : TE} {p3 pos : Pos} (he : PE X e te) (hst : PE X st tk)
    (hgo : ∀ v sl, subscripted (.Slice none none (some st) p3) false v sl = operate [v, sl] (getItem v sl) := by intro _ _; rfl)
    (hlt : ∀ v r, letTemporaryGo e v r = pure () := by intro _ _; rfl) :
    PE X (.Subscript e (.Slice none none (some st) p3) pos) (tStep X.K te tk) := by
  constructor
  intro pins s σ H Q I h
  apply Subscript_
  refine thn (he.run pins s σ H _ I h) ?_
  rintro v s1 ⟨x, H1, I1, r1, q1⟩
  apply wpAny_Slice
  refine thn (po_none.run pins s1 σ H1 (fun o H2 => o = none ∧ H2 = H1) I1 ⟨rfl, rfl⟩) ?_
  rintro vl s2 ⟨l, H2, I2, pl, rfl, rfl⟩
  refine thn (po_none.run pins s2 σ H2 (fun o H3 => o = none ∧ H3 = H2) I2 ⟨rfl, rfl⟩) ?_
  rintro vu s3 ⟨u, H3, I3, pu, rfl, rfl⟩
  refine thn ((po_some hst).run pins s3 σ H3 _ I3 q1) ?_
  rintro vs s4 ⟨o, H4, I4, ps, a, xs, rfl, hk, hx, q⟩
  cases r1
  have I5 : Inv X pins σ H4 { s4 with heap := s4.heap.push { cls := .type "slice", data := .fields #[vl, vu, vs] } } :=
    I4.kept (t' := s4.toks) fun b ob z => Heap.get?_push_of_some _ z
  obtain ⟨its, r, ht, hz⟩ := I5.list hx
  have hlen := r.length
  have fin : ∀ (ys : List V) (its' : List Value), Vals ys its' → ys.length ≤ sizeLine → (∀ p, H4 p = none → Q (.ref p) (upd H4 p (.lst ys))) →
      EP X pins σ Q (.ref (s4.heap.push { cls := .type "slice", data := .fields #[vl, vu, vs] }).objs.size)
        { s4 with heap := (s4.heap.push { cls := .type "slice", data := .fields #[vl, vu, vs] }).push { cls := .type "list", data := .seq its'.toArray } } := by
    intro ys its' rv hz' hq
    refine ⟨.ref _, _, I5.laid (t' := s4.toks) (o := .lst ys) (fun b ob z => Heap.get?_push_of_some _ z) (Nat.le_refl _) ?_, rfl, hq _ (I5.hok.fresh (Nat.le_refl _))⟩
    exact ⟨hz', its', 0, rv, Heap.get?_push_size _ rfl⟩
  have hgo' := hgo (.ref a) (.ref s4.heap.objs.size)
  refine tail_any (ops := [.ref a, .ref s4.heap.objs.size]) ht.isList.typeIs (PySem.slot_list_getitem.lookup) ?_ hgo'
  refine wpAny_getItem_list_slice ht.isList (Heap.IsSliceOf.new _ vl vu vs) pl pu ps (by rcases hk with rfl | rfl <;> decide) ?_ (by rw [List.size_toArray]; omega)
  rcases hk with rfl | rfl
  · rw [slicePick_one]
    have e : stepV (some 1) xs = xs := by simp [stepV]
    rw [e] at q
    exact fin xs its r hz q
  · rw [PySem.W.krv_pick]
    have e : stepV (some (-1)) xs = xs.reverse := by simp [stepV]
    rw [e] at q
    exact fin xs.reverse its.reverse (Vals.reverse r) (by rw [List.length_reverse]; exact hz) q

/-! ## count of a flat thing; d[k] |= e -/
def rCnt (K : PySem.W.Frag) : V → List V → Hp → VK → Prop := fun x vs H Q => ∃ (p : Addr) (xs : List V) (y : V),
  x = .ref p ∧ vs = [y] ∧ SqL K H p xs ∧ flatV y = true ∧ xs.all flatV = true ∧ Q (.int ((xs.countP fun z => eqV z y : Nat) : Int)) H
theorem countP_eqU {x : V} : ∀ {xs : List V} {us : List Value}, Vals xs us → xs.all flatV = true → us.countP (eqU x) = xs.countP fun y => eqV y x
  | _, _, .nil, _ => rfl
  | y :: xs, u :: us, .cons r t, hf => by
    rw [List.all_cons, Bool.and_eq_true] at hf
    rw [List.countP_cons, List.countP_cons, countP_eqU t hf.2, eqU_of r hf.1]
theorem mt_cnt : MtR X "list.count" (rCnt X.K) := by
  intro pins s σ H x xs v us Q I rx rxs h
  obtain ⟨p, ys, y, rfl, rfl, hs, hy, hf, q⟩ := h
  cases rx
  obtain ⟨u, rfl, ru⟩ := rxs.one
  obtain ⟨its, rv, ⟨⟨cls, dd, data, sl⟩, n, ho, hc, hdn, hd⟩, hlen⟩ := I.list hs
  simp only at hc hd
  subst hc hd
  refine call_meets PySem.F.slot_list_count ⟨_, ho, rfl⟩ PySem.F.entry_list_count (PySem.F.args_list_count_2 _ _)
    (SeqAt.list_countAt p its.toArray n dd sl u (eqU y)) ⟨ho, fun z hz => mem_eqAt ru hy rv hf z (by simpa using hz), ?_⟩
  refine ⟨.int ((ys.countP fun z => eqV z y : Nat) : Int), H, I.tok _, ⟨s.toks, ?_⟩, q⟩
  show Value.int ((its.toArray.toList.countP (eqU y) : Nat) : Int) s.toks = Value.int ((ys.countP fun z => eqV z y : Nat) : Int) s.toks
  rw [show its.toArray.toList = its from rfl, countP_eqU rv hf]
theorem in_or : InOp X .BitOr (rI0 fun i j => .int (Builtin.bitOr i j)) := by
  rintro pins s σ H x y u v Q I rx ry ⟨i, j, rfl, rfl, q⟩
  obtain ⟨t, rfl⟩ := (show ∃ t, u = Value.int i t from rx)
  obtain ⟨t', rfl⟩ := (show ∃ t', v = Value.int j t' from ry)
  exact ior_int ⟨.int _, H, I.tok _, ⟨_, rfl⟩, q⟩
end

/-! ## the end of a law whose def is a FnG -/
theorem law_callG {P : Program} {w : World} {K : PySem.W.Frag} {mg mb : Str → Option Value} {k : Nat} {fa a : Addr} {fd : FuncData} {x : Str} {sp : Sp} {s1 : Shared}
    {vs : List Value} {ns : List Int} (inK : K.In s1.heap) (gn : s1.heap.Ns mainGlobals mg) (bn : s1.heap.Ns builtinsNs mb)
    (bb : ∀ x : Str, x ≠ "__name__" → mb x = bootBuiltins x) (nl : s1.heap.NoLimit) (g0 : s1.gens = #[])
    (ha : s1.heap.get? a = some { cls := .type "list", data := .seq vs.toArray }) (hi : IntsAre vs ns) (hl : ns.length ≤ sizeLine) (hr : Room k callerA)
    (F : ∀ base : Heap, K.In base → base.Ns mainGlobals mg → FnG P w K mg base CX0 k fa fd [x] sp)
    (bnd : ∀ (s : Shared) (u : Value), BindsTo s fd ⟨[u], []⟩ [(x, u)])
    (hsp : ∀ H : Hp, Only H → SqL K H a (ns.map V.int) → sp [.ref a] H (fun v _ => v = .bl true) fun _ _ _ => False) :
    codeAny (model P w) callerA (.call (.ref fa) ⟨[.ref a], []⟩) (fun r s' => r = .ok (.ret (.bool true)) ∧ OldK s1.heap s'.heap ∧ s'.os = s1.os ∧ AllBare s'.gens) s1 := by
  have rel := vals_ints hi
  have vlen := hi.length
  have main : ∀ H : Hp, Only H → SqL K H a (ns.map V.int) → HOk P w H s1.heap → (∀ b u, H b = some u → b = a ∧ K.lookup a = none) →
      codeAny (model P w) callerA (.call (.ref fa) ⟨[.ref a], []⟩) (fun r s' => r = .ok (.ret (.bool true)) ∧ OldK s1.heap s'.heap ∧ s'.os = s1.os ∧ AllBare s'.gens) s1 := by
    intro H only hS hok own
    have undict : ∀ {b : Addr} {o : Obj} {es : Array DictEntry} {ep : Nat}, s1.heap.get? b = some o → o.data = .dict es ep → H b = none := by
      intro b o es ep e d
      match q : H b with
      | none => rfl
      | some u =>
        obtain ⟨rfl, _⟩ := own b u q
        rw [ha] at e
        cases e
        have d' : Data.seq vs.toArray _ = Data.dict es ep := d
        cases d'
    have nsOf : ∀ {b : Addr} {m : Str → Option Value}, s1.heap.Ns b m → (hidT s1.heap H).Ns b m :=
      fun ⟨o, es, ep, e, d, r⟩ => ⟨o, es, ep, hidT_get e (undict e d), d, r⟩
    have kIn : K.In (hidT s1.heap H) := by
      intro b o e
      refine hidT_get (inK b o e) ?_
      match q : H b with
      | none => rfl
      | some u =>
        obtain ⟨rfl, hk⟩ := own b u q
        rw [hk] at e
        cases e
    have modOk : Mod K mg (hidT s1.heap H) :=
      ⟨kIn, nsOf gn, ⟨mb, nsOf bn, bb⟩, let ⟨mc, h1, h2⟩ := nl; ⟨mc, nsOf h1, h2⟩⟩
    have env0 : Env0 P w K mg (hidT s1.heap H) callerA [] s1 H :=
      ⟨rfl, modOk, fun b o e => of_hidT e, Nat.le_of_eq (hidT_size _ _), trivial, fun b hb => absurd (show b ∈ ([] : List Addr) from hb) (by simp), hok, .of_eq g0⟩
    refine codeAny_mono ((F _ kIn (nsOf gn)).go callerA [] s1 H ⟨[.ref a], []⟩ [.ref a] [.ref a] _ _ hr rfl env0 (bnd s1 (.ref a)) (.cons rfl .nil) (hsp H only hS)) ?_
    intro r s' h
    match r, h with
    | .error e, h => exact h.elim
    | .ok .next, h => exact h.elim
    | .ok .brk, h => exact h.elim
    | .ok .cont, h => exact h.elim
    | .ok (.ret u), h =>
      obtain ⟨v, H', os, bare, un, hok', r', q⟩ := h
      obtain rfl : v = .bl true := q
      obtain rfl : u = Value.bool true := r'
      refine ⟨rfl, OldK.of_keep ?_, os, bare⟩
      intro b o e
      match q : H b with
      | none => exact un.keep b o e q (by intro z; exact absurd (show b ∈ ([] : List Addr) from z) (by simp)) (by simp)
      | some u =>
        rcases only b with z | ⟨ob, xs, z⟩
        · rw [q] at z; cases z
        · have e1 := (hok b _ z).1
          have e2 := (hok' b _ (un.frzs b ob _ z)).1
          rw [e] at e1
          cases e1
          exact e2
  match hk : K.lookup a with
  | some o =>
    have e := inK a o hk
    rw [ha] at e
    cases e
    refine main (fun _ => none) (fun _ => .inl rfl) (.inr ⟨_, vs.toArray, _, hk, rfl, rfl, rfl, by rw [List.size_toArray, vlen]; exact hl, by simpa using rel⟩) ?_ ?_
    · intro b u z
      have z' : (none : Option HO) = some u := z
      cases z'
    · intro b u z
      have z' : (none : Option HO) = some u := z
      cases z'
  | none =>
    let ob : Obj := { cls := .type "list", data := .seq vs.toArray }
    have at_a : ∀ {b : Addr} {u : HO}, (if b = a then some (HO.frz ob (.lst (ns.map V.int))) else none) = some u → b = a ∧ u = .frz ob (.lst (ns.map V.int)) := by
      intro b u z
      by_cases hb : b = a
      · rw [if_pos hb] at z
        exact ⟨hb, (Option.some.inj z).symm⟩
      · rw [if_neg hb] at z
        cases z
    refine main (fun b => if b = a then some (.frz ob (.lst (ns.map V.int))) else none) ?_ (.inl (.inr ⟨ob, if_pos rfl⟩)) ?_ ?_
    · intro b
      by_cases hb : b = a
      · exact .inr ⟨_, _, if_pos hb⟩
      · exact .inl (if_neg hb)
    · intro b u z
      obtain ⟨rfl, rfl⟩ := at_a z
      exact ⟨ha, by rw [List.length_map]; exact hl, vs, _, rel, ha⟩
    · intro b u z
      exact ⟨(at_a z).1, hk⟩

theorem walkG {l : PySem.W.OpenLaw} {n k : Nat} {q : Program} {loose : List Str} {XP : (Str → Option Value) → Heap → Prop} {YP : World → Heap → Prop} {d : DefRec} {K : Params → PySem.W.Frag} {sp : World → Sp} {x : Str}
    (hn : l.most = some n) (hn2 : n ≤ sizeLine) (hdf : d.params.defaults = []) (hr : Room k callerA)
    (hY : ∀ (w : World) (h : Heap), YP w h → (K w.params).In h)
    (F : ∀ (w : World) (mg : Str → Option Value) (fa : Addr) (h : Heap), (K w.params).In h → h.Ns mainGlobals mg → mg d.name = some (.ref fa) →
      ∃ fd : FuncData, (∀ (s : Shared) (u : Value), BindsTo s fd ⟨[u], []⟩ [(x, u)]) ∧
        ∀ base : Heap, (K w.params).In base → base.Ns mainGlobals mg → FnG l.prog w (K w.params) mg base CX0 k fa fd [x] (sp w))
    (hsp : ∀ (w : World) (H : Hp) (a : Addr) (ns : List Int), ns.length ≤ n → Only H → SqL (K w.params) H a (ns.map V.int) → sp w [.ref a] H (fun v _ => v = .bl true) fun _ _ _ => False) :
    PySem.W.WalkO q loose XP YP l.row.toRowW d [] (fun f vs => PySem.call f vs) := by
  apply Att.attach_call hn hdf
  intro w s0 s1 mg mb fa o pm cd doc a vs ns G Y ho hd hcd hmg hobj hints hlen hg
  obtain ⟨fd, hb, hF⟩ := F w mg fa _ (hY w _ Y) G.T.g hmg
  exact law_callG (hY w _ Y) G.T.g G.T.b G.T.builtins G.T.nolimit hg hobj hints (Nat.le_trans hlen hn2) hr hF hb fun H hO hS => hsp w H a ns hlen hO hS

end
end Fo
/-! piece Aux2 -/
namespace Fo
open PySem PySem.Spec PyProof.Rows L2
/-- a def of the text that may be called by its name -/
structure Cal (P : Program) (w : World) (K : PySem.W.Frag) (mg : Str → Option Value) (base : Heap) (x : Str) (k : Nat) (ps : List Str) (sp : Sp) : Prop where
  ex : ∃ (f : Addr) (fd : FuncData), FnOk P w K mg base CX0 k f fd ps sp ∧ mg x = some (.ref f) ∧ PySem.W.keepIn K (.ref f) = true ∧ Binds K fd ps []
section
variable {X : Cx} {x : Str} {p pos : Pos} {e : Expr} {es : List Expr} {t : TA} {k j : Nat} {ps : List Str} {sp : Sp}
theorem pe_cal (C : Cal X.prog X.w X.K X.mg X.base x k ps sp) (hr : Room j X.A) (hkj : k ≤ j) (hg : Gl X x) (ha : PA X (e :: es) t)
    (hdb : (x == ("__debug__" : Str)) = false := by decide)
    (he : starEach (e :: es) X.env = (false, eval e X.env) :: starEach es X.env := by rfl)
    (hpl : (backTo pos (starEach es X.env)).any (·.1) = false := by rfl) :
    PE X (.Call (.Name x p) (e :: es) [] pos) (tCall sp [] E0 t) := by
  obtain ⟨f, fd, F, hm, hk, hb⟩ := C.ex
  exact pe_call F (hr.mono hkj) hg hm hk hb .nil pass0 ha hdb he hpl
end
theorem opAdd {X : Cx} : OpR X (binaryOp .Add) (fun x y H Q => rI0 (fun i j => .int (i + j)) x y H Q ∨ rCat x y H Q) := op_add.or op_cat
end Fo
namespace Fo
open PySem PySem.Spec PyProof.Rows L2
theorem mk_body {X : Cx} {b : List Stmt} {t : TS} {D : Ends} {σ : L2.St} {H : Hp} (h : PSs X b t) (r : t D σ H) : ∃ t, PSs X b t ∧ t D σ H := ⟨t, h, r⟩
end Fo
namespace Fo
open PySem PySem.Spec PyProof.Rows L2
def gOr (g g' : TG) : TG := fun v σ H Q => g v σ H Q ∨ g' v σ H Q
theorem PG_or {X : Cx} {tg : Expr} {g g' : TG} (h : PG X tg g) (h' : PG X tg g') : PG X tg (gOr g g') := by
  constructor
  intro pins s σ H v u Q I r q
  rcases q with q | q
  · exact h.run pins s σ H v u Q I r q
  · exact h'.run pins s σ H v u Q I r q
end Fo
namespace Fo
open PySem PySem.Spec PyProof.Rows L2
def ownOf (N : List Str) (sc : Scope) : List (Str × Nat) := sc.names.filterMap fun y => match y.2 with
  | .local => (N.idxOf? y.1).map fun i => (y.1, i)
  | .cell => (N.idxOf? y.1).map fun i => (y.1, i)
  | _ => none
section
variable {X : Cx}
theorem pe_lcO {N ps : List Str} {sc : Scope} {elt tg iter : Expr} {ifs : List Expr} {scope : Scope} {pos : Pos} {wi : TI} {g : TG} {tt : TT} {te : TE} {vs : List Nat}
    (S : FnScope N ps sc) (hXN : X.N = N) (hXs : X.env.scope = sc)
    (hv : (ownOf N scope).map (·.2) = vs) (hb : blkC N sc scope (ownOf N scope) = true) (hc : X.calm = true) (hi : PI X tg iter wi)
    (hg : ∀ (s : Shared) (H : Hp) (C : Addr) (cl : List (Str × Addr)) (fp : List Addr), PG (X.blk s H scope (compEnvC scope cl C X.env) fp) tg g)
    (ht : ∀ (s : Shared) (H : Hp) (C : Addr) (cl : List (Str × Addr)) (fp : List Addr), PTs (X.blk s H scope (compEnvC scope cl C X.env) fp) ifs tt)
    (he : ∀ (s : Shared) (H : Hp) (C : Addr) (cl : List (Str × Addr)) (fp : List Addr), PE (X.blk s H scope (compEnvC scope cl C X.env) fp) elt te)
    (hs : ∀ x, foldedSetIterable iter X.env x = pure x := by intro _; rfl) :
    PE X (.ListComp elt [⟨tg, iter, ifs, 0⟩] scope pos) (tLc wi g tt te vs) := by
  subst hv
  refine pe_lc hc (by rw [hXN]; exact S.nd) hi ?_ hg ht he hs
  rw [hXN, hXs]
  exact blkOk_by hb
theorem ps_setLcO {N ps : List Str} {sc : Scope} {i : Nat} {y : Str} {py : Pos} {elt tg iter : Expr} {ifs : List Expr} {scope : Scope} {pos spos : Pos} {wi : TI} {g : TG} {tt : TT} {te : TE} {vs : List Nat}
    (S : FnScope N ps sc) (hXN : X.N = N) (hXs : X.env.scope = sc)
    (hv : (ownOf N scope).map (·.2) = vs) (hb : blkC N sc scope (ownOf N scope) = true) (hc : X.calm = true) (hy : X.N[i]? = some y)
    (hyl : X.env.scope.names.lookup y = some .local)
    (hsw : swapsWith (.ListComp elt [⟨tg, iter, ifs, 0⟩] scope pos) (some (.Name y py)) spos.line X.env = pure true) (hi : PI X tg iter wi)
    (hg : ∀ (s : Shared) (H : Hp) (C : Addr) (cl : List (Str × Addr)) (fp : List Addr), PG (X.blk s H scope (compEnvC scope cl C X.env) fp) tg g)
    (ht : ∀ (s : Shared) (H : Hp) (C : Addr) (cl : List (Str × Addr)) (fp : List Addr), PTs (X.blk s H scope (compEnvC scope cl C X.env) fp) ifs tt)
    (he : ∀ (s : Shared) (H : Hp) (C : Addr) (cl : List (Str × Addr)) (fp : List Addr), PE (X.blk s H scope (compEnvC scope cl C X.env) fp) elt te)
    (hs : ∀ x, foldedSetIterable iter X.env x = pure x := by intro _; rfl) :
    PS X (.Assign [.Name y py] (.ListComp elt [⟨tg, iter, ifs, 0⟩] scope pos) spos) (tAsg (tLc wi g tt te vs) (gName i)) := by
  subst hv
  refine ps_setLc hc (by rw [hXN]; exact S.nd) hy hyl hsw hi ?_ hg ht he hs
  rw [hXN, hXs]
  exact blkOk_by hb
end
end Fo
namespace Fo
open PySem PySem.Spec PyProof.Rows L2
/-! rules whose reading names the written part by a letter of its own, for a comprehension's block -/
structure KMark (K : PySem.W.Frag) : Prop where
  mk ::
section
variable {X : Cx} {K : PySem.W.Frag}
theorem ix_seqK (_ : KMark K) (h : X.K = K) : IxR X (rIx K) := h ▸ ix_seq
theorem op_inK (_ : KMark K) (h : X.K = K) : OpR X (compareOp .In) (rIn K false) := h ▸ op_in_seq
theorem op_notInK (_ : KMark K) (h : X.K = K) : OpR X (compareOp .NotIn) (rIn K true) := h ▸ op_notIn_seq
def rEqB (K : PySem.W.Frag) : R2 := fun x y H Q => rEq x y H Q ∨ rEqD K x y H Q
def rNeB (K : PySem.W.Frag) : R2 := fun x y H Q => rNe x y H Q ∨ rNeD K x y H Q
theorem op_eqK (_ : KMark K) (h : X.K = K) (hu : X.A.units + 64 < cLine) : OpR X (compareOp .Eq) (rEqB K) := h ▸ op_eq.or (op_eqD hu)
theorem op_neK (_ : KMark K) (h : X.K = K) (hu : X.A.units + 64 < cLine) : OpR X (compareOp .NotEq) (rNeB K) := h ▸ op_ne.or (op_neD hu)
def cListOf (K : PySem.W.Frag) : List V → Hp → VK → Prop := fun xs H Q => ∃ p ys, xs = [.ref p] ∧ (SqL K H p ys ∨ SqT K H p ys) ∧ ∀ l, H l = none → Q (.ref l) (upd H l (.lst ys))
def cLen (K : PySem.W.Frag) : List V → Hp → VK → Prop := fun xs H Q => ∃ p ys, xs = [.ref p] ∧ (SqL K H p ys ∨ SqT K H p ys) ∧ Q (.int ys.length) H
theorem call_listK (_ : KMark K) (h : X.K = K) : CallR X (.type "list") (cListOf K) := h ▸ call_list_of
theorem call_lenK (_ : KMark K) (h : X.K = K) : CallR X (.builtin "len") (cLen K) := h ▸ call_len_seq
theorem cr_sortedK (_ : KMark K) (h : X.K = K) : CallR X (.builtin "sorted") (rSorted K) := h ▸ cr_sorted
def cRepr (K : PySem.W.Frag) : List V → Hp → VK → Prop := fun xs H Q => ∃ a d, xs = [.ref a] ∧ Dp K H (.ref a) d ∧ d.showable = true ∧ d.hasDict = false ∧ d.depth ≤ 60 ∧ d.shown.length ≤ sizeLine ∧ Q (.str d.shown) H
theorem call_reprK (_ : KMark K) (h : X.K = K) (hgd : X.A.guards = some []) (hu : X.A.units + 64 < cLine) : CallR X (.builtin "repr") (cRepr K) := h ▸ call_reprD hgd hu
def rAddB : R2 := fun x y H Q => rI0 (fun i j => .int (i + j)) x y H Q ∨ rCat x y H Q
theorem opAddB : OpR X (binaryOp .Add) rAddB := op_add.or op_cat
theorem pi_listK {tg l : Expr} {tl : TE} (_ : KMark K) (h : X.K = K) (hl : PE X l tl) : PI X tg l (iList K tl) := h ▸ pi_list hl
theorem pg_tup2 {a b : Expr} {k : Nat} {pos : Pos} {t : TGs} (_ : KMark K) (h : X.K = K) (hc : X.calm = true) (hg : PGs X [a, b] t)
    (hn : (assignEach [a, b] X.env).length = 2 := by rfl) (hst : (assignEach [a, b] X.env).findIdx? (·.1) = none := by rfl) : PG X (.Tuple [a, b] k pos) (gTup K 2 t) := h ▸ pg_tup hc hg hn hst
theorem pg_unl2 {a b : Expr} {k : Nat} {pos : Pos} {t : TGs} (_ : KMark K) (h : X.K = K) (hc : X.calm = true) (hg : PGs X [a, b] t)
    (hn : (assignEach [a, b] X.env).length = 2 := by rfl) (hst : (assignEach [a, b] X.env).findIdx? (·.1) = none := by rfl) : PG X (.Tuple [a, b] k pos) (gUnl K 2 t) := h ▸ pg_unl hc hg hn hst
theorem pe_stepK {e st : Expr} {te tk : TE} {p3 pos : Pos} (_ : KMark K) (h : X.K = K) (he : PE X e te) (hst : PE X st tk)
    (hgo : ∀ v sl, subscripted (.Slice none none (some st) p3) false v sl = operate [v, sl] (getItem v sl) := by intro _ _; rfl)
    (hlt : ∀ v r, letTemporaryGo e v r = pure () := by intro _ _; rfl) : PE X (.Subscript e (.Slice none none (some st) p3) pos) (tStep K te tk) := h ▸ pe_step he hst hgo hlt
theorem sl_listK (_ : KMark K) (h : X.K = K) : SlR X (rSlL K) := h ▸ sl_list
theorem mt_cntK (_ : KMark K) (h : X.K = K) : MtR X "list.count" (rCnt K) := h ▸ mt_cnt
def tTruth (K : PySem.W.Frag) (ta : TE) : TT := fun σ H Q => ta σ H fun x H' => ∃ k, TruV K x H' k ∧ Q k H'
theorem pt_truthK {a : Expr} {ta : TE} (_ : KMark K) (h : X.K = K) (ha : PE X a ta) (he : ∀ whole, isTrue a X.env whole = (do let v ← whole; standAt a.pos; holding [v] (truthy v))) : PT X a (tTruth K ta) := h ▸ pt_truth ha he
def cInt : List V → Hp → VK → Prop := fun xs H Q => (∃ i, xs = [.int i] ∧ Q (.int i) H) ∨ ∃ k, xs = [.bl k] ∧ Q (.int (if k then 1 else 0)) H
theorem call_intB : CallR X (.type "int") cInt := call_int1
end
end Fo

namespace Fo
open PySem PySem.Spec PyProof.Rows L2
/-! piece Text1 -/
section
open PySem PySem.Spec PyProof.Rows L2
def topS (i : Nat) : Stmt := PySem.Challenge.pw_foldednets_k40_whole_people_on_a_net.main.body.getD i (.Pass ⟨0, 0, 0, 0⟩)
abbrev s_is_place : Stmt := topS 7
theorem sc_is_place : FnScope ["place", "places"] ["place", "places"] (defScope s_is_place) := ⟨rfl, rfl, rfl, by decide +kernel, rfl, by decide +kernel, by decide +kernel⟩
abbrev s_read_net : Stmt := topS 8
theorem sc_read_net : FnScope ["places", "lines", "bits", "place", "near", "at", "line", "low", "high"] ["places", "lines"] (defScope s_read_net) := ⟨rfl, rfl, rfl, by decide +kernel, rfl, by decide +kernel, by decide +kernel⟩
abbrev s_whole_lot : Stmt := topS 9
theorem sc_whole_lot : FnScope ["near"] ["near"] (defScope s_whole_lot) := ⟨rfl, rfl, rfl, by decide +kernel, rfl, by decide +kernel, by decide +kernel⟩
abbrev s_members : Stmt := topS 10
theorem sc_members : FnScope ["lot", "place"] ["lot"] (defScope s_members) := ⟨rfl, rfl, rfl, by decide +kernel, rfl, by decide +kernel, by decide +kernel⟩
abbrev s_first_target : Stmt := topS 11
theorem sc_first_target : FnScope ["near", "lot", "place", "mine", "other", "theirs"] ["near", "lot", "place"] (defScope s_first_target) := ⟨rfl, rfl, rfl, by decide +kernel, rfl, by decide +kernel, by decide +kernel⟩
abbrev s_fold_around : Stmt := topS 12
theorem sc_fold_around : FnScope ["near", "held", "lot", "pairs", "folded", "place", "other"] ["near", "held"] (defScope s_fold_around) := ⟨rfl, rfl, rfl, by decide +kernel, rfl, by decide +kernel, by decide +kernel⟩
abbrev s_full_order : Stmt := topS 14
theorem sc_full_order : FnScope ["places", "lines"] ["places", "lines"] (defScope s_full_order) := ⟨rfl, rfl, rfl, by decide +kernel, rfl, by decide +kernel, by decide +kernel⟩
abbrev s_end_size : Stmt := topS 15
theorem sc_end_size : FnScope ["places", "lines"] ["places", "lines"] (defScope s_end_size) := ⟨rfl, rfl, rfl, by decide +kernel, rfl, by decide +kernel, by decide +kernel⟩
abbrev s_order_around : Stmt := topS 16
theorem sc_order_around : FnScope ["near", "held", "_", "pairs", "place"] ["near", "held"] (defScope s_order_around) := ⟨rfl, rfl, rfl, by decide +kernel, rfl, by decide +kernel, by decide +kernel⟩
abbrev s_is_standing : Stmt := topS 19
theorem sc_is_standing : FnScope ["people", "ties", "places", "lines", "standing", "knows", "near"] ["people", "ties", "places", "lines", "standing"] (defScope s_is_standing) := ⟨rfl, rfl, rfl, by decide +kernel, rfl, by decide +kernel, by decide +kernel⟩
abbrev s_may_go : Stmt := topS 20
theorem sc_may_go : FnScope ["people", "ties", "places", "lines", "standing", "knows", "near", "steps", "person", "place", "goals", "other", "goal"] ["people", "ties", "places", "lines", "standing"] (defScope s_may_go) := ⟨rfl, rfl, rfl, by decide +kernel, rfl, by decide +kernel, by decide +kernel⟩
abbrev s_count_standings : Stmt := topS 21
theorem sc_count_standings : FnScope ["people", "ties", "places", "lines", "knows", "near", "counts", "person"] ["people", "ties", "places", "lines"] (defScope s_count_standings) := ⟨rfl, rfl, rfl, by decide +kernel, rfl, by decide +kernel, by decide +kernel⟩
abbrev s_all_lead : Stmt := topS 22
theorem sc_all_lead : FnScope ["places", "lines"] ["places", "lines"] (defScope s_all_lead) := ⟨rfl, rfl, rfl, by decide +kernel, rfl, by decide +kernel, by decide +kernel⟩
abbrev s_steps_between : Stmt := topS 23
theorem sc_steps_between : FnScope ["people", "ties", "places", "lines", "standing", "goal", "knows", "near", "left", "pairs"] ["people", "ties", "places", "lines", "standing", "goal"] (defScope s_steps_between) := ⟨rfl, rfl, rfl, by decide +kernel, rfl, by decide +kernel, by decide +kernel⟩
abbrev s_read_nets : Stmt := topS 24
theorem sc_read_nets : FnScope ["people", "ties", "places", "lines", "knows"] ["people", "ties", "places", "lines"] (defScope s_read_nets) := ⟨rfl, rfl, rfl, by decide +kernel, rfl, by decide +kernel, by decide +kernel⟩
abbrev s_check_places : Stmt := topS 25
theorem sc_check_places : FnScope ["knows", "near", "standing", "at", "place"] ["knows", "near", "standing"] (defScope s_check_places) := ⟨rfl, rfl, rfl, by decide +kernel, rfl, by decide +kernel, by decide +kernel⟩
abbrev s_check_standing : Stmt := topS 26
theorem sc_check_standing : FnScope ["knows", "near", "standing", "pair"] ["knows", "near", "standing"] (defScope s_check_standing) := ⟨rfl, rfl, rfl, by decide +kernel, rfl, by decide +kernel, by decide +kernel⟩
abbrev s_parted_pair : Stmt := topS 27
theorem sc_parted_pair : FnScope ["knows", "near", "standing", "person", "place", "other"] ["knows", "near", "standing"] (defScope s_parted_pair) := ⟨rfl, rfl, rfl, by decide +kernel, rfl, by decide +kernel, by decide +kernel⟩
abbrev s_in_a_row : Stmt := topS 28
theorem sc_in_a_row : FnScope ["lots", "row", "lot"] ["lots"] (defScope s_in_a_row) := ⟨rfl, rfl, rfl, by decide +kernel, rfl, by decide +kernel, by decide +kernel⟩
abbrev s_rows_behind : Stmt := topS 29
theorem sc_rows_behind : FnScope ["knows", "near", "person", "every", "other", "lot"] ["knows", "near", "person"] (defScope s_rows_behind) := ⟨rfl, rfl, rfl, by decide +kernel, rfl, by decide +kernel, by decide +kernel⟩
abbrev s_with_one_more : Stmt := topS 30
theorem sc_with_one_more : FnScope ["counts", "rows", "longer", "first", "row", "number", "place", "rest"] ["counts", "rows"] (defScope s_with_one_more) := ⟨rfl, rfl, rfl, by decide +kernel, rfl, by decide +kernel, by decide +kernel⟩
abbrev s_steps_along : Stmt := topS 31
theorem sc_steps_along : FnScope ["pairs", "here", "there", "steps", "back", "place", "other", "person", "at"] ["pairs", "here", "there"] (defScope s_steps_along) := ⟨rfl, rfl, rfl, by decide +kernel, rfl, by decide +kernel, by decide +kernel⟩
abbrev s_who_stand : Stmt := topS 32
theorem sc_who_stand : FnScope ["standing", "place", "person", "at"] ["standing", "place"] (defScope s_who_stand) := ⟨rfl, rfl, rfl, by decide +kernel, rfl, by decide +kernel, by decide +kernel⟩
abbrev s_law_draws : Stmt := topS 34
theorem sc_law_draws : FnScope ["_law_cell"] ["_law_cell"] (defScope s_law_draws) := ⟨rfl, rfl, rfl, by decide +kernel, rfl, by decide +kernel, by decide +kernel⟩
abbrev s_law_next : Stmt := topS 35
theorem sc_law_next : FnScope ["_law_draws_here", "_law_k", "_law_number"] ["_law_draws_here"] (defScope s_law_next) := ⟨rfl, rfl, rfl, by decide +kernel, rfl, by decide +kernel, by decide +kernel⟩
abbrev s_law_mixed : Stmt := topS 36
theorem sc_law_mixed : FnScope ["_law_draws_here", "_law_things", "_law_rest", "_law_told"] ["_law_draws_here", "_law_things"] (defScope s_law_mixed) := ⟨rfl, rfl, rfl, by decide +kernel, rfl, by decide +kernel, by decide +kernel⟩
abbrev s_law_net : Stmt := topS 37
theorem sc_law_net : FnScope ["_law_draws_here", "_law_most", "_law_size", "_law_kind", "_law_pairs", "_law_spot", "_law_mate", "_law_one", "_law_pick", "_law_known", "_law_names", "_law_told", "_law_low", "_law_high"] ["_law_draws_here", "_law_most"] (defScope s_law_net) := ⟨rfl, rfl, rfl, by decide +kernel, rfl, by decide +kernel, by decide +kernel⟩
abbrev s_law_near : Stmt := topS 38
theorem sc_law_near : FnScope ["_law_size", "_law_sides", "_law_told", "_law_spot", "_law_low", "_law_high"] ["_law_size", "_law_sides"] (defScope s_law_near) := ⟨rfl, rfl, rfl, by decide +kernel, rfl, by decide +kernel, by decide +kernel⟩
abbrev s_law_onto : Stmt := topS 39
theorem sc_law_onto : FnScope ["_law_near_here", "_law_stay", "_law_spot", "_law_some", "_law_mate", "_law_goal"] ["_law_near_here", "_law_stay", "_law_spot"] (defScope s_law_onto) := ⟨rfl, rfl, rfl, by decide +kernel, rfl, by decide +kernel, by decide +kernel⟩
abbrev s_law_full : Stmt := topS 40
theorem sc_law_full : FnScope ["_law_draws_here", "_law_near_here", "_law_size", "_law_stay", "_law_steps", "_law_some", "_law_spot", "_law_goals_here", "_law_mate"] ["_law_draws_here", "_law_near_here", "_law_size"] (defScope s_law_full) := ⟨rfl, rfl, rfl, by decide +kernel, rfl, by decide +kernel, by decide +kernel⟩
abbrev s_law_goals : Stmt := topS 41
theorem sc_law_goals : FnScope ["_law_size", "_law_steps", "_law_told", "_law_spot", "_law_goal"] ["_law_size", "_law_steps"] (defScope s_law_goals) := ⟨rfl, rfl, rfl, by decide +kernel, rfl, by decide +kernel, by decide +kernel⟩
abbrev s_law_fits : Stmt := topS 42
theorem sc_law_fits : FnScope ["_law_near_here", "_law_knots", "_law_spots", "_law_knot"] ["_law_near_here", "_law_knots", "_law_spots"] (defScope s_law_fits) := ⟨rfl, rfl, rfl, by decide +kernel, rfl, by decide +kernel, by decide +kernel⟩
abbrev s_law_may : Stmt := topS 43
theorem sc_law_may : FnScope ["_law_near_here", "_law_knots", "_law_spots", "_law_told", "_law_person", "_law_here", "_law_there", "_law_later"] ["_law_near_here", "_law_knots", "_law_spots"] (defScope s_law_may) := ⟨rfl, rfl, rfl, by decide +kernel, rfl, by decide +kernel, by decide +kernel⟩
abbrev s_law_gone : Stmt := topS 44
theorem sc_law_gone : FnScope ["_law_spots", "_law_step"] ["_law_spots", "_law_step"] (defScope s_law_gone) := ⟨rfl, rfl, rfl, by decide +kernel, rfl, by decide +kernel, by decide +kernel⟩
abbrev s_law_walked : Stmt := topS 45
theorem sc_law_walked : FnScope ["_law_draws_here", "_law_near_here", "_law_knots", "_law_spots", "_law_most", "_law_turn", "_law_some"] ["_law_draws_here", "_law_near_here", "_law_knots", "_law_spots", "_law_most"] (defScope s_law_walked) := ⟨rfl, rfl, rfl, by decide +kernel, rfl, by decide +kernel, by decide +kernel⟩
abbrev s_law_looks_right : Stmt := topS 46
theorem sc_law_looks_right : FnScope ["_law_draws_here", "_law_size", "_law_sides", "_law_crowd", "_law_knots", "_law_spots", "_law_near_here", "_law_before", "_law_due", "_law_told", "_law_step", "_law_bent", "_law_turn", "_law_good", "_law_both"] ["_law_draws_here", "_law_size", "_law_sides", "_law_crowd", "_law_knots", "_law_spots"] (defScope s_law_looks_right) := ⟨rfl, rfl, rfl, by decide +kernel, rfl, by decide +kernel, by decide +kernel⟩
abbrev s_law_steps_right : Stmt := topS 47
theorem sc_law_steps_right : FnScope ["_law_draws_here", "_law_size", "_law_sides", "_law_crowd", "_law_knots", "_law_spots", "_law_aim", "_law_near_here", "_law_before", "_law_folds_whole", "_law_told", "_law_now", "_law_step"] ["_law_draws_here", "_law_size", "_law_sides", "_law_crowd", "_law_knots", "_law_spots", "_law_aim"] (defScope s_law_steps_right) := ⟨rfl, rfl, rfl, by decide +kernel, rfl, by decide +kernel, by decide +kernel⟩
abbrev s_law_all_right : Stmt := topS 48
theorem sc_law_all_right : FnScope ["_law_size", "_law_sides", "_law_crowd", "_law_knots", "_law_near_here", "_law_rows", "_law_person", "_law_more", "_law_row", "_law_spot", "_law_good", "_law_told"] ["_law_size", "_law_sides", "_law_crowd", "_law_knots"] (defScope s_law_all_right) := ⟨rfl, rfl, rfl, by decide +kernel, rfl, by decide +kernel, by decide +kernel⟩
abbrev s_law : Stmt := topS 49
theorem sc_law : FnScope ["_law_script", "_law_draws_here", "_law_cell", "_law_most", "_law_size", "_law_sides", "_law_crowd", "_law_knots", "_law_near_here", "_law_spots", "_law_aim", "_law_row", "_law_full_here", "_law_one", "_law_two", "_law_seven", "_law_spot"] ["_law_script"] (defScope s_law) := ⟨rfl, rfl, rfl, by decide +kernel, rfl, by decide +kernel, by decide +kernel⟩

end
end Fo
/-! piece Dat -/
namespace Fo
open PySem PySem.Spec PyProof.Rows L2
/-! ## plain data: may be compared and shown -/
structure DOk (n b : Nat) (d : PyData) : Prop where
  lay : d.canLay0 = true
  dep : d.depth ≤ n
  sh : d.showable = true
  nd : d.hasDict = false
  len : d.shown.length ≤ b
theorem DOk.mono {n m b c : Nat} {d : PyData} (h : DOk n b d) (hn : n ≤ m) (hb : b ≤ c) : DOk m c d :=
  ⟨h.lay, Nat.le_trans h.dep hn, h.sh, h.nd, Nat.le_trans h.len hb⟩
theorem DOk.shaped {n b : Nat} {d : PyData} (h : DOk n b d) (hn : n ≤ 64) : SeqAt.shaped d = true := by
  unfold SeqAt.shaped
  rw [h.lay, decide_eq_true (Nat.le_trans h.dep hn)]
  rfl
theorem dok_none : DOk 0 4 .none := ⟨rfl, Nat.le_refl _, rfl, rfl, by decide⟩
theorem dok_bool (k : Bool) : DOk 0 5 (.bool k) := by cases k <;> exact ⟨rfl, Nat.le_refl _, rfl, rfl, by decide⟩
theorem natLen : ∀ n : Fin 1000, (PyData.shown (.int (Int.ofNat n.val))).length ≤ 4 ∧ (PyData.shown (.int (Int.negSucc n.val))).length ≤ 5 := by decide +kernel
theorem dok_int {i : Int} (h : i.natAbs < 1000) : DOk 0 5 (.int i) := by
  refine ⟨rfl, Nat.le_refl _, ?_, rfl, ?_⟩
  · unfold PyData.showable
    apply decide_eq_true
    have h1 : i.natAbs.log2 ≤ i.natAbs := Nat.log2_le_self _
    omega
  · cases i with
    | ofNat n => exact Nat.le_trans (natLen ⟨n, h⟩).1 (by decide)
    | negSucc n => exact (natLen ⟨n, by simp [Int.natAbs_negSucc] at h; omega⟩).2
theorem textFrom_le : ∀ (ts : List Str) (k : Nat) (acc : Str), (textFrom k acc ts).length ≤ acc.length + piled ts
  | [], k, acc => by
    show acc.length ≤ acc.length + piled []
    rw [piled_nil]
    exact Nat.le_refl _
  | t :: r, k, acc => by
    have h := textFrom_le r (k + 1) (acc ++ (if k > 0 then ", " else "" : String) ++ t)
    have e : (acc ++ (if k > 0 then ", " else "" : String) ++ t).length ≤ acc.length + 2 + t.length := by
      rw [strLen_append, strLen_append]
      split
      · exact Nat.le_refl _
      · exact Nat.add_le_add_right (Nat.add_le_add_left (Nat.zero_le _) _) _
    rw [piled_cons]
    show (textFrom (k + 1) _ r).length ≤ _
    omega
theorem listText_le (ts : List Str) : (listText ts).length ≤ 2 + piled ts := by
  have h := textFrom_le ts 0 "["
  unfold listText
  rw [strLen_append]
  have e1 : (Str.ofString "[").length = 1 := rfl
  have e2 : (Str.ofString "]").length = 1 := rfl
  omega
theorem tupleText_le (ts : List Str) : (tupleText ts).length ≤ 3 + piled ts := by
  unfold tupleText
  rw [strLen_append, strLen_append]
  have e1 : (Str.ofString "(").length = 1 := rfl
  have e3 : (Str.ofString (if ts.length == 1 then ",)" else ")")).length ≤ 2 := by split <;> decide
  by_cases h : ts = []
  · subst h
    have : (Str.join ", " ([] : List Str)).length = 0 := rfl
    omega
  · have := join_length_add ts h
    omega
theorem all_of {n b : Nat} : ∀ {xs : List PyData}, (∀ x ∈ xs, DOk n b x) → PyData.canLayAll0 xs = true ∧ PyData.depthAll xs ≤ n ∧ PyData.showableAll xs = true ∧ PyData.hasDictAll xs = false ∧ piled (PyData.shownAll xs) ≤ xs.length * (b + 2)
  | [], _ => ⟨rfl, Nat.zero_le _, rfl, rfl, by show piled [] ≤ _; rw [piled_nil]; exact Nat.zero_le _⟩
  | x :: xs, h => by
    obtain ⟨h1, h2, h3, h4, h5⟩ := all_of (xs := xs) fun y hy => h y (List.mem_cons_of_mem _ hy)
    have hx := h x (List.mem_cons_self ..)
    refine ⟨?_, ?_, ?_, ?_, ?_⟩
    · unfold PyData.canLayAll0; rw [hx.lay, h1]; rfl
    · unfold PyData.depthAll; exact Nat.max_le.mpr ⟨hx.dep, h2⟩
    · unfold PyData.showableAll; rw [hx.sh, h3]; rfl
    · unfold PyData.hasDictAll; rw [hx.nd, h4]; rfl
    · show piled (PyData.shown x :: PyData.shownAll xs) ≤ (xs.length + 1) * (b + 2)
      rw [piled_cons, Nat.succ_mul]
      have := hx.len
      omega
theorem dok_list {n b : Nat} {xs : List PyData} (h : ∀ x ∈ xs, DOk n b x) : DOk (n + 1) (2 + xs.length * (b + 2)) (.list xs) := by
  obtain ⟨h1, h2, h3, h4, h5⟩ := all_of h
  refine ⟨?_, ?_, ?_, ?_, ?_⟩
  · unfold PyData.canLay0; exact h1
  · unfold PyData.depth; omega
  · unfold PyData.showable; exact h3
  · unfold PyData.hasDict; exact h4
  · unfold PyData.shown; exact Nat.le_trans (listText_le _) (by omega)
theorem dok_tuple {n b : Nat} {xs : List PyData} (h : ∀ x ∈ xs, DOk n b x) : DOk (n + 1) (3 + xs.length * (b + 2)) (.tuple xs) := by
  obtain ⟨h1, h2, h3, h4, h5⟩ := all_of h
  refine ⟨?_, ?_, ?_, ?_, ?_⟩
  · unfold PyData.canLay0; exact h1
  · unfold PyData.depth; omega
  · unfold PyData.showable; exact h3
  · unfold PyData.hasDict; exact h4
  · unfold PyData.shown; exact Nat.le_trans (tupleText_le _) (by omega)
theorem eqv_list_nil (ds : List PyData) : PyData.eqv (.list ds) (.list []) = ds.isEmpty := by
  cases ds <;> simp [PyData.eqv, PyData.eqvAll]

section
variable {K : PySem.W.Frag} {H H' : Hp}
theorem dp_ints : ∀ xs : List Int, DpAll K H (xs.map V.int) (xs.map PyData.int)
  | [] => .nil
  | x :: xs => .cons (.int x) (dp_ints xs)
theorem dpAll_of {f : V → PyData} : ∀ {xs : List V}, (∀ x ∈ xs, Dp K H x (f x)) → DpAll K H xs (xs.map f)
  | [], _ => .nil
  | x :: xs, h => .cons (h x (List.mem_cons_self ..)) (dpAll_of fun y hy => h y (List.mem_cons_of_mem _ hy))
end
end Fo
namespace Fo
open PySem PySem.Spec PyProof.Rows L2
theorem ifF {b : Bool} {A B : Prop} (e : b = false) (h : B) : if b = true then A else B := by
  rw [e, if_neg Bool.false_ne_true]
  exact h
theorem ifT {b : Bool} {A B : Prop} (e : b = true) (h : A) : if b = true then A else B := by
  rw [if_pos e]
  exact h
theorem perm_erase {α : Type} : ∀ {l : List α} {j : Nat} {y : α}, l[j]? = some y → (y :: l.eraseIdx j).Perm l
  | [], _, _, h => by simp at h
  | a :: r, 0, y, h => by
    simp at h
    subst h
    exact List.Perm.refl _
  | a :: r, j + 1, y, h => by
    simp only [List.getElem?_cons_succ] at h
    exact (List.Perm.swap a y _).trans (List.Perm.cons a (perm_erase h))
theorem perm_move {α : Type} {ts ls xs : List α} {j : Nat} {y : α} (h : ls[j]? = some y) (p : (ts ++ ls).Perm xs) : ((ts ++ [y]) ++ ls.eraseIdx j).Perm xs := by
  refine List.Perm.trans ?_ p
  rw [List.append_assoc]
  exact List.Perm.append_left ts (perm_erase h)
/-- an index that is a remainder by the length -/
theorem mod_ix {n : Int} {len : Nat} (h : 0 < len) : ∃ j, j < len ∧ n % (len : Int) = (j : Int) := by
  have h1 := Int.emod_nonneg n (show (len : Int) ≠ 0 by omega)
  have h2 := Int.emod_lt_of_pos n (show (0 : Int) < len by omega)
  exact ⟨(n % (len : Int)).toNat, by omega, by omega⟩
theorem seqIx {j len : Nat} (h : j < len) : PySem.seqIndex? (j : Int) len = some j := by
  have h1 : ixN len (j : Int) = some j := by
    unfold ixN
    rw [if_pos (by omega), if_pos (by omega)]
    rfl
  exact (ixN_seq h1).1
end Fo
namespace Fo
open PySem PySem.Spec PyProof.Rows L2
theorem same_upd {H0 H : Hp} {r : Addr} {o : HO} (s : Same H0 H) (h : H0 r = none) : Same H0 (upd H r o) := fun b x e => by
  rw [upd_ne (ne_of_none e h)]
  exact s b x e
/-- lists of numbers of our own, in a list of our own -/
structure LsAt (H0 H : Hp) (D : Addr) (rs : List Addr) (ts : List (List Int)) : Prop where
  hD : H D = some (.lst (rs.map V.ref))
  nd : rs.Nodup
  len : rs.length = ts.length
  at_ : ∀ (i : Nat) (r : Addr) (t : List Int), rs[i]? = some r → ts[i]? = some t → H r = some (.lst (t.map V.int))
  fr : ∀ r ∈ rs, H0 r = none
  nD : D ∉ rs
theorem LsAt.trk {H0 H : Hp} {D : Addr} {rs : List Addr} {ts : List (List Int)} (L : LsAt H0 H D rs ts) {r : Addr} (h : r ∈ rs) : ∃ o, H r = some o := by
  obtain ⟨i, hi⟩ := List.getElem?_of_mem h
  have hl : i < ts.length := by rw [← L.len]; exact (List.getElem?_eq_some_iff.mp hi).1
  exact ⟨_, L.at_ i r _ hi (List.getElem?_eq_getElem hl)⟩
theorem LsAt.nil {H0 H : Hp} {D : Addr} (h : H D = some (.lst [])) : LsAt H0 H D [] [] :=
  ⟨h, List.nodup_nil, rfl, (fun i r t h _ => by simp at h), (fun r h => nomatch h), (fun h => nomatch h)⟩
theorem LsAt.push {H0 H : Hp} {D r : Addr} {rs : List Addr} {ts : List (List Int)} {t : List Int} (L : LsAt H0 H D rs ts) (nr : H r = none) (n0 : H0 r = none) :
    LsAt H0 (upd (upd H r (.lst (t.map V.int))) D (.lst (rs.map V.ref ++ [V.ref r]))) D (rs ++ [r]) (ts ++ [t]) := by
  have hDr : D ≠ r := ne_of_none L.hD nr
  have hrn : r ∉ rs := fun h => by
    obtain ⟨o, e⟩ := L.trk h
    rw [nr] at e
    cases e
  refine ⟨?_, ?_, ?_, ?_, ?_, ?_⟩
  · rw [upd_same, List.map_append]
    rfl
  · rw [List.nodup_append]
    refine ⟨L.nd, by simp, ?_⟩
    intro a ha b hb
    simp at hb
    subst hb
    rintro rfl
    exact hrn ha
  · rw [List.length_append, List.length_append, L.len]
    rfl
  · intro i a u ha hu
    by_cases hi : i < rs.length
    · rw [List.getElem?_append_left hi] at ha
      rw [List.getElem?_append_left (by rw [← L.len]; exact hi)] at hu
      have hm := List.mem_of_getElem? ha
      rw [upd_ne (show a ≠ D from fun e => L.nD (by rw [← e]; exact hm)), upd_ne (show a ≠ r from fun e => hrn (by rw [← e]; exact hm))]
      exact L.at_ i a u ha hu
    · rw [List.getElem?_append_right (by omega)] at ha
      rw [List.getElem?_append_right (by rw [← L.len]; omega), ← L.len] at hu
      have e0 : i - rs.length = 0 := by
        have := (List.getElem?_eq_some_iff.mp ha).1
        simp at this
        omega
      rw [e0] at ha hu
      simp at ha hu
      subst ha hu
      rw [upd_ne hDr.symm, upd_same]
  · intro a ha
    rcases List.mem_append.mp ha with ha | ha
    · exact L.fr a ha
    · simp at ha
      subst ha
      exact n0
  · intro h
    rcases List.mem_append.mp h with h | h
    · exact L.nD h
    · simp at h
      exact hDr h
theorem LsAt.modify {H0 H : Hp} {D r : Addr} {rs : List Addr} {ts : List (List Int)} {j : Nat} {t : List Int} {v : Int} (L : LsAt H0 H D rs ts) (hr : rs[j]? = some r) (ht : ts[j]? = some t) :
    LsAt H0 (upd H r (.lst (t.map V.int ++ [V.int v]))) D rs (ts.modify j (· ++ [v])) := by
  have hm := List.mem_of_getElem? hr
  refine ⟨?_, L.nd, ?_, ?_, L.fr, L.nD⟩
  · rw [upd_ne (fun e => L.nD (by rw [e]; exact hm))]
    exact L.hD
  · rw [List.length_modify]
    exact L.len
  · intro i a u ha hu
    rw [List.getElem?_modify] at hu
    by_cases hij : i = j
    · subst hij
      rw [hr] at ha
      cases ha
      rw [ht] at hu
      simp at hu
      subst hu
      rw [upd_same, List.map_append]
      rfl
    · have hne : a ≠ r := fun e => by
        subst e
        exact hij (nd_ix L.nd ha hr)
      rw [upd_ne hne]
      simp only [if_neg (Ne.symm hij)] at hu
      exact L.at_ i a u ha (by simpa using hu)
theorem LsAt.fr_none {H0 H : Hp} {D : Addr} {rs : List Addr} {ts : List (List Int)} (L : LsAt H0 H D rs ts) (h : H0 D = none) : H0 D = none := h
theorem LsAt.but {H0 H : Hp} {D r : Addr} {rs : List Addr} {ts : List (List Int)} {o : HO} (L : LsAt H0 H D rs ts) (nr : H r = none) : LsAt H0 (upd H r o) D rs ts := by
  refine ⟨by rw [upd_ne (ne_of_none L.hD nr)]; exact L.hD, L.nd, L.len, ?_, L.fr, L.nD⟩
  intro i a u ha hu
  rw [upd_ne (ne_of_none (L.at_ i a u ha hu) nr)]
  exact L.at_ i a u ha hu
theorem LsAt.same {H0 H H' : Hp} {D : Addr} {rs : List Addr} {ts : List (List Int)} (L : LsAt H0 H D rs ts) (s : Same H H') : LsAt H0 H' D rs ts :=
  ⟨s _ _ L.hD, L.nd, L.len, fun i r t h1 h2 => s _ _ (L.at_ i r t h1 h2), L.fr, L.nD⟩
end Fo

/-! piece Aux3 -/
namespace Fo
open PySem PySem.Spec PyProof.Rows L2
section
variable {X : Cx}
/-! ## x is not True -/
def isTrueV (x : V) : Bool := match x with
  | .bl true => true
  | _ => false
def rNotT : R2 := fun x y H Q => y = .bl true ∧ Q (.bl (!isTrueV x)) H
theorem op_notT : OpR X (compareOp .IsNot) rNotT := by
  intro pins s σ H x y v u Q I rx ry h
  obtain ⟨rfl, q⟩ := h
  cases (show u = Value.bool true from ry)
  have fin : ∀ b : Bool, b = !isTrueV x → EP X pins σ Q (.bool b) s := fun b e => ⟨.bl b, H, I, rfl, by rw [e]; exact q⟩
  cases x with
  | bl b =>
    cases (show v = Value.bool b from rx)
    cases b with
    | true => exact wpAny_isNot_self rfl (fin false rfl)
    | false => exact wpAny_isNot_other rfl (fun z => nomatch z) (fin true rfl)
  | non => cases (show v = Value.none from rx); exact wpAny_isNot_other rfl (fun z => nomatch z) (fin true rfl)
  | ty n => cases (show v = Value.type n from rx); exact wpAny_isNot_other rfl (fun z => nomatch z) (fin true rfl)
  | ref a => cases (show v = Value.ref a from rx); exact wpAny_isNot_other rfl (fun z => nomatch z) (fin true rfl)
  | int i => obtain ⟨t, rfl⟩ := (show ∃ t, v = Value.int i t from rx); exact wpAny_isNot_other rfl (fun z => nomatch z) (fin true rfl)
  | str i => obtain ⟨t, rfl⟩ := (show ∃ t, v = Value.str i t from rx); exact wpAny_isNot_other rfl (fun z => nomatch z) (fin true rfl)
  | byt i => obtain ⟨t, rfl⟩ := (show ∃ t, v = Value.bytes i t from rx); exact wpAny_isNot_other rfl (fun z => nomatch z) (fin true rfl)
  | flt i => obtain ⟨t, rfl⟩ := (show ∃ t, v = Value.float i t from rx); exact wpAny_isNot_other rfl (fun z => nomatch z) (fin true rfl)
/-! ## a test of three comparisons in a row -/
section
variable {a b c d : Expr} {pos : Pos} {ta tb tc td : TE}
def tChain3 (r r' r'' : R2) (ta tb tc td : TE) : TT := fun σ H Q => ta σ H fun x H1 => tb σ H1 fun y H2 => r x y H2 fun z H3 => ∃ k, z = .bl k ∧
  (if k = true then tc σ H3 fun w' H4 => r' y w' H4 fun z2 H5 => ∃ k2, z2 = .bl k2 ∧ (if k2 = true then td σ H5 fun w2 H6 => r'' w' w2 H6 fun z3 H7 => ∃ k3, z3 = .bl k3 ∧ Q k3 H7 else Q false H5) else Q false H3)
theorem pt_chain3 {op op' op'' : CmpOp} {r r' r'' : R2} (ho : OpR X (compareOp op) r) (ho' : OpR X (compareOp op') r') (ho'' : OpR X (compareOp op'') r'') (ha : PE X a ta) (hb : PE X b tb) (hc : PE X c tc) (hd : PE X d td)
    (hm : lastMarks [op, op', op''] [b, c, d] = false := by with_unfolding_all rfl) : PT X (.Compare a [op, op', op''] [b, c, d] pos) (tChain3 r r' r'' ta tb tc td) := by
  refine ⟨fun pins s σ H Q I h => ?_⟩
  refine isTrue_chain (thn (ha.run pins s σ H _ I h) fun v s1 ⟨x, H1, I1, r1, q1⟩ => test_link (thn (hb.run pins s1 σ H1 _ I1 q1) fun u s2 ⟨y, H2, I2, r2, q2⟩ =>
    thn (ho pins s2 σ H2 x y v u _ I2 r1 r2 q2) fun d s3 ⟨z, H3, I3, r3, k, e, q3⟩ => ?_)) hm
  subst e
  cases r3
  refine wpAny_truthy_bool ?_
  cases k with
  | false => exact ite_ff ⟨H3, I3, q3⟩
  | true =>
    refine ite_tt (test_link (thn (hc.run pins s3 σ H3 _ I3 q3) fun w' s4 ⟨z', H4, I4, r4, q4⟩ => thn (ho' pins s4 σ H4 y z' u w' _ I4 r2 r4 q4) fun d' s5 ⟨z2, H5, I5, r5, k2, e2, q5⟩ => ?_))
    subst e2
    cases r5
    refine wpAny_truthy_bool ?_
    cases k2 with
    | false => exact ite_ff ⟨H5, I5, q5⟩
    | true =>
      refine ite_tt (test_last (thn (hd.run pins s5 σ H5 _ I5 q5) fun w2 s6 ⟨z6, H6, I6, r6, q6⟩ => thn (ho'' pins s6 σ H6 z' z6 w' w2 _ I6 r4 r6 q6) fun d2 s7 ⟨z7, H7, I7, r7, k7, e7, q7⟩ => ?_))
      subst e7
      cases r7
      exact wpAny_truthy_bool ⟨H7, I7, q7⟩
end
/-! ## a[i] |= e of a list of ints -/
def rGetL : V → V → Hp → VK → Prop := fun o i H Q => ∃ p xs k j y, o = .ref p ∧ i = .int k ∧ H p = some (.lst xs) ∧ 0 ≤ k ∧ k.toNat = j ∧ xs[j]? = some y ∧ Q y H
theorem get_list : PGet X rGetL := by
  intro pins s σ H o i ov iv Q I ro ri h
  obtain ⟨p, xs, k, j, y, rfl, rfl, hp, h0, hj, hy, q⟩ := h
  cases ro
  obtain ⟨t, rfl⟩ := (show ∃ t, iv = Value.int k t from ri)
  obtain ⟨its, n, r, ho, hz⟩ := I.lst hp
  obtain ⟨w, ew, rw'⟩ := r.get hy
  have hl := r.length
  have hn := line63
  have hjl : j < xs.length := (List.getElem?_eq_some_iff.mp hy).1
  obtain ⟨its2, r2, pl, _⟩ := I.list (SqL.of hp)
  obtain ⟨w2, ew2, rw2⟩ := r2.get hy
  have fin : EP X pins σ Q w2 s := ⟨y, H, I, rw2, q⟩
  exact wpAny_mono (wpAny_getItem_list (Q := fun r s' => r = w2 ∧ EP X pins σ Q r s') pl.isList h0 (by omega) (by rw [hj]; simpa using ew2) ⟨rfl, fin⟩) (fun v s' z => z.2) (fun _ _ z => z)
theorem ip_or : PIp X .BitOr (ipI fun i j => Builtin.bitOr i j) := by
  intro pins s σ H x y v u Q I r1 r2 h
  obtain ⟨i, j, e1, e2, q⟩ := h
  subst e1; subst e2
  obtain ⟨t, rfl⟩ := r1
  obtain ⟨t', rfl⟩ := r2
  exact ior_int ⟨.int _, H, I.tok _, ⟨_, rfl⟩, q⟩
theorem ip_and : PIp X .BitAnd (ipI fun i j => Builtin.bitAnd i j) := by
  intro pins s σ H x y v u Q I r1 r2 h
  obtain ⟨i, j, e1, e2, q⟩ := h
  subst e1; subst e2
  obtain ⟨t, rfl⟩ := r1
  obtain ⟨t', rfl⟩ := r2
  exact iand_int ⟨.int _, H, I.tok _, ⟨_, rfl⟩, q⟩
theorem ip_xor : PIp X .BitXor (ipI fun i j => Builtin.bitXor i j) := by
  intro pins s σ H x y v u Q I r1 r2 h
  obtain ⟨i, j, e1, e2, q⟩ := h
  subst e1; subst e2
  obtain ⟨t, rfl⟩ := r1
  obtain ⟨t', rfl⟩ := r2
  exact ixor_int ⟨.int _, H, I.tok _, ⟨_, rfl⟩, q⟩
/-! ## bits of natural numbers -/
theorem bAnd (a b : Nat) : Builtin.bitAnd (a : Int) (b : Int) = ((a &&& b : Nat) : Int) := by
  rw [bitAnd_pp (Int.natCast_nonneg a) (Int.natCast_nonneg b)]
  rfl
theorem bOr (a b : Nat) : Builtin.bitOr (a : Int) (b : Int) = ((a ||| b : Nat) : Int) := by
  rw [bitOr_nn (Int.natCast_nonneg a) (Int.natCast_nonneg b)]
  rfl
theorem bit_test (v k : Nat) : (Builtin.bitAnd ((v : Int) / 2 ^ k) 1 != 0) = v.testBit k := by
  have e : (v : Int) / 2 ^ k = ((v / 2 ^ k : Nat) : Int) := by rw [Int.natCast_ediv, Int.natCast_pow]; rfl
  rw [e, show Builtin.bitAnd ((v / 2 ^ k : Nat) : Int) 1 = ((v / 2 ^ k &&& 1 : Nat) : Int) from bAnd _ 1, Nat.testBit_eq_decide_div_mod_eq, Nat.and_one_is_mod]
  rcases Nat.mod_two_eq_zero_or_one (v / 2 ^ k) with h | h <;> rw [h] <;> rfl
end
end Fo
namespace Fo
open PySem PySem.Spec PyProof.Rows L2
theorem cut_1 (xs : List V) : cutV xs (some 1) none = xs.drop 1 := by
  unfold cutV
  rw [show HT.sIx xs.length 0 (some 1) = min 1 xs.length from HT.sIx_nat xs.length 0 1, HT.sIx_none]
  cases xs with
  | nil => rfl
  | cons x r =>
    rw [show min 1 (x :: r).length = 1 from Nat.min_eq_left (by rw [List.length_cons]; omega), List.drop_succ_cons, List.drop_zero, List.length_cons, Nat.add_sub_cancel, List.take_length]
end Fo

namespace Fo
open PySem PySem.Spec PyProof.Rows L2
/-! piece Aux4 -/
section
open PySem PySem.Spec PyProof.Rows L2
theorem pe_lcN {X : Cx} {N : List Str} {sc : Scope} {elt tg iter : Expr} {ifs : List Expr} {scope : Scope} {pos : Pos} {wi : TI} {g : TG} {tt : TT} {te : TE} {vs : List Nat}
    (nd : N.Nodup) (hXN : X.N = N) (hXs : X.env.scope = sc)
    (hv : (ownOf N scope).map (·.2) = vs) (hb : blkC N sc scope (ownOf N scope) = true) (hc : X.calm = true) (hi : PI X tg iter wi)
    (hg : ∀ (s : Shared) (H : Hp) (C : Addr) (cl : List (Str × Addr)) (fp : List Addr), PG (X.blk s H scope (compEnvC scope cl C X.env) fp) tg g)
    (ht : ∀ (s : Shared) (H : Hp) (C : Addr) (cl : List (Str × Addr)) (fp : List Addr), PTs (X.blk s H scope (compEnvC scope cl C X.env) fp) ifs tt)
    (he : ∀ (s : Shared) (H : Hp) (C : Addr) (cl : List (Str × Addr)) (fp : List Addr), PE (X.blk s H scope (compEnvC scope cl C X.env) fp) elt te)
    (hs : ∀ x, foldedSetIterable iter X.env x = pure x := by intro _; rfl) :
    PE X (.ListComp elt [⟨tg, iter, ifs, 0⟩] scope pos) (tLc wi g tt te vs) := by
  subst hv
  refine pe_lc hc (by rw [hXN]; exact nd) hi ?_ hg ht he hs
  rw [hXN, hXs]
  exact blkOk_by hb
theorem call_minK {X : Cx} {K : PySem.W.Frag} (_ : KMark K) (h : X.K = K) (hc : X.calm = true) : CallR X (.builtin "min") (rMin K) := h ▸ cr_min hc

end
/-! piece EN -/
section
open PySem PySem.Spec PyProof.Rows L2
/-! ### enumerate(list, c), enumerate(list, start=c) -/
def ItE (K : PySem.W.Frag) (a : Addr) (c : Int) : It where
  go i H := ∃ (ys : List V) (y : V), SqL K H a ys ∧ ys[i]? = some y
  yld i H v G := ∃ T y, v = .ref T ∧ H T = none ∧ G = upd H T (.tup [.int (c + (i : Nat)), y]) ∧ ∀ ys, SqL K H a ys → ys[i]? = some y
  stop i H := ∃ ys : List V, SqL K H a ys ∧ ys.length = i
theorem turn_enumC {P : Program} {w : World} {K : PySem.W.Frag} {es : List Expr} {kk : Nat} {tp : Pos} (c : Int) (a e it : Addr) :
    Turn P w K (.Tuple es kk tp) (ItE K a c) [e, it] e (fun i h => (∃ old, IsEnum h e it (c + (i : Nat)) old) ∧ h.IsListIter it a i ∧ e ≠ it) := by
  refine ⟨by simp, ?ob, ?ke, ?im, ?dn, ?sf⟩
  case ob =>
    rintro i h ⟨⟨old, he⟩, ⟨o, ho, hc, hd⟩, _⟩ b hb
    rcases (show b = e ∨ b = it by simpa using hb) with z | z
    · subst z; exact ⟨_, he, fun v q => nomatch q⟩
    · subst z; exact ⟨o, ho, fun v q => by rw [hd] at q; cases q⟩
  case ke =>
    rintro i h h' ⟨⟨old, he⟩, hi, hne⟩ k
    exact ⟨⟨old, k e (by simp) _ he⟩, hi.at fun o q => k it (by simp) o q, hne⟩
  case im =>
    intro X hP hw hK hc i pins s σ H E I hf st hg
    subst hP hw hK
    obtain ⟨⟨old, he⟩, hit, hne⟩ := st
    obtain ⟨xs, x, hq, hx⟩ := hg
    obtain ⟨its, rv, p, hz⟩ := I.list hq
    obtain ⟨u, hu, ru⟩ := rv.get hx
    have hel : e < s.heap.objs.size := Heap.lt_size he
    have hil : it < s.heap.objs.size := by obtain ⟨_, q, _⟩ := hit; exact Heap.lt_size q
    have hai : a ≠ it := fun z => by
      obtain ⟨o1, h1, c1, _⟩ := hit
      obtain ⟨o2, h2, c2, _⟩ := p.isList
      rw [z, h1] at h2
      cases h2
      rw [c1] at c2
      exact absurd c2 (by decide)
    have hea : e ≠ a := fun z => by
      obtain ⟨o2, h2, c2, _⟩ := p.isList
      rw [← z, show s.heap.get? e = _ from he] at h2
      cases h2
      exact absurd (show Value.type "enumerate" = Value.type "list" from c2) (by decide)
    have D := Draws.list (prog := X.prog) (w := X.w) (A := X.A.in1) (I.ok.hd hc) it a hai its.toArray
    have hlt : i < its.toArray.size := by
      have := (List.getElem?_eq_some_iff.mp hu).1
      simpa using this
    refine wpAny_pyNext_enum_itemC D he ⟨hit, p.isList⟩ hlt hne (by simp [hne, hea]) fun x' h' tk hx' ho hst hT hsz hk => ?_
    obtain rfl : x' = u := by
      have h1 : its.toArray[i]? = some u := by simpa using hu
      rw [h1] at hx'
      exact (Option.some.inj hx').symm
    refine ⟨_, rfl, wpAny_letOwnedTupleGo_enum ho fun h2 he2 sb => ?_⟩
    have hT2 : h2.get? s.heap.objs.size = some { cls := .type "tuple", data := .seq #[.int (c + (i : Nat)) tk, x'] } := (sb.2 _ (Nat.ne_of_gt hel)).trans hT
    have fresh : ObjOk X.prog X.w (upd H s.heap.objs.size (.tup [.int (c + (i : Nat)), x])) h2 s.heap.objs.size (.tup [.int (c + (i : Nat)), x]) :=
      ⟨by show 2 ≤ sizeLine; decide, [.int (c + (i : Nat)) tk, x'], .cons ⟨_, rfl⟩ (.cons ru .nil), ⟨_, hT2, rfl, _, rfl⟩⟩
    have I2 : Inv X pins σ (upd H s.heap.objs.size (.tup [.int (c + (i : Nat)), x])) { s with heap := h2, toks := tk + 1 } :=
      I.turnedNew (ch := [e, it]) (fun b ob hb q => (sb.2 b (fun z => hb (by simp [z]))).trans (hk b ob (fun z => hb (by simp [z])) (fun z => hb (by simp [z])) q)) hf (Nat.le_refl _) fresh
    refine ⟨.ref s.heap.objs.size, _, I2, rfl, ⟨_, x, rfl, I.hok.fresh (Nat.le_refl _), rfl, fun ys hy => by rw [I.list_inj hy hq]; exact hx⟩, ⟨⟨x', ?_⟩, hst.1.at fun o q => (sb.2 it (Ne.symm hne)).trans q, hne⟩, fun b hb => ?_⟩
    · rw [show c + ((i + 1 : Nat) : Int) = c + (i : Nat) + 1 by omega]
      exact he2
    · have hlt2 : b < s.heap.objs.size := by
        rcases (show b = e ∨ b = it by simpa using hb) with z | z
        · subst z; exact hel
        · subst z; exact hil
      rw [upd_ne (Nat.ne_of_lt hlt2)]
      exact (hf b hb).1
  case dn =>
    intro X hP hw hK hc i pins s σ H E I hf st hg
    subst hP hw hK
    obtain ⟨⟨old, he⟩, hit, hne⟩ := st
    obtain ⟨xs, hq, hx⟩ := hg
    obtain ⟨its, rv, p, hz⟩ := I.list hq
    obtain ⟨f0, f1, f2, f3, f4, f5⟩ := hf it (by simp)
    have hl := rv.length
    have hai : a ≠ it := fun z => by
      obtain ⟨o1, h1, c1, _⟩ := hit
      obtain ⟨o2, h2, c2, _⟩ := p.isList
      rw [z, h1] at h2
      cases h2
      rw [c1] at c2
      exact absurd c2 (by decide)
    have D := Draws.list (prog := X.prog) (w := X.w) (A := X.A.in1) (I.ok.hd hc) it a hai its.toArray
    have hn : its.toArray.size = i := by simp; omega
    exact wpAny_pyNext_enum_endD D he ⟨by rw [hn]; exact hit, p.isList⟩ fun h' eb => ⟨rfl, I.turned (t' := s.toks) (fun b o hb q => eb b o hb q) f0 f1 f3 f4 f5⟩
  case sf =>
    rintro A i s Q E ⟨⟨_, he⟩, _⟩ h
    exact wpAny_pyIter_enum he h
/-- what the iterator of the list at a, told from c on, begins with -/
theorem enum_start {X : Cx} {pins : List (Addr × Obj)} {σ : L2.St} {H : Hp} {s1 : Shared} {es : List Expr} {kk : Nat} {tp : Pos} {a : Addr} {c : Int} {R : It → Hp → Prop} {h' : Heap}
    (I : Inv X pins σ H s1) (he : IsEnum h' (s1.heap.objs.size + 1) s1.heap.objs.size c .none) (hit : h'.get? s1.heap.objs.size = some { cls := .type "list_iterator", data := .fields #[.ref a, .int 0 0] })
    (hk : ∀ b o, s1.heap.get? b = some o → h'.get? b = some o) (q : R (ItE X.K a c) H) :
    wpAny (model X.prog X.w) X.A (pyIter (.ref (s1.heap.objs.size + 1))) (PIE X pins σ (.Tuple es kk tp) R) X.xe { s1 with heap := h' } := by
  refine wpAny_pyIter_enum he ?_
  have I2 : Inv X pins σ H { s1 with heap := h' } := I.kept (t' := s1.toks) hk
  refine ⟨s1.heap.objs.size + 1, [s1.heap.objs.size + 1, s1.heap.objs.size], _, _, H, rfl, I2, turn_enumC c a (s1.heap.objs.size + 1) s1.heap.objs.size, ⟨⟨.none, ?_⟩, ⟨_, hit, rfl, rfl⟩, Nat.succ_ne_self _⟩, fun b hb => ?_, q⟩
  · rw [show c + ((0 : Nat) : Int) = c by omega]
    exact he
  · have hle : s1.heap.objs.size ≤ b := by
      rcases (show b = s1.heap.objs.size + 1 ∨ b = s1.heap.objs.size by simpa using hb) with z | z
      · subst z; exact Nat.le_add_right _ _
      · subst z; exact Nat.le_refl _
    exact I.fpOk hle (I.hok.fresh hle)
def iEnumC (K : PySem.W.Frag) (ta : TA) : TI := fun σ H R => ta σ H fun vs H1 => ∃ a xs c, vs = [.ref a, .int c] ∧ SqL K H1 a xs ∧ (-(2 ^ 63) ≤ c ∧ c < 2 ^ 63) ∧ R (ItE K a c) H1
theorem pi_enumC {X : Cx} {K : PySem.W.Frag} {e k : Expr} {ta : TA} {p pos tp : Pos} {es : List Expr} {kk : Nat} (_ : KMark K) (hXK : X.K = K) (hg : Gl X "enumerate") (hm : X.mg "enumerate" = none) (ha : PA X [e, k] ta)
    (hs : starEach [e, k] X.env = [(false, eval e X.env), (false, eval k X.env)] := by rfl) (hs2 : starEach [k] X.env = [(false, eval k X.env)] := by rfl) :
    PI X (.Tuple es kk tp) (.Call (.Name "enumerate" p) [e, k] [] pos) (iEnumC K ta) := by
  subst hXK
  refine ⟨fun pins s σ H R I h => ?_⟩
  refine Call_ (ld_blt I hg hm boot_enumerate (PyProof.Rows.callWith_type1 (thn (ha.run pos pins s σ H _ I h) fun us s1 ⟨vs, H1, I1, r1, q1⟩ => ?_) (by rw [hs, hs2]) (by rw [hs2]; rfl)))
  obtain ⟨a, xs, c, rfl, hq, hc, q⟩ := q1
  cases r1 with
  | cons r rr =>
    cases rr with
    | cons r' rr =>
      cases rr
      cases r
      obtain ⟨t, rfl⟩ := r'
      obtain ⟨its, rv, p', hz⟩ := I1.list hq
      exact enum_begins (begins_list a its.toArray) p'.isList hc.1 hc.2 fun h' he hit hsz hk => enum_start I1 he hit hk q
def iEnumS (K : PySem.W.Frag) (ta tk : TA) : TI := fun σ H R => ta σ H fun vs H1 => tk σ H1 fun zs H2 => ∃ a xs c, vs = [.ref a] ∧ zs = [.int c] ∧ SqL K H2 a xs ∧ (-(2 ^ 63) ≤ c ∧ c < 2 ^ 63) ∧ R (ItE K a c) H2
theorem pi_enumS {X : Cx} {K : PySem.W.Frag} {e : Expr} {kws : List Keyword} {ta tk : TA} {p pos tp : Pos} {es : List Expr} {kk : Nat} (_ : KMark K) (hXK : X.K = K) (hg : Gl X "enumerate") (hm : X.mg "enumerate" = none) (ha : PA X [e] ta) (hkw : PK X kws tk)
    (hall : (backToKw pos (keywordEach kws X.env)).all (·.1.isSome) = true := by rfl) (hks : (backToKw pos (keywordEach kws X.env)).filterMap (·.1) = [Str.ofString "start"] := by rfl)
    (hpl : ((backTo pos (starEach [e] X.env)).any (·.1) || (backToKw pos (keywordEach kws X.env)).any (·.1.isNone)) = false := by rfl) (he : starEach [e] X.env = (false, eval e X.env) :: starEach [] X.env := by rfl) :
    PI X (.Tuple es kk tp) (.Call (.Name "enumerate" p) [e] kws pos) (iEnumS K ta tk) := by
  subst hXK
  refine ⟨fun pins s σ H R I h => ?_⟩
  refine wpAny_Call_Name_kw (ld_blt I hg hm boot_enumerate ?_)
  refine PySem.W.callWith_of (P := fun _ => True) hpl (fun h _ => ⟨.machine, .inr (.inl rfl), .of_pure rfl⟩) (evalArgs_kw2 hall (thn (ha.run pos pins s σ H _ I h) fun us s1 ⟨vs, H1, I1, r1, q1⟩ => thn (hkw.run pos pins s1 σ H1 _ I1 q1) fun ws s2 ⟨zs, H2, I2, r2, q2⟩ => ⟨trivial, ?_⟩) he)
  rw [hks]
  obtain ⟨a, xs, c, rfl, rfl, hq, hc, q⟩ := q2
  obtain ⟨u, rfl, ru⟩ := vals1 r1
  obtain ⟨v, rfl, rv⟩ := vals1 r2
  cases ru
  obtain ⟨t, rfl⟩ := rv
  obtain ⟨its, rv, p', hz⟩ := I2.list hq
  exact enum_begins_start (begins_list a its.toArray) p'.isList hc.1 hc.2 fun h' he hit hsz hk => enum_start I2 he hit hk q
/-- for over such an iterator -/
theorem for_enumC {K : PySem.W.Frag} {a : Addr} {c : Int} {xs : List V} {g : TG} {tb : TS} {D : Ends} {σ : Sl} {H : Hp} (Pv : Nat → Sl → Hp → Prop) (h0 : Pv 0 σ H) (hl : ∀ i σ H, i ≤ xs.length → Pv i σ H → SqL K H a xs)
    (hs : ∀ (i : Nat) x T σ H, xs[i]? = some x → Pv i σ H → H T = none → g (.ref T) σ (upd H T (.tup [.int (c + (i : Nat)), x])) fun σ2 H2 => tb { D with nx := Pv (i + 1), ct := Pv (i + 1), bk := D.nx } σ2 H2)
    (hd : ∀ σ H, Pv xs.length σ H → D.nx σ H) :
    ∃ W : Nat → Nat → Sl → Hp → Prop, (∃ m, W 0 m σ H) ∧ ∀ i m σ H, W i m σ H →
      ((ItE K a c).stop i H ∧ D.nx σ H) ∨ ((ItE K a c).go i H ∧ ∃ N : Sl → Hp → Prop, (∀ σ' H', N σ' H' → ∃ m', m' < m ∧ W (i + 1) m' σ' H') ∧
        ∀ x H', (ItE K a c).yld i H x H' → g x σ H' fun σ2 H2 => tb { D with nx := N, ct := N, bk := D.nx } σ2 H2) := by
  refine ⟨fun i m σ H => m = xs.length - i ∧ i ≤ xs.length ∧ Pv i σ H, ⟨xs.length, by simp, Nat.zero_le _, h0⟩, ?_⟩
  rintro i m σ H ⟨rfl, hi, p⟩
  have q := hl i σ H hi p
  by_cases hlt : i < xs.length
  · refine Or.inr ⟨⟨xs, xs[i], q, List.getElem?_eq_getElem hlt⟩, Pv (i + 1), fun σ' H' p' => ⟨xs.length - (i + 1), by omega, rfl, hlt, p'⟩, ?_⟩
    rintro x H' ⟨T, y, rfl, nT, rfl, hx⟩
    exact hs i y T σ H (hx xs q) p nT
  · obtain rfl : i = xs.length := by omega
    exact Or.inl ⟨⟨xs, q, rfl⟩, hd σ H p⟩

end
/-! piece AX -/
section
open PySem PySem.Spec PyProof.Rows L2
section
variable {X : Cx} {K : PySem.W.Frag}
theorem op_inDK {k : Nat} (_ : KMark K) (h : X.K = K) (hr : Room k X.A) : OpR X (compareOp .In) (rInD K) := h ▸ op_inD (by have := hr.un; omega)
theorem op_notInDK {k : Nat} (_ : KMark K) (h : X.K = K) (hr : Room k X.A) : OpR X (compareOp .NotIn) (rNotInD K) := h ▸ op_notInD (by have := hr.un; omega)
/-- x in y, flat things or data -/
def rInB2 (K : PySem.W.Frag) : R2 := fun x y H Q => rIn K false x y H Q ∨ rInD K x y H Q
def rNotInB2 (K : PySem.W.Frag) : R2 := fun x y H Q => rIn K true x y H Q ∨ rNotInD K x y H Q
theorem op_inB2 {k : Nat} (m : KMark K) (h : X.K = K) (hr : Room k X.A) : OpR X (compareOp .In) (rInB2 K) := (op_inK m h).or (op_inDK m h hr)
theorem op_notInB2 {k : Nat} (m : KMark K) (h : X.K = K) (hr : Room k X.A) : OpR X (compareOp .NotIn) (rNotInB2 K) := (op_notInK m h).or (op_notInDK m h hr)
/-- products of numbers, and lists repeated -/
def rMulB : R2 := fun x y H Q => rI CMul (fun i j => .int (i * j)) x y H Q ∨ rRep x y H Q
theorem opMulB : OpR X (binaryOp .Mult) rMulB := op_mul.or op_rep
end

end
/-! piece AX2 -/
section
open PySem PySem.Spec PyProof.Rows L2
section
variable {X : Cx} {K : PySem.W.Frag}
theorem pe_step2 {e st : Expr} {te tk : TE} {p3 pos : Pos} (he : PE X e te) (hst : PE X st tk)
    (hgo : ∀ v sl, subscripted (.Slice none none (some st) p3) false v sl = operate [v, sl] (getItem v sl) := by intro _ _; rfl) :
    PE X (.Subscript e (.Slice none none (some st) p3) pos) (tStep X.K te tk) := by
  constructor
  intro pins s σ H Q I h
  apply Subscript_
  refine thn (he.run pins s σ H _ I h) ?_
  rintro v s1 ⟨x, H1, I1, r1, q1⟩
  apply wpAny_Slice
  refine thn (po_none.run pins s1 σ H1 (fun o H2 => o = none ∧ H2 = H1) I1 ⟨rfl, rfl⟩) ?_
  rintro vl s2 ⟨l, H2, I2, pl, rfl, rfl⟩
  refine thn (po_none.run pins s2 σ H2 (fun o H3 => o = none ∧ H3 = H2) I2 ⟨rfl, rfl⟩) ?_
  rintro vu s3 ⟨u, H3, I3, pu, rfl, rfl⟩
  refine thn ((po_some hst).run pins s3 σ H3 _ I3 q1) ?_
  rintro vs s4 ⟨o, H4, I4, ps, a, xs, rfl, hk, hx, q⟩
  cases r1
  have I5 : Inv X pins σ H4 { s4 with heap := s4.heap.push { cls := .type "slice", data := .fields #[vl, vu, vs] } } :=
    I4.kept (t' := s4.toks) fun b ob z => Heap.get?_push_of_some _ z
  obtain ⟨its, r, ht, hz⟩ := I5.list hx
  have hlen := r.length
  have fin : ∀ (ys : List V) (its' : List Value), Vals ys its' → ys.length ≤ sizeLine → (∀ p, H4 p = none → Q (.ref p) (upd H4 p (.lst ys))) →
      EP X pins σ Q (.ref (s4.heap.push { cls := .type "slice", data := .fields #[vl, vu, vs] }).objs.size)
        { s4 with heap := (s4.heap.push { cls := .type "slice", data := .fields #[vl, vu, vs] }).push { cls := .type "list", data := .seq its'.toArray } } := by
    intro ys its' rv hz' hq
    refine ⟨.ref _, _, I5.laid (t' := s4.toks) (o := .lst ys) (fun b ob z => Heap.get?_push_of_some _ z) (Nat.le_refl _) ?_, rfl, hq _ (I5.hok.fresh (Nat.le_refl _))⟩
    exact ⟨hz', its', 0, rv, Heap.get?_push_size _ rfl⟩
  have hgo' := hgo (.ref a) (.ref s4.heap.objs.size)
  refine tail_any (ops := [.ref a, .ref s4.heap.objs.size]) ht.isList.typeIs (PySem.slot_list_getitem.lookup) ?_ hgo'
  refine wpAny_getItem_list_slice ht.isList (Heap.IsSliceOf.new _ vl vu vs) pl pu ps (by rcases hk with rfl | rfl <;> decide) ?_ (by rw [List.size_toArray]; omega)
  rcases hk with rfl | rfl
  · rw [slicePick_one]
    have e : stepV (some 1) xs = xs := by simp [stepV]
    rw [e] at q
    exact fin xs its r hz q
  · rw [PySem.W.krv_pick]
    have e : stepV (some (-1)) xs = xs.reverse := by simp [stepV]
    rw [e] at q
    exact fin xs.reverse its.reverse (Vals.reverse r) (by rw [List.length_reverse]; exact hz) q

theorem pe_stepK2 {e st : Expr} {te tk : TE} {p3 pos : Pos} (_ : KMark K) (h : X.K = K) (he : PE X e te) (hst : PE X st tk)
    (hgo : ∀ v sl, subscripted (.Slice none none (some st) p3) false v sl = operate [v, sl] (getItem v sl) := by intro _ _; rfl) : PE X (.Subscript e (.Slice none none (some st) p3) pos) (tStep K te tk) := h ▸ pe_step2 he hst hgo
end

end
/-! piece L2C -/
section
open PySem PySem.Spec PyProof.Rows L2
section
variable {X : Cx}
theorem pe_lc2O {N ps : List Str} {sc : Scope} {elt tg iter tg1 iter1 : Expr} {ifs ifs1 : List Expr} {scope : Scope} {pos : Pos} {wi wi1 : TI} {g g1 : TG} {tt tt1 : TT} {te : TE} {vs vs1 : List Nat}
    (S : FnScope N ps sc) (hXN : X.N = N) (hXs : X.env.scope = sc)
    (hv : (ownOf N scope).map (·.2) = vs) (hv1 : (vs1.all fun i => vs.contains i) = true) (hb : blkC N sc scope (ownOf N scope) = true) (hc : X.calm = true) (hi : PI X tg iter wi)
    (hg : ∀ (s : Shared) (H : Hp) (C : Addr) (cl : List (Str × Addr)) (fp : List Addr), PG (X.blk s H scope (compEnvC scope cl C X.env) fp) tg g)
    (ht : ∀ (s : Shared) (H : Hp) (C : Addr) (cl : List (Str × Addr)) (fp : List Addr), PTs (X.blk s H scope (compEnvC scope cl C X.env) fp) ifs tt)
    (hi1 : ∀ (s : Shared) (H : Hp) (C : Addr) (cl : List (Str × Addr)) (fp : List Addr), PI (X.blk s H scope (compEnvC scope cl C X.env) fp) tg1 iter1 wi1)
    (hg1 : ∀ (s : Shared) (H : Hp) (C : Addr) (cl : List (Str × Addr)) (fp : List Addr), PG (X.blk s H scope (compEnvC scope cl C X.env) fp) tg1 g1)
    (ht1 : ∀ (s : Shared) (H : Hp) (C : Addr) (cl : List (Str × Addr)) (fp : List Addr), PTs (X.blk s H scope (compEnvC scope cl C X.env) fp) ifs1 tt1)
    (he : ∀ (s : Shared) (H : Hp) (C : Addr) (cl : List (Str × Addr)) (fp : List Addr), PE (X.blk s H scope (compEnvC scope cl C X.env) fp) elt te)
    (hs : ∀ x, foldedSetIterable iter X.env x = pure x := by intro _; rfl) (hs1 : ∀ env x, foldedSetIterable iter1 env x = pure x := by intro _ _; rfl) :
    PE X (.ListComp elt [⟨tg, iter, ifs, 0⟩, ⟨tg1, iter1, ifs1, 0⟩] scope pos) (tLc2 wi g tt wi1 g1 tt1 te vs vs1) := by
  subst hv
  refine pe_lc2 hc (by rw [hXN]; exact S.nd) hi ?_ (fun i h => ?_) hg ht hi1 hg1 ht1 he hs hs1
  · rw [hXN, hXs]
    exact blkOk_by hb
  · have := List.all_eq_true.mp hv1 i h
    simpa using this
end
section
variable {X : Cx}
theorem ps_setLc2O {N ps : List Str} {sc : Scope} {i : Nat} {y : Str} {py : Pos} {elt tg iter tg1 iter1 : Expr} {ifs ifs1 : List Expr} {scope : Scope} {pos spos : Pos} {wi wi1 : TI} {g g1 : TG} {tt tt1 : TT} {te : TE} {vs vs1 : List Nat}
    (S : FnScope N ps sc) (hXN : X.N = N) (hXs : X.env.scope = sc)
    (hv : (ownOf N scope).map (·.2) = vs) (hv1 : (vs1.all fun i => vs.contains i) = true) (hb : blkC N sc scope (ownOf N scope) = true) (hc : X.calm = true) (hy : X.N[i]? = some y) (hyl : X.env.scope.names.lookup y = some .local)
    (hsw : swapsWith (.ListComp elt [⟨tg, iter, ifs, 0⟩, ⟨tg1, iter1, ifs1, 0⟩] scope pos) (some (.Name y py)) spos.line X.env = pure true) (hi : PI X tg iter wi)
    (hg : ∀ (s : Shared) (H : Hp) (C : Addr) (cl : List (Str × Addr)) (fp : List Addr), PG (X.blk s H scope (compEnvC scope cl C X.env) fp) tg g)
    (ht : ∀ (s : Shared) (H : Hp) (C : Addr) (cl : List (Str × Addr)) (fp : List Addr), PTs (X.blk s H scope (compEnvC scope cl C X.env) fp) ifs tt)
    (hi1 : ∀ (s : Shared) (H : Hp) (C : Addr) (cl : List (Str × Addr)) (fp : List Addr), PI (X.blk s H scope (compEnvC scope cl C X.env) fp) tg1 iter1 wi1)
    (hg1 : ∀ (s : Shared) (H : Hp) (C : Addr) (cl : List (Str × Addr)) (fp : List Addr), PG (X.blk s H scope (compEnvC scope cl C X.env) fp) tg1 g1)
    (ht1 : ∀ (s : Shared) (H : Hp) (C : Addr) (cl : List (Str × Addr)) (fp : List Addr), PTs (X.blk s H scope (compEnvC scope cl C X.env) fp) ifs1 tt1)
    (he : ∀ (s : Shared) (H : Hp) (C : Addr) (cl : List (Str × Addr)) (fp : List Addr), PE (X.blk s H scope (compEnvC scope cl C X.env) fp) elt te)
    (hs : ∀ x, foldedSetIterable iter X.env x = pure x := by intro _; rfl) (hs1 : ∀ env x, foldedSetIterable iter1 env x = pure x := by intro _ _; rfl) :
    PS X (.Assign [.Name y py] (.ListComp elt [⟨tg, iter, ifs, 0⟩, ⟨tg1, iter1, ifs1, 0⟩] scope pos) spos) (tAsg (tLc2 wi g tt wi1 g1 tt1 te vs vs1) (gName i)) := by
  subst hv
  refine ps_setLc2 hc (by rw [hXN]; exact S.nd) hy hyl hsw hi ?_ (fun i h => ?_) hg ht hi1 hg1 ht1 he hs hs1
  · rw [hXN, hXs]
    exact blkOk_by hb
  · have := List.all_eq_true.mp hv1 i h
    simpa using this
end
/-- two walks in one comprehension: the outer one over a list -/
theorem lc2_list {K : PySem.W.Frag} {a : Addr} {xs : List V} {g : TG} {tt : TT} {wi1 : TI} {g1 : TG} {tt1 : TT} {te : TE} {vs vs1 : List Nat} {σ : Sl} {H1 : Hp} {D : Addr} {Qd : Hp → Prop} (Pv : Nat → Hp → Prop) (h0 : Pv 0 (upd H1 D (.lst []))) (hl : ∀ i H, i ≤ xs.length → Pv i H → SqL K H a xs)
    (hs : ∀ i x H, xs[i]? = some x → Pv i H → g x (wipe σ vs) H fun σ2 H2 => wipe σ2 vs = wipe σ vs ∧ tt σ2 H2 fun b H3 =>
      if b = true then wi1 σ2 H3 fun J1 H4 => ∃ W1 : Nat → Nat → Hp → Prop, (∃ m, W1 0 m H4) ∧ ∀ j k H, W1 j k H →
        (J1.stop j H ∧ Pv (i + 1) H) ∨ (J1.go j H ∧ ∃ Nx1 : Hp → Prop, (∀ H', Nx1 H' → ∃ k', k' < k ∧ W1 (j + 1) k' H') ∧ ∀ x H', J1.yld j H x H' → g1 x (wipe σ2 vs1) H' fun σ3 H5 => wipe σ3 vs1 = wipe σ2 vs1 ∧ tt1 σ3 H5 fun b H6 =>
          if b = true then te σ3 H6 fun y H7 => ∃ acc, H7 D = some (.lst acc) ∧ acc.length < sizeLine ∧ Nx1 (upd H7 D (.lst (acc ++ [y]))) else Nx1 H6)
      else Pv (i + 1) H3) (hd : ∀ H, Pv xs.length H → Qd H) :
    ∃ W : Nat → Nat → Hp → Prop, (∃ m, W 0 m (upd H1 D (.lst []))) ∧ ∀ i m H, W i m H →
      ((Itl K a).stop i H ∧ Qd H) ∨ ((Itl K a).go i H ∧ ∃ Nx : Hp → Prop, (∀ H', Nx H' → ∃ m', m' < m ∧ W (i + 1) m' H') ∧ ∀ x H', (Itl K a).yld i H x H' → g x (wipe σ vs) H' fun σ2 H2 => wipe σ2 vs = wipe σ vs ∧ tt σ2 H2 fun b H3 =>
        if b = true then wi1 σ2 H3 fun J1 H4 => ∃ W1 : Nat → Nat → Hp → Prop, (∃ m, W1 0 m H4) ∧ ∀ j k H, W1 j k H →
          (J1.stop j H ∧ Nx H) ∨ (J1.go j H ∧ ∃ Nx1 : Hp → Prop, (∀ H', Nx1 H' → ∃ k', k' < k ∧ W1 (j + 1) k' H') ∧ ∀ x H', J1.yld j H x H' → g1 x (wipe σ2 vs1) H' fun σ3 H5 => wipe σ3 vs1 = wipe σ2 vs1 ∧ tt1 σ3 H5 fun b H6 =>
            if b = true then te σ3 H6 fun y H7 => ∃ acc, H7 D = some (.lst acc) ∧ acc.length < sizeLine ∧ Nx1 (upd H7 D (.lst (acc ++ [y]))) else Nx1 H6)
        else Nx H3) := by
  refine ⟨fun i m H => m = xs.length - i ∧ i ≤ xs.length ∧ Pv i H, ⟨xs.length, by simp, Nat.zero_le _, h0⟩, ?_⟩
  rintro i m H ⟨rfl, hi, p⟩
  have q := hl i H hi p
  by_cases hlt : i < xs.length
  · refine .inr ⟨⟨xs, xs[i], q, by simp [hlt]⟩, Pv (i + 1), fun H' p' => ⟨xs.length - (i + 1), by omega, rfl, hlt, p'⟩, fun x H' y => ?_⟩
    obtain ⟨e, y⟩ := y
    subst e
    exact hs i x _ (y xs q) p
  · have e : i = xs.length := by omega
    subst e
    exact .inl ⟨⟨xs, q, Nat.le_refl _⟩, hd H p⟩
/-- the inner one over a list -/
theorem lc2_in {K : PySem.W.Frag} {a : Addr} {xs : List V} {g1 : TG} {tt1 : TT} {te : TE} {vs1 : List Nat} {σ2 : Sl} {H4 : Hp} {D : Addr} {Qd : Hp → Prop} (Pv : Nat → Hp → Prop) (h0 : Pv 0 H4) (hl : ∀ i H, i ≤ xs.length → Pv i H → SqL K H a xs)
    (hs : ∀ i x H, xs[i]? = some x → Pv i H → g1 x (wipe σ2 vs1) H fun σ3 H5 => wipe σ3 vs1 = wipe σ2 vs1 ∧ tt1 σ3 H5 fun b H6 =>
          if b = true then te σ3 H6 fun y H7 => ∃ acc, H7 D = some (.lst acc) ∧ acc.length < sizeLine ∧ Pv (i + 1) (upd H7 D (.lst (acc ++ [y]))) else Pv (i + 1) H6)
    (hd : ∀ H, Pv xs.length H → Qd H) :
    ∃ W1 : Nat → Nat → Hp → Prop, (∃ m, W1 0 m H4) ∧ ∀ j k H, W1 j k H →
        ((Itl K a).stop j H ∧ Qd H) ∨ ((Itl K a).go j H ∧ ∃ Nx1 : Hp → Prop, (∀ H', Nx1 H' → ∃ k', k' < k ∧ W1 (j + 1) k' H') ∧ ∀ x H', (Itl K a).yld j H x H' → g1 x (wipe σ2 vs1) H' fun σ3 H5 => wipe σ3 vs1 = wipe σ2 vs1 ∧ tt1 σ3 H5 fun b H6 =>
          if b = true then te σ3 H6 fun y H7 => ∃ acc, H7 D = some (.lst acc) ∧ acc.length < sizeLine ∧ Nx1 (upd H7 D (.lst (acc ++ [y]))) else Nx1 H6) := by
  refine ⟨fun i m H => m = xs.length - i ∧ i ≤ xs.length ∧ Pv i H, ⟨xs.length, by simp, Nat.zero_le _, h0⟩, ?_⟩
  rintro i m H ⟨rfl, hi, p⟩
  have q := hl i H hi p
  by_cases hlt : i < xs.length
  · refine .inr ⟨⟨xs, xs[i], q, by simp [hlt]⟩, Pv (i + 1), fun H' p' => ⟨xs.length - (i + 1), by omega, rfl, hlt, p'⟩, fun x H' y => ?_⟩
    obtain ⟨e, y⟩ := y
    subst e
    exact hs i x _ (y xs q) p
  · have e : i = xs.length := by omega
    subst e
    exact .inl ⟨⟨xs, q, Nat.le_refl _⟩, hd H p⟩
/-- the outer one over an enumeration from c on -/
theorem lc2_enumO {K : PySem.W.Frag} {a : Addr} {c : Int} {xs : List V} {g : TG} {tt : TT} {wi1 : TI} {g1 : TG} {tt1 : TT} {te : TE} {vs vs1 : List Nat} {σ : Sl} {H1 : Hp} {D : Addr} {Qd : Hp → Prop} (Pv : Nat → Hp → Prop) (h0 : Pv 0 (upd H1 D (.lst []))) (hl : ∀ i H, i ≤ xs.length → Pv i H → SqL K H a xs)
    (hs : ∀ (i : Nat) x T H, xs[i]? = some x → Pv i H → H T = none → g (.ref T) (wipe σ vs) (upd H T (.tup [.int (c + (i : Nat)), x])) fun σ2 H2 => wipe σ2 vs = wipe σ vs ∧ tt σ2 H2 fun b H3 =>
      if b = true then wi1 σ2 H3 fun J1 H4 => ∃ W1 : Nat → Nat → Hp → Prop, (∃ m, W1 0 m H4) ∧ ∀ j k H, W1 j k H →
        (J1.stop j H ∧ Pv (i + 1) H) ∨ (J1.go j H ∧ ∃ Nx1 : Hp → Prop, (∀ H', Nx1 H' → ∃ k', k' < k ∧ W1 (j + 1) k' H') ∧ ∀ x H', J1.yld j H x H' → g1 x (wipe σ2 vs1) H' fun σ3 H5 => wipe σ3 vs1 = wipe σ2 vs1 ∧ tt1 σ3 H5 fun b H6 =>
          if b = true then te σ3 H6 fun y H7 => ∃ acc, H7 D = some (.lst acc) ∧ acc.length < sizeLine ∧ Nx1 (upd H7 D (.lst (acc ++ [y]))) else Nx1 H6)
      else Pv (i + 1) H3) (hd : ∀ H, Pv xs.length H → Qd H) :
    ∃ W : Nat → Nat → Hp → Prop, (∃ m, W 0 m (upd H1 D (.lst []))) ∧ ∀ i m H, W i m H →
      ((ItE K a c).stop i H ∧ Qd H) ∨ ((ItE K a c).go i H ∧ ∃ Nx : Hp → Prop, (∀ H', Nx H' → ∃ m', m' < m ∧ W (i + 1) m' H') ∧ ∀ x H', (ItE K a c).yld i H x H' → g x (wipe σ vs) H' fun σ2 H2 => wipe σ2 vs = wipe σ vs ∧ tt σ2 H2 fun b H3 =>
        if b = true then wi1 σ2 H3 fun J1 H4 => ∃ W1 : Nat → Nat → Hp → Prop, (∃ m, W1 0 m H4) ∧ ∀ j k H, W1 j k H →
          (J1.stop j H ∧ Nx H) ∨ (J1.go j H ∧ ∃ Nx1 : Hp → Prop, (∀ H', Nx1 H' → ∃ k', k' < k ∧ W1 (j + 1) k' H') ∧ ∀ x H', J1.yld j H x H' → g1 x (wipe σ2 vs1) H' fun σ3 H5 => wipe σ3 vs1 = wipe σ2 vs1 ∧ tt1 σ3 H5 fun b H6 =>
            if b = true then te σ3 H6 fun y H7 => ∃ acc, H7 D = some (.lst acc) ∧ acc.length < sizeLine ∧ Nx1 (upd H7 D (.lst (acc ++ [y]))) else Nx1 H6)
        else Nx H3) := by
  refine ⟨fun i m H => m = xs.length - i ∧ i ≤ xs.length ∧ Pv i H, ⟨xs.length, by simp, Nat.zero_le _, h0⟩, ?_⟩
  rintro i m H ⟨rfl, hi, p⟩
  have q := hl i H hi p
  by_cases hlt : i < xs.length
  · refine .inr ⟨⟨xs, xs[i], q, by simp [hlt]⟩, Pv (i + 1), fun H' p' => ⟨xs.length - (i + 1), by omega, rfl, hlt, p'⟩, ?_⟩
    rintro x H' ⟨T, y, rfl, nT, rfl, hx⟩
    exact hs i y T H (hx xs q) p nT
  · have e : i = xs.length := by omega
    subst e
    exact .inl ⟨⟨xs, q, rfl⟩, hd H p⟩
/-- the inner one over an enumeration from c on -/
theorem lc2_enumI {K : PySem.W.Frag} {a : Addr} {c : Int} {xs : List V} {g1 : TG} {tt1 : TT} {te : TE} {vs1 : List Nat} {σ2 : Sl} {H4 : Hp} {D : Addr} {Qd : Hp → Prop} (Pv : Nat → Hp → Prop) (h0 : Pv 0 H4) (hl : ∀ i H, i ≤ xs.length → Pv i H → SqL K H a xs)
    (hs : ∀ (i : Nat) x T H, xs[i]? = some x → Pv i H → H T = none → g1 (.ref T) (wipe σ2 vs1) (upd H T (.tup [.int (c + (i : Nat)), x])) fun σ3 H5 => wipe σ3 vs1 = wipe σ2 vs1 ∧ tt1 σ3 H5 fun b H6 =>
          if b = true then te σ3 H6 fun y H7 => ∃ acc, H7 D = some (.lst acc) ∧ acc.length < sizeLine ∧ Pv (i + 1) (upd H7 D (.lst (acc ++ [y]))) else Pv (i + 1) H6)
    (hd : ∀ H, Pv xs.length H → Qd H) :
    ∃ W1 : Nat → Nat → Hp → Prop, (∃ m, W1 0 m H4) ∧ ∀ j k H, W1 j k H →
        ((ItE K a c).stop j H ∧ Qd H) ∨ ((ItE K a c).go j H ∧ ∃ Nx1 : Hp → Prop, (∀ H', Nx1 H' → ∃ k', k' < k ∧ W1 (j + 1) k' H') ∧ ∀ x H', (ItE K a c).yld j H x H' → g1 x (wipe σ2 vs1) H' fun σ3 H5 => wipe σ3 vs1 = wipe σ2 vs1 ∧ tt1 σ3 H5 fun b H6 =>
          if b = true then te σ3 H6 fun y H7 => ∃ acc, H7 D = some (.lst acc) ∧ acc.length < sizeLine ∧ Nx1 (upd H7 D (.lst (acc ++ [y]))) else Nx1 H6) := by
  refine ⟨fun i m H => m = xs.length - i ∧ i ≤ xs.length ∧ Pv i H, ⟨xs.length, by simp, Nat.zero_le _, h0⟩, ?_⟩
  rintro i m H ⟨rfl, hi, p⟩
  have q := hl i H hi p
  by_cases hlt : i < xs.length
  · refine .inr ⟨⟨xs, xs[i], q, by simp [hlt]⟩, Pv (i + 1), fun H' p' => ⟨xs.length - (i + 1), by omega, rfl, hlt, p'⟩, ?_⟩
    rintro x H' ⟨T, y, rfl, nT, rfl, hx⟩
    exact hs i y T H (hx xs q) p nT
  · have e : i = xs.length := by omega
    subst e
    exact .inl ⟨⟨xs, q, rfl⟩, hd H p⟩

end
/-! piece SV -/
section
open PySem PySem.Spec PyProof.Rows L2
section
variable {X : Cx}
/-! ### sum(d.values()) -/
def tSumVals (te : TE) : TE := fun σ H Q => te σ H fun x H1 => ∃ (d : Addr) (kvs : List (Key × V)) (ns : List Int), x = .ref d ∧ H1 d = some (.dK kvs) ∧ kvs.map (·.2) = ns.map V.int ∧ Q (.int ns.sum) H1
theorem preSum_ints : ∀ (ns : List Int) (n : Nat), n ≤ ns.length → preSum (fun i => (ns[i]?).getD 0) n = (ns.take n).sum
  | _, 0, _ => rfl
  | ns, n + 1, h => by
    show preSum _ n + (ns[n]?).getD 0 = _
    rw [preSum_ints ns n (Nat.le_of_succ_le h), List.take_succ, List.getElem?_eq_getElem h, List.sum_append]
    simp
theorem pe_sumVals {e : Expr} {te : TE} {p0 pos apos cpos : Pos} (hc : X.calm = true) (hg : Gl X "sum") (hms : X.mg "sum" = none) (he : PE X e te)
    (hbase : attributeBase e "values" X.env (eval e X.env) = eval e X.env := by rfl) (hline : (apos.endLine == cpos.line) = true := by rfl)
    (hs1 : starEach [.Call (.Attribute e "values" apos) [] [] cpos] X.env = (false, eval (.Call (.Attribute e "values" apos) [] [] cpos) X.env) :: starEach [] X.env := by rfl)
    (hp1 : (backTo pos (starEach [] X.env)).any (·.1) = false := by rfl) :
    PE X (.Call (.Name "sum" p0) [.Call (.Attribute e "values" apos) [] [] cpos] [] pos) (tSumVals te) := by
  refine ⟨fun pins s σ H Q I h => ?_⟩
  refine wpAny_Call_Name_kw (ld_blt I hg hms boot_sum ?_)
  refine PyProof.Rows.callWith_builtin1 ?_ hs1 hp1
  rw [hs1]
  show wpAny _ _ (spliced ((false, eval (.Call (.Attribute e "values" apos) [] [] cpos) X.env) :: backTo pos (starEach [] X.env))) _ _ s
  refine Calls.spliced_cons ?_
  refine wpAny_Call_method (T := "dict") (id := "dict.values") hbase rfl hline F.plainAttrs_dict F.slot_dict_values F.type_dict_values (thn (he.run pins s σ H _ I h) fun u s1 ⟨x, H1, I1, rx, d, kvs, ns, ex, hd, hv, q⟩ => ?_)
  subst ex
  obtain rfl : u = Value.ref d := rx
  obtain ⟨hsz, hs, vs, kv, hm⟩ := dk_of I1.hok hd
  obtain ⟨ep, hat⟩ := hm.dictAt
  have hl : kvs.length = vs.length := Paired.length kv
  refine ⟨hm.typeIs, hm.mapOf.noDict, ?_⟩
  have hnl : ns.length = vs.length := by rw [← hl, ← List.length_map (f := V.int), ← hv, List.length_map]
  have hview : ({ s1 with heap := s1.heap.push { cls := .type "dict_values", data := .fields #[.ref d] } } : Shared).heap.IsValuesView s1.heap.objs.size d := ⟨_, Heap.get?_push_size _ rfl, rfl, rfl⟩
  have hat2 : ({ s1 with heap := s1.heap.push { cls := .type "dict_values", data := .fields #[.ref d] } } : Shared).heap.DictAt (mixKind X.prog X.w) d vs ep := hat.push _
  have fin : wpAny (model X.prog X.w) X.A (call (.builtin "sum") [.ref s1.heap.objs.size]) (EP X pins σ Q) X.xe { s1 with heap := s1.heap.push { cls := .type "dict_values", data := .fields #[.ref d] } } := by
    refine call_sum_walkAnyS ?_
    have KS := PySem.W.kdl_values (prog := X.prog) (w := X.w) (knd := mixKind X.prog X.w) (r := s1.heap.objs.size) (d := d) (kvs := vs) (ep := ep)
    obtain ⟨oI, St, hit, W, st⟩ := KS.iter X.A.in1 { s1 with heap := s1.heap.push { cls := .type "dict_values", data := .fields #[.ref d] } } (I1.ok.hd hc) ⟨hview, hat2⟩
    refine hit _ _ ⟨_, _, _, _, vs.length, _, _, fun i => (ns[i]?).getD 0, rfl, W.toS, st, fun b hb => ?_, ?_, fun s' t' hmv => ?_⟩
    · show b < (Heap.push _ oI).objs.size
      rw [Heap.size_push]
      rcases List.mem_cons.mp hb with e | hb
      · rw [e]; exact Nat.lt_succ_self _
      · rw [List.mem_singleton.mp hb]
        exact Nat.lt_succ_of_lt (KS.there _ ⟨hview, hat2⟩).2
    · rintro i v ⟨k, hk⟩
      have hi : i < vs.length := (List.getElem?_eq_some_iff.mp hk).1
      have hkv : kvs[i]? = some kvs[i] := List.getElem?_eq_getElem (by omega)
      obtain ⟨u, hu, ru⟩ := kv_get kv (i := i) (k := kvs[i].1) (v := kvs[i].2) hkv
      rw [hk] at hu
      cases hu
      have h2 : (kvs.map (·.2))[i]? = some kvs[i].2 := by rw [List.getElem?_map, hkv]; rfl
      rw [hv, List.getElem?_map] at h2
      have hn : ns[i]? = some ns[i] := List.getElem?_eq_getElem (by omega)
      rw [hn] at h2
      have h3 : V.int ns[i] = kvs[i].2 := Option.some.inj h2
      rw [← h3] at ru
      obtain ⟨t, rfl⟩ := ru
      exact ⟨t, by show Value.int ns[i] t = Value.int ((ns[i]?).getD 0) t; rw [hn]; rfl⟩
    · have hk : ∀ b o, s1.heap.get? b = some o → s'.heap.get? b = some o := fun b o e =>
        hmv.heap b o (fun hI => absurd (Heap.lt_size (Heap.get?_push_of_some { cls := .type "dict_values", data := .fields #[.ref d] } e)) (by rw [List.mem_singleton.mp hI]; exact Nat.lt_irrefl _)) (Heap.get?_push_of_some _ (Heap.get?_push_of_some _ e))
      rw [Moved.eq_with hmv, ← hnl, preSum_ints ns _ (Nat.le_refl _), List.take_length]
      exact ⟨.int _, H1, I1.kept (t' := s'.toks) hk, ⟨t', rfl⟩, q⟩
  show wpAny _ _ (callWith cpos (.builtin "dict.values") [.ref d] [] []) _ X.xe s1
  exact method_meetsIn F.slot_dict_values F.entry_dict_values rfl (PySem.evalArgs_none ⟨rfl, hm.typeIs, F.args_dict_values_1 _, _, meets_dict_values (mixKind X.prog X.w) d hs, ⟨vs, hm⟩, Calls.spliced_nil fin⟩)
end

end
/-! piece AX7 -/
section
open PySem PySem.Spec PyProof.Rows L2
section
variable {X : Cx} {K : PySem.W.Frag}
/-! ### xs[::k], some of the items -/
theorem vals_places : ∀ {xs : List V} {us : List Value}, Vals xs us → ∀ js : List Nat, Vals (js.filterMap (xs[·]?)) (js.filterMap (us[·]?))
  | _, _, _, [] => .nil
  | xs, us, h, j :: js => by
    have ih := vals_places h js
    cases hn : xs[j]? with
    | some x =>
      obtain ⟨u, hu, r⟩ := h.get hn
      simp only [List.filterMap_cons, hn, hu]
      exact .cons r ih
    | none =>
      have hv : us[j]? = none := by
        rw [List.getElem?_eq_none_iff] at hn ⊢
        rw [← h.length]; exact hn
      simp only [List.filterMap_cons, hn, hv]
      exact ih
theorem places_mem {α : Type} {xs : List α} {js : List Nat} {y : α} (h : y ∈ js.filterMap (xs[·]?)) : y ∈ xs := by
  obtain ⟨j, _, e⟩ := List.mem_filterMap.mp h
  exact List.mem_of_getElem? e
def tSome (K : PySem.W.Frag) (te tk : TE) : TE := fun σ H Q => te σ H fun x H1 => tPart tk σ H1 fun o H2 =>
  ∃ a xs, x = .ref a ∧ o ≠ some 0 ∧ SqL K H2 a xs ∧ ∀ ys : List V, (∀ y ∈ ys, y ∈ xs) → ys.length ≤ xs.length → ∀ p, H2 p = none → Q (.ref p) (upd H2 p (.lst ys))
theorem pe_some7 {e st : Expr} {te tk : TE} {p3 pos : Pos} (he : PE X e te) (hst : PE X st tk)
    (hgo : ∀ v sl, subscripted (.Slice none none (some st) p3) false v sl = operate [v, sl] (getItem v sl) := by intro _ _; rfl) :
    PE X (.Subscript e (.Slice none none (some st) p3) pos) (tSome X.K te tk) := by
  constructor
  intro pins s σ H Q I h
  apply Subscript_
  refine thn (he.run pins s σ H _ I h) ?_
  rintro v s1 ⟨x, H1, I1, r1, q1⟩
  apply wpAny_Slice
  refine thn (po_none.run pins s1 σ H1 (fun o H2 => o = none ∧ H2 = H1) I1 ⟨rfl, rfl⟩) ?_
  rintro vl s2 ⟨l, H2, I2, pl, rfl, rfl⟩
  refine thn (po_none.run pins s2 σ H2 (fun o H3 => o = none ∧ H3 = H2) I2 ⟨rfl, rfl⟩) ?_
  rintro vu s3 ⟨u, H3, I3, pu, rfl, rfl⟩
  refine thn ((po_some hst).run pins s3 σ H3 _ I3 q1) ?_
  rintro vs s4 ⟨o, H4, I4, ps, a, xs, rfl, hk, hx, q⟩
  cases r1
  have I5 : Inv X pins σ H4 { s4 with heap := s4.heap.push { cls := .type "slice", data := .fields #[vl, vu, vs] } } :=
    I4.kept (t' := s4.toks) fun b ob z => Heap.get?_push_of_some _ z
  obtain ⟨its, r, ht, hz⟩ := I5.list hx
  have hlen := r.length
  have hgo' := hgo (.ref a) (.ref s4.heap.objs.size)
  refine tail_any (ops := [.ref a, .ref s4.heap.objs.size]) ht.isList.typeIs (PySem.slot_list_getitem.lookup) ?_ hgo'
  refine wpAny_getItem_list_slice ht.isList (Heap.IsSliceOf.new _ vl vu vs) pl pu ps hk ?_ (by rw [List.size_toArray]; omega)
  have hsz := slicePick_size_le its.toArray none none o
  generalize hj : sliceRange (sliceBounds none none o its.toArray.size).1 (sliceBounds none none o its.toArray.size).2.1 (sliceBounds none none o its.toArray.size).2.2 = js
  have e : slicePick its.toArray none none o = (js.filterMap (its[·]?)).toArray := by
    unfold slicePick
    rw [hj]
    simp
  rw [e] at hsz ⊢
  have rv := vals_places r js
  have hl := rv.length
  rw [List.size_toArray, List.size_toArray] at hsz
  refine ⟨.ref _, _, I5.laid (t' := s4.toks) (o := .lst (js.filterMap (xs[·]?))) (fun b ob z => Heap.get?_push_of_some _ z) (Nat.le_refl _) ?_, rfl, q _ (fun y hy => places_mem hy) (by omega) _ (I5.hok.fresh (Nat.le_refl _))⟩
  exact ⟨by omega, _, 0, rv, Heap.get?_push_size _ rfl⟩
theorem pe_someK7 {e st : Expr} {te tk : TE} {p3 pos : Pos} (_ : KMark K) (h : X.K = K) (he : PE X e te) (hst : PE X st tk)
    (hgo : ∀ v sl, subscripted (.Slice none none (some st) p3) false v sl = operate [v, sl] (getItem v sl) := by intro _ _; rfl) : PE X (.Subscript e (.Slice none none (some st) p3) pos) (tSome K te tk) := h ▸ pe_some7 he hst hgo
end

end
/-! tactics TAC -/
local macro_rules | `(tactic| wtm_at "fo a") => `(tactic| first
  | exact pa_nil
  | (refine' pa_cons ?k1 ?k2; (case k1 => wtm_at "fo e"); (case k2 => wtm_at "fo a"))
  | fail "no")
local macro_rules | `(tactic| wtm_at "fo v") => `(tactic| first
  | exact pv 0
  | exact pv 1
  | exact pv 2
  | exact pv 3
  | exact pv 4
  | exact pv 5
  | exact pv 6
  | exact pv 7
  | exact pv 8
  | exact pv 9
  | exact pv 10
  | exact pv 11
  | exact pv 12
  | exact pv 13
  | exact pv 14
  | exact pv 15
  | fail "no")
local macro_rules | `(tactic| wtm_at "fo e") => `(tactic| first
  | with_reducible exact pe_int
  | with_reducible exact pe_bl
  | with_reducible exact pe_non
  | with_reducible exact pe_str
  | ((with_reducible show PE _ (.Name _ _) _); wtm_at "fo v")
  | ((with_reducible show PE _ (.BinOp _ .Add _ _) _); apply pe_op opAddB <;> wtm_at "fo e")
  | ((with_reducible show PE _ (.BinOp _ .Sub _ _) _); apply pe_op op_sub <;> wtm_at "fo e")
  | ((with_reducible show PE _ (.BinOp _ .Mult _ _) _); apply pe_op op_mul <;> wtm_at "fo e")
  | ((with_reducible show PE _ (.BinOp _ .Mod _ _) _); apply pe_op op_mod <;> wtm_at "fo e")
  | ((with_reducible show PE _ (.BinOp _ .FloorDiv _ _) _); apply pe_op op_fdiv <;> wtm_at "fo e")
  | ((with_reducible show PE _ (.BinOp _ .Pow _ _) _); apply pe_op op_powW <;> wtm_at "fo e")
  | ((with_reducible show PE _ (.BinOp _ .LShift _ _) _); apply pe_op op_shl <;> wtm_at "fo e")
  | ((with_reducible show PE _ (.BinOp _ .RShift _ _) _); apply pe_op op_shr <;> wtm_at "fo e")
  | ((with_reducible show PE _ (.BinOp _ .BitAnd _ _) _); apply pe_op op_and <;> wtm_at "fo e")
  | ((with_reducible show PE _ (.List _ _) _); apply pe_lst; wtm_at "fo a")
  | ((with_reducible show PE _ (.Tuple _ _ _) _); apply pe_tup; wtm_at "fo a")
  | ((with_reducible show PE _ (.ListComp _ [_] _ _) _); wtm_at "fo lc")
  | ((with_reducible show PE _ (.IfExp _ _ _ _) _); apply pe_ifExp; (· wtm_at "fo t"); (· wtm_at "fo e"); (· wtm_at "fo e"))
  | ((with_reducible show PE _ (.UnaryOp .USub _ _) _); apply pe_un un_neg; wtm_at "fo e")
  | ((with_reducible show PE _ (.Call (.Name _ _) [] (_ :: _) _) _); wtm_at "fo kcall")
  | ((with_reducible show PE _ (.Call (.Name _ _) _ _ _) _); wtm_at "fo call")
  | ((with_reducible show PE _ (.Call (.Attribute _ _ _) _ _ _) _); wtm_at "fo meth")
  | ((with_reducible show PE _ (.Compare _ _ _ _) _); wtm_at "fo cmp")
  | ((with_reducible show PE _ (.Subscript _ (.Slice _ _ _ _) _) _); wtm_at "fo slice")
  | ((with_reducible show PE _ (.Subscript _ _ _) _); refine' pe_ix (ix_seqK (by assumption) (by exact rfl)) ?ka ?kb (fun _ _ => rfl); (case ka => wtm_at "fo e"); (case kb => wtm_at "fo e"))
  | fail "no")
local macro_rules | `(tactic| wtm_at "fo own") => `(tactic| first
  | ((show _ = [0]); kernel_rfl!)
  | ((show _ = [1]); kernel_rfl!)
  | ((show _ = [2]); kernel_rfl!)
  | ((show _ = [3]); kernel_rfl!)
  | ((show _ = [4]); kernel_rfl!)
  | ((show _ = [5]); kernel_rfl!)
  | ((show _ = [6]); kernel_rfl!)
  | ((show _ = [7]); kernel_rfl!)
  | ((show _ = [8]); kernel_rfl!)
  | ((show _ = [9]); kernel_rfl!)
  | ((show _ = [10]); kernel_rfl!)
  | ((show _ = [11]); kernel_rfl!)
  | ((show _ = [12]); kernel_rfl!)
  | ((show _ = [13]); kernel_rfl!)
  | ((show _ = [14]); kernel_rfl!)
  | ((show _ = [15]); kernel_rfl!)
  | ((show _ = [0, 1]); kernel_rfl!)
  | ((show _ = [1, 2]); kernel_rfl!)
  | ((show _ = [2, 3]); kernel_rfl!)
  | ((show _ = [3, 4]); kernel_rfl!)
  | ((show _ = [4, 5]); kernel_rfl!)
  | ((show _ = [5, 6]); kernel_rfl!)
  | ((show _ = [6, 7]); kernel_rfl!)
  | ((show _ = [7, 8]); kernel_rfl!)
  | ((show _ = [8, 9]); kernel_rfl!)
  | ((show _ = [9, 10]); kernel_rfl!)
  | ((show _ = [10, 11]); kernel_rfl!)
  | ((show _ = [11, 12]); kernel_rfl!)
  | ((show _ = [12, 13]); kernel_rfl!)
  | ((show _ = [13, 14]); kernel_rfl!)
  | ((show _ = [14, 15]); kernel_rfl!)
  | fail "no")
local macro_rules | `(tactic| wtm_at "fo ts") => `(tactic| first
  | exact pts_nil
  | (apply pts_one; wtm_at "fo t")
  | fail "no")
local macro_rules | `(tactic| wtm_at "fo lc") => `(tactic| first
  | (refine' pe_lcO (by assumption) (by exact rfl) (by exact rfl) (by wtm_at "fo own") (by decide +kernel) rfl ?ki ?kg ?kt ?ke; (case ki => wtm_at "fo i"); (case kg => (intro _ _ _ _ _; wtm_at "fo g")); (case kt => (intro _ _ _ _ _; wtm_at "fo ts")); (case ke => (intro _ _ _ _ _; wtm_at "fo e")))
  | fail "no")
local macro_rules | `(tactic| wtm_at "fo part") => `(tactic| first
  | exact po_none
  | (apply po_some; wtm_at "fo e")
  | fail "no")
local macro_rules | `(tactic| wtm_at "fo slice") => `(tactic| first
  | ((with_reducible show PE _ (.Subscript _ (.Slice _ _ none _) _) _); refine' pe_slice (sl_listK (by assumption) (by exact rfl)) ?ka ?kb ?kc; (case ka => wtm_at "fo e"); (case kb => wtm_at "fo part"); (case kc => wtm_at "fo part"))
  | ((with_reducible show PE _ (.Subscript _ (.Slice none none (some _) _) _) _); refine' pe_stepK (by assumption) (by exact rfl) ?ka ?kb; (case ka => wtm_at "fo e"); (case kb => wtm_at "fo e"))
  | fail "no")
local macro_rules | `(tactic| wtm_at "fo cmp") => `(tactic| first
  | ((with_reducible show PE _ (.Compare _ [.Lt] _ _) _); refine' pe_cmpR op_lt ?ka ?kb (nomark _); (case ka => wtm_at "fo e"); (case kb => wtm_at "fo e"))
  | ((with_reducible show PE _ (.Compare _ [.LtE] _ _) _); refine' pe_cmpR op_le ?ka ?kb (nomark _); (case ka => wtm_at "fo e"); (case kb => wtm_at "fo e"))
  | ((with_reducible show PE _ (.Compare _ [.Gt] _ _) _); refine' pe_cmpR op_gt ?ka ?kb (nomark _); (case ka => wtm_at "fo e"); (case kb => wtm_at "fo e"))
  | ((with_reducible show PE _ (.Compare _ [.GtE] _ _) _); refine' pe_cmpR op_ge ?ka ?kb (nomark _); (case ka => wtm_at "fo e"); (case kb => wtm_at "fo e"))
  | ((with_reducible show PE _ (.Compare _ [.Eq] _ _) _); refine' pe_cmpR (op_eqK (by assumption) (by exact rfl) (Room.units (by assumption))) ?ka ?kb (nomark _); (case ka => wtm_at "fo e"); (case kb => wtm_at "fo e"))
  | ((with_reducible show PE _ (.Compare _ [.NotEq] _ _) _); refine' pe_cmpR (op_neK (by assumption) (by exact rfl) (Room.units (by assumption))) ?ka ?kb (nomark _); (case ka => wtm_at "fo e"); (case kb => wtm_at "fo e"))
  | fail "no")
local macro_rules | `(tactic| wtm_at "fo tcmp") => `(tactic| first
  | ((with_reducible show PT _ (.Compare _ [.Lt] _ _) _); refine' pt_cmpR op_lt ?ka ?kb (nomark _); (case ka => wtm_at "fo e"); (case kb => wtm_at "fo e"))
  | ((with_reducible show PT _ (.Compare _ [.LtE] _ _) _); refine' pt_cmpR op_le ?ka ?kb (nomark _); (case ka => wtm_at "fo e"); (case kb => wtm_at "fo e"))
  | ((with_reducible show PT _ (.Compare _ [.Gt] _ _) _); refine' pt_cmpR op_gt ?ka ?kb (nomark _); (case ka => wtm_at "fo e"); (case kb => wtm_at "fo e"))
  | ((with_reducible show PT _ (.Compare _ [.GtE] _ _) _); refine' pt_cmpR op_ge ?ka ?kb (nomark _); (case ka => wtm_at "fo e"); (case kb => wtm_at "fo e"))
  | ((with_reducible show PT _ (.Compare _ [.Eq] _ _) _); refine' pt_cmpR (op_eqK (by assumption) (by exact rfl) (Room.units (by assumption))) ?ka ?kb (nomark _); (case ka => wtm_at "fo e"); (case kb => wtm_at "fo e"))
  | ((with_reducible show PT _ (.Compare _ [.NotEq] _ _) _); refine' pt_cmpR (op_neK (by assumption) (by exact rfl) (Room.units (by assumption))) ?ka ?kb (nomark _); (case ka => wtm_at "fo e"); (case kb => wtm_at "fo e"))
  | ((with_reducible show PT _ (.Compare _ [.In] _ _) _); refine' pt_cmpR (op_inK (by assumption) (by exact rfl)) ?ka ?kb rfl; (case ka => wtm_at "fo e"); (case kb => wtm_at "fo e"))
  | ((with_reducible show PT _ (.Compare _ [.NotIn] _ _) _); refine' pt_cmpR (op_notInK (by assumption) (by exact rfl)) ?ka ?kb rfl; (case ka => wtm_at "fo e"); (case kb => wtm_at "fo e"))
  | fail "no")
local macro_rules | `(tactic| wtm_at "fo w") => `(tactic| first
  | ((with_reducible show PW _ (.BoolOp .And [_] _) _); apply pw_and1; wtm_at "fo t")
  | ((with_reducible show PW _ (.BoolOp .And _ _) _); apply pw_and; (· wtm_at "fo t"); (· wtm_at "fo w"))
  | ((with_reducible show PW _ (.BoolOp .Or [_] _) _); apply pw_or1; wtm_at "fo t")
  | ((with_reducible show PW _ (.BoolOp .Or _ _) _); apply pw_or; (· wtm_at "fo t"); (· wtm_at "fo w"))
  | fail "no")
local macro_rules | `(tactic| wtm_at "fo meth") => `(tactic| first
  | ((with_reducible show PE _ (.Call (.Attribute _ (Str.ofString "append") _) _ _ _) _); refine' pe_bm PySem.F.plainAttrs_list PySem.F.slot_list_append PySem.F.type_list_append mt_append ?ka ?kb; (case ka => wtm_at "fo e"); (case kb => wtm_at "fo a"))
  | ((with_reducible show PE _ (.Call (.Attribute _ (Str.ofString "pop") _) [_] _ _) _); refine' pe_bm PySem.F.plainAttrs_list PySem.F.slot_list_pop PySem.F.type_list_pop mt_popAt ?ka ?kb; (case ka => wtm_at "fo e"); (case kb => wtm_at "fo a"))
  | ((with_reducible show PE _ (.Call (.Attribute _ (Str.ofString "pop") _) [] _ _) _); refine' pe_bm0 PySem.F.plainAttrs_list PySem.F.slot_list_pop PySem.F.type_list_pop mt_pop ?ka; (case ka => wtm_at "fo e"))
  | fail "no")
local macro_rules | `(tactic| wtm_at "fo k") => `(tactic| first
  | exact pk_nil
  | (refine' pk_cons ?k1 ?k2; (case k1 => wtm_at "fo e"); (case k2 => wtm_at "fo k"))
  | fail "no")
local macro_rules | `(tactic| wtm_at "fo kcall") => `(tactic| first
  | (refine' pe_kcal (by assumption) (by assumption) (by decide) (by rfl) ?ka; (case ka => wtm_at "fo k"))
  | fail "no")
local macro_rules | `(tactic| wtm_at "fo call") => `(tactic| first
  | ((with_reducible show PE _ (.Call (.Name (Str.ofString "int") _) _ _ _) _); refine' pe_callTy call_intB (by rfl) (by assumption) (by decide +kernel) ?ka; (case ka => wtm_at "fo a"))
  | ((with_reducible show PE _ (.Call (.Name (Str.ofString "len") _) _ _ _) _); refine' pe_callB (call_lenK (by assumption) (by exact rfl)) (by rfl) (by assumption) PySem.boot_len ?ka; (case ka => wtm_at "fo a"))
  | ((with_reducible show PE _ (.Call (.Name (Str.ofString "list") _) [.Call (.Name (Str.ofString "range") _) [_, _] _ _] _ _) _); refine' pe_listRg rfl (by rfl) (by assumption) (prg_2 (by rfl) (by assumption) ?ka ?kb); (case ka => wtm_at "fo e"); (case kb => wtm_at "fo e"))
  | ((with_reducible show PE _ (.Call (.Name (Str.ofString "list") _) _ _ _) _); refine' pe_callTy (call_listK (by assumption) (by exact rfl)) (by rfl) (by assumption) (by decide +kernel) ?ka; (case ka => wtm_at "fo a"))
  | ((with_reducible show PE _ (.Call (.Name (Str.ofString "min") _) [_, _] _ _) _); refine' pe_callB (call_min2 rfl) (by rfl) (by assumption) (by decide +kernel) ?ka; (case ka => wtm_at "fo a"))
  | ((with_reducible show PE _ (.Call (.Name (Str.ofString "sorted") _) [_] _ _) _); refine' pe_callB (cr_sortedK (by assumption) (by exact rfl)) (by rfl) (by assumption) (by decide +kernel) ?ka; (case ka => wtm_at "fo a"))
  | ((with_reducible show PE _ (.Call (.Name (Str.ofString "repr") _) [_] _ _) _); refine' pe_callB (call_reprK (by assumption) (by exact rfl) (by assumption) (Room.units (by assumption))) (by rfl) (by assumption) (by decide +kernel) ?ka; (case ka => wtm_at "fo a"))
  | (refine' pe_cal (by assumption) (by assumption) (by decide) (by rfl) ?ka; (case ka => wtm_at "fo a"))
  | fail "no")
local macro_rules | `(tactic| wtm_at "fo setlc") => `(tactic| first
  | (refine' ps_setLcO (i := 0) (by assumption) (by exact rfl) (by exact rfl) (by wtm_at "fo own") (by decide +kernel) rfl rfl rfl (sw_true rfl rfl rfl (by decide +kernel)) ?ki ?kg ?kt ?ke; (case ki => wtm_at "fo i"); (case kg => (intro _ _ _ _ _; wtm_at "fo g")); (case kt => (intro _ _ _ _ _; wtm_at "fo ts")); (case ke => (intro _ _ _ _ _; wtm_at "fo e")))
  | (refine' ps_setLcO (i := 1) (by assumption) (by exact rfl) (by exact rfl) (by wtm_at "fo own") (by decide +kernel) rfl rfl rfl (sw_true rfl rfl rfl (by decide +kernel)) ?ki ?kg ?kt ?ke; (case ki => wtm_at "fo i"); (case kg => (intro _ _ _ _ _; wtm_at "fo g")); (case kt => (intro _ _ _ _ _; wtm_at "fo ts")); (case ke => (intro _ _ _ _ _; wtm_at "fo e")))
  | (refine' ps_setLcO (i := 2) (by assumption) (by exact rfl) (by exact rfl) (by wtm_at "fo own") (by decide +kernel) rfl rfl rfl (sw_true rfl rfl rfl (by decide +kernel)) ?ki ?kg ?kt ?ke; (case ki => wtm_at "fo i"); (case kg => (intro _ _ _ _ _; wtm_at "fo g")); (case kt => (intro _ _ _ _ _; wtm_at "fo ts")); (case ke => (intro _ _ _ _ _; wtm_at "fo e")))
  | (refine' ps_setLcO (i := 3) (by assumption) (by exact rfl) (by exact rfl) (by wtm_at "fo own") (by decide +kernel) rfl rfl rfl (sw_true rfl rfl rfl (by decide +kernel)) ?ki ?kg ?kt ?ke; (case ki => wtm_at "fo i"); (case kg => (intro _ _ _ _ _; wtm_at "fo g")); (case kt => (intro _ _ _ _ _; wtm_at "fo ts")); (case ke => (intro _ _ _ _ _; wtm_at "fo e")))
  | (refine' ps_setLcO (i := 4) (by assumption) (by exact rfl) (by exact rfl) (by wtm_at "fo own") (by decide +kernel) rfl rfl rfl (sw_true rfl rfl rfl (by decide +kernel)) ?ki ?kg ?kt ?ke; (case ki => wtm_at "fo i"); (case kg => (intro _ _ _ _ _; wtm_at "fo g")); (case kt => (intro _ _ _ _ _; wtm_at "fo ts")); (case ke => (intro _ _ _ _ _; wtm_at "fo e")))
  | (refine' ps_setLcO (i := 5) (by assumption) (by exact rfl) (by exact rfl) (by wtm_at "fo own") (by decide +kernel) rfl rfl rfl (sw_true rfl rfl rfl (by decide +kernel)) ?ki ?kg ?kt ?ke; (case ki => wtm_at "fo i"); (case kg => (intro _ _ _ _ _; wtm_at "fo g")); (case kt => (intro _ _ _ _ _; wtm_at "fo ts")); (case ke => (intro _ _ _ _ _; wtm_at "fo e")))
  | (refine' ps_setLcO (i := 6) (by assumption) (by exact rfl) (by exact rfl) (by wtm_at "fo own") (by decide +kernel) rfl rfl rfl (sw_true rfl rfl rfl (by decide +kernel)) ?ki ?kg ?kt ?ke; (case ki => wtm_at "fo i"); (case kg => (intro _ _ _ _ _; wtm_at "fo g")); (case kt => (intro _ _ _ _ _; wtm_at "fo ts")); (case ke => (intro _ _ _ _ _; wtm_at "fo e")))
  | (refine' ps_setLcO (i := 7) (by assumption) (by exact rfl) (by exact rfl) (by wtm_at "fo own") (by decide +kernel) rfl rfl rfl (sw_true rfl rfl rfl (by decide +kernel)) ?ki ?kg ?kt ?ke; (case ki => wtm_at "fo i"); (case kg => (intro _ _ _ _ _; wtm_at "fo g")); (case kt => (intro _ _ _ _ _; wtm_at "fo ts")); (case ke => (intro _ _ _ _ _; wtm_at "fo e")))
  | (refine' ps_setLcO (i := 8) (by assumption) (by exact rfl) (by exact rfl) (by wtm_at "fo own") (by decide +kernel) rfl rfl rfl (sw_true rfl rfl rfl (by decide +kernel)) ?ki ?kg ?kt ?ke; (case ki => wtm_at "fo i"); (case kg => (intro _ _ _ _ _; wtm_at "fo g")); (case kt => (intro _ _ _ _ _; wtm_at "fo ts")); (case ke => (intro _ _ _ _ _; wtm_at "fo e")))
  | (refine' ps_setLcO (i := 9) (by assumption) (by exact rfl) (by exact rfl) (by wtm_at "fo own") (by decide +kernel) rfl rfl rfl (sw_true rfl rfl rfl (by decide +kernel)) ?ki ?kg ?kt ?ke; (case ki => wtm_at "fo i"); (case kg => (intro _ _ _ _ _; wtm_at "fo g")); (case kt => (intro _ _ _ _ _; wtm_at "fo ts")); (case ke => (intro _ _ _ _ _; wtm_at "fo e")))
  | (refine' ps_setLcO (i := 10) (by assumption) (by exact rfl) (by exact rfl) (by wtm_at "fo own") (by decide +kernel) rfl rfl rfl (sw_true rfl rfl rfl (by decide +kernel)) ?ki ?kg ?kt ?ke; (case ki => wtm_at "fo i"); (case kg => (intro _ _ _ _ _; wtm_at "fo g")); (case kt => (intro _ _ _ _ _; wtm_at "fo ts")); (case ke => (intro _ _ _ _ _; wtm_at "fo e")))
  | (refine' ps_setLcO (i := 11) (by assumption) (by exact rfl) (by exact rfl) (by wtm_at "fo own") (by decide +kernel) rfl rfl rfl (sw_true rfl rfl rfl (by decide +kernel)) ?ki ?kg ?kt ?ke; (case ki => wtm_at "fo i"); (case kg => (intro _ _ _ _ _; wtm_at "fo g")); (case kt => (intro _ _ _ _ _; wtm_at "fo ts")); (case ke => (intro _ _ _ _ _; wtm_at "fo e")))
  | (refine' ps_setLcO (i := 12) (by assumption) (by exact rfl) (by exact rfl) (by wtm_at "fo own") (by decide +kernel) rfl rfl rfl (sw_true rfl rfl rfl (by decide +kernel)) ?ki ?kg ?kt ?ke; (case ki => wtm_at "fo i"); (case kg => (intro _ _ _ _ _; wtm_at "fo g")); (case kt => (intro _ _ _ _ _; wtm_at "fo ts")); (case ke => (intro _ _ _ _ _; wtm_at "fo e")))
  | (refine' ps_setLcO (i := 13) (by assumption) (by exact rfl) (by exact rfl) (by wtm_at "fo own") (by decide +kernel) rfl rfl rfl (sw_true rfl rfl rfl (by decide +kernel)) ?ki ?kg ?kt ?ke; (case ki => wtm_at "fo i"); (case kg => (intro _ _ _ _ _; wtm_at "fo g")); (case kt => (intro _ _ _ _ _; wtm_at "fo ts")); (case ke => (intro _ _ _ _ _; wtm_at "fo e")))
  | (refine' ps_setLcO (i := 14) (by assumption) (by exact rfl) (by exact rfl) (by wtm_at "fo own") (by decide +kernel) rfl rfl rfl (sw_true rfl rfl rfl (by decide +kernel)) ?ki ?kg ?kt ?ke; (case ki => wtm_at "fo i"); (case kg => (intro _ _ _ _ _; wtm_at "fo g")); (case kt => (intro _ _ _ _ _; wtm_at "fo ts")); (case ke => (intro _ _ _ _ _; wtm_at "fo e")))
  | (refine' ps_setLcO (i := 15) (by assumption) (by exact rfl) (by exact rfl) (by wtm_at "fo own") (by decide +kernel) rfl rfl rfl (sw_true rfl rfl rfl (by decide +kernel)) ?ki ?kg ?kt ?ke; (case ki => wtm_at "fo i"); (case kg => (intro _ _ _ _ _; wtm_at "fo g")); (case kt => (intro _ _ _ _ _; wtm_at "fo ts")); (case ke => (intro _ _ _ _ _; wtm_at "fo e")))
  | fail "no")
local macro_rules | `(tactic| wtm_at "fo set") => `(tactic| first
  | (refine' ps_set (i := 0) (by assumption) rfl (by first | exact Or.inl rfl | exact Or.inr rfl) ?ka; (case ka => wtm_at "fo e"))
  | (refine' ps_set (i := 1) (by assumption) rfl (by first | exact Or.inl rfl | exact Or.inr rfl) ?ka; (case ka => wtm_at "fo e"))
  | (refine' ps_set (i := 2) (by assumption) rfl (by first | exact Or.inl rfl | exact Or.inr rfl) ?ka; (case ka => wtm_at "fo e"))
  | (refine' ps_set (i := 3) (by assumption) rfl (by first | exact Or.inl rfl | exact Or.inr rfl) ?ka; (case ka => wtm_at "fo e"))
  | (refine' ps_set (i := 4) (by assumption) rfl (by first | exact Or.inl rfl | exact Or.inr rfl) ?ka; (case ka => wtm_at "fo e"))
  | (refine' ps_set (i := 5) (by assumption) rfl (by first | exact Or.inl rfl | exact Or.inr rfl) ?ka; (case ka => wtm_at "fo e"))
  | (refine' ps_set (i := 6) (by assumption) rfl (by first | exact Or.inl rfl | exact Or.inr rfl) ?ka; (case ka => wtm_at "fo e"))
  | (refine' ps_set (i := 7) (by assumption) rfl (by first | exact Or.inl rfl | exact Or.inr rfl) ?ka; (case ka => wtm_at "fo e"))
  | (refine' ps_set (i := 8) (by assumption) rfl (by first | exact Or.inl rfl | exact Or.inr rfl) ?ka; (case ka => wtm_at "fo e"))
  | (refine' ps_set (i := 9) (by assumption) rfl (by first | exact Or.inl rfl | exact Or.inr rfl) ?ka; (case ka => wtm_at "fo e"))
  | (refine' ps_set (i := 10) (by assumption) rfl (by first | exact Or.inl rfl | exact Or.inr rfl) ?ka; (case ka => wtm_at "fo e"))
  | (refine' ps_set (i := 11) (by assumption) rfl (by first | exact Or.inl rfl | exact Or.inr rfl) ?ka; (case ka => wtm_at "fo e"))
  | (refine' ps_set (i := 12) (by assumption) rfl (by first | exact Or.inl rfl | exact Or.inr rfl) ?ka; (case ka => wtm_at "fo e"))
  | (refine' ps_set (i := 13) (by assumption) rfl (by first | exact Or.inl rfl | exact Or.inr rfl) ?ka; (case ka => wtm_at "fo e"))
  | fail "no")
local macro_rules | `(tactic| wtm_at "fo t") => `(tactic| first
  | ((with_reducible show PT _ (.BoolOp _ _ _) _); apply PW.pt; wtm_at "fo w")
  | ((with_reducible show PT _ (.UnaryOp .Not _ _) _); apply pt_not; wtm_at "fo t")
  | ((with_reducible show PT _ (.Compare _ _ _ _) _); wtm_at "fo tcmp")
  | (refine' pt_truthK (by assumption) (by exact rfl) ?ka (by intro _; rfl); (case ka => wtm_at "fo e"))
  | fail "no")
local macro_rules | `(tactic| wtm_at "fo gn") => `(tactic| first
  | exact pg_name (i := 0) (by assumption) rfl (by first | exact Or.inl rfl | exact Or.inr rfl)
  | exact pg_name (i := 1) (by assumption) rfl (by first | exact Or.inl rfl | exact Or.inr rfl)
  | exact pg_name (i := 2) (by assumption) rfl (by first | exact Or.inl rfl | exact Or.inr rfl)
  | exact pg_name (i := 3) (by assumption) rfl (by first | exact Or.inl rfl | exact Or.inr rfl)
  | exact pg_name (i := 4) (by assumption) rfl (by first | exact Or.inl rfl | exact Or.inr rfl)
  | exact pg_name (i := 5) (by assumption) rfl (by first | exact Or.inl rfl | exact Or.inr rfl)
  | exact pg_name (i := 6) (by assumption) rfl (by first | exact Or.inl rfl | exact Or.inr rfl)
  | exact pg_name (i := 7) (by assumption) rfl (by first | exact Or.inl rfl | exact Or.inr rfl)
  | exact pg_name (i := 8) (by assumption) rfl (by first | exact Or.inl rfl | exact Or.inr rfl)
  | exact pg_name (i := 9) (by assumption) rfl (by first | exact Or.inl rfl | exact Or.inr rfl)
  | exact pg_name (i := 10) (by assumption) rfl (by first | exact Or.inl rfl | exact Or.inr rfl)
  | exact pg_name (i := 11) (by assumption) rfl (by first | exact Or.inl rfl | exact Or.inr rfl)
  | exact pg_name (i := 12) (by assumption) rfl (by first | exact Or.inl rfl | exact Or.inr rfl)
  | exact pg_name (i := 13) (by assumption) rfl (by first | exact Or.inl rfl | exact Or.inr rfl)
  | exact pg_name (i := 14) (by assumption) rfl (by first | exact Or.inl rfl | exact Or.inr rfl)
  | exact pg_name (i := 15) (by assumption) rfl (by first | exact Or.inl rfl | exact Or.inr rfl)
  | fail "no")
local macro_rules | `(tactic| wtm_at "fo par") => `(tactic| first
  | (refine' ps_par (i := 0) (j := 1) rfl (by assumption) rfl rfl (by decide) rfl rfl ?ka (by rfl); (case ka => wtm_at "fo a"))
  | (refine' ps_par (i := 1) (j := 2) rfl (by assumption) rfl rfl (by decide) rfl rfl ?ka (by rfl); (case ka => wtm_at "fo a"))
  | (refine' ps_par (i := 2) (j := 3) rfl (by assumption) rfl rfl (by decide) rfl rfl ?ka (by rfl); (case ka => wtm_at "fo a"))
  | (refine' ps_par (i := 3) (j := 4) rfl (by assumption) rfl rfl (by decide) rfl rfl ?ka (by rfl); (case ka => wtm_at "fo a"))
  | (refine' ps_par (i := 4) (j := 5) rfl (by assumption) rfl rfl (by decide) rfl rfl ?ka (by rfl); (case ka => wtm_at "fo a"))
  | (refine' ps_par (i := 5) (j := 6) rfl (by assumption) rfl rfl (by decide) rfl rfl ?ka (by rfl); (case ka => wtm_at "fo a"))
  | (refine' ps_par (i := 6) (j := 7) rfl (by assumption) rfl rfl (by decide) rfl rfl ?ka (by rfl); (case ka => wtm_at "fo a"))
  | (refine' ps_par (i := 7) (j := 8) rfl (by assumption) rfl rfl (by decide) rfl rfl ?ka (by rfl); (case ka => wtm_at "fo a"))
  | (refine' ps_par (i := 8) (j := 9) rfl (by assumption) rfl rfl (by decide) rfl rfl ?ka (by rfl); (case ka => wtm_at "fo a"))
  | (refine' ps_par (i := 9) (j := 10) rfl (by assumption) rfl rfl (by decide) rfl rfl ?ka (by rfl); (case ka => wtm_at "fo a"))
  | (refine' ps_par (i := 10) (j := 11) rfl (by assumption) rfl rfl (by decide) rfl rfl ?ka (by rfl); (case ka => wtm_at "fo a"))
  | (refine' ps_par (i := 11) (j := 12) rfl (by assumption) rfl rfl (by decide) rfl rfl ?ka (by rfl); (case ka => wtm_at "fo a"))
  | (refine' ps_par (i := 12) (j := 13) rfl (by assumption) rfl rfl (by decide) rfl rfl ?ka (by rfl); (case ka => wtm_at "fo a"))
  | (refine' ps_par (i := 13) (j := 14) rfl (by assumption) rfl rfl (by decide) rfl rfl ?ka (by rfl); (case ka => wtm_at "fo a"))
  | (refine' ps_par (i := 14) (j := 15) rfl (by assumption) rfl rfl (by decide) rfl rfl ?ka (by rfl); (case ka => wtm_at "fo a"))
  | fail "no")
local macro_rules | `(tactic| wtm_at "fo g") => `(tactic| first
  | ((with_reducible show PG _ (.Name _ _) _); wtm_at "fo gn")
  | ((with_reducible show PG _ (.Tuple _ _ _) _); apply PG_or; (· refine' pg_tup2 (by assumption) (by exact rfl) rfl ?kg; (case kg => wtm_at "fo gs")); (· refine' pg_unl2 (by assumption) (by exact rfl) rfl ?kg; (case kg => wtm_at "fo gs")))
  | fail "no")
local macro_rules | `(tactic| wtm_at "fo gs") => `(tactic| first
  | exact pgs_nil
  | (refine' pgs_cons ?k1 ?k2; (case k1 => wtm_at "fo g"); (case k2 => wtm_at "fo gs"))
  | fail "no")
local macro_rules | `(tactic| wtm_at "fo i") => `(tactic| first
  | ((with_reducible show PI _ _ (.Call (.Name (Str.ofString "range") _) [_] _ _) _); refine' pi_range1 (by rfl) (by assumption) ?ka; (case ka => wtm_at "fo a"))
  | ((with_reducible show PI _ _ (.Call (.Name (Str.ofString "range") _) [_, _] _ _) _); refine' pi_range2 (by rfl) (by assumption) ?ka; (case ka => wtm_at "fo a"))
  | ((with_reducible show PI _ _ (.Call (.Name (Str.ofString "enumerate") _) [_] _ _) _); refine' pi_enum (by rfl) (by assumption) ?ka; (case ka => wtm_at "fo a"))
  | (refine' pi_listK (by assumption) (by exact rfl) ?ka; (case ka => wtm_at "fo e"))
  | fail "no")
local macro_rules | `(tactic| wtm_at "fo s") => `(tactic| first
  | ((with_reducible show PS _ (.While _ _ _ _) _); refine' ps_while PassesOwn.never ?kt ?kb; (case kt => wtm_at "fo t"); (case kb => wtm_at "fo ss"))
  | ((with_reducible show PS _ (.For _ _ _ _ _) _); refine' ps_for PassesOwn.never rfl ?ki ?kg ?kb; (case ki => wtm_at "fo i"); (case kg => wtm_at "fo g"); (case kb => wtm_at "fo ss"))
  | ((with_reducible show PS _ (.Assign [.Name _ _] (.ListComp _ [_] _ _) _) _); wtm_at "fo setlc")
  | ((with_reducible show PS _ (.Assign [.Name _ _] _ _) _); wtm_at "fo set")
  | ((with_reducible show PS _ (.Assign [.Tuple [.Name _ _, .Name _ _] _ _] (.Tuple [_, _] _ _) _) _); wtm_at "fo par")
  | ((with_reducible show PS _ (.Assign [.Subscript _ _ _] _ _) _); refine' ps_asg ?ka (pg_sub ?kb ?kc set_list); (case ka => wtm_at "fo e"); (case kb => wtm_at "fo e"); (case kc => wtm_at "fo e"))
  | ((with_reducible show PS _ (.Return (some _) _) _); apply ps_ret; wtm_at "fo e")
  | ((with_reducible show PS _ (.Expr _ _) _); refine' ps_expr ?ka; (case ka => wtm_at "fo e"))
  | ((with_reducible show PS _ (.If _ _ _ _) _); apply ps_if; (· wtm_at "fo t"); (· wtm_at "fo ss"); (· wtm_at "fo ss"))
  | fail "no")
local macro_rules | `(tactic| wtm_at "fo ss") => `(tactic| first
  | with_reducible exact pss_nil
  | ((with_reducible show PSs _ [_] _); apply pss_one; wtm_at "fo s")
  | (apply pss_cons; (· wtm_at "fo s"); (· wtm_at "fo ss"))
  | fail "no")
local macro_rules | `(tactic| wtm_at "fo hp") => `(tactic| first
  | assumption
  | exact upd_same
  | (refine (upd_ne ?ne).trans ?hp; (case ne => wtm_at "fo ne"); (case hp => wtm_at "fo hp"))
  | fail "no")
local macro_rules | `(tactic| wtm_at "fo ne") => `(tactic| first
  | assumption
  | (apply Ne.symm; assumption)
  | exact ne_of_none (by assumption) (by assumption)
  | exact Ne.symm (ne_of_none (by assumption) (by assumption))
  | fail "no")
local macro_rules | `(tactic| wtm_at "fo sz") => `(tactic| first
  | exact (Nat.le_of_ble_eq_true rfl : _ ≤ sizeLine)
  | exact (Nat.le_of_ble_eq_true rfl : _ < sizeLine)
  | exact Nat.lt_of_le_of_lt (m := 100000) (by first | assumption | omega | (simp; omega)) (by decide)
  | exact Nat.le_trans (m := 100000) (by first | assumption | omega | (simp; omega)) (by decide)
  | fail "no")
local macro_rules | `(tactic| wtm_at "fo r1") => `(tactic| first
  | refine ⟨(Nat.le_of_ble_eq_true rfl : _ ≤ sizeLine), fun p np => ?_⟩
  | (refine' ⟨_, _, rfl, Or.inl (SqL.of ?h), ?_⟩; (case h => wtm_at "fo hp"))
  | refine ⟨_, rfl, ?_⟩
  | refine ⟨_, _, rfl, rfl, ?_⟩
  | refine ⟨_, _, rfl, ⟨by omega, by omega, by omega, by omega⟩, ?_⟩
  | refine ⟨_, rfl, by omega, by omega, ?_⟩
  | refine Or.inl ⟨_, rfl, ?_⟩
  | refine Or.inl ⟨rfl, ?_⟩
  | refine Or.inl ⟨_, _, rfl, rfl, ?_⟩
  | (refine' Or.inl ⟨_, _, _, _, rfl, rfl, SqL.of ?h, ?a, ?_⟩; (case h => wtm_at "fo hp"); (case a => rfl))
  | (refine' ⟨_, _, _, _, rfl, rfl, ?h, ?a, ?_⟩; (case h => wtm_at "fo hp"); (case a => rfl))
  | (refine' ⟨.inl ⟨rfl, _, SqL.of ?h⟩, ?_⟩; (case h => wtm_at "fo hp"))
  | (refine' ⟨_, _, _, rfl, rfl, ?h, ?z, ?_⟩; (case h => wtm_at "fo hp"); (case z => wtm_at "fo sz"))
  | (refine' ⟨_, rfl, ⟨_, SqL.of ?h⟩, ?_⟩; (case h => wtm_at "fo hp"))
  | fail "no")
local macro_rules | `(tactic| wtm_at "fo side") => `(tactic| ((try dsimp only [CMul, CDiv]); first
  | assumption
  | decide
  | omega
  | exact ⟨by decide, by decide⟩
  | exact ⟨by omega, by omega⟩
  | decide +kernel
  | fail "no"))
local macro_rules | `(tactic| wtm_at "fo r2") => `(tactic| first
  | wtm_at "fo r1"
  | refine And.intro (by wtm_at "fo side") ?_
  | fail "no")
local macro_rules | `(tactic| wtm_at "fo r") => `(tactic| repeat wtm_at "fo r2")
/-! piece D1 -/
section
def Dr (H : Hp) (d : Addr) (k : Int) : Prop := ∃ a b, H d = some (.lst [.int a, .int k, .bl b]) ∧ 0 ≤ k
def SameBut (d : Addr) (H H' : Hp) : Prop := ∀ b o, b ≠ d → H b = some o → H' b = some o
@[irreducible] def spNext : Sp := fun vs H Q _ => ∃ d k, vs = [.ref d] ∧ Dr H d k ∧ k < 2 ^ 40 ∧
  ∀ n H', 0 ≤ n → SameBut d H H' → Dr H' d (k + 1) → Q (.int n) H'
theorem call_next {d : Addr} {k : Int} {H : Hp} {Q : VK} {E : XK} (hd : Dr H d k) (hk : k < 2 ^ 40) (q : ∀ n H', 0 ≤ n → SameBut d H H' → Dr H' d (k + 1) → Q (.int n) H') : spNext [.ref d] H Q E := by
  unfold spNext
  exact ⟨d, k, rfl, hd, hk, q⟩
variable {P : Program} {w : World} {K : PySem.W.Frag} {mg : Str → Option Value} {base : Heap}
set_option maxHeartbeats 2000000 in
theorem ok_next {f : Addr} {fd : FuncData} (F : Fun K "_law_next" "_law_next" s_law_next f fd) (mi : mg "int" = none) :
    FnOk P w K mg base CX0 1 f fd ["_law_draws_here"] spNext := by
  refine F.ok sc_law_next (fun vs H Q E h => ?_) (fun cdv A outer s H vs Q E hr h => ?_)
  · unfold spNext at h
    obtain ⟨d, k, rfl, _⟩ := h
    rfl
  · have nd := sc_law_next.nd
    have hS := sc_law_next
    have hKM : KMark K := ⟨⟩
    have hmi : (cxOf CX0 P w K mg base ["_law_draws_here", "_law_k", "_law_drawn"] "_law_next" (defScope s_law_next) f cdv A outer s H E).nox.mg "int" = none := mi
    refine' mk_body ?body ?rd
    case body =>
      show PSs _ [_, _, _, _, _, _] _
      wtm_at "fo ss"
    case rd =>
     unfold spNext at h
     obtain ⟨d, k, rfl, ⟨a, b, hd, hk⟩, hk2, q⟩ := h
     wtm_at "fo r"
     refine ite2 (fun hb => ?_) (fun hb => ?_)
     · wtm_at "fo r"
       refine q _ _ (Int.emod_nonneg _ (by decide)) ?_ ⟨_, _, upd_same, by omega⟩
       intro c o hc e
       rw [upd_ne hc, upd_ne hc]
       exact e
     · wtm_at "fo r"
       refine q _ _ (by omega) ?_ ⟨_, _, upd_same, by omega⟩
       intro c o hc e
       rw [upd_ne hc]
       exact e
end
/-! piece D2 -/
section
@[irreducible] def spDraws : Sp := fun vs H Q _ => ∃ c : Int, vs = [.int c] ∧
  ∀ p a b, H p = none → Q (.ref p) (upd H p (.lst [.int a, .int 0, .bl b]))
theorem call_draws {c : Int} {H : Hp} {Q : VK} {E : XK} (q : ∀ p a b, H p = none → Q (.ref p) (upd H p (.lst [.int a, .int 0, .bl b]))) : spDraws [.int c] H Q E := by
  unfold spDraws
  exact ⟨c, rfl, q⟩
variable {P : Program} {w : World} {K : PySem.W.Frag} {mg : Str → Option Value} {base : Heap}
set_option maxHeartbeats 2000000 in
theorem ok_draws {f : Addr} {fd : FuncData} (F : Fun K "_law_draws" "_law_draws" s_law_draws f fd) (mi : mg "int" = none) :
    FnOk P w K mg base CX0 1 f fd ["_law_cell"] spDraws := by
  refine F.ok sc_law_draws (fun vs H Q E h => ?_) (fun cdv A outer s H vs Q E hr h => ?_)
  · unfold spDraws at h
    obtain ⟨c, rfl, _⟩ := h
    rfl
  · have nd := sc_law_draws.nd
    have hS := sc_law_draws
    have hKM : KMark K := ⟨⟩
    refine' mk_body ?body ?rd
    case body =>
      show PSs _ [_] _
      wtm_at "fo ss"
    case rd =>
     unfold spDraws at h
     obtain ⟨c, rfl, q⟩ := h
     wtm_at "fo r"
     exact q _ _ _ (by assumption)
end
/-! piece D3 -/
section
theorem SameBut.refl (d : Addr) (H : Hp) : SameBut d H H := fun _ _ _ h => h
theorem SameBut.trans {d : Addr} {H H1 H2 : Hp} (a : SameBut d H H1) (b : SameBut d H1 H2) : SameBut d H H2 := fun c o n e => b c o n (a c o n e)
theorem SameBut.new {d p : Addr} {H H1 : Hp} {o : HO} (a : SameBut d H H1) (np : H p = none) : SameBut d H (upd H1 p o) := fun c u n e => by
  rw [upd_ne (ne_of_none e np)]
  exact a c u n e
theorem SameBut.at {d p : Addr} {H H1 : Hp} {o u : HO} (a : SameBut d H H1) (hp : H p = some o) (hd : H d = some u) (ne : o ≠ u) : H1 p = some o :=
  a p o (ne_of hp hd ne) hp
/-- a thing that may be shuffled: a small number, or a pair of such -/
def Item (H : Hp) (x : V) : Prop := (∃ i : Int, x = .int i ∧ i.natAbs < 1000) ∨ ∃ r i j, x = .ref r ∧ H r = some (.lst [.int i, .int j]) ∧ i.natAbs < 1000 ∧ j.natAbs < 1000
theorem Dr.ne_pair {H : Hp} {d r : Addr} {k i j : Int} (h : Dr H d k) (hr : H r = some (.lst [.int i, .int j])) : r ≠ d := by
  obtain ⟨a, b, hd, _⟩ := h
  exact ne_of hr hd (by intro e; injection e with e; simp at e)
theorem Item.but {d : Addr} {H H' : Hp} {x : V} {k : Int} (h : Item H x) (s : SameBut d H H') (hd : Dr H d k) : Item H' x := by
  rcases h with h | ⟨r, i, j, rfl, hr, h1, h2⟩
  · exact .inl h
  · exact .inr ⟨r, i, j, rfl, s r _ (hd.ne_pair hr) hr, h1, h2⟩
theorem Item.dp {K : PySem.W.Frag} {H : Hp} {x : V} (h : Item H x) : ∃ e, Dp K H x e ∧ DOk 1 20 e := by
  rcases h with ⟨i, rfl, hi⟩ | ⟨r, i, j, rfl, hr, h1, h2⟩
  · exact ⟨_, .int i, (dok_int hi).mono (by decide) (by decide)⟩
  · refine ⟨.list [.int i, .int j], .lst (SqL.of hr) (.cons (.int i) (.cons (.int j) .nil)), (dok_list (n := 0) (b := 5) ?_).mono (by decide) (by simp)⟩
    intro x hx
    simp only [List.mem_cons, List.not_mem_nil, or_false] at hx
    rcases hx with rfl | rfl
    · exact dok_int h1
    · exact dok_int h2
theorem items_dp {K : PySem.W.Frag} {H : Hp} : ∀ {xs : List V}, (∀ x ∈ xs, Item H x) → ∃ ds, DpAll K H xs ds ∧ (∀ e ∈ ds, DOk 1 20 e) ∧ ds.length = xs.length
  | [], _ => ⟨[], .nil, (fun _ h => nomatch h), rfl⟩
  | x :: xs, h => by
    obtain ⟨ds, h1, h2, h3⟩ := items_dp (K := K) (xs := xs) fun y hy => h y (List.mem_cons_of_mem _ hy)
    obtain ⟨e, h4, h5⟩ := (h x (List.mem_cons_self ..)).dp (K := K)
    refine ⟨e :: ds, .cons h4 h1, ?_, by simp [h3]⟩
    intro u hu
    rcases List.mem_cons.mp hu with rfl | hu
    · exact h5
    · exact h2 u hu
@[irreducible] def spShuf : Sp := fun vs H Q _ => ∃ d q k xs, vs = [.ref d, .ref q] ∧ Dr H d k ∧ k ≤ 1000000 ∧ H q = some (.lst xs) ∧ xs.length ≤ 200 ∧ (∀ x ∈ xs, Item H x) ∧
  ∀ p ys H' k', ys.Perm xs → SameBut d H H' → H p = none → H' p = some (.lst ys) → Dr H' d k' → k' ≤ k + 200 → Q (.ref p) H'
theorem call_shuf {d q : Addr} {k : Int} {xs : List V} {H : Hp} {Q : VK} {E : XK} (hd : Dr H d k) (hk : k ≤ 1000000) (hq : H q = some (.lst xs)) (hl : xs.length ≤ 200) (hi : ∀ x ∈ xs, Item H x)
    (fin : ∀ p ys H' k', ys.Perm xs → SameBut d H H' → H p = none → H' p = some (.lst ys) → Dr H' d k' → k' ≤ k + 200 → Q (.ref p) H') : spShuf [.ref d, .ref q] H Q E := by
  unfold spShuf
  exact ⟨d, q, k, xs, rfl, hd, hk, hq, hl, hi, fin⟩
variable {P : Program} {w : World} {K : PySem.W.Frag} {mg : Str → Option Value} {base : Heap}
set_option maxHeartbeats 4000000 in
theorem ok_shuf {f : Addr} {fd : FuncData} (F : Fun K "_law_mixed" "_law_mixed" s_law_mixed f fd) (mi : mg "int" = none) (ml : mg "list" = none) (mn : mg "len" = none)
    (C : Cal P w K mg base "_law_next" 1 ["_law_draws_here"] spNext) :
    FnOk P w K mg base CX0 2 f fd ["_law_draws_here", "_law_things"] spShuf := by
  refine F.ok sc_law_mixed (fun vs H Q E h => ?_) (fun cdv A outer s H vs Q E hr h => ?_)
  · unfold spShuf at h
    obtain ⟨d, q, k, xs, rfl, _⟩ := h
    rfl
  · have nd := sc_law_mixed.nd
    have hS := sc_law_mixed
    have hKM : KMark K := ⟨⟩
    refine' mk_body ?body ?rd
    case body =>
      show PSs _ [_, _, _, _] _
      wtm_at "fo ss"
    case rd =>
     unfold spShuf at h
     obtain ⟨d, q, k, xs, rfl, hd, hk, hq, hlen, hit, fin⟩ := h
     wtm_at "fo r"
     intro l nl
     wtm_at "fo r"
     rename_i t nt
     have nl' : l ≠ d := by
       obtain ⟨a, b, e, _⟩ := hd
       exact (ne_of_none e nl).symm
     have tl : t ≠ l := (ne_of_none (upd_same (H := H) (a := l) (o := HO.lst xs)) nt).symm
     have nt0 : H t = none := by rw [upd_ne tl] at nt; exact nt
     have nt' : t ≠ d := by
       obtain ⟨a, b, e, _⟩ := hd
       exact (ne_of_none e nt0).symm
     let W : Nat → Sl → Hp → Prop := fun m σ H1 => ∃ ls ts k1, σ = [some (.ref d), some (.ref q), some (.ref l), some (.ref t)] ∧ m = ls.length ∧ H1 l = some (.lst ls) ∧ H1 t = some (.lst ts) ∧
       (ts ++ ls).Perm xs ∧ Dr H1 d k1 ∧ k1 + ls.length = k + xs.length ∧ SameBut d H H1
     refine ⟨W, ⟨xs.length, xs, [], k, rfl, rfl, ?_, upd_same, .refl _, ?_, rfl, ?_⟩, fun m σ H1 hW => ?_⟩
     · rw [upd_ne tl.symm]
       exact upd_same
     · obtain ⟨a, b, e, h0⟩ := hd
       exact ⟨a, b, by rw [upd_ne nt'.symm, upd_ne nl'.symm]; exact e, h0⟩
     · exact ((SameBut.refl d H).new nl).new nt0
     obtain ⟨ls, ts, k1, rfl, rfl, hl, ht, hp, hd1, hk1, sb⟩ := hW
     have hlen2 : ts.length + ls.length = xs.length := by rw [← List.length_append]; exact hp.length_eq
     have hit1 : ∀ x ∈ ls, Item H1 x := fun x hx => (hit x (hp.mem_iff.mp (List.mem_append_right _ hx))).but sb hd
     wtm_at "fo r"
     rename_i e ne
     have le : l ≠ e := ne_of_none hl ne
     have te : t ≠ e := ne_of_none ht ne
     have hd2 : Dr (upd H1 e (HO.lst [])) d k1 := by
       obtain ⟨a, b, h1, h2⟩ := hd1
       exact ⟨a, b, by rw [upd_ne (ne_of_none h1 ne)]; exact h1, h2⟩
     have hit2 : ∀ x ∈ ls, Item (upd H1 e (HO.lst [])) x := fun x hx => (hit1 x hx).but (SameBut.new (.refl d H1) ne) hd1
     obtain ⟨ds, h1, h2, h3⟩ := items_dp (K := K) hit2
     have hl2 : (upd H1 e (HO.lst [])) l = some (.lst ls) := by rw [upd_ne le]; exact hl
     have ht2 : (upd H1 e (HO.lst [])) t = some (.lst ts) := by rw [upd_ne te]; exact ht
     refine Or.inr ⟨.list ds, .list [], .lst (SqL.of hl2) h1, .lst (SqL.of upd_same) .nil, (dok_list h2).shaped (by decide), rfl, ?_⟩
     refine ⟨_, rfl, ?_⟩
     rcases ls with _ | ⟨y0, r0⟩
     · have : ds = [] := by cases ds with | nil => rfl | cons _ _ => simp at h3
       subst this
       refine ifF (by rw [eqv_list_nil]; rfl) ?_
       wtm_at "fo r"
       refine fin t ts _ k1 (by simpa using hp) ((sb.trans (SameBut.new (.refl d H1) ne))) nt0 ht2 hd2 ?_
       simp at hk1 hlen2
       omega
     · have : ds.isEmpty = false := by cases ds with | nil => simp at h3 | cons _ _ => rfl
       refine ifT (by rw [eqv_list_nil, this]; rfl) ?_
       generalize hls : y0 :: r0 = ls at *
       have hpos : 0 < ls.length := by rw [← hls]; simp
       refine ⟨fun σ' H' => ∃ m', m' < ls.length ∧ W m' σ' H', fun _ _ h => h, ?_⟩
       wtm_at "fo r"
       refine call_next hd2 (by omega) (fun n H3 hn sb3 hd3 => ?_)
       have hl3 : H3 l = some (.lst ls) := sb3 l _ nl' hl2
       have ht3 : H3 t = some (.lst ts) := sb3 t _ nt' ht2
       wtm_at "fo r"
       obtain ⟨j, hj, ej⟩ := mod_ix (n := n) hpos
       have hy : ls[j]? = some ls[j] := List.getElem?_eq_getElem hj
       refine ⟨l, ls, _, j, ls[j], rfl, rfl, hl3, ?_, ?_, ?_, hy, ?_⟩
       · show _
         rw [ej]
         omega
       · show _
         rw [ej]
         omega
       · show _
         rw [ej]
         exact seqIx hj
       have ht4 : (upd H3 l (.lst (ls.eraseIdx j))) t = some (.lst ts) := by rw [upd_ne tl]; exact ht3
       refine ⟨t, ts, _, rfl, rfl, ht4, Nat.lt_of_le_of_lt (m := 1000) (by omega) (by decide), ?_⟩
       have hlen3 : (ls.eraseIdx j).length + 1 = ls.length := by rw [List.length_eraseIdx, if_pos hj]; omega
       refine ⟨(ls.eraseIdx j).length, by omega, ls.eraseIdx j, ts ++ [ls[j]], k1 + 1, rfl, rfl, ?_, upd_same, perm_move hy hp, ?_, by omega, ?_⟩
       · rw [upd_ne tl.symm]
         exact upd_same
       · obtain ⟨a, b, e1, h0⟩ := hd3
         exact ⟨a, b, by rw [upd_ne nt'.symm, upd_ne nl'.symm]; exact e1, h0⟩
       · exact (((sb.trans (SameBut.new (.refl d H1) ne)).trans sb3).new nl).new nt0
end
/-! piece D4 -/
section
/-! ### what is beside, by the law -/
def near0 (n : Nat) : List (List Int) := (List.range (n + 1)).map fun (i : Nat) => [(i : Int)]
def addE (t : List (List Int)) (e : Int × Int) : List (List Int) := (t.modify e.1.toNat (· ++ [e.2])).modify e.2.toNat (· ++ [e.1])
def nearM (n : Nat) (es : List (Int × Int)) : List (List Int) := es.foldl addE (near0 n)
def Pairs (H : Hp) (p : Addr) (es : List (Int × Int)) : Prop := ∃ rs : List Addr, H p = some (.lst (rs.map V.ref)) ∧ rs.length = es.length ∧
  ∀ (i : Nat) (r : Addr) (e : Int × Int), rs[i]? = some r → es[i]? = some e → H r = some (.lst [.int e.1, .int e.2])
def Lists (H : Hp) (p : Addr) (ts : List (List Int)) : Prop := ∃ rs : List Addr, H p = some (.lst (rs.map V.ref)) ∧ rs.Nodup ∧ rs.length = ts.length ∧
  ∀ (i : Nat) (r : Addr) (t : List Int), rs[i]? = some r → ts[i]? = some t → H r = some (.lst (t.map V.int))
theorem addE_length (t : List (List Int)) (e : Int × Int) : (addE t e).length = t.length := by
  unfold addE
  rw [List.length_modify, List.length_modify]
theorem foldl_addE_length : ∀ (es : List (Int × Int)) (t : List (List Int)), (es.foldl addE t).length = t.length
  | [], _ => rfl
  | e :: es, t => by
    rw [List.foldl_cons, foldl_addE_length es, addE_length]
theorem mem_modify {α : Type} {f : α → α} {l : List α} {i : Nat} {x : α} (h : x ∈ l.modify i f) : x ∈ l ∨ ∃ y ∈ l, x = f y := by
  obtain ⟨j, hj⟩ := List.getElem?_of_mem h
  rw [List.getElem?_modify] at hj
  cases hl : l[j]? with
  | none => rw [hl] at hj; simp at hj
  | some y =>
    rw [hl] at hj
    have hm := List.mem_of_getElem? hl
    by_cases e : i = j
    · simp [e] at hj
      exact .inr ⟨y, hm, hj.symm⟩
    · simp [e] at hj
      exact .inl (hj ▸ hm)
theorem addE_bound {t : List (List Int)} {b : Nat} (h : ∀ u ∈ t, u.length ≤ b) (e : Int × Int) : ∀ u ∈ addE t e, u.length ≤ b + 2 := by
  intro u hu
  unfold addE at hu
  rcases mem_modify hu with hu | ⟨v, hv, rfl⟩
  · rcases mem_modify hu with hu | ⟨v, hv, rfl⟩
    · exact Nat.le_trans (h u hu) (by omega)
    · have := h v hv
      simp; omega
  · rcases mem_modify hv with hv | ⟨x, hx, rfl⟩
    · have := h v hv
      simp; omega
    · have := h x hx
      simp; omega
theorem foldl_addE_bound : ∀ (es : List (Int × Int)) (t : List (List Int)) (b : Nat), (∀ u ∈ t, u.length ≤ b) → ∀ u ∈ es.foldl addE t, u.length ≤ b + 2 * es.length
  | [], _, _, h => h
  | e :: es, t, b, h => fun u hu => by
    have := foldl_addE_bound es (addE t e) (b + 2) (addE_bound h e) u hu
    rw [List.length_cons]
    omega
theorem near0_length (n : Nat) : (near0 n).length = n + 1 := by simp [near0]
theorem near0_bound (n : Nat) : ∀ u ∈ near0 n, u.length ≤ 1 := by
  intro u hu
  simp [near0] at hu
  obtain ⟨i, _, rfl⟩ := hu
  simp
@[irreducible] def spNear : Sp := fun vs H Q _ => ∃ (n : Nat) (q : Addr) (es : List (Int × Int)), vs = [.int n, .ref q] ∧ n ≤ 12 ∧ Pairs H q es ∧ es.length ≤ 200 ∧ (∀ e ∈ es, 1 ≤ e.1 ∧ e.1 ≤ n ∧ 1 ≤ e.2 ∧ e.2 ≤ n) ∧
  ∀ p H', Same H H' → H p = none → Lists H' p (nearM n es) → Q (.ref p) H'
theorem call_near {n : Nat} {q : Addr} {es : List (Int × Int)} {H : Hp} {Q : VK} {E : XK} (hn : n ≤ 12) (hq : Pairs H q es) (hl : es.length ≤ 200) (he : ∀ e ∈ es, 1 ≤ e.1 ∧ e.1 ≤ n ∧ 1 ≤ e.2 ∧ e.2 ≤ n)
    (fin : ∀ p H', Same H H' → H p = none → Lists H' p (nearM n es) → Q (.ref p) H') : spNear [.int n, .ref q] H Q E := by
  unfold spNear
  exact ⟨n, q, es, rfl, hn, hq, hl, he, fin⟩
variable {P : Program} {w : World} {K : PySem.W.Frag} {mg : Str → Option Value} {base : Heap}
end
/-! piece D5m -/
section
/-! ### nets in lists of pairs -/
abbrev Edge := Int × Int
def Apart (a b : Edge) : Prop := a ≠ b ∧ a ≠ (b.2, b.1)
structure Simp (n : Int) (es : List Edge) : Prop where
  rng : ∀ e ∈ es, 1 ≤ e.1 ∧ e.1 ≤ n ∧ 1 ≤ e.2 ∧ e.2 ≤ n ∧ e.1 ≠ e.2
  ap : es.Pairwise Apart
theorem Apart.symm {a b : Edge} (h : Apart a b) : Apart b a := ⟨fun e => h.1 e.symm, fun e => h.2 (by rw [e])⟩
structure PsAt (H : Hp) (D : Addr) (rs : List Addr) (es : List Edge) : Prop where
  hD : H D = some (.lst (rs.map V.ref))
  len : rs.length = es.length
  at_ : ∀ (i : Nat) (r : Addr) (e : Edge), rs[i]? = some r → es[i]? = some e → H r = some (.lst [.int e.1, .int e.2])
theorem PsAt.pairs {H : Hp} {D : Addr} {rs : List Addr} {es : List Edge} (h : PsAt H D rs es) : Pairs H D es := ⟨rs, h.hD, h.len, h.at_⟩
theorem PsAt.of {H : Hp} {D : Addr} {es : List Edge} (h : Pairs H D es) : ∃ rs, PsAt H D rs es := by
  obtain ⟨rs, a, b, c⟩ := h
  exact ⟨rs, a, b, c⟩
theorem PsAt.mem {H : Hp} {D : Addr} {rs : List Addr} {es : List Edge} (h : PsAt H D rs es) {r : Addr} (hr : r ∈ rs) : ∃ e ∈ es, H r = some (.lst [.int e.1, .int e.2]) := by
  obtain ⟨i, hi⟩ := List.getElem?_of_mem hr
  have hl : i < es.length := by rw [← h.len]; exact (List.getElem?_eq_some_iff.mp hi).1
  exact ⟨es[i], List.getElem_mem hl, h.at_ i r _ hi (List.getElem?_eq_getElem hl)⟩
theorem PsAt.ne {H : Hp} {D : Addr} {rs : List Addr} {es : List Edge} (h : PsAt H D rs es) {r : Addr} (hr : r ∈ rs) : r ≠ D := by
  obtain ⟨e, _, he⟩ := h.mem hr
  refine ne_of he h.hD ?_
  intro q
  injection q with q
  cases rs with
  | nil => simp at q
  | cons a l => simp at q
theorem PsAt.nil {H : Hp} {D : Addr} (h : H D = some (.lst [])) : PsAt H D [] [] := ⟨h, rfl, fun i r e h _ => by simp at h⟩
theorem PsAt.same {H H' : Hp} {D : Addr} {rs : List Addr} {es : List Edge} (h : PsAt H D rs es) (s : Same H H') : PsAt H' D rs es :=
  ⟨s _ _ h.hD, h.len, fun i r e a b => s _ _ (h.at_ i r e a b)⟩
theorem Dr.ne_refs {H : Hp} {d D : Addr} {k : Int} {rs : List Addr} (h : Dr H d k) (hr : H D = some (.lst (rs.map V.ref))) : D ≠ d := by
  obtain ⟨a, b, hd, _⟩ := h
  refine ne_of hr hd ?_
  intro e
  injection e with e
  cases rs with
  | nil => simp at e
  | cons x l => simp at e
theorem Dr.ne_ints {H : Hp} {d D : Addr} {k : Int} {xs : List Int} (h : Dr H d k) (hr : H D = some (.lst (xs.map V.int))) : D ≠ d := by
  obtain ⟨a, b, hd, _⟩ := h
  refine ne_of hr hd ?_
  intro e
  injection e with e
  cases xs with
  | nil => simp at e
  | cons x l => cases l with
    | nil => simp at e
    | cons y l => cases l with
      | nil => simp at e
      | cons z l => simp at e
theorem PsAt.but {H H' : Hp} {d D : Addr} {k : Int} {rs : List Addr} {es : List Edge} (h : PsAt H D rs es) (s : SameBut d H H') (hd : Dr H d k) : PsAt H' D rs es :=
  ⟨s _ _ (hd.ne_refs h.hD) h.hD, h.len, fun i r e a b => s _ _ (hd.ne_pair (h.at_ i r e a b)) (h.at_ i r e a b)⟩
theorem PsAt.push {H : Hp} {D r : Addr} {rs : List Addr} {es : List Edge} (h : PsAt H D rs es) (nr : H r = none) (e : Edge) :
    PsAt (upd (upd H r (.lst [.int e.1, .int e.2])) D (.lst (rs.map V.ref ++ [V.ref r]))) D (rs ++ [r]) (es ++ [e]) := by
  have hDr : D ≠ r := ne_of_none h.hD nr
  refine ⟨?_, ?_, ?_⟩
  · rw [upd_same, List.map_append]
    rfl
  · rw [List.length_append, List.length_append, h.len]
    rfl
  · intro i a u ha hu
    by_cases hi : i < rs.length
    · rw [List.getElem?_append_left hi] at ha
      rw [List.getElem?_append_left (by rw [← h.len]; exact hi)] at hu
      rw [upd_ne (h.ne (List.mem_of_getElem? ha)), upd_ne (ne_of_none (h.at_ i a u ha hu) nr)]
      exact h.at_ i a u ha hu
    · rw [List.getElem?_append_right (by omega)] at ha
      rw [List.getElem?_append_right (by rw [← h.len]; omega), ← h.len] at hu
      have e0 : i - rs.length = 0 := by
        have := (List.getElem?_eq_some_iff.mp ha).1
        simp at this
        omega
      rw [e0] at ha hu
      simp at ha hu
      subst ha hu
      rw [upd_ne hDr.symm, upd_same]
theorem PsAt.cat {H : Hp} {D D2 p : Addr} {rs rs2 : List Addr} {es es2 : List Edge} (h : PsAt H D rs es) (h2 : PsAt H D2 rs2 es2) (np : H p = none) :
    PsAt (upd H p (.lst (rs.map V.ref ++ rs2.map V.ref))) p (rs ++ rs2) (es ++ es2) := by
  refine ⟨by rw [upd_same, List.map_append], by rw [List.length_append, List.length_append, h.len, h2.len], ?_⟩
  intro i a u ha hu
  by_cases hi : i < rs.length
  · rw [List.getElem?_append_left hi] at ha
    rw [List.getElem?_append_left (by rw [← h.len]; exact hi)] at hu
    rw [upd_ne (ne_of_none (h.at_ i a u ha hu) np)]
    exact h.at_ i a u ha hu
  · rw [List.getElem?_append_right (by omega)] at ha
    rw [List.getElem?_append_right (by rw [← h.len]; omega), ← h.len] at hu
    rw [upd_ne (ne_of_none (h2.at_ _ a u ha hu) np)]
    exact h2.at_ _ a u ha hu
theorem PsAt.one {H : Hp} {D r : Addr} {e : Edge} (hD : H D = some (.lst [V.ref r])) (hr : H r = some (.lst [.int e.1, .int e.2])) : PsAt H D [r] [e] := by
  refine ⟨hD, rfl, ?_⟩
  intro i a u ha hu
  cases i with
  | zero => simp at ha hu; subst ha hu; exact hr
  | succ i => simp at ha
/-! numbers without repeats -/
theorem nodup_le : ∀ (n : Nat) (l : List Int), l.Nodup → (∀ x ∈ l, 1 ≤ x ∧ x ≤ n) → l.length ≤ n
  | 0, l, _, h => by
    cases l with
    | nil => exact Nat.le_refl _
    | cons a r => have := h a (List.mem_cons_self ..); omega
  | n + 1, l, nd, h => by
    have h1 : (l.erase ((n : Int) + 1)).length ≤ n := by
      apply nodup_le n _ (nd.erase _)
      intro x hx
      have hx2 := (List.Nodup.mem_erase_iff nd).mp hx
      have := h x hx2.2
      have := hx2.1
      omega
    have h2 : l.length ≤ (l.erase ((n : Int) + 1)).length + 1 := by
      rw [List.length_erase]
      split <;> omega
    omega
/-! the mates of a place in a list of pairs -/
def mates (g : Int) (es : List Edge) : List Int := es.filterMap fun e => if e.1 = g ∨ e.2 = g then some (e.1 + e.2 - g) else none
theorem mates_rng {n g : Int} {es : List Edge} (h : Simp n es) : ∀ m ∈ mates g es, 1 ≤ m ∧ m ≤ n ∧ m ≠ g := by
  intro m hm
  obtain ⟨e, he, hf⟩ := List.mem_filterMap.mp hm
  have := h.rng e he
  split at hf
  · rename_i hg
    cases hf
    rcases hg with rfl | rfl <;> omega
  · cases hf
theorem mates_nodup {n g : Int} {es : List Edge} (h : Simp n es) : (mates g es).Nodup := by
  unfold mates List.Nodup
  rw [List.pairwise_filterMap]
  refine h.ap.imp_of_mem ?_
  intro a b ha hb hab x hx y hy
  split at hx
  · rename_i h1
    split at hy
    · rename_i h2
      cases hx
      cases hy
      intro e
      obtain ⟨a1, a2⟩ := a
      obtain ⟨b1, b2⟩ := b
      have q1 := hab.1
      have q2 := hab.2
      simp only [ne_eq, Prod.mk.injEq] at q1 q2
      simp only at e h1 h2
      apply Classical.byContradiction
      intro _
      omega
    · cases hy
  · cases hx
theorem simp_grow {s g : Int} {es : List Edge} {fs : List Int} (h : Simp (s - 1) es) (g1 : 1 ≤ g) (g2 : g ≤ s - 1) (hf : fs.Sublist (mates g es)) : Simp s (es ++ (g, s) :: fs.map fun m => (m, s)) := by
  have hr : ∀ m ∈ g :: fs, 1 ≤ m ∧ m ≤ s - 1 := by
    intro m hm
    rcases List.mem_cons.mp hm with rfl | hm
    · exact ⟨g1, g2⟩
    · have := mates_rng h m (hf.subset hm)
      exact ⟨this.1, this.2.1⟩
  have hnd : (g :: fs).Nodup := by
    refine List.nodup_cons.mpr ⟨fun hg => ?_, (mates_nodup h).sublist hf⟩
    exact (mates_rng h g (hf.subset hg)).2.2 rfl
  have hm : (g, s) :: fs.map (fun m => (m, s)) = (g :: fs).map fun m => (m, s) := rfl
  rw [hm]
  generalize g :: fs = l at hr hnd
  refine ⟨?_, ?_⟩
  · intro e he
    rcases List.mem_append.mp he with he | he
    · have := h.rng e he
      omega
    · obtain ⟨m, hm, rfl⟩ := List.mem_map.mp he
      have := hr m hm
      simp only
      omega
  · rw [List.pairwise_append]
    refine ⟨h.ap, ?_, ?_⟩
    · rw [List.pairwise_map]
      refine hnd.imp_of_mem ?_
      intro a b ha hb hab
      have := hr a ha
      have := hr b hb
      refine ⟨fun e => hab ?_, fun e => ?_⟩
      · simp only [Prod.mk.injEq] at e; exact e.1
      · simp only [Prod.mk.injEq] at e; omega
    · intro a ha b hb
      obtain ⟨m, hm, rfl⟩ := List.mem_map.mp hb
      have q1 := h.rng a ha
      have q2 := hr m hm
      refine ⟨fun e => ?_, fun e => ?_⟩
      · have e1 := congrArg Prod.snd e
        simp only at e1
        omega
      · have e1 := congrArg Prod.fst e
        simp only at e1
        omega
theorem mates_len {s g : Int} {es : List Edge} {fs : List Int} (h : Simp (s - 1) es) (hs : s ≤ 13) (hf : fs.Sublist (mates g es)) : fs.length ≤ 12 := by
  apply nodup_le 12 fs ((mates_nodup h).sublist hf)
  intro m hm
  have := mates_rng h m (hf.subset hm)
  omega
theorem simp_mono {n m : Int} {es : List Edge} (h : Simp n es) (hm : n ≤ m) : Simp m es := ⟨fun e he => by have := h.rng e he; omega, h.ap⟩

theorem mates_snoc (g : Int) (es : List Edge) (e : Edge) : mates g (es ++ [e]) = mates g es ++ (if e.1 = g ∨ e.2 = g then [e.1 + e.2 - g] else []) := by
  unfold mates
  rw [List.filterMap_append]
  congr 1
  by_cases h : e.1 = g ∨ e.2 = g
  · simp [h]
  · simp [h]
theorem mates_length (g : Int) (es : List Edge) : (mates g es).length ≤ es.length := List.length_filterMap_le ..
theorem inV2 (g a b : Int) : inV (.int g) [.int a, .int b] = decide (a = g ∨ b = g) := by
  simp only [inV, List.any_cons, List.any_nil, Bool.or_false, eqV]
  by_cases h1 : a = g <;> by_cases h2 : b = g <;> simp [h1, h2]
theorem Dr.same {H H' : Hp} {d : Addr} {k : Int} (h : Dr H d k) (s : Same H H') : Dr H' d k := by
  obtain ⟨a, b, e, h0⟩ := h
  exact ⟨a, b, s _ _ e, h0⟩
theorem Same.but {H H' : Hp} (d : Addr) (s : Same H H') : SameBut d H H' := fun b o _ e => s b o e
theorem SameBut.none {d p : Addr} {H H' : Hp} {k : Int} (s : SameBut d H H') (hd : Dr H' d k) (np : H' p = none) : H p = none := by
  cases hq : H p with
  | none => rfl
  | some o =>
    obtain ⟨a, b, e, _⟩ := hd
    have hne : p ≠ d := (ne_of_none e np).symm
    rw [s p o hne hq] at np
    cases np
end
/-! piece D6m -/
section
/-! ### renaming, flipping and shuffling a net -/
theorem simp_perm {n : Int} {es fs : List Edge} (h : Simp n es) (p : fs.Perm es) : Simp n fs :=
  ⟨fun e he => h.rng e (p.mem_iff.mp he), (p.pairwise_iff (fun hab => Apart.symm hab)).mpr h.ap⟩
theorem simp_map {n m : Int} {es : List Edge} (h : Simp n es) (f : Int → Int) (hr : ∀ x, 1 ≤ x → x ≤ n → 1 ≤ f x ∧ f x ≤ m) (inj : ∀ x y, 1 ≤ x → x ≤ n → 1 ≤ y → y ≤ n → f x = f y → x = y) :
    Simp m (es.map fun e => (f e.1, f e.2)) := by
  refine ⟨?_, ?_⟩
  · intro e he
    obtain ⟨a, ha, rfl⟩ := List.mem_map.mp he
    have q := h.rng a ha
    have q1 := hr a.1 q.1 q.2.1
    have q2 := hr a.2 q.2.2.1 q.2.2.2.1
    refine ⟨q1.1, q1.2, q2.1, q2.2, fun e => q.2.2.2.2 (inj _ _ q.1 q.2.1 q.2.2.1 q.2.2.2.1 e)⟩
  · rw [List.pairwise_map]
    refine h.ap.imp_of_mem ?_
    intro a b ha hb hab
    have qa := h.rng a ha
    have qb := h.rng b hb
    refine ⟨fun e => hab.1 ?_, fun e => hab.2 ?_⟩
    · simp only [Prod.mk.injEq] at e
      exact Prod.ext (inj _ _ qa.1 qa.2.1 qb.1 qb.2.1 e.1) (inj _ _ qa.2.2.1 qa.2.2.2.1 qb.2.2.1 qb.2.2.2.1 e.2)
    · simp only [Prod.mk.injEq] at e
      exact Prod.ext (inj _ _ qa.1 qa.2.1 qb.2.2.1 qb.2.2.2.1 e.1) (inj _ _ qa.2.2.1 qa.2.2.2.1 qb.1 qb.2.1 e.2)
/-- some pairs the other way about -/
def Flips : List Edge → List Edge → Prop
  | [], [] => True
  | a :: as, b :: bs => (b = a ∨ b = (a.2, a.1)) ∧ Flips as bs
  | _, _ => False
theorem flips_snoc : ∀ {as bs : List Edge} {a b : Edge}, Flips as bs → (b = a ∨ b = (a.2, a.1)) → Flips (as ++ [a]) (bs ++ [b])
  | [], [], _, _, _, h => ⟨h, trivial⟩
  | _ :: _, _ :: _, _, _, h, h2 => ⟨h.1, flips_snoc h.2 h2⟩
theorem flips_mem : ∀ {as bs : List Edge}, Flips as bs → ∀ b ∈ bs, ∃ a ∈ as, b = a ∨ b = (a.2, a.1)
  | [], [], _, b, h => nomatch h
  | a :: as, c :: bs, h, b, hb => by
    rcases List.mem_cons.mp hb with rfl | hb
    · exact ⟨a, List.mem_cons_self .., h.1⟩
    · obtain ⟨x, hx, h2⟩ := flips_mem h.2 b hb
      exact ⟨x, List.mem_cons_of_mem _ hx, h2⟩
theorem flips_apart {a b c d : Edge} (h : Apart a b) (hc : c = a ∨ c = (a.2, a.1)) (hd : d = b ∨ d = (b.2, b.1)) : Apart c d := by
  obtain ⟨a1, a2⟩ := a
  obtain ⟨b1, b2⟩ := b
  have q1 := h.1
  have q2 := h.2
  simp only [ne_eq, Prod.mk.injEq] at q1 q2
  unfold Apart
  rcases hc with rfl | rfl <;> rcases hd with rfl | rfl <;> simp only [ne_eq, Prod.mk.injEq] <;> refine ⟨fun e => ?_, fun e => ?_⟩ <;> first | exact q1 e | exact q2 e | exact q1 ⟨e.2, e.1⟩ | exact q2 ⟨e.2, e.1⟩
theorem flips_pair : ∀ {as bs : List Edge}, Flips as bs → as.Pairwise Apart → bs.Pairwise Apart
  | [], [], _, _ => List.Pairwise.nil
  | a :: as, b :: bs, h, hp => by
    rw [List.pairwise_cons] at hp ⊢
    refine ⟨?_, flips_pair h.2 hp.2⟩
    intro c hc
    obtain ⟨x, hx, hx2⟩ := flips_mem h.2 c hc
    exact flips_apart (hp.1 x hx) h.1 hx2
theorem simp_flips {n : Int} {es fs : List Edge} (h : Simp n es) (hf : Flips es fs) : Simp n fs := by
  refine ⟨?_, flips_pair hf h.ap⟩
  intro e he
  obtain ⟨a, ha, h2⟩ := flips_mem hf e he
  have q := h.rng a ha
  rcases h2 with rfl | rfl
  · exact q
  · exact ⟨q.2.2.1, q.2.2.2.1, q.1, q.2.1, fun e => q.2.2.2.2 e.symm⟩
theorem flips_length : ∀ {as bs : List Edge}, Flips as bs → bs.length = as.length
  | [], [], _ => rfl
  | _ :: _, _ :: _, h => by rw [List.length_cons, List.length_cons, flips_length h.2]
/-- any lines: those of one place to greater ones -/
theorem simp_rows {n a : Int} {es : List Edge} {bs : List Int} (h : Simp n es) (h1 : ∀ e ∈ es, e.1 < a ∧ e.1 < e.2) (ha : 1 ≤ a) (han : a ≤ n) (hb : ∀ b ∈ bs, a < b ∧ b ≤ n) (nd : bs.Nodup) : Simp n (es ++ bs.map fun b => (a, b)) := by
  refine ⟨?_, ?_⟩
  · intro e he
    rcases List.mem_append.mp he with he | he
    · exact h.rng e he
    · obtain ⟨b, hb2, rfl⟩ := List.mem_map.mp he
      have := hb b hb2
      simp only
      omega
  · rw [List.pairwise_append]
    refine ⟨h.ap, ?_, ?_⟩
    · rw [List.pairwise_map]
      refine nd.imp_of_mem ?_
      intro x y hx hy hxy
      have := hb x hx
      have := hb y hy
      refine ⟨fun e => hxy ?_, fun e => ?_⟩
      · simp only [Prod.mk.injEq] at e; exact e.2
      · simp only [Prod.mk.injEq] at e; omega
    · intro x hx y hy
      obtain ⟨b, hb2, rfl⟩ := List.mem_map.mp hy
      have q1 := h1 x hx
      have q2 := hb b hb2
      refine ⟨fun e => ?_, fun e => ?_⟩
      · have := congrArg Prod.fst e; simp only at this; omega
      · have e1 := congrArg Prod.fst e
        have e2 := congrArg Prod.snd e
        simp only at e1 e2
        omega
theorem perm_lift {α β : Type} (f : α → β) {l m : List β} (h : l.Perm m) : ∀ zs, m = zs.map f → ∃ zs' : List α, zs'.Perm zs ∧ l = zs'.map f := by
  induction h with
  | nil => intro zs e; exact ⟨[], by cases zs with | nil => exact List.Perm.refl _ | cons a r => simp at e, rfl⟩
  | cons x _ ih =>
    intro zs e
    cases zs with
    | nil => simp at e
    | cons a r =>
      simp only [List.map_cons, List.cons.injEq] at e
      obtain ⟨zs', h1, h2⟩ := ih r e.2
      exact ⟨a :: zs', h1.cons a, by rw [List.map_cons, ← h2, e.1]⟩
  | swap x y l =>
    intro zs e
    cases zs with
    | nil => simp at e
    | cons a r =>
      cases r with
      | nil => simp at e
      | cons b r =>
        simp only [List.map_cons, List.cons.injEq] at e
        exact ⟨b :: a :: r, List.Perm.swap a b r, by rw [List.map_cons, List.map_cons, ← e.1, ← e.2.1, ← e.2.2]⟩
  | trans _ _ ih1 ih2 =>
    intro zs e
    obtain ⟨z1, h1, h2⟩ := ih2 zs e
    obtain ⟨z2, h3, h4⟩ := ih1 z1 h2
    exact ⟨z2, h3.trans h1, h4⟩
theorem zip_at {α β : Type} : ∀ {rs : List α} {es : List β} {i : Nat} {r : α} {e : β}, (rs.zip es)[i]? = some (r, e) → rs[i]? = some r ∧ es[i]? = some e
  | [], _, _, _, _, h => by simp at h
  | _ :: _, [], _, _, _, h => by simp at h
  | a :: rs, b :: es, 0, r, e, h => by simp at h; simp [h.1, h.2]
  | a :: rs, b :: es, i + 1, r, e, h => by
    simp only [List.zip_cons_cons, List.getElem?_cons_succ] at h ⊢
    exact zip_at h
theorem PsAt.perm {H H' : Hp} {D D2 : Addr} {rs : List Addr} {es : List Edge} {ys : List V} (h : PsAt H D rs es) (hp : ys.Perm (rs.map V.ref)) (hD : H' D2 = some (.lst ys))
    (keep : ∀ r e, r ∈ rs → H r = some (.lst [.int e.1, .int e.2]) → H' r = some (.lst [.int (e : Edge).1, .int e.2])) : ∃ fs rs', fs.Perm es ∧ PsAt H' D2 rs' fs := by
  have e1 : rs.map V.ref = (rs.zip es).map fun z => V.ref z.1 := by
    rw [show (fun z : Addr × Edge => V.ref z.1) = V.ref ∘ Prod.fst from rfl, ← List.map_map, List.map_fst_zip (by rw [h.len]; exact Nat.le_refl _)]
  obtain ⟨zs, hz, rfl⟩ := perm_lift (fun z : Addr × Edge => V.ref z.1) hp (rs.zip es) e1
  refine ⟨zs.map (·.2), zs.map (·.1), ?_, ?_, ?_, ?_⟩
  · have := hz.map (·.2)
    rw [List.map_snd_zip (by rw [h.len]; exact Nat.le_refl _)] at this
    exact this
  · rw [List.map_map]
    exact hD
  · rw [List.length_map, List.length_map]
  · intro i r e hr he
    rw [List.getElem?_map] at hr he
    cases hzi : zs[i]? with
    | none => rw [hzi] at hr; cases hr
    | some z =>
      rw [hzi] at hr he
      cases hr
      cases he
      have hm : z ∈ rs.zip es := hz.mem_iff.mp (List.mem_of_getElem? hzi)
      obtain ⟨j, hj⟩ := List.getElem?_of_mem hm
      obtain ⟨a, b⟩ := z
      obtain ⟨j1, j2⟩ := zip_at hj
      exact keep a b (List.mem_of_getElem? j1) (h.at_ j a b j1 j2)
theorem PsAt.cong {H : Hp} {D : Addr} {rs : List Addr} {es fs : List Edge} (h : PsAt H D rs es) (e : es = fs) : PsAt H D rs fs := e ▸ h
/-- a row of names: zs is the numbers 1 to n in some order -/
def nameOf (zs : List Int) (x : Int) : Int := (zs[(x - 1).toNat]?).getD 0
theorem name_at {zs : List Int} {n : Nat} (hz : zs.Perm ((List.range n).map fun (i : Nat) => (1 : Int) + i)) {x : Int} (h1 : 1 ≤ x) (h2 : x ≤ n) : zs[(x - 1).toNat]? = some (nameOf zs x) ∧ 1 ≤ nameOf zs x ∧ nameOf zs x ≤ n := by
  have hl : zs.length = n := by rw [hz.length_eq]; simp
  have hi : (x - 1).toNat < zs.length := by omega
  have e : zs[(x - 1).toNat]? = some zs[(x - 1).toNat] := List.getElem?_eq_getElem hi
  have e2 : nameOf zs x = zs[(x - 1).toNat] := by unfold nameOf; rw [e]; rfl
  have hm : zs[(x - 1).toNat] ∈ ((List.range n).map fun (i : Nat) => (1 : Int) + i) := hz.mem_iff.mp (List.getElem_mem hi)
  obtain ⟨i, hi2, hi3⟩ := List.mem_map.mp hm
  have := List.mem_range.mp hi2
  rw [e2]
  exact ⟨e, by omega, by omega⟩
theorem name_inj {zs : List Int} {n : Nat} (hz : zs.Perm ((List.range n).map fun (i : Nat) => (1 : Int) + i)) {x y : Int} (h1 : 1 ≤ x) (h2 : x ≤ n) (h3 : 1 ≤ y) (h4 : y ≤ n) (e : nameOf zs x = nameOf zs y) : x = y := by
  have nd : zs.Nodup := by
    refine (hz.nodup_iff).mpr ?_
    rw [List.Nodup, List.pairwise_map]
    refine List.nodup_range.imp ?_
    intro a b hab h
    exact hab (by omega)
  have a1 := (name_at hz h1 h2).1
  have a2 := (name_at hz h3 h4).1
  rw [e] at a1
  have := nd_ix nd a1 a2
  omega
theorem simp_nil (n : Int) : Simp n [] := ⟨(fun e h => nomatch h), List.Pairwise.nil⟩
end
/-! piece D7m -/
section
/-! ### what is beside a place -/
theorem addE_get {t : List (List Int)} {e : Edge} {p : Nat} {u : List Int} (h1 : 0 ≤ e.1) (h2 : 0 ≤ e.2) (hne : e.1 ≠ e.2) (h : t[p]? = some u) :
    (addE t e)[p]? = some (u ++ (if e.1 = (p : Int) ∨ e.2 = (p : Int) then [e.1 + e.2 - p] else [])) := by
  unfold addE
  rw [List.getElem?_modify, List.getElem?_modify, h]
  by_cases a1 : e.1.toNat = p <;> by_cases a2 : e.2.toNat = p
  · omega
  · have b1 : e.1 = (p : Int) := by omega
    have b2 : ¬ e.2 = (p : Int) := by omega
    have b3 : e.1 + e.2 - p = e.2 := by omega
    simp [a1, a2, b1, b3]
    try omega
  · have b1 : ¬ e.1 = (p : Int) := by omega
    have b2 : e.2 = (p : Int) := by omega
    have b3 : e.1 + e.2 - p = e.1 := by omega
    simp [a1, a2, b2, b3]
    try omega
  · have b1 : ¬ e.1 = (p : Int) := by omega
    have b2 : ¬ e.2 = (p : Int) := by omega
    simp [a1, a2, b1, b2]
theorem foldl_addE_get {p : Nat} : ∀ (es : List Edge) (t : List (List Int)) (u : List Int), (∀ e ∈ es, 0 ≤ e.1 ∧ 0 ≤ e.2 ∧ e.1 ≠ e.2) → t[p]? = some u → (es.foldl addE t)[p]? = some (u ++ mates p es)
  | [], t, u, _, h => by simpa [mates] using h
  | e :: es, t, u, hr, h => by
    have he := hr e (List.mem_cons_self ..)
    have := foldl_addE_get es (addE t e) _ (fun x hx => hr x (List.mem_cons_of_mem _ hx)) (addE_get he.1 he.2.1 he.2.2 h)
    have hm : mates (p : Int) (e :: es) = (if e.1 = (p : Int) ∨ e.2 = (p : Int) then [e.1 + e.2 - p] else []) ++ mates p es := by
      unfold mates
      by_cases hc : e.1 = (p : Int) ∨ e.2 = (p : Int) <;> simp [List.filterMap_cons, hc]
    rw [List.foldl_cons, this, List.append_assoc, hm]
theorem near_get {n : Nat} {es : List Edge} (h : Simp n es) {p : Nat} (h1 : 1 ≤ p) (h2 : p ≤ n) : (nearM n es)[p]? = some ((p : Int) :: mates p es) := by
  have h0 : (near0 n)[p]? = some [(p : Int)] := by
    unfold near0
    rw [List.getElem?_map, List.getElem?_range (by omega)]
    rfl
  exact foldl_addE_get es (near0 n) [(p : Int)] (fun e he => by have := h.rng e he; omega) h0
def besideM (n : Nat) (es : List Edge) (p : Int) : List Int := ((List.range n).map fun (i : Nat) => (i : Int) + 1).filter fun x => decide (x = p ∨ x ∈ mates p es)
theorem besideM_lt (n : Nat) (es : List Edge) (p : Int) : (besideM n es p).Pairwise (· < ·) := by
  unfold besideM
  apply List.Pairwise.filter
  rw [List.pairwise_map]
  exact List.pairwise_lt_range.imp fun h => by omega
theorem besideM_mem {n : Nat} {es : List Edge} {p : Int} (h : Simp n es) (h1 : 1 ≤ p) (h2 : p ≤ n) (x : Int) : x ∈ besideM n es p ↔ x ∈ p :: mates p es := by
  unfold besideM
  rw [List.mem_filter, List.mem_cons, decide_eq_true_iff]
  constructor
  · exact fun h => h.2
  · intro hx
    refine ⟨?_, hx⟩
    have : 1 ≤ x ∧ x ≤ n := by
      rcases hx with rfl | hx
      · exact ⟨h1, h2⟩
      · have := mates_rng h x hx
        exact ⟨this.1, this.2.1⟩
    exact List.mem_map.mpr ⟨(x - 1).toNat, List.mem_range.mpr (by omega), by omega⟩
theorem lt_unique : ∀ {l m : List Int}, l.Pairwise (· < ·) → m.Pairwise (· < ·) → (∀ x, x ∈ l ↔ x ∈ m) → l = m
  | [], [], _, _, _ => rfl
  | [], b :: m, _, _, h => by have := (h b).mpr (List.mem_cons_self ..); simp at this
  | a :: l, [], _, _, h => by have := (h a).mp (List.mem_cons_self ..); simp at this
  | a :: l, b :: m, hl, hm, h => by
    rw [List.pairwise_cons] at hl hm
    have hab : a = b := by
      have h1 := (h a).mp (List.mem_cons_self ..)
      have h2 := (h b).mpr (List.mem_cons_self ..)
      rcases List.mem_cons.mp h1 with e | h1
      · exact e
      · rcases List.mem_cons.mp h2 with e | h2
        · exact e.symm
        · have := hm.1 a h1
          have := hl.1 b h2
          omega
    subst hab
    rw [lt_unique hl.2 hm.2 fun x => ?_]
    constructor
    · intro hx
      rcases List.mem_cons.mp ((h x).mp (List.mem_cons_of_mem _ hx)) with e | hx2
      · subst e; have := hl.1 x hx; omega
      · exact hx2
    · intro hx
      rcases List.mem_cons.mp ((h x).mpr (List.mem_cons_of_mem _ hx)) with e | hx2
      · subst e; have := hm.1 x hx; omega
      · exact hx2
theorem sorted_is {l m k : List Int} (hp : l.Perm k) (hs : l.Pairwise (· ≤ ·)) (hk : k.Nodup) (hm : m.Pairwise (· < ·)) (h : ∀ x, x ∈ m ↔ x ∈ k) : l = m := by
  have hn : l.Nodup := hp.nodup_iff.mpr hk
  refine lt_unique ?_ hm fun x => (hp.mem_iff).trans (h x).symm
  have := hs.and hn
  exact this.imp fun ⟨a, b⟩ => by omega
theorem near_sorted {n : Nat} {es : List Edge} {p : Int} (h : Simp n es) (h1 : 1 ≤ p) (h2 : p ≤ n) {l : List Int} (hp : l.Perm (p :: mates p es)) (hs : l.Pairwise (· ≤ ·)) : l = besideM n es p :=
  sorted_is hp hs (List.nodup_cons.mpr ⟨fun hm => (mates_rng h p hm).2.2 rfl, mates_nodup h⟩) (besideM_lt n es p) (besideM_mem h h1 h2)
theorem besideM_length {n : Nat} {es : List Edge} {p : Int} (hn : n ≤ 12) : (besideM n es p).length ≤ 12 := by
  unfold besideM
  refine Nat.le_trans (List.length_filter_le ..) ?_
  simp
  exact hn
theorem besideM_rng {n : Nat} {es : List Edge} {p x : Int} (hx : x ∈ besideM n es p) : 1 ≤ x ∧ x ≤ n := by
  unfold besideM at hx
  obtain ⟨h1, _⟩ := List.mem_filter.mp hx
  obtain ⟨i, hi, rfl⟩ := List.mem_map.mp h1
  have := List.mem_range.mp hi
  omega
/-! the data of nets and of rows -/
def dI (xs : List Int) : PyData := .list (xs.map PyData.int)
def dE (es : List Edge) : PyData := .list (es.map fun e => .list [.int e.1, .int e.2])
theorem dok_dI {xs : List Int} (h : ∀ x ∈ xs, x.natAbs < 1000) : DOk 1 (2 + xs.length * 7) (dI xs) := by
  have := dok_list (n := 0) (b := 5) (xs := xs.map PyData.int) (fun d hd => by
    obtain ⟨x, hx, rfl⟩ := List.mem_map.mp hd
    exact dok_int (h x hx))
  rw [List.length_map] at this
  exact this
theorem dok_pair {a b : Int} (h1 : a.natAbs < 1000) (h2 : b.natAbs < 1000) : DOk 1 20 (.list [.int a, .int b]) := by
  refine (dok_list (n := 0) (b := 5) ?_).mono (by decide) (by simp)
  intro x hx
  simp only [List.mem_cons, List.not_mem_nil, or_false] at hx
  rcases hx with rfl | rfl
  · exact dok_int h1
  · exact dok_int h2
theorem dok_dE {es : List Edge} (h : ∀ e ∈ es, e.1.natAbs < 1000 ∧ e.2.natAbs < 1000) : DOk 2 (2 + es.length * 22) (dE es) := by
  have := dok_list (n := 1) (b := 20) (xs := es.map fun e => PyData.list [.int e.1, .int e.2]) (fun d hd => by
    obtain ⟨x, hx, rfl⟩ := List.mem_map.mp hd
    exact dok_pair (h x hx).1 (h x hx).2)
  rw [List.length_map] at this
  exact this
theorem Simp.small {n : Int} {es : List Edge} (h : Simp n es) (hn : n ≤ 200) : ∀ e ∈ es, e.1.natAbs < 1000 ∧ e.2.natAbs < 1000 := fun e he => by
  have := h.rng e he
  omega
theorem dp_dI {K : PySem.W.Frag} {H : Hp} {p : Addr} {xs : List Int} (h : SqL K H p (xs.map V.int)) : Dp K H (.ref p) (dI xs) := .lst h (dp_ints xs)
theorem dp_pairsAll {K : PySem.W.Frag} {H : Hp} : ∀ {rs : List Addr} {es : List Edge}, rs.length = es.length → (∀ (i : Nat) (r : Addr) (e : Edge), rs[i]? = some r → es[i]? = some e → H r = some (.lst [.int e.1, .int e.2])) →
    DpAll K H (rs.map V.ref) (es.map fun e => .list [.int e.1, .int e.2])
  | [], [], _, _ => .nil
  | [], _ :: _, h, _ => by simp at h
  | _ :: _, [], h, _ => by simp at h
  | r :: rs, e :: es, hl, h => .cons (.lst (SqL.of (h 0 r e rfl rfl)) (.cons (.int _) (.cons (.int _) .nil))) (dp_pairsAll (by simpa using hl) fun i a b h1 h2 => h (i + 1) a b (by simpa using h1) (by simpa using h2))
theorem dp_dE {K : PySem.W.Frag} {H : Hp} {p : Addr} {es : List Edge} (h : Pairs H p es) : Dp K H (.ref p) (dE es) := by
  obtain ⟨rs, h1, h2, h3⟩ := h
  exact .lst (SqL.of h1) (dp_pairsAll h2 h3)

/-! ### the program's promises, as the law asks them -/
@[irreducible] def spBeside : Sp := fun vs H Q _ => ∃ (q : Addr) (n : Nat) (p : Int) (es : List Edge), vs = [.int n, .ref q, .int p] ∧ 1 ≤ n ∧ n ≤ 12 ∧ 1 ≤ p ∧ p ≤ n ∧ Pairs H q es ∧ Simp n es ∧ es.length ≤ 200 ∧
  ∀ r H', Same H H' → H r = none → H' r = some (.lst ((besideM n es p).map V.int)) → Q (.ref r) H'
theorem call_beside {q : Addr} {n : Nat} {p : Int} {es : List Edge} {H : Hp} {Q : VK} {E : XK} (h1 : 1 ≤ n) (h2 : n ≤ 12) (h3 : 1 ≤ p) (h4 : p ≤ n) (hq : Pairs H q es) (hS : Simp n es) (hl : es.length ≤ 200)
    (fin : ∀ r H', Same H H' → H r = none → H' r = some (.lst ((besideM n es p).map V.int)) → Q (.ref r) H') : spBeside [.int n, .ref q, .int p] H Q E := by
  unfold spBeside
  exact ⟨q, n, p, es, rfl, h1, h2, h3, h4, hq, hS, hl, fin⟩
/-- a def of the text that may be called by its parameters' names alone -/
structure KCal (P : Program) (w : World) (K : PySem.W.Frag) (mg : Str → Option Value) (base : Heap) (x : Str) (k : Nat) (ps ks : List Str) (g : List Value → List Value → List Value) (gV : List V → List V → List V) (sp : Sp) : Prop where
  ex : ∃ (f : Addr) (fd : FuncData), FnOk P w K mg base CX0 k f fd ps sp ∧ mg x = some (.ref f) ∧ PySem.W.keepIn K (.ref f) = true ∧ KBinds K fd ps ks g gV
theorem pe_kcal {X : Cx} {x : Str} {p pos : Pos} {kws : List Keyword} {tk : TA} {k j : Nat} {ps ks : List Str} {g : List Value → List Value → List Value} {gV : List V → List V → List V} {sp : Sp}
    (C : KCal X.prog X.w X.K X.mg X.base x k ps ks g gV sp) (hr : Room j X.A) (hkj : k ≤ j) (hg : Gl X x) (hkw : PK X kws tk)
    (hall : (backToKw pos (keywordEach kws X.env)).all (·.1.isSome) = true := by rfl) (hks : (backToKw pos (keywordEach kws X.env)).filterMap (·.1) = ks := by rfl)
    (hdb : (x == ("__debug__" : Str)) = false := by decide)
    (hpl : ((backTo pos (starEach [] X.env)).any (·.1) || (backToKw pos (keywordEach kws X.env)).any (·.1.isNone)) = false := by rfl) :
    PE X (.Call (.Name x p) [] kws pos) (tCallK sp gV E0 tNil tk) := by
  obtain ⟨f, fd, F, hm, hk, hb⟩ := C.ex
  exact pe_callK0 F (hr.mono hkj) hg hm hk hb pass0 hkw hall hks hdb hpl
def g3 {α : Type} : List α → List α → List α := fun us ws => match us, ws with
  | [], [a, b, c] => [c, b, a]
  | _, _ => []
theorem Pairs.same {H H' : Hp} {p : Addr} {es : List Edge} (h : Pairs H p es) (s : Same H H') : Pairs H' p es := by
  obtain ⟨rs, a, b, c⟩ := h
  exact ⟨rs, s _ _ a, b, fun i r e x y => s _ _ (c i r e x y)⟩
theorem Dp.dok_two {K : PySem.W.Frag} {H : Hp} {t a b : Addr} {d : PyData} (ht : H t = some (.lst [.ref a, .ref b])) (ha : Dp K H (.ref a) d) (hb : Dp K H (.ref b) d) : Dp K H (.ref t) (.list [d, d]) :=
  .lst (SqL.of ht) (.cons ha (.cons hb .nil))
theorem dok_two {n b : Nat} {d : PyData} (h : DOk n b d) : DOk (n + 1) (2 + 2 * (b + 2)) (.list [d, d]) := by
  refine dok_list (xs := [d, d]) (fun x hx => ?_)
  simp only [List.mem_cons, List.not_mem_nil, or_false] at hx
  rcases hx with rfl | rfl <;> exact h
end
/-! piece FG -/
section
/-! ### folds and their maps, in general -/
section
variable {adj : Int → Int → Prop}
def StepOk (adj : Int → Int → Prop) (S : Int → Prop) (p q : Int) : Prop := S p ∧ S q ∧ p ≠ q ∧ ∀ z, S z → adj p z → adj q z
inductive Run (adj : Int → Int → Prop) : (Int → Prop) → List Edge → (Int → Prop) → Prop where
  | nil (S : Int → Prop) : Run adj S [] S
  | cons {S S' : Int → Prop} {p q : Int} {l : List Edge} (h : StepOk adj S p q) (r : Run adj (fun x => S x ∧ x ≠ p) l S') : Run adj S ((p, q) :: l) S'
def mapR : List Edge → Int → Int
  | [], x => x
  | e :: l, x => mapR l (if x = e.1 then e.2 else x)
def Stiff (adj : Int → Int → Prop) (S : Int → Prop) : Prop := ∀ p q, ¬ StepOk adj S p q
theorem mapR_in {S S' : Int → Prop} {l : List Edge} (r : Run adj S l S') : ∀ {x : Int}, S x → S' (mapR l x) := by
  induction r with
  | nil S => exact fun h => h
  | @cons S S' p q l h r ih =>
    intro x hx
    unfold mapR
    apply ih
    by_cases e : x = p
    · simp only [e, if_true]
      exact ⟨h.2.1, h.2.2.1.symm⟩
    · simp only [e, if_false]
      exact ⟨hx, e⟩
theorem run_sub {S S' : Int → Prop} {l : List Edge} (r : Run adj S l S') : ∀ {x : Int}, S' x → S x ∧ ∀ e ∈ l, x ≠ e.1 := by
  induction r with
  | nil S => exact fun h => ⟨h, fun _ h => nomatch h⟩
  | @cons S S' p q l h r ih =>
    intro x hx
    obtain ⟨⟨h1, h2⟩, h3⟩ := ih hx
    refine ⟨h1, fun e he => ?_⟩
    rcases List.mem_cons.mp he with rfl | he
    · exact h2
    · exact h3 e he
theorem mapR_off : ∀ {l : List Edge} {x : Int}, (∀ e ∈ l, x ≠ e.1) → mapR l x = x
  | [], _, _ => rfl
  | e :: l, x, h => by
    unfold mapR
    rw [if_neg (h e (List.mem_cons_self ..))]
    exact mapR_off fun u hu => h u (List.mem_cons_of_mem _ hu)
theorem mapR_fix {S S' : Int → Prop} {l : List Edge} (r : Run adj S l S') {x : Int} (h : S' x) : mapR l x = x := mapR_off (run_sub r h).2
theorem mapR_hom (sy : ∀ x y, adj x y → adj y x) {S S' : Int → Prop} {l : List Edge} (r : Run adj S l S') : ∀ {x y : Int}, S x → S y → adj x y → adj (mapR l x) (mapR l y) := by
  induction r with
  | nil S => exact fun _ _ h => h
  | @cons S S' p q l h r ih =>
    intro x y hx hy ha
    obtain ⟨hp, hq, hne, hn⟩ := h
    unfold mapR
    apply ih
    · by_cases e : x = p
      · simp only [e, if_true]; exact ⟨hq, hne.symm⟩
      · simp only [e, if_false]; exact ⟨hx, e⟩
    · by_cases e : y = p
      · simp only [e, if_true]; exact ⟨hq, hne.symm⟩
      · simp only [e, if_false]; exact ⟨hy, e⟩
    · by_cases e1 : x = p
      · subst e1
        by_cases e2 : y = x
        · subst e2
          simp only [if_true]
          exact hn q hq (sy _ _ (hn y hp ha))
        · simp only [e2, if_true, if_false]
          exact hn y hy ha
      · by_cases e2 : y = p
        · subst e2
          simp only [e1, if_true, if_false]
          exact sy _ _ (hn x hx (sy _ _ ha))
        · simp only [e1, e2, if_false]
          exact ha
/-- whoever stands so that the map of full folds leads each back does so behind further folds -/
theorem led_back (rf : ∀ x, adj x x) (sy : ∀ x y, adj x y → adj y x) {S E : Int → Prop} {l : List Edge} (r : Run adj S l E) (st : Stiff adj E)
    {T T' : Int → Prop} {m : List Edge} (rm : Run adj T m T') : (∀ x, T x → S x) → ∀ {s : Int → Int}, (∀ x, E x → T (s x)) → (∀ x y, E x → E y → adj x y → adj (s x) (s y)) → (∀ x, E x → mapR l (s x) = x) →
      ∀ x, E x → mapR l (mapR m (s x)) = x := by
  induction rm with
  | nil T => exact fun _ s _ _ h => h
  | @cons T T' p q m h rm ih =>
    intro hTS s hin hom hb x hx
    obtain ⟨hp, hq, hne, hn⟩ := h
    show mapR l (mapR m (if s x = p then q else s x)) = x
    refine ih (s := fun x => if s x = p then q else s x) (fun x hx => hTS x hx.1) ?_ ?_ ?_ x hx
    · intro x hx
      by_cases e : s x = p
      · simp only [e, if_true]; exact ⟨hq, hne.symm⟩
      · simp only [e, if_false]; exact ⟨hin x hx, e⟩
    · intro x y hx hy ha
      have ha := hom x y hx hy ha
      by_cases e1 : s x = p
      · by_cases e2 : s y = p
        · simp only [e1, e2, if_true]; exact rf q
        · simp only [e1, e2, if_true, if_false]
          rw [e1] at ha
          exact hn _ (hin y hy) ha
      · by_cases e2 : s y = p
        · simp only [e1, e2, if_true, if_false]
          rw [e2] at ha
          exact sy _ _ (hn _ (hin x hx) (sy _ _ ha))
        · simp only [e1, e2, if_false]; exact ha
    · intro x hx
      by_cases e : s x = p
      · simp only [e, if_true]
        -- what is beside x in the end is beside its new goal
        apply Classical.byContradiction
        intro hxy
        refine st x (mapR l q) ⟨hx, mapR_in r (hTS q hq), fun e => hxy e.symm, ?_⟩
        intro z hz hxz
        have h1 := hom x z hx hz hxz
        rw [e] at h1
        have h2 := hn _ (hin z hz) h1
        have h3 := mapR_hom sy r (hTS q hq) (hTS _ (hin z hz)) h2
        rw [hb z hz] at h3
        exact h3
      · simp only [e, if_false]
        exact hb x hx
theorem back (rf : ∀ x, adj x x) (sy : ∀ x y, adj x y → adj y x) {S E E' : Int → Prop} {l m : List Edge} (r : Run adj S l E) (st : Stiff adj E) (rm : Run adj S m E') {x : Int} (hx : E x) : mapR l (mapR m x) = x :=
  led_back rf sy r st rm (fun _ h => h) (s := fun x => x) (fun x hx => (run_sub r hx).1) (fun _ _ _ _ h => h) (fun x hx => mapR_fix r hx) x hx
theorem alike_iff (rf : ∀ x, adj x x) (sy : ∀ x y, adj x y → adj y x) {S E E' : Int → Prop} {l m : List Edge} (r : Run adj S l E) (st : Stiff adj E) (rm : Run adj S m E') {x y : Int} (hx : E x) (hy : E y) :
    adj (mapR m x) (mapR m y) ↔ adj x y := by
  constructor
  · intro h
    have h2 := mapR_hom sy r (run_sub rm (mapR_in rm (run_sub r hx).1)).1 (run_sub rm (mapR_in rm (run_sub r hy).1)).1 h
    rwa [back rf sy r st rm hx, back rf sy r st rm hy] at h2
  · exact fun h => mapR_hom sy rm (run_sub r hx).1 (run_sub r hy).1 h
end
/-! ### the same over lists of lines -/
theorem mem_mates {g m : Int} {es : List Edge} : m ∈ mates g es ↔ (g, m) ∈ es ∨ (m, g) ∈ es := by
  unfold mates
  rw [List.mem_filterMap]
  constructor
  · rintro ⟨⟨a, b⟩, he, hf⟩
    simp only at hf
    split at hf
    · rename_i hc
      have hf := Option.some.inj hf
      rcases hc with hc | hc
      · left
        rw [show (g, m) = (a, b) by rw [Prod.mk.injEq]; omega]
        exact he
      · right
        rw [show (m, g) = (a, b) by rw [Prod.mk.injEq]; omega]
        exact he
    · cases hf
  · rintro (h | h)
    · exact ⟨_, h, by simp only [true_or, if_true]; congr 1; omega⟩
    · exact ⟨_, h, by simp only [or_true, if_true]; congr 1; omega⟩
def Adj (es : List Edge) (a b : Int) : Prop := b ∈ a :: mates a es
instance (es : List Edge) (a b : Int) : Decidable (Adj es a b) := by unfold Adj; exact inferInstance
theorem adj_refl (es : List Edge) (a : Int) : Adj es a a := List.mem_cons_self ..
theorem adj_symm {es : List Edge} (a b : Int) (h : Adj es a b) : Adj es b a := by
  unfold Adj at h ⊢
  rcases List.mem_cons.mp h with e | h
  · subst e; exact List.mem_cons_self ..
  · exact List.mem_cons_of_mem _ (mem_mates.mpr ((mem_mates.mp h).symm))
/-- what a place can be folded onto, in the order of the law's own list -/
def ontoM (es : List Edge) (left : List Int) (p : Int) : List Int :=
  let some := (p :: mates p es).filter fun m => decide (m ∈ left)
  some.filter fun m => decide (m ≠ p ∧ (some.filter fun o => !decide (o ∈ m :: mates m es)) = [])
theorem ontoM_mem {es : List Edge} {left : List Int} {p q : Int} (hp : p ∈ left) : q ∈ ontoM es left p ↔ StepOk (Adj es) (· ∈ left) p q := by
  unfold ontoM StepOk
  simp only [List.mem_filter, decide_eq_true_eq, List.filter_eq_nil_iff, Bool.not_eq_true', decide_eq_false_iff_not]
  constructor
  · rintro ⟨⟨h1, h2⟩, h3, h4⟩
    refine ⟨hp, h2, fun e => h3 e.symm, fun z hz ha => ?_⟩
    exact Decidable.not_not.mp (h4 z ⟨ha, hz⟩)
  · rintro ⟨_, h2, h3, h4⟩
    refine ⟨⟨adj_symm _ _ (h4 p hp (adj_refl es p)), h2⟩, fun e => h3 e.symm, fun z hz => ?_⟩
    exact fun hh => hh (h4 z hz.2 hz.1)
def foldableM (es : List Edge) (left : List Int) : List Int := left.filter fun p => decide (ontoM es left p ≠ [])
def without (left : List Int) (p : Int) : List Int := left.filter fun m => decide (m ≠ p)
theorem without_mem {left : List Int} {p x : Int} : x ∈ without left p ↔ x ∈ left ∧ x ≠ p := by
  unfold without
  rw [List.mem_filter, decide_eq_true_eq]
theorem without_lt {left : List Int} {p : Int} (h : left.Pairwise (· < ·)) : (without left p).Pairwise (· < ·) := List.Pairwise.filter _ h
/-- folds by lists: what is left is told too -/
inductive RunL (es : List Edge) : List Int → List Edge → List Int → Prop where
  | nil (left : List Int) : RunL es left [] left
  | cons {left left' : List Int} {p q : Int} {l : List Edge} (hp : p ∈ left) (hq : q ∈ ontoM es left p) (r : RunL es (without left p) l left') : RunL es left ((p, q) :: l) left'
theorem RunL.run {es : List Edge} {left left' : List Int} {l : List Edge} (r : RunL es left l left') : Run (Adj es) (· ∈ left) l (· ∈ left') := by
  induction r with
  | nil left => exact .nil _
  | @cons left left' p q l hp hq r ih =>
    refine .cons ((ontoM_mem hp).mp hq) ?_
    have e : (fun x => x ∈ left ∧ x ≠ p) = (· ∈ without left p) := by
      funext x
      exact propext without_mem.symm
    rw [e]
    exact ih
theorem RunL.snoc {es : List Edge} {left left' : List Int} {l : List Edge} (r : RunL es left l left') {p q : Int} (hp : p ∈ left') (hq : q ∈ ontoM es left' p) : RunL es left (l ++ [(p, q)]) (without left' p) := by
  induction r with
  | nil left => exact .cons hp hq (.nil _)
  | cons hp' hq' r ih => exact .cons hp' hq' (ih hp hq)
theorem RunL.length {es : List Edge} {left left' : List Int} {l : List Edge} (r : RunL es left l left') (nd : left.Nodup) : left'.length + l.length = left.length ∧ left'.Nodup := by
  induction r with
  | nil left => exact ⟨rfl, nd⟩
  | @cons left left' p q l hp hq r ih =>
    have h1 : (without left p).length + 1 = left.length := by
      have h2 : without left p = left.erase p := by
        unfold without
        rw [List.Nodup.erase_eq_filter nd]
        congr 1
        funext x
        by_cases e : x = p <;> simp [e]
      rw [h2, List.length_erase_of_mem hp]
      have : 0 < left.length := List.length_pos_of_mem hp
      omega
    obtain ⟨h3, h4⟩ := ih (nd.filter _)
    rw [List.length_cons]
    exact ⟨by omega, h4⟩
theorem RunL.pos {es : List Edge} {left left' : List Int} {l : List Edge} (r : RunL es left l left') (h : left ≠ []) : left' ≠ [] := by
  induction r with
  | nil left => exact h
  | @cons left left' p q l hp hq r ih =>
    apply ih
    have := (ontoM_mem hp).mp hq
    intro e
    have hm : q ∈ without left p := without_mem.mpr ⟨this.2.1, this.2.2.1.symm⟩
    rw [e] at hm
    cases hm
theorem stiff_of {es : List Edge} {left : List Int} (h : foldableM es left = []) : Stiff (Adj es) (· ∈ left) := by
  intro p q hs
  have hm : p ∈ foldableM es left := by
    unfold foldableM
    rw [List.mem_filter, decide_eq_true_eq]
    refine ⟨hs.1, fun e => ?_⟩
    have := (ontoM_mem hs.1).mpr hs
    rw [e] at this
    cases this
  rw [h] at hm
  cases hm
theorem RunL.sub {es : List Edge} {left left' : List Int} {l : List Edge} (r : RunL es left l left') : ∀ x ∈ left', x ∈ left := fun _ hx => (run_sub r.run hx).1
theorem RunL.lt {es : List Edge} {left left' : List Int} {l : List Edge} (r : RunL es left l left') (h : left.Pairwise (· < ·)) : left'.Pairwise (· < ·) := by
  induction r with
  | nil left => exact h
  | cons hp hq r ih => exact ih (without_lt h)
/-- the map, by places -/
def whereL (n : Nat) (ps : List Edge) : List Int := (List.range (n + 1)).map fun (i : Nat) => mapR ps (i : Int)
theorem whereL_length (n : Nat) (ps : List Edge) : (whereL n ps).length = n + 1 := by simp [whereL]
theorem whereL_get {n : Nat} {ps : List Edge} {i : Nat} (h : i ≤ n) : (whereL n ps)[i]? = some (mapR ps (i : Int)) := by
  unfold whereL
  rw [List.getElem?_map, List.getElem?_range (by omega)]
  rfl
theorem whereL_set {n : Nat} {ps : List Edge} {p q : Nat} (hp : p ≤ n) : (whereL n ps).set p (mapR ps (q : Int)) = whereL n (((p : Int), (q : Int)) :: ps) := by
  apply List.ext_getElem?
  intro i
  rw [List.getElem?_set]
  by_cases hi : i ≤ n
  · rw [whereL_get hi, whereL_get hi, whereL_length]
    by_cases e : p = i
    · subst e
      rw [if_pos rfl, if_pos (by omega)]
      simp [mapR]
    · rw [if_neg e]
      simp only [mapR]
      rw [if_neg (by omega)]
  · rw [if_neg (by omega), List.getElem?_eq_none (by rw [whereL_length]; omega), List.getElem?_eq_none (by rw [whereL_length]; omega)]
/-- the least of a list of numbers -/
def minL : List Int → Int
  | [] => 0
  | x :: r => r.foldl min x
/-- the folds of an order, each onto the least place then -/
def leastM (es : List Edge) : List Int → List Int → List Edge
  | _, [] => []
  | left, p :: r => (p, minL (ontoM es left p)) :: leastM es (without left p) r
theorem foldl_min_mem : ∀ (l : List Int) (a : Int), l.foldl min a ∈ a :: l
  | [], a => List.mem_cons_self ..
  | b :: l, a => by
    rw [List.foldl_cons]
    have h := foldl_min_mem l (min a b)
    rcases List.mem_cons.mp h with h | h
    · rw [h]
      by_cases e : a ≤ b
      · rw [Int.min_eq_left e]; exact List.mem_cons_self ..
      · rw [Int.min_eq_right (by omega)]; exact List.mem_cons_of_mem _ (List.mem_cons_self ..)
    · exact List.mem_cons_of_mem _ (List.mem_cons_of_mem _ h)
theorem foldl_min_le : ∀ (l : List Int) (a : Int), ∀ x ∈ a :: l, l.foldl min a ≤ x
  | [], a, x, h => by simp at h; subst h; exact Int.le_refl _
  | b :: l, a, x, h => by
    rw [List.foldl_cons]
    have h1 := foldl_min_le l (min a b) (min a b) (List.mem_cons_self ..)
    have h2 := Int.min_le_left a b
    have h3 := Int.min_le_right a b
    rcases List.mem_cons.mp h with rfl | h
    · omega
    · rcases List.mem_cons.mp h with rfl | h
      · omega
      · exact foldl_min_le l (min a b) x (List.mem_cons_of_mem _ h)
theorem minL_mem {l : List Int} (h : l ≠ []) : minL l ∈ l := by
  cases l with
  | nil => exact absurd rfl h
  | cons a l => exact foldl_min_mem l a
theorem minL_le {l : List Int} {x : Int} (h : x ∈ l) : minL l ≤ x := by
  cases l with
  | nil => cases h
  | cons a l => exact foldl_min_le l a x h
theorem RunL.least {es : List Edge} {left left' : List Int} {l : List Edge} (r : RunL es left l left') : RunL es left (leastM es left (l.map (·.1))) left' := by
  induction r with
  | nil left => exact .nil _
  | @cons left left' p q l hp hq r ih => exact .cons hp (minL_mem fun e => by rw [e] at hq; cases hq) ih
theorem leastM_fst (es : List Edge) : ∀ (o left : List Int), (leastM es left o).map (·.1) = o
  | [], _ => rfl
  | p :: o, left => by
    unfold leastM
    rw [List.map_cons, leastM_fst es o]
theorem RunL.take {es : List Edge} {left left' : List Int} {l : List Edge} (r : RunL es left l left') : ∀ k, ∃ left2, RunL es left (l.take k) left2 := by
  induction r with
  | nil left => exact fun k => ⟨left, by rw [List.take_nil]; exact .nil _⟩
  | @cons left left' p q l hp hq r ih =>
    intro k
    cases k with
    | zero => exact ⟨left, .nil _⟩
    | succ k =>
      obtain ⟨l2, h⟩ := ih k
      exact ⟨l2, by rw [List.take_succ_cons]; exact .cons hp hq h⟩
end
/-! piece LC -/
section
/-! ### a comprehension that filters and tells -/
theorem lc_gen {K : PySem.W.Frag} {a : Addr} {α : Type} {inj : α → V} {xs : List α} {i : Nat} {tt : TT} {te : TE} {vs : List Nat} {σ : Sl} {H1 : Hp} {D : Addr} {Qd : Hp → Prop} (f : α → Bool) (e : α → V)
    (hl : SqL K H1 a (xs.map inj)) (nD : H1 D = none) (hn : xs.length ≤ 10000) (hw : ∀ v, wipe ((wipe σ vs).set i (some v)) vs = wipe σ vs)
    (ht : ∀ x ∈ xs, ∀ H2, Same H1 H2 → ∀ R : Bool → Hp → Prop, (∀ H3, Same H2 H3 → R (f x) H3) → tt ((wipe σ vs).set i (some (inj x))) H2 R)
    (he : ∀ x ∈ xs, f x = true → ∀ H2, Same H1 H2 → ∀ R : V → Hp → Prop, (∀ H3, Same H2 H3 → R (e x) H3) → te ((wipe σ vs).set i (some (inj x))) H2 R)
    (hd : ∀ H2, Same H1 H2 → H2 D = some (.lst ((xs.filter f).map e)) → Qd H2) :
    ∃ W : Nat → Nat → Hp → Prop, (∃ m, W 0 m (upd H1 D (.lst []))) ∧ ∀ i' m H, W i' m H →
      ((Itl K a).stop i' H ∧ Qd H) ∨ ((Itl K a).go i' H ∧ ∃ Nx : Hp → Prop, (∀ H', Nx H' → ∃ m', m' < m ∧ W (i' + 1) m' H') ∧ ∀ x H', (Itl K a).yld i' H x H' → gName i x (wipe σ vs) H' fun σ2 H2 => wipe σ2 vs = wipe σ vs ∧ tt σ2 H2 fun b H3 =>
        if b = true then te σ2 H3 fun y H4 => ∃ acc, H4 D = some (.lst acc) ∧ acc.length < sizeLine ∧ Nx (upd H4 D (.lst (acc ++ [y]))) else Nx H3) := by
  refine lc_list (K := K) (xs := xs.map inj) (fun j H2 => Same H1 H2 ∧ H2 D = some (.lst (((xs.take j).filter f).map e))) ⟨same_upd (Same.refl _) nD, upd_same⟩ ?_ ?_ ?_
  · rintro j H2 _ ⟨sm, _⟩
    exact sm.seq hl
  · rintro j x H2 hx ⟨sm, hD⟩
    rw [List.getElem?_map] at hx
    cases hv : xs[j]? with
    | none => rw [hv] at hx; cases hx
    | some y =>
      rw [hv] at hx
      cases hx
      have hm := List.mem_of_getElem? hv
      have htk : xs.take (j + 1) = xs.take j ++ [y] := by rw [List.take_add_one, hv]; rfl
      refine ⟨hw _, ht y hm H2 sm _ fun H3 sm3 => ?_⟩
      cases hf : f y with
      | false =>
        refine ifF rfl ⟨sm.trans sm3, ?_⟩
        rw [htk, List.filter_append, List.filter_cons, hf]
        simpa using sm3 _ _ hD
      | true =>
        refine ifT rfl (he y hm hf H3 (sm.trans sm3) _ fun H4 sm4 => ?_)
        refine ⟨_, sm4 _ _ (sm3 _ _ hD), ?_, same_upd ((sm.trans sm3).trans sm4) nD, ?_⟩
        · rw [List.length_map]
          exact Nat.lt_of_le_of_lt (Nat.le_trans (List.length_filter_le ..) (Nat.le_trans (by rw [List.length_take]; exact Nat.min_le_right _ _) hn)) (by decide)
        · rw [upd_same, htk, List.filter_append, List.filter_cons, hf, List.map_append]
          simp
  · rintro H2 ⟨sm, hD⟩
    rw [List.length_map, List.take_length] at hD
    exact hd H2 sm hD
/-- the same where the thing itself is told -/
theorem lc_filt {K : PySem.W.Frag} {a : Addr} {xs : List Int} {i : Nat} {tt : TT} {vs : List Nat} {σ : Sl} {H1 : Hp} {D : Addr} {Qd : Hp → Prop} (f : Int → Bool)
    (hl : SqL K H1 a (xs.map V.int)) (nD : H1 D = none) (hn : xs.length ≤ 10000) (hi : i < σ.length) (hwl : (wipe σ vs).length = σ.length) (hw : ∀ v, wipe ((wipe σ vs).set i (some v)) vs = wipe σ vs)
    (ht : ∀ x ∈ xs, ∀ H2, Same H1 H2 → ∀ R : Bool → Hp → Prop, (∀ H3, Same H2 H3 → R (f x) H3) → tt ((wipe σ vs).set i (some (.int x))) H2 R)
    (hd : ∀ H2, Same H1 H2 → H2 D = some (.lst ((xs.filter f).map V.int)) → Qd H2) :
    ∃ W : Nat → Nat → Hp → Prop, (∃ m, W 0 m (upd H1 D (.lst []))) ∧ ∀ i' m H, W i' m H →
      ((Itl K a).stop i' H ∧ Qd H) ∨ ((Itl K a).go i' H ∧ ∃ Nx : Hp → Prop, (∀ H', Nx H' → ∃ m', m' < m ∧ W (i' + 1) m' H') ∧ ∀ x H', (Itl K a).yld i' H x H' → gName i x (wipe σ vs) H' fun σ2 H2 => wipe σ2 vs = wipe σ vs ∧ tt σ2 H2 fun b H3 =>
        if b = true then tVar i σ2 H3 fun y H4 => ∃ acc, H4 D = some (.lst acc) ∧ acc.length < sizeLine ∧ Nx (upd H4 D (.lst (acc ++ [y]))) else Nx H3) :=
  lc_gen (inj := V.int) f V.int hl nD hn hw ht (fun x _ _ H2 _ R hR => ⟨_, by rw [List.getElem?_set_self (by rw [hwl]; exact hi)], hR H2 (Same.refl _)⟩) hd
end
/-! piece D8m -/
section
/-! ### pairs as tuples -/
structure TsAt (H : Hp) (D : Addr) (rs : List Addr) (es : List Edge) : Prop where
  hD : H D = some (.lst (rs.map V.ref))
  len : rs.length = es.length
  at_ : ∀ (i : Nat) (r : Addr) (e : Edge), rs[i]? = some r → es[i]? = some e → H r = some (.tup [.int e.1, .int e.2])
theorem TsAt.mem {H : Hp} {D : Addr} {rs : List Addr} {es : List Edge} (h : TsAt H D rs es) {r : Addr} (hr : r ∈ rs) : ∃ e ∈ es, H r = some (.tup [.int e.1, .int e.2]) := by
  obtain ⟨i, hi⟩ := List.getElem?_of_mem hr
  have hl : i < es.length := by rw [← h.len]; exact (List.getElem?_eq_some_iff.mp hi).1
  exact ⟨es[i], List.getElem_mem hl, h.at_ i r _ hi (List.getElem?_eq_getElem hl)⟩
theorem TsAt.ne {H : Hp} {D : Addr} {rs : List Addr} {es : List Edge} (h : TsAt H D rs es) {r : Addr} (hr : r ∈ rs) : r ≠ D := by
  obtain ⟨e, _, he⟩ := h.mem hr
  exact ne_of he h.hD (by intro q; cases q)
theorem TsAt.nil {H : Hp} {D : Addr} (h : H D = some (.lst [])) : TsAt H D [] [] := ⟨h, rfl, fun i r e h _ => by simp at h⟩
theorem TsAt.same {H H' : Hp} {D : Addr} {rs : List Addr} {es : List Edge} (h : TsAt H D rs es) (s : Same H H') : TsAt H' D rs es :=
  ⟨s _ _ h.hD, h.len, fun i r e a b => s _ _ (h.at_ i r e a b)⟩
theorem TsAt.push {H : Hp} {D r : Addr} {rs : List Addr} {es : List Edge} (h : TsAt H D rs es) (nr : H r = none) (e : Edge) :
    TsAt (upd (upd H r (.tup [.int e.1, .int e.2])) D (.lst (rs.map V.ref ++ [V.ref r]))) D (rs ++ [r]) (es ++ [e]) := by
  have hDr : D ≠ r := ne_of_none h.hD nr
  refine ⟨?_, ?_, ?_⟩
  · rw [upd_same, List.map_append]
    rfl
  · rw [List.length_append, List.length_append, h.len]
    rfl
  · intro i a u ha hu
    by_cases hi : i < rs.length
    · rw [List.getElem?_append_left hi] at ha
      rw [List.getElem?_append_left (by rw [← h.len]; exact hi)] at hu
      rw [upd_ne (h.ne (List.mem_of_getElem? ha)), upd_ne (ne_of_none (h.at_ i a u ha hu) nr)]
      exact h.at_ i a u ha hu
    · rw [List.getElem?_append_right (by omega)] at ha
      rw [List.getElem?_append_right (by rw [← h.len]; omega), ← h.len] at hu
      have e0 : i - rs.length = 0 := by
        have := (List.getElem?_eq_some_iff.mp ha).1
        simp at this
        omega
      rw [e0] at ha hu
      simp at ha hu
      subst ha hu
      rw [upd_ne hDr.symm, upd_same]
theorem TsAt.cat {H : Hp} {D D2 p : Addr} {rs rs2 : List Addr} {es es2 : List Edge} (h : TsAt H D rs es) (h2 : TsAt H D2 rs2 es2) (np : H p = none) :
    TsAt (upd H p (.lst (rs.map V.ref ++ rs2.map V.ref))) p (rs ++ rs2) (es ++ es2) := by
  refine ⟨by rw [upd_same, List.map_append], by rw [List.length_append, List.length_append, h.len, h2.len], ?_⟩
  intro i a u ha hu
  by_cases hi : i < rs.length
  · rw [List.getElem?_append_left hi] at ha
    rw [List.getElem?_append_left (by rw [← h.len]; exact hi)] at hu
    rw [upd_ne (ne_of_none (h.at_ i a u ha hu) np)]
    exact h.at_ i a u ha hu
  · rw [List.getElem?_append_right (by omega)] at ha
    rw [List.getElem?_append_right (by rw [← h.len]; omega), ← h.len] at hu
    rw [upd_ne (ne_of_none (h2.at_ _ a u ha hu) np)]
    exact h2.at_ _ a u ha hu

theorem for_enum {K : PySem.W.Frag} {a : Addr} {xs : List V} {g : TG} {tb : TS} {D : Ends} {σ : Sl} {H : Hp} (Pv : Nat → Sl → Hp → Prop) (h0 : Pv 0 σ H) (hl : ∀ i σ H, i ≤ xs.length → Pv i σ H → SqL K H a xs)
    (hs : ∀ (i : Nat) x T σ H, xs[i]? = some x → Pv i σ H → H T = none → g (.ref T) σ (upd H T (.tup [.int (i : Nat), x])) fun σ2 H2 => tb { D with nx := Pv (i + 1), ct := Pv (i + 1), bk := D.nx } σ2 H2)
    (hd : ∀ σ H, Pv xs.length σ H → D.nx σ H) :
    ∃ W : Nat → Nat → Sl → Hp → Prop, (∃ m, W 0 m σ H) ∧ ∀ i m σ H, W i m σ H →
      ((Ite K a).stop i H ∧ D.nx σ H) ∨ ((Ite K a).go i H ∧ ∃ N : Sl → Hp → Prop, (∀ σ' H', N σ' H' → ∃ m', m' < m ∧ W (i + 1) m' σ' H') ∧
        ∀ x H', (Ite K a).yld i H x H' → g x σ H' fun σ2 H2 => tb { D with nx := N, ct := N, bk := D.nx } σ2 H2) := by
  refine ⟨fun i m σ H => m = xs.length - i ∧ i ≤ xs.length ∧ Pv i σ H, ⟨xs.length, by simp, Nat.zero_le _, h0⟩, ?_⟩
  rintro i m σ H ⟨rfl, hi, p⟩
  have q := hl i σ H hi p
  by_cases hlt : i < xs.length
  · refine Or.inr ⟨⟨xs, xs[i], q, List.getElem?_eq_getElem hlt⟩, Pv (i + 1), fun σ' H' p' => ⟨xs.length - (i + 1), by omega, rfl, hlt, p'⟩, ?_⟩
    rintro x H' ⟨T, y, rfl, nT, rfl, hx⟩
    exact hs i y T σ H (hx xs q) p nT
  · obtain rfl : i = xs.length := by omega
    exact Or.inl ⟨⟨xs, q, Nat.le_refl _⟩, hd σ H p⟩
theorem inV_ints (x : Int) : ∀ t : List Int, inV (.int x) (t.map V.int) = decide (x ∈ t)
  | [] => rfl
  | a :: t => by
    have h := inV_ints x t
    unfold inV at h ⊢
    rw [List.map_cons, List.any_cons, h]
    by_cases hx : a = x
    · subst hx; simp [eqV]
    · have : ¬ x = a := fun e => hx e.symm
      simp [eqV, hx, this]
theorem flat_ints : ∀ t : List Int, (t.map V.int).all flatV = true
  | [] => rfl
  | _ :: t => by rw [List.map_cons, List.all_cons, flat_ints t]; rfl
/-! ### the product, told place by place -/
def partsM (n m : Nat) : List Edge := (List.range n).flatMap fun (a : Nat) => (List.range m).map fun (b : Nat) => ((a : Int) + 1, (b : Int) + 1)
def joinM (es fs : List Edge) (ps : List Edge) (i j : Nat) : Option Edge :=
  match ps[i]?, ps[j]? with
  | some x, some y => if i < j ∧ y.1 ∈ x.1 :: mates x.1 es ∧ y.2 ∈ x.2 :: mates x.2 fs then some ((i : Int) + 1, (j : Int) + 1) else none
  | _, _ => none
def prodM (n : Nat) (es : List Edge) (m : Nat) (fs : List Edge) : List Edge :=
  (List.range (partsM n m).length).flatMap fun i => (List.range (partsM n m).length).filterMap fun j => joinM es fs (partsM n m) i j
theorem partsM_length (n m : Nat) : (partsM n m).length = n * m := by
  unfold partsM
  induction n with
  | zero => simp
  | succ n ih =>
    rw [List.range_succ, List.flatMap_append, List.length_append, ih, Nat.succ_mul]
    simp
theorem partsM_rng {n m : Nat} {e : Edge} (h : e ∈ partsM n m) : 1 ≤ e.1 ∧ e.1 ≤ n ∧ 1 ≤ e.2 ∧ e.2 ≤ m := by
  unfold partsM at h
  obtain ⟨a, ha, h2⟩ := List.mem_flatMap.mp h
  obtain ⟨b, hb, rfl⟩ := List.mem_map.mp h2
  have := List.mem_range.mp ha
  have := List.mem_range.mp hb
  simp only
  omega
theorem range_flat {α : Type} (f : Nat → List α) (i : Nat) : (List.range (i + 1)).flatMap f = (List.range i).flatMap f ++ f i := by
  rw [List.range_succ, List.flatMap_append]
  simp
theorem range_fm {α : Type} (f : Nat → Option α) (i : Nat) : (List.range (i + 1)).filterMap f = (List.range i).filterMap f ++ (f i).toList := by
  rw [List.range_succ, List.filterMap_append]
  cases h : f i <;> simp [List.filterMap_cons, h]
end
/-! piece NB -/
section
/-! ### lots as numbers: the bits -/
def nb0 (n : Nat) : List Nat := 0 :: (List.range n).map fun i => 2 ^ (i + 1)
def addB (t : List Nat) (e : Edge) : List Nat := (t.modify e.1.toNat (· ||| 2 ^ e.2.toNat)).modify e.2.toNat (· ||| 2 ^ e.1.toNat)
def nearB (n : Nat) (es : List Edge) : List Nat := es.foldl addB (nb0 n)
theorem addB_length (t : List Nat) (e : Edge) : (addB t e).length = t.length := by
  unfold addB
  rw [List.length_modify, List.length_modify]
theorem foldl_addB_length : ∀ (es : List Edge) (t : List Nat), (es.foldl addB t).length = t.length
  | [], _ => rfl
  | e :: es, t => by rw [List.foldl_cons, foldl_addB_length es, addB_length]
theorem nb0_length (n : Nat) : (nb0 n).length = n + 1 := by simp [nb0]
theorem nearB_length (n : Nat) (es : List Edge) : (nearB n es).length = n + 1 := by
  unfold nearB
  rw [foldl_addB_length, nb0_length]
theorem addB_swap (t : List Nat) {a b : Int} (h : a.toNat ≠ b.toNat) : addB t (a, b) = addB t (b, a) := by
  unfold addB
  apply List.ext_getElem?
  intro i
  simp only [List.getElem?_modify]
  by_cases h1 : a.toNat = i <;> by_cases h2 : b.toNat = i
  · omega
  · cases t[i]? <;> simp [h1, h2]
  · cases t[i]? <;> simp [h1, h2]
  · cases t[i]? <;> simp [h1, h2]
/-- the bits of the entry at p -/
theorem addB_bit {t : List Nat} {e : Edge} {p : Nat} {v : Nat} (h1 : 1 ≤ e.1) (h2 : 1 ≤ e.2) (hne : e.1 ≠ e.2) (h : t[p]? = some v) :
    ∃ u, (addB t e)[p]? = some u ∧ ∀ k : Nat, u.testBit k = (v.testBit k || decide ((e.1 = p ∧ e.2 = k) ∨ (e.2 = p ∧ e.1 = k))) := by
  unfold addB
  simp only [List.getElem?_modify, h]
  by_cases a1 : e.1.toNat = p <;> by_cases a2 : e.2.toNat = p
  · omega
  · refine ⟨v ||| 2 ^ e.2.toNat, by simp [a1, a2], fun k => ?_⟩
    rw [Nat.testBit_or, Nat.testBit_two_pow]
    congr 1
    apply decide_eq_decide.mpr
    omega
  · refine ⟨v ||| 2 ^ e.1.toNat, by simp [a1, a2], fun k => ?_⟩
    rw [Nat.testBit_or, Nat.testBit_two_pow]
    congr 1
    apply decide_eq_decide.mpr
    omega
  · refine ⟨v, by simp [a1, a2], fun k => ?_⟩
    have : decide ((e.1 = p ∧ e.2 = k) ∨ (e.2 = p ∧ e.1 = k)) = false := by
      apply decide_eq_false
      omega
    rw [this, Bool.or_false]
theorem foldl_addB_bit {p : Nat} : ∀ (es : List Edge) (t : List Nat) (v : Nat), (∀ e ∈ es, 1 ≤ e.1 ∧ 1 ≤ e.2 ∧ e.1 ≠ e.2) → t[p]? = some v →
    ∃ u, (es.foldl addB t)[p]? = some u ∧ ∀ k : Nat, u.testBit k = (v.testBit k || decide ((k : Int) ∈ mates p es))
  | [], t, v, _, h => ⟨v, h, fun k => by simp [mates]⟩
  | e :: es, t, v, hr, h => by
    have he := hr e (List.mem_cons_self ..)
    obtain ⟨u1, h1, b1⟩ := addB_bit he.1 he.2.1 he.2.2 h
    obtain ⟨u, h2, b2⟩ := foldl_addB_bit es (addB t e) u1 (fun x hx => hr x (List.mem_cons_of_mem _ hx)) h1
    refine ⟨u, h2, fun k => ?_⟩
    rw [b2, b1, Bool.or_assoc]
    congr 1
    rw [← Bool.decide_or]
    apply decide_eq_decide.mpr
    unfold mates
    rw [List.filterMap_cons]
    by_cases hc : e.1 = (p : Int) ∨ e.2 = (p : Int)
    · rw [if_pos hc]
      simp only [List.mem_cons]
      constructor
      · rintro (h | h)
        · left; omega
        · exact .inr h
      · rintro (h | h)
        · left; omega
        · exact .inr h
    · rw [if_neg hc]
      simp only
      constructor
      · rintro (h | h)
        · exact absurd (by omega) hc
        · exact h
      · exact .inr
theorem nearB_bit {n : Nat} {es : List Edge} (hr : ∀ e ∈ es, 1 ≤ e.1 ∧ 1 ≤ e.2 ∧ e.1 ≠ e.2) {p : Nat} (h1 : 1 ≤ p) (h2 : p ≤ n) :
    ∃ u, (nearB n es)[p]? = some u ∧ ∀ k : Nat, u.testBit k = decide ((k : Int) ∈ (p : Int) :: mates p es) := by
  have h0 : (nb0 n)[p]? = some (2 ^ p) := by
    unfold nb0
    cases p with
    | zero => omega
    | succ q =>
      rw [List.getElem?_cons_succ, List.getElem?_map, List.getElem?_range (by omega)]
      rfl
  obtain ⟨u, h3, h4⟩ := foldl_addB_bit es (nb0 n) _ hr h0
  refine ⟨u, h3, fun k => ?_⟩
  rw [h4, Nat.testBit_two_pow, ← Bool.decide_or]
  apply decide_eq_decide.mpr
  rw [List.mem_cons]
  constructor
  · rintro (h | h)
    · left; omega
    · exact .inr h
  · rintro (h | h)
    · left; omega
    · exact .inr h
theorem nearB_zero {n : Nat} {es : List Edge} (hr : ∀ e ∈ es, 1 ≤ e.1 ∧ 1 ≤ e.2 ∧ e.1 ≠ e.2) : (nearB n es)[0]? = some 0 := by
  obtain ⟨u, h3, h4⟩ := foldl_addB_bit (p := 0) es (nb0 n) 0 hr rfl
  have : u = 0 := by
    apply Nat.eq_of_testBit_eq
    intro k
    rw [h4, Nat.zero_testBit, Bool.false_or]
    apply decide_eq_false
    intro h
    obtain ⟨e, he, hf⟩ := List.mem_filterMap.mp h
    have := hr e he
    split at hf
    · omega
    · cases hf
  subst this
  exact h3
theorem and_pow_zero {v k : Nat} (h : v.testBit k = false) : v &&& 2 ^ k = 0 := by
  apply Nat.eq_of_testBit_eq
  intro i
  rw [Nat.testBit_and, Nat.testBit_two_pow, Nat.zero_testBit]
  by_cases e : k = i
  · subst e; rw [h]; rfl
  · simp [e]
/-- a line that no earlier one joins: its bit is not there yet -/
theorem fresh_bit {n : Nat} {es : List Edge} {a b : Nat} (hr : ∀ e ∈ es, 1 ≤ e.1 ∧ 1 ≤ e.2 ∧ e.1 ≠ e.2) (ha : 1 ≤ a) (han : a ≤ n) (hab : a ≠ b)
    (hf : ∀ e ∈ es, Apart e ((a : Int), (b : Int))) : ∃ u, (nearB n es)[a]? = some u ∧ u &&& 2 ^ b = 0 := by
  obtain ⟨u, h1, h2⟩ := nearB_bit hr ha han
  refine ⟨u, h1, and_pow_zero ?_⟩
  rw [h2]
  apply decide_eq_false
  rw [List.mem_cons]
  rintro (h | h)
  · omega
  · obtain ⟨e, he, hx⟩ := List.mem_filterMap.mp h
    have q := hf e he
    have q1 := q.1
    have q2 := q.2
    obtain ⟨e1, e2⟩ := e
    simp only at hx
    split at hx
    · rename_i hc
      have hx := Option.some.inj hx
      rcases hc with hc | hc
      · exact q1 (by rw [Prod.mk.injEq]; exact ⟨hc, by omega⟩)
      · exact q2 (by rw [Prod.mk.injEq]; exact ⟨by omega, hc⟩)
    · cases hx
/-! ### the places of a lot -/
def bitLen (v : Nat) : Nat := if v = 0 then 0 else v.log2 + 1
theorem bit_lt {v k : Nat} (h : v.testBit k = true) : k < bitLen v := by
  unfold bitLen
  by_cases e : v = 0
  · subst e; simp at h
  · rw [if_neg e]
    have h1 := Nat.ge_two_pow_of_testBit h
    have h2 := (Nat.le_log2 e).mpr h1
    omega
def membersM (v : Nat) : List Int := ((List.range (bitLen v - 1)).map fun (i : Nat) => (i : Int) + 1).filter fun x => v.testBit x.toNat
theorem membersM_lt (v : Nat) : (membersM v).Pairwise (· < ·) := by
  unfold membersM
  apply List.Pairwise.filter
  rw [List.pairwise_map]
  exact List.pairwise_lt_range.imp fun h => by omega
theorem membersM_mem (v : Nat) (x : Int) : x ∈ membersM v ↔ 1 ≤ x ∧ v.testBit x.toNat = true := by
  unfold membersM
  rw [List.mem_filter]
  constructor
  · rintro ⟨h1, h2⟩
    obtain ⟨i, hi, rfl⟩ := List.mem_map.mp h1
    exact ⟨by omega, h2⟩
  · rintro ⟨h1, h2⟩
    have := bit_lt h2
    exact ⟨List.mem_map.mpr ⟨(x - 1).toNat, List.mem_range.mpr (by omega), by omega⟩, h2⟩
theorem membersM_near {n : Nat} {es : List Edge} (h : Simp n es) {p : Nat} (h1 : 1 ≤ p) (h2 : p ≤ n) :
    ∃ u, (nearB n es)[p]? = some u ∧ membersM u = besideM n es p := by
  obtain ⟨u, hu, hb⟩ := nearB_bit (n := n) (es := es) (fun e he => by have := h.rng e he; omega) h1 h2
  refine ⟨u, hu, lt_unique (membersM_lt u) (besideM_lt n es p) fun x => ?_⟩
  rw [membersM_mem, besideM_mem h (by omega) (by omega)]
  constructor
  · rintro ⟨h3, h4⟩
    rw [hb] at h4
    have := of_decide_eq_true h4
    rwa [show ((x.toNat : Nat) : Int) = x by omega] at this
  · intro h3
    have : 1 ≤ x := by
      rcases List.mem_cons.mp h3 with e | e
      · omega
      · exact (mates_rng h x e).1
    refine ⟨this, ?_⟩
    rw [hb]
    apply decide_eq_true
    rwa [show ((x.toNat : Nat) : Int) = x by omega]
theorem nearB_members {n : Nat} {es : List Edge} (h : Simp n es) : (nearB n es).map membersM = [] :: (List.range n).map fun (i : Nat) => besideM n es ((i : Int) + 1) := by
  apply List.ext_getElem?
  intro i
  rw [List.getElem?_map]
  by_cases h0 : i = 0
  · subst h0
    rw [nearB_zero (fun e he => by have := h.rng e he; omega)]
    rfl
  · obtain ⟨j, rfl⟩ : ∃ j, i = j + 1 := ⟨i - 1, by omega⟩
    by_cases hi : j < n
    · obtain ⟨u, hu, hm⟩ := membersM_near h (p := j + 1) (by omega) (by omega)
      rw [hu, List.getElem?_cons_succ, List.getElem?_map, List.getElem?_range hi]
      simp only [Option.map_some]
      rw [hm]
      rfl
    · rw [List.getElem?_eq_none (by rw [nearB_length]; omega), List.getElem?_eq_none (by simp; omega)]
      rfl
theorem nearB_small {n : Nat} {es : List Edge} (h : Simp n es) {p u : Nat} (hu : (nearB n es)[p]? = some u) : u < 2 ^ (n + 1) := by
  apply Nat.lt_pow_two_of_testBit
  intro k hk
  have hp : p < n + 1 := by
    have := (List.getElem?_eq_some_iff.mp hu).1
    rwa [nearB_length] at this
  by_cases h0 : p = 0
  · subst h0
    rw [nearB_zero (fun e he => by have := h.rng e he; omega)] at hu
    cases hu
    exact Nat.zero_testBit _
  · obtain ⟨v, hv, hb⟩ := nearB_bit (n := n) (es := es) (fun e he => by have := h.rng e he; omega) (p := p) (by omega) (by omega)
    rw [hu] at hv
    cases hv
    rw [hb]
    apply decide_eq_false
    intro hm
    rcases List.mem_cons.mp hm with e | e
    · omega
    · have := mates_rng h _ e
      omega
end
/-! piece LT -/
section
/-! ### lots and what can be folded -/
def LotIs (v : Nat) (left : List Int) : Prop := ∀ k : Nat, v.testBit k = decide ((k : Int) ∈ left)
/-- one of those onto which a place can be folded, by bits -/
def Good (es : List Edge) (n v p j : Nat) : Prop := ∃ u m, (nearB n es)[j]? = some u ∧ (nearB n es)[p]? = some m ∧ u &&& (m &&& v) = (m &&& v) ∧ j ≠ p ∧ v.testBit j = true
theorem and_sub {u m : Nat} : u &&& m = m ↔ ∀ k, m.testBit k = true → u.testBit k = true := by
  constructor
  · intro h k hk
    have := congrArg (fun x => x.testBit k) h
    simp only [Nat.testBit_and, hk, Bool.and_true] at this
    exact this
  · intro h
    apply Nat.eq_of_testBit_eq
    intro k
    rw [Nat.testBit_and]
    cases hm : m.testBit k with
    | false => simp
    | true => rw [h k hm]; rfl
theorem good_iff {es : List Edge} {n v p j : Nat} {left : List Int} (hS : Simp n es) (hv : LotIs v left) (hI : ∀ x ∈ left, 1 ≤ x ∧ x ≤ n) (hp : (p : Int) ∈ left) (hj : j ≤ n) :
    Good es n v p j ↔ (j : Int) ∈ ontoM es left p := by
  have hr : ∀ e ∈ es, 1 ≤ e.1 ∧ 1 ≤ e.2 ∧ e.1 ≠ e.2 := fun e he => by have := hS.rng e he; omega
  have hpr := hI _ hp
  obtain ⟨m, hm, bm⟩ := nearB_bit hr (p := p) (n := n) (by omega) (by omega)
  rw [ontoM_mem hp]
  constructor
  · rintro ⟨u, m2, hu, hm2, hs, hne, hb⟩
    rw [hm] at hm2
    cases hm2
    rw [hv] at hb
    have hjl := of_decide_eq_true hb
    have hjr := hI _ hjl
    obtain ⟨u2, hu2, bu⟩ := nearB_bit hr (p := j) (n := n) (by omega) (by omega)
    rw [hu] at hu2
    cases hu2
    refine ⟨hp, hjl, fun e => hne (by omega), fun z hz ha => ?_⟩
    have hzr := hI z hz
    have h1 := and_sub.mp hs z.toNat (by rw [Nat.testBit_and, bm, hv, show ((z.toNat : Nat) : Int) = z by omega, decide_eq_true hz, Bool.and_true]; exact decide_eq_true ha)
    rw [bu, show ((z.toNat : Nat) : Int) = z by omega] at h1
    exact of_decide_eq_true h1
  · rintro ⟨_, hjl, hne, hn⟩
    have hjr := hI _ hjl
    obtain ⟨u, hu, bu⟩ := nearB_bit hr (p := j) (n := n) (by omega) (by omega)
    refine ⟨u, m, hu, hm, and_sub.mpr fun k hk => ?_, fun e => hne (by omega), ?_⟩
    · rw [Nat.testBit_and, bm, hv, Bool.and_eq_true, decide_eq_true_eq, decide_eq_true_eq] at hk
      rw [bu]
      exact decide_eq_true (hn _ hk.2 hk.1)
    · rw [hv]
      exact decide_eq_true hjl
/-- the least place onto which a place can be folded, 0 if none -/
def ftM (es : List Edge) (left : List Int) (p : Int) : Int := if p ∈ left then minL (ontoM es left p) else 0
theorem ftM_none {es : List Edge} {left : List Int} {p : Int} (h : ∀ q, q ∉ ontoM es left p) : ftM es left p = 0 := by
  unfold ftM
  split
  · have : ontoM es left p = [] := List.eq_nil_iff_forall_not_mem.mpr h
    rw [this]; rfl
  · rfl
theorem ftM_some {es : List Edge} {left : List Int} {p q : Int} (hp : p ∈ left) (hq : q ∈ ontoM es left p) (h : ∀ x ∈ ontoM es left p, q ≤ x) : ftM es left p = q := by
  unfold ftM
  rw [if_pos hp]
  have h1 := minL_le hq
  have h2 := h _ (minL_mem fun e => by rw [e] at hq; cases hq)
  omega
theorem ftM_zero {es : List Edge} {left : List Int} {p : Int} (hI : ∀ x ∈ left, 1 ≤ x) (hp : p ∈ left) : ftM es left p = 0 ↔ ontoM es left p = [] := by
  unfold ftM
  rw [if_pos hp]
  constructor
  · intro h
    apply Classical.byContradiction
    intro hne
    have := minL_mem hne
    have h2 := ((ontoM_mem hp).mp this).2.1
    have := hI _ h2
    omega
  · intro h; rw [h]; rfl
theorem xor_pow {v p : Nat} {left : List Int} (hv : LotIs v left) (hp : (p : Int) ∈ left) : LotIs (v ^^^ 2 ^ p) (without left p) := by
  intro k
  rw [Nat.testBit_xor, hv, Nat.testBit_two_pow]
  by_cases e : p = k
  · subst e
    rw [decide_eq_true hp, decide_eq_true rfl]
    symm
    apply decide_eq_false
    intro h
    exact (without_mem.mp h).2 rfl
  · rw [decide_eq_false e, Bool.xor_false]
    apply decide_eq_decide.mpr
    rw [without_mem]
    constructor
    · exact fun h => ⟨h, fun h2 => e (by omega)⟩
    · exact fun h => h.1
theorem whole_is (n : Nat) : LotIs (2 ^ (n + 1) - 2) ((List.range n).map fun (i : Nat) => (i : Int) + 1) := by
  intro k
  have e : (2 ^ (n + 1) - 2) = (2 ^ n - 1) * 2 := by
    rw [Nat.pow_succ, Nat.sub_mul]
  have hb : ((2 ^ n - 1) * 2).testBit k = (decide (1 ≤ k) && decide (k - 1 < n)) := by
    have h2 : (2 ^ n - 1) * 2 = (2 ^ n - 1) <<< 1 := by rw [Nat.shiftLeft_eq, Nat.pow_one]
    rw [h2, Nat.testBit_shiftLeft, Nat.testBit_two_pow_sub_one]
  rw [e, hb, ← Bool.decide_and]
  apply decide_eq_decide.mpr
  constructor
  · intro h
    exact List.mem_map.mpr ⟨k - 1, List.mem_range.mpr h.2, by omega⟩
  · intro h
    obtain ⟨i, hi, he⟩ := List.mem_map.mp h
    have := List.mem_range.mp hi
    omega
theorem members_lot {v : Nat} {left : List Int} (hv : LotIs v left) (hl : left.Pairwise (· < ·)) (hI : ∀ x ∈ left, 1 ≤ x) : membersM v = left := by
  refine lt_unique (membersM_lt v) hl fun x => ?_
  rw [membersM_mem, hv, decide_eq_true_eq]
  constructor
  · rintro ⟨h1, h2⟩
    rwa [show ((x.toNat : Nat) : Int) = x by omega] at h2
  · intro h
    have := hI x h
    exact ⟨this, by rwa [show ((x.toNat : Nat) : Int) = x by omega]⟩
theorem lot_small {v n : Nat} {left : List Int} (hv : LotIs v left) (hI : ∀ x ∈ left, x ≤ n) : v < 2 ^ (n + 1) := by
  apply Nat.lt_pow_two_of_testBit
  intro k hk
  rw [hv]
  apply decide_eq_false
  intro h
  have := hI _ h
  omega
def allM (n : Nat) : List Int := (List.range n).map fun (i : Nat) => (i : Int) + 1
theorem allM_mem {n : Nat} {x : Int} : x ∈ allM n ↔ 1 ≤ x ∧ x ≤ n := by
  unfold allM
  constructor
  · intro h
    obtain ⟨i, hi, rfl⟩ := List.mem_map.mp h
    have := List.mem_range.mp hi
    omega
  · intro h
    exact List.mem_map.mpr ⟨(x - 1).toNat, List.mem_range.mpr (by omega), by omega⟩
theorem allM_lt (n : Nat) : (allM n).Pairwise (· < ·) := by
  unfold allM
  rw [List.pairwise_map]
  exact List.pairwise_lt_range.imp fun h => by omega
end
/-! piece PSF -/
section
structure PsF (H0 H : Hp) (D : Addr) (rs : List Addr) (es : List Edge) : Prop where
  ps : PsAt H D rs es
  nd : rs.Nodup
  fr : ∀ r ∈ rs, H0 r = none
theorem PsF.push {H0 H : Hp} {D r : Addr} {rs : List Addr} {es : List Edge} (h : PsF H0 H D rs es) (nr : H r = none) (n0 : H0 r = none) (e : Edge) :
    PsF H0 (upd (upd H r (.lst [.int e.1, .int e.2])) D (.lst (rs.map V.ref ++ [V.ref r]))) D (rs ++ [r]) (es ++ [e]) := by
  refine ⟨h.ps.push nr e, ?_, ?_⟩
  · rw [List.nodup_append]
    refine ⟨h.nd, by simp, ?_⟩
    intro a ha b hb
    simp at hb
    subst hb
    rintro rfl
    obtain ⟨e, _, he⟩ := h.ps.mem ha
    rw [nr] at he
    cases he
  · intro a ha
    rcases List.mem_append.mp ha with ha | ha
    · exact h.fr a ha
    · simp at ha
      subst ha
      exact n0
/-- one such list behind another one, in its place -/
theorem PsF.ext {H0 H H2 : Hp} {L D : Addr} {rs rs2 : List Addr} {es es2 : List Edge} (h : PsF H0 H L rs es) (s : Same H H2) (h2 : PsF H H2 D rs2 es2) (h0 : Same H0 H) (nL : H0 L = none) :
    PsF H0 (upd H2 L (.lst (rs.map V.ref ++ rs2.map V.ref))) L (rs ++ rs2) (es ++ es2) := by
  have k1 : ∀ r ∈ rs2, r ≠ L := fun r hr e => by
    have := h2.fr r hr
    rw [e, h.ps.hD] at this
    cases this
  have k2 : ∀ r ∈ rs, r ≠ L := fun r hr => h.ps.ne hr
  refine ⟨⟨by rw [upd_same, List.map_append], by rw [List.length_append, List.length_append, h.ps.len, h2.ps.len], ?_⟩, ?_, ?_⟩
  · intro i a u ha hu
    by_cases hi : i < rs.length
    · rw [List.getElem?_append_left hi] at ha
      rw [List.getElem?_append_left (by rw [← h.ps.len]; exact hi)] at hu
      rw [upd_ne (k2 a (List.mem_of_getElem? ha))]
      exact s _ _ (h.ps.at_ i a u ha hu)
    · rw [List.getElem?_append_right (by omega)] at ha
      rw [List.getElem?_append_right (by rw [← h.ps.len]; omega), ← h.ps.len] at hu
      rw [upd_ne (k1 a (List.mem_of_getElem? ha))]
      exact h2.ps.at_ _ a u ha hu
  · rw [List.nodup_append]
    refine ⟨h.nd, h2.nd, ?_⟩
    intro a ha b hb e
    subst e
    obtain ⟨e, _, he⟩ := h.ps.mem ha
    rw [h2.fr a hb] at he
    cases he
  · intro a ha
    rcases List.mem_append.mp ha with ha | ha
    · exact h.fr a ha
    · exact h0.free (h2.fr a ha)
end
/-! piece IN -/
section
variable {P : Program} {w : World} {K : PySem.W.Frag} {mg : Str → Option Value} {base : Heap}
/-! ### the law's onto, foldable -/
def iL (xs : List Int) : HO := .lst (xs.map V.int)
structure InNet (n : Nat) (left : List Int) : Prop where
  lt : left.Pairwise (· < ·)
  rng : ∀ x ∈ left, 1 ≤ x ∧ x ≤ n
theorem dp_dI' {K : PySem.W.Frag} {H : Hp} {p : Addr} {xs : List Int} (h : SqL K H p (xs.map V.int)) : Dp K H (.ref p) (.list (xs.map PyData.int)) := .lst h (dp_ints xs)
theorem shaped_ints (xs : List Int) : SeqAt.shaped (.list (xs.map PyData.int)) = true := by
  have h : ∀ ys : List Int, PyData.canLayAll0 (ys.map PyData.int) = true ∧ PyData.depthAll (ys.map PyData.int) ≤ 0 := fun ys => by
    induction ys with
    | nil => exact ⟨rfl, Nat.le_refl _⟩
    | cons y r ih =>
      rw [List.map_cons]
      refine ⟨?_, ?_⟩
      · unfold PyData.canLayAll0; rw [ih.1]; rfl
      · unfold PyData.depthAll; exact Nat.max_le.mpr ⟨Nat.le_refl _, ih.2⟩
  unfold SeqAt.shaped PyData.canLay0 PyData.depth
  rw [(h xs).1, decide_eq_true (by have := (h xs).2; omega)]
  rfl
variable {P : Program} {w : World} {K : PySem.W.Frag} {mg : Str → Option Value} {base : Heap}
theorem Lists.same {H H' : Hp} {p : Addr} {ts : List (List Int)} (h : Lists H p ts) (s : Same H H') : Lists H' p ts := by
  obtain ⟨rs, a, b, c, e⟩ := h
  exact ⟨rs, s _ _ a, b, c, fun i r t x y => s _ _ (e i r t x y)⟩
theorem Lists.but {H H' : Hp} {d p : Addr} {k : Int} {ts : List (List Int)} (h : Lists H p ts) (s : SameBut d H H') (hd : Dr H d k) : Lists H' p ts := by
  obtain ⟨rs, a, b, c, e⟩ := h
  exact ⟨rs, s _ _ (hd.ne_refs a) a, b, c, fun i r t x y => s _ _ (hd.ne_ints (e i r t x y)) (e i r t x y)⟩
theorem PsF.but {H0 H H' : Hp} {d D : Addr} {k : Int} {rs : List Addr} {es : List Edge} (h : PsF H0 H D rs es) (s : SameBut d H H') (hd : Dr H d k) : PsF H0 H' D rs es := ⟨h.ps.but s hd, h.nd, h.fr⟩
theorem PsF.same {H0 H H' : Hp} {D : Addr} {rs : List Addr} {es : List Edge} (h : PsF H0 H D rs es) (s : Same H H') : PsF H0 H' D rs es := ⟨h.ps.same s, h.nd, h.fr⟩
theorem Dr.trk {H : Hp} {d p : Addr} {k : Int} (h : Dr H d k) (np : H p = Option.none) : p ≠ d := by
  obtain ⟨a, b, e, _⟩ := h
  exact (ne_of_none e np).symm
theorem SameBut.fr0 {d : Addr} {H H' : Hp} (s : SameBut d H H') {p : Addr} (np : H' p = Option.none) (hd : p ≠ d) : H p = Option.none := by
  cases e : H p with
  | none => rfl
  | some o => rw [s p o hd e] at np; cases np
theorem InNet.len {n : Nat} {left : List Int} (h : InNet n left) : left.length ≤ n := nodup_le n left (h.lt.imp fun h => by omega) h.rng
theorem InNet.without {n : Nat} {left : List Int} (h : InNet n left) (p : Int) : InNet n (without left p) := ⟨without_lt h.lt, fun x hx => h.rng x (without_mem.mp hx).1⟩
theorem InNet.run {n : Nat} {es : List Edge} {left left' : List Int} {l : List Edge} (h : InNet n left) (r : RunL es left l left') : InNet n left' := ⟨r.lt h.lt, fun x hx => h.rng x (r.sub x hx)⟩
theorem inNet_all (n : Nat) : InNet n (allM n) := ⟨allM_lt n, fun x hx => allM_mem.mp hx⟩
theorem onto_sub {es : List Edge} {left : List Int} {p : Int} : ∀ x ∈ ontoM es left p, x ∈ left := fun x hx => by
  unfold ontoM at hx
  exact of_decide_eq_true (List.mem_filter.mp (List.mem_filter.mp hx).1).2
theorem RunL.rng {n : Nat} {es : List Edge} {left left' : List Int} {l : List Edge} (r : RunL es left l left') (h : InNet n left) : ∀ e ∈ l, 1 ≤ e.1 ∧ e.1 ≤ n ∧ 1 ≤ e.2 ∧ e.2 ≤ n := by
  induction r with
  | nil left => exact fun e h => nomatch h
  | @cons left left' p q l hp hq r ih =>
    intro e he
    rcases List.mem_cons.mp he with rfl | he
    · have h1 := h.rng p hp
      have h2 := h.rng q (onto_sub q hq)
      exact ⟨h1.1, h1.2, h2.1, h2.2⟩
    · exact ih (h.without p) e he
end
/-! piece AM -/
section
/-! ### what fold_around does, as a function -/
def stepA (es : List Edge) (s : List Int × List Edge) (x : Int) : List Int × List Edge :=
  if ontoM es s.1 x = [] then s else (without s.1 x, s.2 ++ [(x, minL (ontoM es s.1 x))])
def passA (es : List Edge) (hs : List Int) (s : List Int × List Edge) : List Int × List Edge := (s.1.filter fun x => decide (x ∉ hs)).foldl (stepA es) s
def iterA (n : Nat) (es : List Edge) (hs : List Int) : Nat → List Int × List Edge
  | 0 => (allM n, [])
  | k + 1 => passA es hs (iterA n es hs k)
def aroundA (n : Nat) (es : List Edge) (hs : List Int) : List Int × List Edge := iterA n es hs 20
theorem iterA_stays {n : Nat} {es : List Edge} {hs : List Int} {k : Nat} (h : passA es hs (iterA n es hs k) = iterA n es hs k) : ∀ j, iterA n es hs (k + j) = iterA n es hs k
  | 0 => rfl
  | j + 1 => by
    show passA es hs (iterA n es hs (k + j)) = _
    rw [iterA_stays h j, h]
theorem aroundA_is {n : Nat} {es : List Edge} {hs : List Int} {k : Nat} (hk : k ≤ 20) (h : passA es hs (iterA n es hs k) = iterA n es hs k) : aroundA n es hs = iterA n es hs k := by
  have := iterA_stays h (20 - k)
  rwa [show k + (20 - k) = 20 by omega] at this
theorem all_len {n : Nat} : (allM n).length = n := by simp [allM]
theorem RunL.len12 {n : Nat} {es ps : List Edge} {left : List Int} (r : RunL es (allM n) ps left) : left.length + ps.length = n := by
  have := (r.length ((allM_lt n).imp fun h => by omega)).1
  rwa [all_len] at this
end
/-! piece SL -/
section
/-! ### sorted of pairs that are lists -/
def leE (p q : Edge) : Prop := p.1 < q.1 ∨ (p.1 = q.1 ∧ p.2 ≤ q.2)
theorem leE_iff (p q : Edge) : [p.1, p.2] ≤ [q.1, q.2] ↔ leE p q := by
  unfold leE
  rw [List.cons_le_cons_iff, List.cons_le_cons_iff]
  constructor
  · rintro (h | ⟨h1, h2 | ⟨h2, _⟩⟩)
    · exact .inl h
    · exact .inr ⟨h1, by omega⟩
    · exact .inr ⟨h1, by omega⟩
  · rintro (h | ⟨h1, h2⟩)
    · exact .inl h
    · by_cases e : p.2 = q.2
      · exact .inr ⟨h1, .inr ⟨e, List.le_refl _⟩⟩
      · exact .inr ⟨h1, .inl (by omega)⟩
def rSortedL (K : PySem.W.Frag) : List V → Hp → VK → Prop := fun vs H Q => ∃ (a : Addr) (rs : List Addr) (ps : List Edge), vs = [V.ref a] ∧ PsAt H a rs ps ∧ rs.length ≤ 1000 ∧
  ∀ (p : Addr) (rs' : List Addr) (ps' : List Edge), H p = none → ps'.Perm ps → ps'.Pairwise leE → PsAt (upd H p (.lst (rs'.map V.ref))) p rs' ps' → Q (.ref p) (upd H p (.lst (rs'.map V.ref)))
theorem each_of {α β : Type} {R : α → β → Prop} : ∀ {as : List α} {bs : List β}, as.length = bs.length → (∀ (i : Nat) (a : α) (b : β), as[i]? = some a → bs[i]? = some b → R a b) → PySem.W.EachIs R as bs
  | [], [], _, _ => .nil
  | [], _ :: _, h, _ => by simp at h
  | _ :: _, [], h, _ => by simp at h
  | a :: as, b :: bs, h, f => .cons (f 0 a b rfl rfl) (each_of (by simpa using h) fun i x y hx hy => f (i + 1) x y (by simpa using hx) (by simpa using hy))
theorem vals_refs : ∀ {rs : List Addr} {us : List Value}, Vals (rs.map V.ref) us → us = rs.map Value.ref
  | [], us, r => by rw [List.map_nil] at r; cases r; rfl
  | t :: ts, us, r => by
    rw [List.map_cons] at r
    cases r with
    | cons h q => cases h; rw [List.map_cons, ← vals_refs q]
theorem refs_vals : ∀ rs : List Addr, Vals (rs.map V.ref) (rs.map Value.ref)
  | [] => .nil
  | _ :: ts => .cons rfl (refs_vals ts)
theorem each_refs : ∀ {out : List Value} {bs : List (Addr × Edge)}, PySem.W.EachIs (fun (v : Value) (b : Addr × Edge) => v = .ref b.1) out bs → out = (bs.map (·.1)).map Value.ref
  | _, _, .nil => rfl
  | _, _, .cons h t => by rw [h, each_refs t]; rfl
section
variable {X : Cx}
theorem cr_sortedL (hu : X.A.units + 64 < cLine) : CallR X (.builtin "sorted") (rSortedL X.K) := by
  intro pins s σ H vs us Q I r h
  obtain ⟨a, rs, ps, rfl, hP, hlen, q⟩ := h
  obtain ⟨its, rv, hl, hz⟩ := I.list (SqL.of hP.hD)
  rw [Vals.ref1 r]
  have ei := vals_refs rv
  let bs : List (Addr × Edge) := rs.zip ps
  have hbl : bs.length = rs.length := by simp [bs, hP.len]
  let enc : Addr × Edge → PyData := fun b => .list ([b.2.1, b.2.2].map .int)
  have hb1 : bs.map (·.1) = rs := by simp [bs, List.map_fst_zip, hP.len]
  have hb2 : bs.map (·.2) = ps := by simp [bs, List.map_snd_zip, hP.len]
  have hget : ∀ b ∈ bs, H b.1 = some (.lst [.int b.2.1, .int b.2.2]) := fun b hb => by
    obtain ⟨i, hi⟩ := List.getElem?_of_mem hb
    have h1 : rs[i]? = some b.1 := by rw [← hb1, List.getElem?_map, hi]; rfl
    have h2 : ps[i]? = some b.2 := by rw [← hb2, List.getElem?_map, hi]; rfl
    exact hP.at_ i b.1 b.2 h1 h2
  have e : PySem.W.EachIs (fun (v : Value) (b : Addr × Edge) => v = .ref b.1) its bs := each_of (by rw [hbl, ei, List.length_map]) fun i v b hv hb => by
    rw [ei, List.getElem?_map] at hv
    have h1 : rs[i]? = some b.1 := by rw [← hb1, List.getElem?_map, hb]; rfl
    rw [h1] at hv
    exact (Option.some.inj hv).symm
  have er : PySem.W.EachIs (fun (v : Value) (b : Addr × Edge) => ∃ as, Reads s.heap v (enc b) as) its bs := each_of (by rw [hbl, ei, List.length_map]) fun i v b hv hb => by
    rw [ei, List.getElem?_map] at hv
    have h1 : rs[i]? = some b.1 := by rw [← hb1, List.getElem?_map, hb]; rfl
    rw [h1] at hv
    have hv := (Option.some.inj hv).symm
    exact Dp.reads I (enc b) (.ref b.1) v (.lst (SqL.of (hget b (List.mem_of_getElem? hb))) (.cons (.int _) (.cons (.int _) .nil))) hv
  refine PySem.W.sorted_data (enc := enc) hl.isList e er (PySem.W.AllAlike.of fun b b' => rfl) (PySem.W.Sortable.others fun b => ⟨(fun z => nomatch z), (fun xs z => nomatch z)⟩) (by rw [hbl]; exact Nat.le_trans hlen (by decide)) (fun b _ => by
    have : (enc b).depth ≤ 1 := by exact Nat.le_of_eq rfl
    omega) fun out h1 h2 => ?_
  rw [show PySem.W.dataLe false enc = fun p q => decide ([p.2.1, p.2.2] ≤ [q.2.1, q.2.2]) from PySem.W.dataLe_rows (fun b : Addr × Edge => [b.2.1, b.2.2])] at h2
  generalize hbs : bs.mergeSort (fun p q => decide ([p.2.1, p.2.2] ≤ [q.2.1, q.2.2])) = bs' at h2
  have hperm : bs'.Perm bs := by rw [← hbs]; exact List.mergeSort_perm _ _
  have hsort : bs'.Pairwise (fun p q => leE p.2 q.2) := by
    rw [← hbs]
    refine (List.pairwise_mergeSort (fun a b c h1 h2 => ?_) (fun a b => ?_) bs).imp fun h => (leE_iff _ _).mp (of_decide_eq_true h)
    · exact decide_eq_true ((leE_iff _ _).mpr (by
        have a1 := (leE_iff _ _).mp (of_decide_eq_true h1)
        have a2 := (leE_iff _ _).mp (of_decide_eq_true h2)
        unfold leE at *
        omega))
    · by_cases h : leE a.2 b.2
      · rw [decide_eq_true ((leE_iff _ _).mpr h)]; rfl
      · rw [decide_eq_true ((leE_iff b.2 a.2).mpr (by unfold leE at *; omega))]; simp
  have eo := each_refs h2
  obtain ⟨ep, he'⟩ := PyProof.Rows.sortedAll_at s.heap its out.toArray
  have hn : H (s.heap.objs.size + 1) = none := I.hok.fresh (Nat.le_succ _)
  have hlo : ((bs'.map (·.1)).map V.ref).length ≤ sizeLine := by
    rw [List.length_map, List.length_map, hperm.length_eq, hbl]
    exact Nat.le_trans hlen (by decide)
  have rvo : Vals ((bs'.map (·.1)).map V.ref) out := by rw [eo]; exact refs_vals _
  refine ⟨.ref _, upd H (s.heap.objs.size + 1) (.lst ((bs'.map (·.1)).map V.ref)), I.laid (t' := s.toks) (fun _ _ => PyProof.Rows.sortedAll_old) (Nat.le_succ _) ⟨hlo, out, ep, rvo, he'⟩, rfl, ?_⟩
  refine q _ (bs'.map (·.1)) (bs'.map (·.2)) hn ?_ (List.pairwise_map.mpr hsort) ⟨upd_same, by rw [List.length_map, List.length_map], ?_⟩
  · rw [← hb2]
    exact hperm.map _
  · intro i r e hr he
    rw [List.getElem?_map] at hr he
    cases hb : bs'[i]? with
    | none => rw [hb] at hr; cases hr
    | some b =>
      rw [hb] at hr he
      cases hr
      cases he
      have := hget b (hperm.mem_iff.mp (List.mem_of_getElem? hb))
      rw [upd_ne (ne_of_none this hn)]
      exact this
theorem cr_sortedLK {K : PySem.W.Frag} (_ : KMark K) (h : X.K = K) (hu : X.A.units + 64 < cLine) : CallR X (.builtin "sorted") (rSortedL K) := h ▸ cr_sortedL hu
end
theorem leE_uniq : ∀ {l m : List Edge}, l.Pairwise leE → m.Pairwise leE → l.Perm m → l = m
  | [], m, _, _, h => (List.Perm.eq_nil h.symm).symm
  | a :: l, [], _, _, h => by have := h.length_eq; simp at this
  | a :: l, b :: m, hl, hm, h => by
    have h1 : leE a b := by
      rcases List.mem_cons.mp (h.mem_iff.mpr (List.mem_cons_self (a := b) (l := m))) with e | hb
      · rw [e]; unfold leE; omega
      · exact List.rel_of_pairwise_cons hl hb
    have h2 : leE b a := by
      rcases List.mem_cons.mp (h.mem_iff.mp (List.mem_cons_self (a := a) (l := l))) with e | hb
      · rw [e]; unfold leE; omega
      · exact List.rel_of_pairwise_cons hm hb
    have e : a = b := by
      unfold leE at h1 h2
      obtain ⟨a1, a2⟩ := a
      obtain ⟨b1, b2⟩ := b
      simp only at h1 h2
      rw [Prod.mk.injEq]
      omega
    subst e
    rw [leE_uniq (List.pairwise_cons.mp hl).2 (List.pairwise_cons.mp hm).2 h.cons_inv]
end
/-! piece CN -/
section
section
variable {X : Cx} {K : PySem.W.Frag} {o a : Expr} {apos cpos : Pos} {to : TE} {t : TA}
theorem pe_cntK (_ : KMark K) (h : X.K = K) (ho : PE X o to) (ha : PA X [a] t) (hbase : attributeBase o "count" X.env (eval o X.env) = eval o X.env := by rfl)
    (hfew : ((backTo cpos (starEach [a] X.env)).all (fun x => !x.1) && (backToKw cpos (keywordEach [] X.env)).all (fun x => x.1.isSome)
      && decide (([a] : List Expr).length + ([] : List Keyword).length + (if ([] : List Keyword).isEmpty then 0 else 1) < 30)) = true := by rfl)
    (hline : (apos.endLine == cpos.line) = true := by rfl) (hs : starEach [a] X.env = (false, eval a X.env) :: starEach [] X.env := by rfl) (hplain : (backTo cpos (starEach [] X.env)).any (·.1) = false := by rfl) :
    PE X (.Call (.Attribute o "count" apos) [a] [] cpos) (tBM K "list" (rCnt K) to t) :=
  h ▸ pe_bm PySem.F.plainAttrs_list PySem.F.slot_list_count PySem.F.type_list_count mt_cnt ho ha hbase hfew hline hs hplain
end
theorem cr_sortedB {X : Cx} {K : PySem.W.Frag} (hKM : KMark K) (h : X.K = K) (hu : X.A.units + 64 < cLine) : CallR X (.builtin "sorted") (fun xs H Q => rSorted K xs H Q ∨ rSortedL K xs H Q) := by
  intro pins s σ H xs us Q I r q
  rcases q with q | q
  · exact cr_sortedK hKM h pins s σ H xs us Q I r q
  · exact cr_sortedLK hKM h hu pins s σ H xs us Q I r q
end
/-! piece LO -/
section
/-! ### orders: what is left behind -/
def leftA (left : List Int) (o : List Int) : List Int := o.foldl without left
theorem RunL.left {es : List Edge} {left left' : List Int} {l : List Edge} (r : RunL es left l left') : left' = leftA left (l.map (·.1)) := by
  induction r with
  | nil left => rfl
  | cons hp hq r ih => exact ih
theorem leftA_snoc (left o : List Int) (p : Int) : leftA left (o ++ [p]) = without (leftA left o) p := by
  unfold leftA
  rw [List.foldl_append]
  rfl
theorem leastM_snoc (es : List Edge) (p : Int) : ∀ (o left : List Int), leastM es left (o ++ [p]) = leastM es left o ++ [(p, minL (ontoM es (leftA left o) p))]
  | [], left => rfl
  | a :: o, left => by
    show (a, minL (ontoM es left a)) :: leastM es (without left a) (o ++ [p]) = _
    rw [leastM_snoc es p o]
    rfl
theorem RunL.step {es : List Edge} {left left' : List Int} {l : List Edge} (r : RunL es left l left') : ∀ (i : Nat) (e : Edge), l[i]? = some e →
    RunL es left (l.take i) (leftA left ((l.take i).map (·.1))) ∧ e.1 ∈ leftA left ((l.take i).map (·.1)) ∧ e.2 ∈ ontoM es (leftA left ((l.take i).map (·.1))) e.1 := by
  induction r with
  | nil left => exact fun i e h => by simp at h
  | @cons left left' p q l hp hq r ih =>
    intro i e h
    cases i with
    | zero =>
      simp at h
      subst h
      exact ⟨.nil _, hp, hq⟩
    | succ i =>
      obtain ⟨h1, h2, h3⟩ := ih i e (by simpa using h)
      exact ⟨.cons hp hq h1, h2, h3⟩
theorem leastM_length (es : List Edge) (o left : List Int) : (leastM es left o).length = o.length := by
  have h := congrArg List.length (leastM_fst es o left)
  rwa [List.length_map] at h
end
/-! piece FH -/
section
/-! ### folds that keep some places, and walks whose shadow stays -/
section
variable {adj : Int → Int → Prop}
def StiffH (adj : Int → Int → Prop) (S H : Int → Prop) : Prop := ∀ p q, ¬ H p → ¬ StepOk adj S p q
theorem stiffH_of {S H : Int → Prop} (h : Stiff adj S) : StiffH adj S H := fun p q _ => h p q
/-- like led_back, where some places are never folded -/
theorem led_back_held (rf : ∀ x, adj x x) (sy : ∀ x y, adj x y → adj y x) {S E : Int → Prop} {l : List Edge} (r : Run adj S l E) {Hd : Int → Prop} (st : StiffH adj E Hd) (hE : ∀ x, Hd x → E x)
    {T T' : Int → Prop} {m : List Edge} (rm : Run adj T m T') (hT : ∀ x, Hd x → T' x) : (∀ x, T x → S x) → ∀ {s : Int → Int}, (∀ x, E x → T (s x)) → (∀ x y, E x → E y → adj x y → adj (s x) (s y)) → (∀ x, E x → mapR l (s x) = x) → (∀ x, Hd x → s x = x) →
      ∀ x, E x → mapR l (mapR m (s x)) = x := by
  induction rm with
  | nil T => exact fun _ s _ _ h _ => h
  | @cons T T' p q m h rm ih =>
    intro hTS s hin hom hb hfx x hx
    obtain ⟨hp, hq, hne, hn⟩ := h
    have hpH : ¬ Hd p := fun hh => (run_sub rm (hT p hh)).1.2 rfl
    show mapR l (mapR m (if s x = p then q else s x)) = x
    refine ih hT (s := fun x => if s x = p then q else s x) (fun x hx => hTS x hx.1) ?_ ?_ ?_ ?_ x hx
    · intro x hx
      by_cases e : s x = p
      · simp only [e, if_true]; exact ⟨hq, hne.symm⟩
      · simp only [e, if_false]; exact ⟨hin x hx, e⟩
    · intro x y hx hy ha
      have ha := hom x y hx hy ha
      by_cases e1 : s x = p
      · by_cases e2 : s y = p
        · simp only [e1, e2, if_true]; exact rf q
        · simp only [e1, e2, if_true, if_false]
          rw [e1] at ha
          exact hn _ (hin y hy) ha
      · by_cases e2 : s y = p
        · simp only [e1, e2, if_true, if_false]
          rw [e2] at ha
          exact sy _ _ (hn _ (hin x hx) (sy _ _ ha))
        · simp only [e1, e2, if_false]; exact ha
    · intro x hx
      by_cases e : s x = p
      · simp only [e, if_true]
        apply Classical.byContradiction
        intro hxy
        have hxH : ¬ Hd x := fun hh => by
          rw [hfx x hh] at e
          exact hpH (e ▸ hh)
        refine st x (mapR l q) hxH ⟨hx, mapR_in r (hTS q hq), fun e => hxy e.symm, ?_⟩
        intro z hz hxz
        have h1 := hom x z hx hz hxz
        rw [e] at h1
        have h2 := hn _ (hin z hz) h1
        have h3 := mapR_hom sy r (hTS q hq) (hTS _ (hin z hz)) h2
        rw [hb z hz] at h3
        exact h3
      · simp only [e, if_false]
        exact hb x hx
    · intro x hh
      have hxp : x ≠ p := fun e => hpH (e ▸ hh)
      simp only [hfx x hh, hxp, if_false]
/-- if some order leaves just a lot, all that is left where the lot is kept is the lot -/
theorem held_is (rf : ∀ x, adj x x) (sy : ∀ x y, adj x y → adj y x) {S E Hd : Int → Prop} {l m : List Edge} (r : Run adj S l E) (st : StiffH adj E Hd) (hE : ∀ x, Hd x → E x) (rm : Run adj S m Hd) {x : Int} (hx : E x) : Hd x := by
  have h := led_back_held rf sy r st hE rm (fun _ h => h) (fun _ h => h) (s := fun x => x) (fun x hx => (run_sub r hx).1) (fun _ _ _ _ h => h) (fun x hx => mapR_fix r hx) (fun _ _ => rfl) x hx
  have h2 := mapR_in rm (run_sub r hx).1
  rw [mapR_fix r (hE _ h2)] at h
  exact h ▸ h2
/-- who steps so that those beside it in the end stay beside it is led back as before -/
theorem shadow_step (sy : ∀ x y, adj x y → adj y x) {S E : Int → Prop} {l : List Edge} (r : Run adj S l E) (st : Stiff adj E) {s : Int → Int} (hin : ∀ x, E x → S (s x)) (hb : ∀ x, E x → mapR l (s x) = x)
    {i t : Int} (hi : E i) (ht : S t) (h : ∀ z, E z → adj i z → adj t (s z)) : mapR l t = i := by
  apply Classical.byContradiction
  intro hne
  refine st i (mapR l t) ⟨hi, mapR_in r ht, fun e => hne e.symm, fun z hz ha => ?_⟩
  have h1 := mapR_hom sy r ht (hin z hz) (h z hz ha)
  rwa [hb z hz] at h1
end
end
/-! piece BX -/
section
theorem bXor (a b : Nat) : Builtin.bitXor (a : Int) (b : Int) = ((a ^^^ b : Nat) : Int) := by
  have h1 := PyProof.Rows.nat_or_add_and (a ^^^ b) (a &&& b)
  have h2 : (a ^^^ b) ||| (a &&& b) = a ||| b := by
    apply Nat.eq_of_testBit_eq
    intro k
    simp only [Nat.testBit_or, Nat.testBit_xor, Nat.testBit_and]
    cases a.testBit k <;> cases b.testBit k <;> rfl
  have h3 : (a ^^^ b) &&& (a &&& b) = 0 := by
    apply Nat.eq_of_testBit_eq
    intro k
    simp only [Nat.testBit_xor, Nat.testBit_and, Nat.zero_testBit]
    cases a.testBit k <;> cases b.testBit k <;> rfl
  rw [h2, h3] at h1
  show Builtin.bitOr (a : Int) (b : Int) - Builtin.bitAnd (a : Int) (b : Int) = _
  rw [bOr, bAnd]
  omega
end
/-! piece LP -/
section
/-- a comprehension of new pairs -/
theorem lc_prs {K : PySem.W.Frag} {a : Addr} {xs : List Int} {i : Nat} {te : TE} {vs : List Nat} {σ : Sl} {H1 : Hp} {D : Addr} {Qd : Hp → Prop} (f : Int → Edge)
    (hl : SqL K H1 a (xs.map V.int)) (nD : H1 D = none) (hn : xs.length ≤ 10000) (hw : ∀ v, wipe ((wipe σ vs).set i (some v)) vs = wipe σ vs)
    (he : ∀ x ∈ xs, ∀ H2, Same H1 H2 → ∀ R : V → Hp → Prop, (∀ H3 r, Same H2 H3 → H3 r = none → R (.ref r) (upd H3 r (.lst [.int (f x).1, .int (f x).2]))) → te ((wipe σ vs).set i (some (.int x))) H2 R)
    (hd : ∀ H2 rs, Same H1 H2 → PsF H1 H2 D rs (xs.map f) → Qd H2) :
    ∃ W : Nat → Nat → Hp → Prop, (∃ m, W 0 m (upd H1 D (.lst []))) ∧ ∀ i' m H, W i' m H →
      ((Itl K a).stop i' H ∧ Qd H) ∨ ((Itl K a).go i' H ∧ ∃ Nx : Hp → Prop, (∀ H', Nx H' → ∃ m', m' < m ∧ W (i' + 1) m' H') ∧ ∀ x H', (Itl K a).yld i' H x H' → gName i x (wipe σ vs) H' fun σ2 H2 => wipe σ2 vs = wipe σ vs ∧ tYes σ2 H2 fun b H3 =>
        if b = true then te σ2 H3 fun y H4 => ∃ acc, H4 D = some (.lst acc) ∧ acc.length < sizeLine ∧ Nx (upd H4 D (.lst (acc ++ [y]))) else Nx H3) := by
  refine lc_list (K := K) (xs := xs.map V.int) (fun j H2 => Same H1 H2 ∧ ∃ rs, PsF H1 H2 D rs ((xs.take j).map f)) ⟨same_upd (Same.refl _) nD, [], PsAt.nil upd_same, List.nodup_nil, fun r h => nomatch h⟩ ?_ ?_ ?_
  · rintro j H2 _ ⟨sm, _⟩
    exact sm.seq hl
  · rintro j x H2 hx ⟨sm, rs, hP⟩
    rw [List.getElem?_map] at hx
    cases hv : xs[j]? with
    | none => rw [hv] at hx; cases hx
    | some y =>
      rw [hv] at hx
      cases hx
      have hm := List.mem_of_getElem? hv
      have htk : xs.take (j + 1) = xs.take j ++ [y] := by rw [List.take_add_one, hv]; rfl
      refine ⟨hw _, ?_⟩
      refine he y hm H2 sm _ fun H3 r sm3 nr => ?_
      have hP3 : PsF H1 H3 D rs ((xs.take j).map f) := ⟨hP.ps.same sm3, hP.nd, hP.fr⟩
      have s3 := sm.trans sm3
      refine ⟨_, (upd_ne (ne_of_none hP3.ps.hD nr)).trans hP3.ps.hD, ?_, same_upd (same_upd s3 (s3.free nr)) nD, rs ++ [r], ?_⟩
      · rw [List.length_map, hP3.ps.len, List.length_map]
        exact Nat.lt_of_le_of_lt (Nat.le_trans (by rw [List.length_take]; exact Nat.min_le_right _ _) hn) (by decide)
      · rw [htk, List.map_append]
        exact hP3.push nr (s3.free nr) (f y)
  · rintro H2 ⟨sm, rs, hP⟩
    rw [List.length_map, List.take_length] at hP
    exact hd H2 rs sm hP
end
/-! piece CG -/
section
/-- a def of the text whose run has no repr under way -/
structure CalG (P : Program) (w : World) (K : PySem.W.Frag) (mg : Str → Option Value) (base : Heap) (x : Str) (k : Nat) (ps : List Str) (sp : Sp) : Prop where
  ex : ∃ (f : Addr) (fd : FuncData), FnG P w K mg base CX0 k f fd ps sp ∧ mg x = some (.ref f) ∧ PySem.W.keepIn K (.ref f) = true ∧ Binds K fd ps []
section
variable {X : Cx} {x : Str} {p pos : Pos} {e : Expr} {es : List Expr} {t : TA} {k j : Nat} {ps : List Str} {sp : Sp}
theorem pe_calG (C : CalG X.prog X.w X.K X.mg X.base x k ps sp) (hr : Room j X.A) (hkj : k ≤ j) (hgd : X.A.guards = some []) (hg : Gl X x) (ha : PA X (e :: es) t)
    (hdb : (x == ("__debug__" : Str)) = false := by decide)
    (he : starEach (e :: es) X.env = (false, eval e X.env) :: starEach es X.env := by rfl)
    (hpl : (backTo pos (starEach es X.env)).any (·.1) = false := by rfl) :
    PE X (.Call (.Name x p) (e :: es) [] pos) (tCall sp [] E0 t) := by
  obtain ⟨f, fd, F, hm, hk, hb⟩ := C.ex
  exact Fo.pe_callG F (hr.mono hkj) hgd hg hm hk hb .nil pass0 ha hdb he hpl
end
def g4 {α : Type} : List α → List α → List α := fun us ws => match us, ws with
  | [], [a, b, c, d] => [d, c, b, a]
  | _, _ => []
end
/-! piece LT2 -/
section
/-- a comprehension of new pairs, tuples -/
theorem lc_tup {K : PySem.W.Frag} {a : Addr} {xs : List Int} {i : Nat} {te : TE} {vs : List Nat} {σ : Sl} {H1 : Hp} {D : Addr} {Qd : Hp → Prop} (f : Int → Edge)
    (hl : SqL K H1 a (xs.map V.int)) (nD : H1 D = none) (hn : xs.length ≤ 10000) (hw : ∀ v, wipe ((wipe σ vs).set i (some v)) vs = wipe σ vs)
    (he : ∀ x ∈ xs, ∀ H2, Same H1 H2 → ∀ R : V → Hp → Prop, (∀ H3 r, Same H2 H3 → H3 r = none → R (.ref r) (upd H3 r (.tup [.int (f x).1, .int (f x).2]))) → te ((wipe σ vs).set i (some (.int x))) H2 R)
    (hd : ∀ H2 rs, Same H1 H2 → TsAt H2 D rs (xs.map f) → Qd H2) :
    ∃ W : Nat → Nat → Hp → Prop, (∃ m, W 0 m (upd H1 D (.lst []))) ∧ ∀ i' m H, W i' m H →
      ((Itl K a).stop i' H ∧ Qd H) ∨ ((Itl K a).go i' H ∧ ∃ Nx : Hp → Prop, (∀ H', Nx H' → ∃ m', m' < m ∧ W (i' + 1) m' H') ∧ ∀ x H', (Itl K a).yld i' H x H' → gName i x (wipe σ vs) H' fun σ2 H2 => wipe σ2 vs = wipe σ vs ∧ tYes σ2 H2 fun b H3 =>
        if b = true then te σ2 H3 fun y H4 => ∃ acc, H4 D = some (.lst acc) ∧ acc.length < sizeLine ∧ Nx (upd H4 D (.lst (acc ++ [y]))) else Nx H3) := by
  refine lc_list (K := K) (xs := xs.map V.int) (fun j H2 => Same H1 H2 ∧ ∃ rs, TsAt H2 D rs ((xs.take j).map f)) ⟨same_upd (Same.refl _) nD, [], TsAt.nil upd_same⟩ ?_ ?_ ?_
  · rintro j H2 _ ⟨sm, _⟩
    exact sm.seq hl
  · rintro j x H2 hx ⟨sm, rs, hP⟩
    rw [List.getElem?_map] at hx
    cases hv : xs[j]? with
    | none => rw [hv] at hx; cases hx
    | some y =>
      rw [hv] at hx
      cases hx
      have hm := List.mem_of_getElem? hv
      have htk : xs.take (j + 1) = xs.take j ++ [y] := by rw [List.take_add_one, hv]; rfl
      refine ⟨hw _, ?_⟩
      refine he y hm H2 sm _ fun H3 r sm3 nr => ?_
      have hP3 : TsAt H3 D rs ((xs.take j).map f) := hP.same sm3
      have s3 := sm.trans sm3
      refine ⟨_, (upd_ne (ne_of_none hP3.hD nr)).trans hP3.hD, ?_, same_upd (same_upd s3 (s3.free nr)) nD, rs ++ [r], ?_⟩
      · rw [List.length_map, hP3.len, List.length_map]
        exact Nat.lt_of_le_of_lt (Nat.le_trans (by rw [List.length_take]; exact Nat.min_le_right _ _) hn) (by decide)
      · rw [htk, List.map_append]
        exact hP3.push nr (f y)
  · rintro H2 ⟨sm, rs, hP⟩
    rw [List.length_map, List.take_length] at hP
    exact hd H2 rs sm hP
/-- a comprehension that tells one value each -/
theorem lc_vals {K : PySem.W.Frag} {a : Addr} {α : Type} {inj : α → V} {xs : List α} {i : Nat} {te : TE} {vs : List Nat} {σ : Sl} {H1 : Hp} {D : Addr} {Qd : Hp → Prop} (e : α → V)
    (hl : SqL K H1 a (xs.map inj)) (nD : H1 D = none) (hn : xs.length ≤ 10000) (hw : ∀ v, wipe ((wipe σ vs).set i (some v)) vs = wipe σ vs)
    (he : ∀ x ∈ xs, ∀ H2, Same H1 H2 → ∀ R : V → Hp → Prop, (∀ H3, Same H2 H3 → R (e x) H3) → te ((wipe σ vs).set i (some (inj x))) H2 R)
    (hd : ∀ H2, Same H1 H2 → H2 D = some (.lst (xs.map e)) → Qd H2) :
    ∃ W : Nat → Nat → Hp → Prop, (∃ m, W 0 m (upd H1 D (.lst []))) ∧ ∀ i' m H, W i' m H →
      ((Itl K a).stop i' H ∧ Qd H) ∨ ((Itl K a).go i' H ∧ ∃ Nx : Hp → Prop, (∀ H', Nx H' → ∃ m', m' < m ∧ W (i' + 1) m' H') ∧ ∀ x H', (Itl K a).yld i' H x H' → gName i x (wipe σ vs) H' fun σ2 H2 => wipe σ2 vs = wipe σ vs ∧ tYes σ2 H2 fun b H3 =>
        if b = true then te σ2 H3 fun y H4 => ∃ acc, H4 D = some (.lst acc) ∧ acc.length < sizeLine ∧ Nx (upd H4 D (.lst (acc ++ [y]))) else Nx H3) :=
  lc_gen (tt := tYes) (fun _ => true) e hl nD hn hw (fun _ _ H2 _ R hR => hR H2 (Same.refl _)) (fun x hx _ => he x hx) (fun H2 sm h => hd H2 sm (by rw [List.filter_eq_self.mpr (fun _ _ => rfl)] at h; exact h))
theorem eqv_ints (xs : List Int) : PyData.eqv (.list (xs.map .int)) (.list (xs.map .int)) = true := by
  have h : ∀ ys : List Int, PyData.eqvAll (ys.map .int) (ys.map .int) = true := fun ys => by
    induction ys with
    | nil => simp [PyData.eqvAll]
    | cons y r ih => rw [List.map_cons, PyData.eqvAll, ih]; simp [PyData.eqv]
  rw [PyData.eqv, h xs]
end
/-! piece RV -/
section
def cReprV (K : PySem.W.Frag) : List V → Hp → VK → Prop := fun xs H Q => (xs = [.non] ∧ Q (.str "None") H) ∨ cRepr K xs H Q
theorem call_reprVK {X : Cx} {K : PySem.W.Frag} (_ : KMark K) (h : X.K = K) (hgd : X.A.guards = some []) (hu : X.A.units + 64 < cLine) : CallR X (.builtin "repr") (cReprV K) := by
  subst h
  intro pins s σ H xs us Q I r h
  rcases h with ⟨rfl, q⟩ | h
  · obtain ⟨u, rfl, ru⟩ := vals1 r
    cases ru
    exact PySem.P.repr_of_none ⟨.str _, H, I.tok _, ⟨_, rfl⟩, q⟩
  · exact call_reprD hgd hu pins s σ H xs us Q I r h
def g2 {α : Type} : List α → List α → List α := fun us ws => match us, ws with
  | [], [a, b] => [b, a]
  | _, _ => []
def g4k {α : Type} : List α → List α → List α := fun us ws => match us, ws with
  | [], [a, b, c, d] => [d, c, b, a]
  | _, _ => []
def g6 {α : Type} : List α → List α → List α := fun us ws => match us, ws with
  | [], [a, b, c, d, e, f] => [f, e, d, c, b, a]
  | _, _ => []
end
/-! piece D11 -/
section
theorem call_isiK' {X : Cx} {K : PySem.W.Frag} (_ : KMark K) (h : X.K = K) : CallR X (.builtin "isinstance") (rIsi K) := h ▸ call_isi
local macro_rules | `(tactic| wtm_at "fo v") => `(tactic| first
  | ((with_reducible show PE _ (.Name (Str.ofString "int") _) _); exact pe_bltn (v := .ty "int") (by rfl) (by assumption) (by decide +kernel) rfl)
  | ((with_reducible show PE _ (.Name (Str.ofString "list") _) _); exact pe_bltn (v := .ty "list") (by rfl) (by assumption) (by decide +kernel) rfl)
  | ((with_reducible show PE _ (.Name (Str.ofString "MOST_PLACES") _) _); exact pe_glob (v := .int 12) (by rfl) (by assumption) ⟨_, rfl⟩)
  | fail "no")
local macro_rules | `(tactic| wtm_at "fo e") => `(tactic| first
  | ((with_reducible show PE _ (.BoolOp .And [_] _) _); apply pe_one; wtm_at "fo e")
  | ((with_reducible show PE _ (.BoolOp .And _ _) _); apply pe_and; (· wtm_at "fo e"); (· wtm_at "fo e"))
  | ((with_reducible show PE _ (.Compare _ [.IsNot] [.Constant (.bool true) _ _] _) _); refine' pe_cmpR op_notT ?ka ?kb (nomark _); (case ka => wtm_at "fo e"); (case kb => wtm_at "fo e"))
  | ((with_reducible show PE _ (.Compare _ [.LtE, .LtE] _ _) _); refine' pe_chain op_le op_le ?ka ?kb ?kc; (case ka => wtm_at "fo e"); (case kb => wtm_at "fo e"); (case kc => wtm_at "fo e"))
  | ((with_reducible show PE _ (.Call (.Name (Str.ofString "isinstance") _) _ _ _) _); refine' pe_callB (call_isiK' (by assumption) (by exact rfl)) (by rfl) (by assumption) (by decide +kernel) ?ka; (case ka => wtm_at "fo a"))
  | ((with_reducible show PE _ (.Call (.Attribute _ (Str.ofString "bit_length") _) [] [] _) _); refine' pe_bits ?ka; (case ka => wtm_at "fo e"))
  | fail "no")
local macro_rules | `(tactic| wtm_at "fo t") => `(tactic| first
  | ((with_reducible show PT _ (.Compare _ [.IsNot] [.Constant (.bool true) _ _] _) _); refine' pt_cmpR op_notT ?ka ?kb (nomark _); (case ka => wtm_at "fo e"); (case kb => wtm_at "fo e"))
  | ((with_reducible show PT _ (.Compare _ [.Lt, .Lt, .LtE] _ _) _); refine' pt_chain3 op_lt op_lt op_le ?ka ?kb ?kc ?kd; (case ka => wtm_at "fo e"); (case kb => wtm_at "fo e"); (case kc => wtm_at "fo e"); (case kd => wtm_at "fo e"))
  | fail "no")
local macro_rules | `(tactic| wtm_at "fo s") => `(tactic| first
  | ((with_reducible show PS _ (.Raise _ _ _) _); exact ps_never)
  | ((with_reducible show PS _ (.Continue _) _); exact ps_continue)
  | ((with_reducible show PS _ (.AugAssign (.Subscript _ _ _) .BitOr _ _) _); refine' ps_augS ?ka ?kb get_list ?kc ip_or set_list; (case ka => wtm_at "fo e"); (case kb => wtm_at "fo e"); (case kc => wtm_at "fo e"))
  | ((with_reducible show PS _ (.Assign [.Tuple _ _ _] (.Name _ _) _) _); refine' ps_asg ?ka ?kb; (case ka => wtm_at "fo e"); (case kb => wtm_at "fo g"))
  | fail "no")
variable {P : Program} {w : World} {K : PySem.W.Frag} {mg : Str → Option Value} {base : Heap}
/-! ### is_place, members -/
@[irreducible] def spIsPlace : Sp := fun vs H Q _ => ∃ i n : Int, vs = [.int i, .int n] ∧ Q (.bl (decide (1 ≤ i ∧ i ≤ n))) H
theorem call_isplace {i n : Int} {H : Hp} {Q : VK} {E : XK} (q : Q (.bl (decide (1 ≤ i ∧ i ≤ n))) H) : spIsPlace [.int i, .int n] H Q E := by
  unfold spIsPlace
  exact ⟨i, n, rfl, q⟩
set_option maxHeartbeats 2000000 in
theorem ok_isplace {f : Addr} {fd : FuncData} (F : Fun K "is_place" "is_place" s_is_place f fd) (mi : mg "isinstance" = none) (mt : mg "int" = none) :
    FnOk P w K mg base CX0 1 f fd ["place", "places"] spIsPlace := by
  refine F.ok sc_is_place (fun vs H Q E h => ?_) (fun cdv A outer s H vs Q E hr h => ?_)
  · unfold spIsPlace at h
    obtain ⟨i, n, rfl, _⟩ := h
    rfl
  · have nd := sc_is_place.nd
    have hS := sc_is_place
    have hKM : KMark K := ⟨⟩
    refine' mk_body ?body ?rd
    case body =>
      show PSs _ [_] _
      wtm_at "fo ss"
    case rd =>
     unfold spIsPlace at h
     obtain ⟨i, n, rfl, q⟩ := h
     wtm_at "fo r"
     refine ⟨.int i, .ty "int", _, _, true, rfl, .ty "int", .base (.int i), kit_ty (by decide +kernel), ?_⟩
     refine ⟨_, rfl, ?_⟩
     refine ifT rfl ?_
     refine ⟨_, rfl, rfl, _, rfl, ifT rfl ?_⟩
     refine ⟨_, rfl, _, _, rfl, rfl, _, rfl, ?_⟩
     by_cases h1 : 1 ≤ i
     · refine ifT (decide_eq_true h1) ?_
       refine ⟨_, rfl, _, _, rfl, rfl, ?_⟩
       rw [show decide (1 ≤ i ∧ i ≤ n) = decide (i ≤ n) by simp [h1]] at q
       exact q
     · refine ifF (decide_eq_false h1) ?_
       rw [show decide (1 ≤ i ∧ i ≤ n) = false by simp [h1]] at q
       exact q

@[irreducible] def spMembers : Sp := fun vs H Q _ => ∃ v : Nat, vs = [.int v] ∧ v < 2 ^ 20 ∧ ∀ p H', Same H H' → H p = none → H' p = some (.lst ((membersM v).map V.int)) → Q (.ref p) H'
theorem call_members {v : Nat} {H : Hp} {Q : VK} {E : XK} (hv : v < 2 ^ 20) (q : ∀ p H', Same H H' → H p = none → H' p = some (.lst ((membersM v).map V.int)) → Q (.ref p) H') : spMembers [.int v] H Q E := by
  unfold spMembers
  exact ⟨v, rfl, hv, q⟩
theorem bitLen_eq (v : Nat) : Builtin.Int.intBits (v : Int) = bitLen v := by
  unfold Builtin.Int.intBits bitLen
  by_cases h : v = 0
  · subst h; rfl
  · rw [if_neg h, if_neg (by simp; omega)]
    rfl
theorem bitLen_le {v k : Nat} (h : v < 2 ^ k) : bitLen v ≤ k := by
  unfold bitLen
  by_cases e : v = 0
  · rw [if_pos e]; omega
  · rw [if_neg e]
    have := (Nat.log2_lt e).mpr h
    omega
set_option maxHeartbeats 2000000 in
theorem ok_members {f : Addr} {fd : FuncData} (F : Fun K "members" "members" s_members f fd) (mr : mg "range" = none) :
    FnOk P w K mg base CX0 1 f fd ["lot"] spMembers := by
  refine F.ok sc_members (fun vs H Q E h => ?_) (fun cdv A outer s H vs Q E hr h => ?_)
  · unfold spMembers at h
    obtain ⟨v, rfl, _⟩ := h
    rfl
  · have nd := sc_members.nd
    have hS := sc_members
    have hKM : KMark K := ⟨⟩
    refine' mk_body ?body ?rd
    case body =>
      show PSs _ [_] _
      wtm_at "fo ss"
    case rd =>
     unfold spMembers at h
     obtain ⟨v, rfl, hv, q⟩ := h
     wtm_at "fo r"
     rw [bitLen_eq]
     have hb := bitLen_le hv
     refine ⟨1, (bitLen v : Int), rfl, ⟨by decide, by decide, by omega, by omega⟩, fun D nD => ?_⟩
     have hN : ((bitLen v : Int) - 1).toNat = bitLen v - 1 := by omega
     refine lc_range (fun i H1 => i ≤ bitLen v - 1 ∧ H1 = upd H D (.lst ((((List.range i).map fun (i : Nat) => (i : Int) + 1).filter fun x => v.testBit x.toNat).map V.int))) ⟨Nat.zero_le _, rfl⟩ ?_ ?_
     · rintro i H1 hi ⟨hi2, rfl⟩
       rw [hN] at hi
       refine ⟨rfl, ?_⟩
       wtm_at "fo r"
       rw [show (1 + (i : Int)).toNat = i + 1 by omega, bit_test]
       have hlen : ((((List.range i).map fun (i : Nat) => (i : Int) + 1).filter fun x => v.testBit x.toNat).map V.int).length ≤ i := by
         rw [List.length_map]
         exact Nat.le_trans (List.length_filter_le ..) (by simp)
       have hr1 : ((List.range (i + 1)).map fun (i : Nat) => (i : Int) + 1).filter (fun x => v.testBit x.toNat) = ((List.range i).map fun (i : Nat) => (i : Int) + 1).filter (fun x => v.testBit x.toNat) ++ (if v.testBit (i + 1) then [(i : Int) + 1] else []) := by
         rw [List.range_succ, List.map_append, List.filter_append]
         congr 1
         show List.filter _ [(i : Int) + 1] = _
         rw [List.filter_cons, show ((i : Int) + 1).toNat = i + 1 by omega]
         rfl
       rw [hr1]
       cases hb1 : v.testBit (i + 1) with
       | true =>
         refine ifT rfl ⟨_, rfl, _, upd_same, Nat.lt_of_le_of_lt (m := 20) (by omega) (by decide), by omega, ?_⟩
         rw [upd_upd, if_pos rfl, List.map_append, show (1 + (i : Int)) = (i : Int) + 1 by omega]
         rfl
       | false =>
         refine ifF rfl ⟨by omega, ?_⟩
         rw [if_neg (by decide), List.append_nil]
     · rintro H1 ⟨_, rfl⟩
       rw [hN]
       exact q D _ (same_upd (Same.refl _) nD) nD upd_same
end
/-! piece DN -/
section
theorem take_apart {es : List Edge} (h : es.Pairwise Apart) {i : Nat} (hi : i < es.length) : ∀ e ∈ es.take i, Apart e es[i] := by
  intro e he
  obtain ⟨j, hj⟩ := List.getElem?_of_mem he
  rw [List.getElem?_take] at hj
  split at hj
  · rename_i hji
    have hjl : j < es.length := by omega
    rw [List.getElem?_eq_getElem hjl] at hj
    cases hj
    exact List.pairwise_iff_getElem.mp h j i hjl hi hji
  · cases hj
theorem at_nb {t : List Nat} {p u : Nat} (h : t[p]? = some u) : atI (t.map fun (v : Nat) => V.int v) (p : Int) = some (.int u) :=
  at_of (j := p) rfl (by rw [List.getElem?_map, h]; rfl)
theorem get_nb {t : List Nat} {p u : Nat} (h : t[p]? = some u) : (t.map fun (v : Nat) => V.int v)[p]? = some (.int u) := by
  rw [List.getElem?_map, h]
  rfl
theorem get_nb2 {t : List Nat} {p q u : Nat} {x : V} (hq : q ≠ p) (h : t[p]? = some u) : ((t.map fun (v : Nat) => V.int v).set q x)[p]? = some (.int u) := by
  rw [List.getElem?_set_ne hq, get_nb h]
theorem at_pw {n p : Nat} (h : p ≤ n) : atI ((List.range (n + 1)).map fun (k : Nat) => V.int ((2 ^ k : Nat) : Int)) (p : Int) = some (.int ((2 ^ p : Nat) : Int)) :=
  at_of (j := p) rfl (by rw [List.getElem?_map, List.getElem?_range (by omega)]; rfl)
theorem ix_n {n j : Nat} (h : j < n) : ixN n (j : Int) = some j := by
  unfold ixN
  rw [if_pos (Int.natCast_nonneg j), if_pos (by omega)]
  rfl
theorem set_addB {t : List Nat} {a b u w : Nat} (hu : t[a]? = some u) (hw : t[b]? = some w) (hne : a ≠ b) :
    (((t.map fun (v : Nat) => V.int v).set a (.int (Builtin.bitOr u (2 ^ b : Nat)))).set b (.int (Builtin.bitOr w (2 ^ a : Nat)))) = (addB t ((a : Int), (b : Int))).map fun (v : Nat) => V.int v := by
  rw [bOr, bOr]
  have ha := (List.getElem?_eq_some_iff.mp hu).1
  have hb := (List.getElem?_eq_some_iff.mp hw).1
  apply List.ext_getElem?
  intro i
  unfold addB
  rw [List.getElem?_map, List.getElem?_modify, List.getElem?_modify, List.getElem?_set, List.getElem?_set, List.getElem?_map]
  simp only [List.length_set, List.length_map, Int.toNat_natCast]
  by_cases h1 : b = i
  · subst h1
    simp [hb, hne, (List.getElem?_eq_some_iff.mp hw).2]
  · by_cases h2 : a = i
    · subst h2
      simp [ha, h1, (List.getElem?_eq_some_iff.mp hu).2]
    · simp [h1, h2]
variable {P : Program} {w : World} {K : PySem.W.Frag} {mg : Str → Option Value} {base : Heap}
/-! ### read_net, where all is right -/
def nLst (t : List Nat) : HO := .lst (t.map fun (v : Nat) => V.int v)
end
/-! tactics TAC2 -/
local macro_rules | `(tactic| wtm_at "fo v") => `(tactic| first
  | ((with_reducible show PE _ (.Name (Str.ofString "int") _) _); exact pe_bltn (v := .ty "int") (by rfl) (by assumption) (by decide +kernel) rfl)
  | ((with_reducible show PE _ (.Name (Str.ofString "list") _) _); exact pe_bltn (v := .ty "list") (by rfl) (by assumption) (by decide +kernel) rfl)
  | ((with_reducible show PE _ (.Name (Str.ofString "MOST_PLACES") _) _); exact pe_glob (v := .int 12) (by rfl) (by assumption) ⟨_, rfl⟩)
  | fail "no")
local macro_rules | `(tactic| wtm_at "fo e") => `(tactic| first
  | ((with_reducible show PE _ (.BoolOp .And [_] _) _); apply pe_one; wtm_at "fo e")
  | ((with_reducible show PE _ (.BoolOp .And _ _) _); apply pe_and; (· wtm_at "fo e"); (· wtm_at "fo e"))
  | ((with_reducible show PE _ (.Compare _ [.IsNot] [.Constant (.bool true) _ _] _) _); refine' pe_cmpR op_notT ?ka ?kb (nomark _); (case ka => wtm_at "fo e"); (case kb => wtm_at "fo e"))
  | ((with_reducible show PE _ (.Compare _ [.LtE, .LtE] _ _) _); refine' pe_chain op_le op_le ?ka ?kb ?kc; (case ka => wtm_at "fo e"); (case kb => wtm_at "fo e"); (case kc => wtm_at "fo e"))
  | ((with_reducible show PE _ (.Call (.Name (Str.ofString "isinstance") _) _ _ _) _); refine' pe_callB (call_isiK' (by assumption) (by exact rfl)) (by rfl) (by assumption) (by decide +kernel) ?ka; (case ka => wtm_at "fo a"))
  | ((with_reducible show PE _ (.Call (.Attribute _ (Str.ofString "bit_length") _) [] [] _) _); refine' pe_bits ?ka; (case ka => wtm_at "fo e"))
  | fail "no")
local macro_rules | `(tactic| wtm_at "fo t") => `(tactic| first
  | ((with_reducible show PT _ (.Compare _ [.IsNot] [.Constant (.bool true) _ _] _) _); refine' pt_cmpR op_notT ?ka ?kb (nomark _); (case ka => wtm_at "fo e"); (case kb => wtm_at "fo e"))
  | ((with_reducible show PT _ (.Compare _ [.Lt, .Lt, .LtE] _ _) _); refine' pt_chain3 op_lt op_lt op_le ?ka ?kb ?kc ?kd; (case ka => wtm_at "fo e"); (case kb => wtm_at "fo e"); (case kc => wtm_at "fo e"); (case kd => wtm_at "fo e"))
  | fail "no")
local macro_rules | `(tactic| wtm_at "fo s") => `(tactic| first
  | ((with_reducible show PS _ (.Raise _ _ _) _); exact ps_never)
  | ((with_reducible show PS _ (.Continue _) _); exact ps_continue)
  | ((with_reducible show PS _ (.AugAssign (.Subscript _ _ _) .BitOr _ _) _); refine' ps_augS ?ka ?kb get_list ?kc ip_or set_list; (case ka => wtm_at "fo e"); (case kb => wtm_at "fo e"); (case kc => wtm_at "fo e"))
  | ((with_reducible show PS _ (.Assign [.Tuple _ _ _] (.Name _ _) _) _); refine' ps_asg ?ka ?kb; (case ka => wtm_at "fo e"); (case kb => wtm_at "fo g"))
  | fail "no")
/-! piece D12 -/
section
variable {P : Program} {w : World} {K : PySem.W.Frag} {mg : Str → Option Value} {base : Heap}
theorem ref_at {qs : List Addr} {i : Nat} {x : V} (h : (qs.map V.ref)[i]? = some x) : ∃ r, qs[i]? = some r ∧ x = V.ref r := by
  rw [List.getElem?_map] at h
  cases hq : qs[i]? with
  | none => rw [hq] at h; cases h
  | some r => rw [hq] at h; exact ⟨r, rfl, (Option.some.inj h).symm⟩
theorem int_at {ns : List Int} {i : Nat} {x : V} (h : (ns.map V.int)[i]? = some x) : ∃ r, ns[i]? = some r ∧ x = V.int r := by
  rw [List.getElem?_map] at h
  cases hq : ns[i]? with
  | none => rw [hq] at h; cases h
  | some r => rw [hq] at h; exact ⟨r, rfl, (Option.some.inj h).symm⟩
@[irreducible] def spRead : Sp := fun vs H Q _ => ∃ (q : Addr) (n : Nat) (es : List Edge), vs = [.int n, .ref q] ∧ 1 ≤ n ∧ n ≤ 12 ∧ Pairs H q es ∧ Simp n es ∧ es.length ≤ 200 ∧
  ∀ r H', Same H H' → H r = none → H' r = some (nLst (nearB n es)) → Q (.ref r) H'
theorem call_read {q : Addr} {n : Nat} {es : List Edge} {H : Hp} {Q : VK} {E : XK} (h1 : 1 ≤ n) (h2 : n ≤ 12) (hq : Pairs H q es) (hS : Simp n es) (hl : es.length ≤ 200)
    (fin : ∀ r H', Same H H' → H r = none → H' r = some (nLst (nearB n es)) → Q (.ref r) H') : spRead [.int n, .ref q] H Q E := by
  unfold spRead
  exact ⟨q, n, es, rfl, h1, h2, hq, hS, hl, fin⟩
set_option maxHeartbeats 4000000 in
theorem ok_read {f : Addr} {fd : FuncData} (F : Fun K "read_net" "read_net" s_read_net f fd) (mi : mg "isinstance" = none) (mt : mg "int" = none) (ml : mg "list" = none) (mr : mg "range" = none) (me : mg "enumerate" = none) (mn : mg "len" = none)
    {tk : Tok} (mP : mg "MOST_PLACES" = some (.int 12 tk)) (C : Cal P w K mg base "is_place" 1 ["place", "places"] spIsPlace) :
    FnOk P w K mg base CX0 2 f fd ["places", "lines"] spRead := by
  refine F.ok sc_read_net (fun vs H Q E h => ?_) (fun cdv A outer s H vs Q E hr h => ?_)
  · unfold spRead at h
    obtain ⟨q, n, es, rfl, _⟩ := h
    rfl
  · have nd := sc_read_net.nd
    have hS := sc_read_net
    have hKM : KMark K := ⟨⟩
    refine' mk_body ?body ?rd
    case body =>
      show PSs _ [_, _, _, _, _, _] _
      wtm_at "fo ss"
    case rd =>
     unfold spRead at h
     obtain ⟨q, n, es, rfl, h1, h2, hq, hSi, hl, fin⟩ := h
     wtm_at "fo r"
     refine call_isplace ⟨_, rfl, ?_⟩
     refine ifF (by rw [decide_eq_true (by omega)]; rfl) ?_
     obtain ⟨rs, hD, hrl, hat⟩ := hq
     wtm_at "fo r"
     refine ⟨.ref q, .ty "list", _, _, true, rfl, .ty "list", .base (.lst hD), kit_ty (by decide +kernel), ?_⟩
     wtm_at "fo r"
     refine fun D nD => ?_
     have hN : (((n : Int) + 1)).toNat = n + 1 := by omega
     refine lc_range (fun i H1 => i ≤ n + 1 ∧ H1 = upd H D (.lst ((List.range i).map fun (k : Nat) => V.int ((2 ^ k : Nat) : Int)))) ⟨Nat.zero_le _, rfl⟩ ?_ ?_
     · rintro i H1 hi ⟨hi2, rfl⟩
       rw [hN] at hi
       refine ⟨rfl, ?_⟩
       wtm_at "fo r"
       have hlen : ((List.range i).map fun (k : Nat) => V.int ((2 ^ k : Nat) : Int)).length = i := by simp
       refine ⟨_, upd_same, by rw [hlen]; exact Nat.lt_of_le_of_lt (m := 20) (by omega) (by decide), by omega, ?_⟩
       rw [upd_upd, List.range_succ, List.map_append]
       have ev : V.int (1 * 2 ^ (0 + (i : Int)).toNat) = V.int ((2 ^ i : Nat) : Int) := by
         rw [show (0 + (i : Int)).toNat = i by omega, Int.one_mul, Int.natCast_pow]
         rfl
       show upd H D (HO.lst (_ ++ [V.int (1 * 2 ^ (0 + (i : Int)).toNat)])) = _
       rw [ev]
       rfl
     · rintro H1 ⟨_, rfl⟩
       rw [hN]
       wtm_at "fo r"
       rename_i p np
       have sm1 : Same H (upd H D (.lst ((List.range (n + 1)).map fun (k : Nat) => V.int ((2 ^ k : Nat) : Int)))) := same_upd (Same.refl _) nD
       have hD1 : (upd H D (.lst ((List.range (n + 1)).map fun (k : Nat) => V.int ((2 ^ k : Nat) : Int)))) D = some (.lst ((List.range (n + 1)).map fun (k : Nat) => V.int ((2 ^ k : Nat) : Int))) := upd_same
       generalize upd H D (.lst ((List.range (n + 1)).map fun (k : Nat) => V.int ((2 ^ k : Nat) : Int))) = H1 at *
       have sm2 : Same H (upd H1 p (.lst [.int 0])) := same_upd sm1 (sm1.free np)
       have hp2 : (upd H1 p (.lst [.int 0])) p = some (.lst [.int 0]) := upd_same
       have hD2 : (upd H1 p (.lst [.int 0])) D = some (.lst ((List.range (n + 1)).map fun (k : Nat) => V.int ((2 ^ k : Nat) : Int))) := (upd_ne (ne_of_none hD1 np)).trans hD1
       generalize upd H1 p (.lst [.int 0]) = H2 at *
       refine ⟨D, _, rfl, SqL.of hD2, fun c nc => ?_⟩
       rw [cut_1]
       have sm3 : Same H2 (upd H2 c (.lst (((List.range (n + 1)).map fun (k : Nat) => V.int ((2 ^ k : Nat) : Int)).drop 1))) := same_upd (Same.refl _) nc
       have hc3 : (upd H2 c (.lst (((List.range (n + 1)).map fun (k : Nat) => V.int ((2 ^ k : Nat) : Int)).drop 1))) c = some (.lst (((List.range (n + 1)).map fun (k : Nat) => V.int ((2 ^ k : Nat) : Int)).drop 1)) := upd_same
       generalize upd H2 c (.lst (((List.range (n + 1)).map fun (k : Nat) => V.int ((2 ^ k : Nat) : Int)).drop 1)) = H3 at *
       refine Or.inr ⟨p, c, _, _, rfl, rfl, sm3 _ _ hp2, hc3, ?_, fun r nr => ?_⟩
       · rw [List.length_drop, List.length_map, List.length_range]
         exact Nat.le_trans (m := 20) (by simp; omega) (by decide)
       have e0 : [V.int 0] ++ ((List.range (n + 1)).map fun (k : Nat) => V.int ((2 ^ k : Nat) : Int)).drop 1 = (nearB n []).map fun (v : Nat) => V.int v := by
         show _ = (nb0 n).map _
         unfold nb0
         rw [List.range_succ_eq_map, List.map_cons, List.drop_succ_cons, List.drop_zero, List.map_map, List.map_cons, List.map_map]
         rfl
       rw [e0]
       have sm03 : Same H H3 := sm2.trans sm3
       have sm4 : Same H (upd H3 r (.lst ((nearB n []).map fun (v : Nat) => V.int v))) := same_upd sm03 (sm03.free nr)
       have hD4 : (upd H3 r (.lst ((nearB n []).map fun (v : Nat) => V.int v))) D = some (.lst ((List.range (n + 1)).map fun (k : Nat) => V.int ((2 ^ k : Nat) : Int))) := (upd_ne (ne_of_none (sm3 _ _ hD2) nr)).trans (sm3 _ _ hD2)
       have hr4 : (upd H3 r (.lst ((nearB n []).map fun (v : Nat) => V.int v))) r = some (nLst (nearB n [])) := upd_same
       have nr0 : H r = none := sm03.free nr
       have hDr0 : D ≠ r := ne_of_none (sm3 _ _ hD2) nr
       generalize upd H3 r (.lst ((nearB n []).map fun (v : Nat) => V.int v)) = H4 at *
       refine ⟨_, rfl, q, rs.map V.ref, rfl, SqL.of (sm4 _ _ hD), ?_⟩
       refine for_enum (K := K) (xs := rs.map V.ref) (fun i σ H5 => ∃ y5 y6 y7 y8, σ = [some (.int n), some (.ref q), some (.ref D), none, some (.ref r), y5, y6, y7, y8] ∧ Same H H5 ∧
         H5 D = some (.lst ((List.range (n + 1)).map fun (k : Nat) => V.int ((2 ^ k : Nat) : Int))) ∧ H5 r = some (nLst (nearB n (es.take i)))) ?_ ?_ ?_ ?_
       · exact ⟨none, none, none, none, rfl, sm4, hD4, hr4⟩
       · rintro i σ H5 _ ⟨y5, y6, y7, y8, rfl, sm5, hD5, hr5⟩
         exact SqL.of (sm5 _ _ hD)
       · rintro i x T σ H5 hx ⟨y5, y6, y7, y8, rfl, sm5, hD5, hr5⟩ nT
         obtain ⟨ri, hri, rfl⟩ := ref_at hx
         have hi : i < es.length := by rw [← hrl]; exact (List.getElem?_eq_some_iff.mp hri).1
         have hei : es[i]? = some es[i] := List.getElem?_eq_getElem hi
         have hti := hat i ri _ hri hei
         have hrg := hSi.rng _ (List.getElem_mem hi)
         have hap : ∀ e ∈ es.take i, Apart e es[i] := take_apart hSi.ap hi
         have htk : es.take (i + 1) = es.take i ++ [es[i]] := by rw [List.take_add_one, hei]; rfl
         have hpos : ∀ e ∈ es.take i, 1 ≤ e.1 ∧ 1 ≤ e.2 ∧ e.1 ≠ e.2 := fun e he => by
           have := hSi.rng e (List.mem_of_mem_take he)
           omega
         generalize hee : es[i] = e at *
         obtain ⟨a, b⟩ := e
         simp only at hti hrg
         obtain ⟨a, rfl⟩ : ∃ k : Nat, a = (k : Int) := ⟨a.toNat, by omega⟩
         obtain ⟨b, rfl⟩ : ∃ k : Nat, b = (k : Int) := ⟨b.toNat, by omega⟩
         have sm6 : Same H (upd H5 T (.tup [.int (i : Nat), .ref ri])) := same_upd sm5 (sm5.free nT)
         have hD6 : (upd H5 T (.tup [.int (i : Nat), .ref ri])) D = _ := (upd_ne (ne_of_none hD5 nT)).trans hD5
         have hnr6 : (upd H5 T (.tup [.int (i : Nat), .ref ri])) r = _ := (upd_ne (ne_of_none hr5 nT)).trans hr5
         refine Or.inl ⟨T, [.int (i : Nat), .ref ri], rfl, SqT.of upd_same, rfl, .int (i : Nat), [.ref ri], rfl, .ref ri, [], rfl, rfl, ?_⟩
         generalize upd H5 T (.tup [.int (i : Nat), .ref ri]) = H6 at *
         have hti6 := sm6 _ _ hti
         wtm_at "fo r"
         refine ⟨.ref ri, .ty "list", _, _, true, rfl, .ty "list", .base (.lst hti6), kit_ty (by decide +kernel), ?_⟩
         refine ⟨true, rfl, ifT rfl ?_⟩
         refine ⟨_, rfl, ri, _, rfl, Or.inl (SqL.of hti6), Or.inl ⟨rfl, _, rfl, ifT (by rfl) ?_⟩⟩
         refine ⟨_, rfl, Or.inr ⟨ri, [.int a, .int b], rfl, SqL.of hti6, rfl, .int a, [.int b], rfl, .int b, [], rfl, rfl, ?_⟩⟩
         refine ⟨_, rfl, .int a, .ty "int", _, _, true, rfl, .ty "int", .base (.int a), kit_ty (by decide +kernel), true, rfl, ifT rfl ?_⟩
         refine ⟨_, rfl, .int b, .ty "int", _, _, true, rfl, .ty "int", .base (.int b), kit_ty (by decide +kernel), true, rfl, ifT rfl ?_⟩
         refine ⟨_, rfl, _, rfl, _, _, rfl, rfl, _, rfl, ?_⟩
         refine ite2 (fun hc => ?_) (fun hc => ?_)
         · refine ⟨_, rfl, Or.inr ⟨ri, [.int a, .int b], rfl, SqL.of hti6, rfl, .int a, [.int b], rfl, .int b, [], rfl, rfl, ?_⟩⟩
           have hba := of_decide_eq_true hc
           have hfr : ∀ e ∈ es.take i, Apart e ((b : Nat), (a : Nat)) := fun e he => ⟨fun h => (hap e he).2 (by rw [h]), fun h => (hap e he).1 (by rw [h])⟩
           have hfr2 : ∀ e ∈ es.take i, Apart e ((a : Nat), (b : Nat)) := fun e he => ⟨fun h => (hfr e he).2 (by rw [h]), fun h => (hfr e he).1 (by rw [h])⟩
           obtain ⟨u, hu, hu0⟩ := fresh_bit (n := n) hpos (a := b) (b := a) (by omega) (by omega) (by omega) hfr
           obtain ⟨u2, hu2, _⟩ := fresh_bit (n := n) hpos (a := a) (b := b) (by omega) (by omega) (by omega) hfr2
           refine ⟨_, rfl, rfl, _, rfl, ifT rfl ?_⟩
           refine ⟨_, rfl, _, _, rfl, rfl, _, rfl, ifT (decide_eq_true (by omega)) ?_⟩
           refine ⟨_, rfl, _, _, rfl, rfl, _, rfl, ifT (decide_eq_true (by omega)) ?_⟩
           refine ⟨_, rfl, _, _, rfl, rfl, _, rfl, ifT (decide_eq_true (by omega)) ?_⟩
           refine ⟨_, rfl, _, rfl, Or.inl ⟨r, _, (b : Nat), _, rfl, rfl, SqL.of hnr6, at_nb hu, ?_⟩⟩
           refine ⟨_, rfl, _, rfl, Or.inl ⟨D, _, (a : Nat), _, rfl, rfl, SqL.of hD6, at_pw (by omega), ?_⟩⟩
           refine ⟨_, _, rfl, rfl, _, rfl, ifT (by rw [bAnd, hu0]; rfl) ?_⟩
           refine ⟨_, rfl, _, rfl, r, _, _, b, _, rfl, rfl, hnr6, by omega, by omega, get_nb hu, ?_⟩
           refine ⟨_, rfl, _, rfl, Or.inl ⟨D, _, (a : Nat), _, rfl, rfl, SqL.of hD6, at_pw (by omega), ?_⟩⟩
           refine ⟨_, _, rfl, rfl, r, _, _, b, rfl, rfl, hnr6, ix_n (by rw [List.length_map]; exact (List.getElem?_eq_some_iff.mp hu).1), ?_⟩
           have hDr : D ≠ r := hDr0
           have hr7 : (upd H6 r (.lst (((nearB n (es.take i)).map fun (v : Nat) => V.int v).set b (.int (Builtin.bitOr u (2 ^ a : Nat)))))) r = some (.lst (((nearB n (es.take i)).map fun (v : Nat) => V.int v).set b (.int (Builtin.bitOr u (2 ^ a : Nat))))) := upd_same
           have hD7 : (upd H6 r (.lst (((nearB n (es.take i)).map fun (v : Nat) => V.int v).set b (.int (Builtin.bitOr u (2 ^ a : Nat)))))) D = some (.lst ((List.range (n + 1)).map fun (k : Nat) => V.int ((2 ^ k : Nat) : Int))) := (upd_ne hDr).trans hD6
           refine ⟨_, rfl, _, rfl, r, _, _, a, _, rfl, rfl, hr7, by omega, by omega, get_nb2 (by omega) hu2, ?_⟩
           refine ⟨_, rfl, _, rfl, Or.inl ⟨D, _, (b : Nat), _, rfl, rfl, SqL.of hD7, at_pw (by omega), ?_⟩⟩
           refine ⟨_, _, rfl, rfl, r, _, _, a, rfl, rfl, hr7, ix_n (by rw [List.length_set, List.length_map]; exact (List.getElem?_eq_some_iff.mp hu2).1), ?_⟩
           refine ⟨_, _, _, _, rfl, same_upd (same_upd sm6 nr0) nr0, ?_, ?_⟩
           · rw [upd_ne hDr]
             exact hD7
           · rw [upd_same, set_addB hu hu2 (by omega), htk]
             unfold nearB nLst
             rw [List.foldl_append]
             rw [addB_swap _ (by show ((b : Int)).toNat ≠ ((a : Int)).toNat; omega)]; rfl

         · skip
           have hba : ¬ ((b : Int) < a) := fun h => hc (decide_eq_true h)
           have hfr : ∀ e ∈ es.take i, Apart e ((a : Nat), (b : Nat)) := hap
           have hfr2 : ∀ e ∈ es.take i, Apart e ((b : Nat), (a : Nat)) := fun e he => ⟨fun h => (hfr e he).2 (by rw [h]), fun h => (hfr e he).1 (by rw [h])⟩
           obtain ⟨u, hu, hu0⟩ := fresh_bit (n := n) hpos (a := a) (b := b) (by omega) (by omega) (by omega) hfr
           obtain ⟨u2, hu2, _⟩ := fresh_bit (n := n) hpos (a := b) (b := a) (by omega) (by omega) (by omega) hfr2
           refine ⟨_, rfl, rfl, _, rfl, ifT rfl ?_⟩
           refine ⟨_, rfl, _, _, rfl, rfl, _, rfl, ifT (decide_eq_true (by omega)) ?_⟩
           refine ⟨_, rfl, _, _, rfl, rfl, _, rfl, ifT (decide_eq_true (by omega)) ?_⟩
           refine ⟨_, rfl, _, _, rfl, rfl, _, rfl, ifT (decide_eq_true (by omega)) ?_⟩
           refine ⟨_, rfl, _, rfl, Or.inl ⟨r, _, (a : Nat), _, rfl, rfl, SqL.of hnr6, at_nb hu, ?_⟩⟩
           refine ⟨_, rfl, _, rfl, Or.inl ⟨D, _, (b : Nat), _, rfl, rfl, SqL.of hD6, at_pw (by omega), ?_⟩⟩
           refine ⟨_, _, rfl, rfl, _, rfl, ifT (by rw [bAnd, hu0]; rfl) ?_⟩
           refine ⟨_, rfl, _, rfl, r, _, _, a, _, rfl, rfl, hnr6, by omega, by omega, get_nb hu, ?_⟩
           refine ⟨_, rfl, _, rfl, Or.inl ⟨D, _, (b : Nat), _, rfl, rfl, SqL.of hD6, at_pw (by omega), ?_⟩⟩
           refine ⟨_, _, rfl, rfl, r, _, _, a, rfl, rfl, hnr6, ix_n (by rw [List.length_map]; exact (List.getElem?_eq_some_iff.mp hu).1), ?_⟩
           have hDr : D ≠ r := hDr0
           have hr7 : (upd H6 r (.lst (((nearB n (es.take i)).map fun (v : Nat) => V.int v).set a (.int (Builtin.bitOr u (2 ^ b : Nat)))))) r = some (.lst (((nearB n (es.take i)).map fun (v : Nat) => V.int v).set a (.int (Builtin.bitOr u (2 ^ b : Nat))))) := upd_same
           have hD7 : (upd H6 r (.lst (((nearB n (es.take i)).map fun (v : Nat) => V.int v).set a (.int (Builtin.bitOr u (2 ^ b : Nat)))))) D = some (.lst ((List.range (n + 1)).map fun (k : Nat) => V.int ((2 ^ k : Nat) : Int))) := (upd_ne hDr).trans hD6
           refine ⟨_, rfl, _, rfl, r, _, _, b, _, rfl, rfl, hr7, by omega, by omega, get_nb2 (by omega) hu2, ?_⟩
           refine ⟨_, rfl, _, rfl, Or.inl ⟨D, _, (a : Nat), _, rfl, rfl, SqL.of hD7, at_pw (by omega), ?_⟩⟩
           refine ⟨_, _, rfl, rfl, r, _, _, b, rfl, rfl, hr7, ix_n (by rw [List.length_set, List.length_map]; exact (List.getElem?_eq_some_iff.mp hu2).1), ?_⟩
           refine ⟨_, _, _, _, rfl, same_upd (same_upd sm6 nr0) nr0, ?_, ?_⟩
           · rw [upd_ne hDr]
             exact hD7
           · rw [upd_same, set_addB hu hu2 (by omega), htk]
             unfold nearB nLst
             rw [List.foldl_append]
             rfl

       · rintro σ H5 ⟨y5, y6, y7, y8, rfl, sm5, hD5, hr5⟩
         refine ⟨_, rfl, ?_⟩
         rw [List.length_map, hrl, List.take_length] at hr5
         exact fin r H5 sm5 nr0 hr5
end
/-! tactics TAC3 -/
local macro_rules | `(tactic| wtm_at "fo lc") => `(tactic| (refine' pe_lcN (by assumption) (by exact rfl) (by exact rfl) (by wtm_at "fo own") (by kernel_rfl!) rfl ?ki ?kg ?kt ?ke; (case ki => wtm_at "fo i"); (case kg => (intro _ _ _ _ _; wtm_at "fo g")); (case kt => (intro _ _ _ _ _; wtm_at "fo ts")); (case ke => (intro _ _ _ _ _; wtm_at "fo e"))))
local macro_rules | `(tactic| wtm_at "fo s") => `(tactic| ((with_reducible show PS _ (.Assign [.Tuple _ _ _] (.Call _ _ _ _) _) _); refine' ps_asg ?ka ?kb; (case ka => wtm_at "fo e"); (case kb => wtm_at "fo g")))
local macro_rules | `(tactic| wtm_at "fo cmp") => `(tactic| ((with_reducible show PE _ (.Compare _ [.In] _ _) _); refine' pe_cmpR (op_inK (by assumption) (by exact rfl)) ?ka ?kb rfl; (case ka => wtm_at "fo e"); (case kb => wtm_at "fo e")))
local macro_rules | `(tactic| wtm_at "fo call") => `(tactic| ((with_reducible show PE _ (.Call (.Name (Str.ofString "list") _) [.Call (.Name (Str.ofString "range") _) [_] _ _] _ _) _); refine' pe_listRg rfl (by rfl) (by assumption) (prg_1 (by rfl) (by assumption) ?ka); (case ka => wtm_at "fo e")))
local macro_rules | `(tactic| wtm_at "fo call") => `(tactic| ((with_reducible show PE _ (.Call (.Name (Str.ofString "min") _) [_] _ _) _); refine' pe_callB (call_minK (by assumption) (by exact rfl) rfl) (by rfl) (by assumption) (by decide +kernel) ?ka; (case ka => wtm_at "fo a")))
local macro_rules | `(tactic| wtm_at "fo i") => `(tactic| ((with_reducible show PI _ _ (.Call (.Name (Str.ofString "reversed") _) [_] _ _) _); refine' pi_reversed (by rfl) (by assumption) ?ka; (case ka => wtm_at "fo a")))
local macro_rules | `(tactic| wtm_at "fo s") => `(tactic| ((with_reducible show PS _ (.AugAssign (.Name _ _) .BitXor _ _) _); first | (refine' ps_aug (i := 2) (by assumption) rfl (by first | exact Or.inl rfl | exact Or.inr rfl) ?ka ip_xor; (case ka => wtm_at "fo e")) | fail "no"))
local macro_rules | `(tactic| wtm_at "fo call") => `(tactic| (refine' pe_calG (by assumption) (by assumption) (by decide) (by assumption) (by rfl) ?ka; (case ka => wtm_at "fo a")))
local macro_rules | `(tactic| wtm_at "fo meth") => `(tactic| ((with_reducible show PE _ (.Call (.Attribute _ (Str.ofString "count") _) _ _ _) _); refine' pe_cntK (by assumption) (by exact rfl) ?ka ?kb; (case ka => wtm_at "fo e"); (case kb => wtm_at "fo a")))
local macro_rules | `(tactic| wtm_at "fo call") => `(tactic| ((with_reducible show PE _ (.Call (.Name (Str.ofString "sorted") _) [_] _ _) _); refine' pe_callB (cr_sortedB (by assumption) (by exact rfl) (Room.units (by assumption))) (by rfl) (by assumption) (by decide +kernel) ?ka; (case ka => wtm_at "fo a")))
local macro_rules | `(tactic| wtm_at "fo v") => `(tactic| first
  | exact pv 16
  | exact pv 17
  | exact pv 18
  | exact pv 19
  | fail "no")
local macro_rules | `(tactic| wtm_at "fo own") => `(tactic| first
  | ((show _ = [16]); kernel_rfl!)
  | ((show _ = [17]); kernel_rfl!)
  | ((show _ = [18]); kernel_rfl!)
  | ((show _ = [19]); kernel_rfl!)
  | ((show _ = [15, 16]); kernel_rfl!)
  | ((show _ = [16, 17]); kernel_rfl!)
  | ((show _ = [17, 18]); kernel_rfl!)
  | ((show _ = [18, 19]); kernel_rfl!)
  | fail "no")
local macro_rules | `(tactic| wtm_at "fo set") => `(tactic| first
  | (refine' ps_set (i := 14) (by assumption) rfl (by first | exact Or.inl rfl | exact Or.inr rfl) ?ka; (case ka => wtm_at "fo e"))
  | (refine' ps_set (i := 15) (by assumption) rfl (by first | exact Or.inl rfl | exact Or.inr rfl) ?ka; (case ka => wtm_at "fo e"))
  | (refine' ps_set (i := 16) (by assumption) rfl (by first | exact Or.inl rfl | exact Or.inr rfl) ?ka; (case ka => wtm_at "fo e"))
  | (refine' ps_set (i := 17) (by assumption) rfl (by first | exact Or.inl rfl | exact Or.inr rfl) ?ka; (case ka => wtm_at "fo e"))
  | (refine' ps_set (i := 18) (by assumption) rfl (by first | exact Or.inl rfl | exact Or.inr rfl) ?ka; (case ka => wtm_at "fo e"))
  | (refine' ps_set (i := 19) (by assumption) rfl (by first | exact Or.inl rfl | exact Or.inr rfl) ?ka; (case ka => wtm_at "fo e"))
  | fail "no")
local macro_rules | `(tactic| wtm_at "fo setlc") => `(tactic| first
  | (refine' ps_setLcO (i := 16) (by assumption) (by exact rfl) (by exact rfl) (by wtm_at "fo own") (by decide +kernel) rfl rfl rfl (sw_true rfl rfl rfl (by decide +kernel)) ?ki ?kg ?kt ?ke; (case ki => wtm_at "fo i"); (case kg => (intro _ _ _ _ _; wtm_at "fo g")); (case kt => (intro _ _ _ _ _; wtm_at "fo ts")); (case ke => (intro _ _ _ _ _; wtm_at "fo e")))
  | (refine' ps_setLcO (i := 17) (by assumption) (by exact rfl) (by exact rfl) (by wtm_at "fo own") (by decide +kernel) rfl rfl rfl (sw_true rfl rfl rfl (by decide +kernel)) ?ki ?kg ?kt ?ke; (case ki => wtm_at "fo i"); (case kg => (intro _ _ _ _ _; wtm_at "fo g")); (case kt => (intro _ _ _ _ _; wtm_at "fo ts")); (case ke => (intro _ _ _ _ _; wtm_at "fo e")))
  | (refine' ps_setLcO (i := 18) (by assumption) (by exact rfl) (by exact rfl) (by wtm_at "fo own") (by decide +kernel) rfl rfl rfl (sw_true rfl rfl rfl (by decide +kernel)) ?ki ?kg ?kt ?ke; (case ki => wtm_at "fo i"); (case kg => (intro _ _ _ _ _; wtm_at "fo g")); (case kt => (intro _ _ _ _ _; wtm_at "fo ts")); (case ke => (intro _ _ _ _ _; wtm_at "fo e")))
  | (refine' ps_setLcO (i := 19) (by assumption) (by exact rfl) (by exact rfl) (by wtm_at "fo own") (by decide +kernel) rfl rfl rfl (sw_true rfl rfl rfl (by decide +kernel)) ?ki ?kg ?kt ?ke; (case ki => wtm_at "fo i"); (case kg => (intro _ _ _ _ _; wtm_at "fo g")); (case kt => (intro _ _ _ _ _; wtm_at "fo ts")); (case ke => (intro _ _ _ _ _; wtm_at "fo e")))
  | fail "no")
local macro_rules | `(tactic| wtm_at "fo gn") => `(tactic| first
  | exact pg_name (i := 16) (by assumption) rfl (by first | exact Or.inl rfl | exact Or.inr rfl)
  | exact pg_name (i := 17) (by assumption) rfl (by first | exact Or.inl rfl | exact Or.inr rfl)
  | exact pg_name (i := 18) (by assumption) rfl (by first | exact Or.inl rfl | exact Or.inr rfl)
  | exact pg_name (i := 19) (by assumption) rfl (by first | exact Or.inl rfl | exact Or.inr rfl)
  | fail "no")
local macro_rules | `(tactic| wtm_at "fo s") => `(tactic| ((with_reducible show PS _ (.Assign [.Tuple _ _ _] (.Tuple _ _ _) _) _); refine' ps_asg ?ka ?kb; (case ka => wtm_at "fo e"); (case kb => wtm_at "fo g")))
/-! piece E6a -/
section
variable {P : Program} {w : World} {K : PySem.W.Frag} {mg : Str → Option Value} {base : Heap}
theorem for_rev {K : PySem.W.Frag} {a : Addr} {xs : List V} {g : TG} {tb : TS} {D : Ends} {σ : Sl} {H : Hp} (Pv : Nat → Sl → Hp → Prop) (h0 : Pv 0 σ H) (hl : ∀ i σ H, i ≤ xs.length → Pv i σ H → SqL K H a xs)
    (hs : ∀ (i : Nat) x σ H, i < xs.length → xs[xs.length - 1 - i]? = some x → Pv i σ H → g x σ H fun σ2 H2 => tb { D with nx := Pv (i + 1), ct := Pv (i + 1), bk := D.nx } σ2 H2)
    (hd : ∀ σ H, Pv xs.length σ H → D.nx σ H) :
    ∃ W : Nat → Nat → Sl → Hp → Prop, (∃ m, W 0 m σ H) ∧ ∀ i m σ H, W i m σ H →
      ((Itv K a xs.length).stop i H ∧ D.nx σ H) ∨ ((Itv K a xs.length).go i H ∧ ∃ N : Sl → Hp → Prop, (∀ σ' H', N σ' H' → ∃ m', m' < m ∧ W (i + 1) m' σ' H') ∧
        ∀ x H', (Itv K a xs.length).yld i H x H' → g x σ H' fun σ2 H2 => tb { D with nx := N, ct := N, bk := D.nx } σ2 H2) := by
  refine ⟨fun i m σ H => m = xs.length - i ∧ i ≤ xs.length ∧ Pv i σ H, ⟨xs.length, by simp, Nat.zero_le _, h0⟩, ?_⟩
  rintro i m σ H ⟨rfl, hi, p⟩
  have q := hl i σ H hi p
  by_cases hlt : i < xs.length
  · have hg : xs[xs.length - 1 - i]? = some (xs[xs.length - 1 - i]'(by omega)) := List.getElem?_eq_getElem _
    refine Or.inr ⟨⟨hlt, xs, _, q, hg⟩, Pv (i + 1), fun σ' H' p' => ⟨xs.length - (i + 1), by omega, rfl, hlt, p'⟩, ?_⟩
    rintro x H' ⟨rfl, hx⟩
    exact hs i x σ _ hlt (hx xs q) p
  · obtain rfl : i = xs.length := by omega
    exact Or.inl ⟨Nat.le_refl _, hd σ H p⟩
/-! ### whole_lot, first_target -/
@[irreducible] def spWhole : Sp := fun vs H Q _ => ∃ (r : Addr) (xs : List V) (n : Nat), vs = [.ref r] ∧ H r = some (.lst xs) ∧ xs.length = n + 1 ∧ n ≤ 100 ∧ Q (.int ((2 ^ (n + 1) - 2 : Nat) : Int)) H
theorem call_whole {r : Addr} {xs : List V} {n : Nat} {H : Hp} {Q : VK} {E : XK} (hr : H r = some (.lst xs)) (hl : xs.length = n + 1) (hn : n ≤ 100) (q : Q (.int ((2 ^ (n + 1) - 2 : Nat) : Int)) H) : spWhole [.ref r] H Q E := by
  unfold spWhole
  exact ⟨r, xs, n, rfl, hr, hl, hn, q⟩
set_option maxHeartbeats 2000000 in
theorem ok_whole {f : Addr} {fd : FuncData} (F : Fun K "whole_lot" "whole_lot" s_whole_lot f fd) (mn : mg "len" = none) : FnOk P w K mg base CX0 1 f fd ["near"] spWhole := by
  refine F.ok sc_whole_lot (fun vs H Q E h => ?_) (fun cdv A outer s H vs Q E hr h => ?_)
  · unfold spWhole at h
    obtain ⟨r, xs, n, rfl, _⟩ := h
    rfl
  · have nd := sc_whole_lot.nd
    have hS := sc_whole_lot
    have hKM : KMark K := ⟨⟩
    refine' mk_body ?body ?rd
    case body =>
      show PSs _ [_] _
      wtm_at "fo ss"
    case rd =>
     unfold spWhole at h
     obtain ⟨r, xs, n, rfl, hr0, hl, hn, q⟩ := h
     refine ⟨_, rfl, r, _, rfl, Or.inl (SqL.of hr0), _, _, rfl, rfl, ⟨by omega, by omega, by decide⟩, _, _, rfl, rfl, ?_⟩
     have e : V.int (1 * 2 ^ ((xs.length : Int)).toNat - 2) = V.int ((2 ^ (n + 1) - 2 : Nat) : Int) := by
       rw [hl, Int.one_mul, Int.toNat_natCast]
       have h2 : (2 : Nat) ≤ 2 ^ (n + 1) := by
         rw [Nat.pow_succ]
         have := Nat.one_le_two_pow (n := n)
         omega
       rw [Int.natCast_sub h2, Int.natCast_pow]
       rfl
     show Q (V.int (1 * 2 ^ ((xs.length : Int)).toNat - 2)) H
     rw [e]
     exact q
@[irreducible] def spFirst : Sp := fun vs H Q _ => ∃ (r : Addr) (n v p : Nat) (es : List Edge) (left : List Int), vs = [.ref r, .int v, .int p] ∧ n ≤ 12 ∧ Simp n es ∧ H r = some (nLst (nearB n es)) ∧ LotIs v left ∧ InNet n left ∧ 1 ≤ p ∧ p ≤ n ∧ ∀ H', Same H H' → Q (.int (ftM es left p)) H'
theorem call_first {r : Addr} {n v p : Nat} {es : List Edge} {left : List Int} {H : Hp} {Q : VK} {E : XK} (hn : n ≤ 12) (hS : Simp n es) (hr : H r = some (nLst (nearB n es))) (hv : LotIs v left) (hI : InNet n left) (h1 : 1 ≤ p) (h2 : p ≤ n)
    (q : ∀ H', Same H H' → Q (.int (ftM es left p)) H') : spFirst [.ref r, .int v, .int p] H Q E := by
  unfold spFirst
  exact ⟨r, n, v, p, es, left, rfl, hn, hS, hr, hv, hI, h1, h2, q⟩
set_option maxHeartbeats 4000000 in
theorem ok_first {f : Addr} {fd : FuncData} (F : Fun K "first_target" "first_target" s_first_target f fd) (me : mg "enumerate" = none) : FnOk P w K mg base CX0 1 f fd ["near", "lot", "place"] spFirst := by
  refine F.ok sc_first_target (fun vs H Q E h => ?_) (fun cdv A outer s H vs Q E hr h => ?_)
  · unfold spFirst at h
    obtain ⟨r, n, v, p, es, left, rfl, _⟩ := h
    rfl
  · have nd := sc_first_target.nd
    have hS := sc_first_target
    have hKM : KMark K := ⟨⟩
    refine' mk_body ?body ?rd
    case body =>
      show PSs _ [_, _, _, _] _
      wtm_at "fo ss"
    case rd =>
     unfold spFirst at h
     obtain ⟨r, n, v, p, es, left, rfl, hn, hSi, hr0, hv, hI, h1, h2, fin⟩ := h
     wtm_at "fo r"
     rw [show ((p : Int)).toNat = p by omega, bit_test, hv]
     by_cases hp : (p : Int) ∈ left
     · refine ifF (by rw [decide_eq_true hp]; rfl) ?_
       have hrE : ∀ e ∈ es, 1 ≤ e.1 ∧ 1 ≤ e.2 ∧ e.1 ≠ e.2 := fun e he => by have := hSi.rng e he; omega
       obtain ⟨m, hm, bm⟩ := nearB_bit hrE (p := p) (n := n) (by omega) (by omega)
       refine ⟨_, rfl, _, rfl, Or.inl ⟨r, _, (p : Nat), _, rfl, rfl, SqL.of hr0, at_nb hm, ?_⟩⟩
       refine ⟨_, rfl, _, _, rfl, rfl, ?_⟩
       refine ⟨_, rfl, r, _, rfl, SqL.of hr0, ?_⟩
       refine for_enum (K := K) (xs := (nearB n es).map fun (v : Nat) => V.int v) (fun i σ H3 => ∃ y4 y5, σ = [some (.ref r), some (.int v), some (.int p), some (.int (Builtin.bitAnd (m : Int) (v : Int))), y4, y5] ∧ Same H H3 ∧ ∀ j, j < i → ¬ Good es n v p j) ?_ ?_ ?_ ?_
       · exact ⟨none, none, rfl, Same.refl _, fun j h => by omega⟩
       · rintro i σ H3 _ ⟨y4, y5, rfl, sm, _⟩
         exact SqL.of (sm _ _ hr0)
       · rintro i x T σ H3 hx ⟨y4, y5, rfl, sm, hng⟩ nT
         rw [List.getElem?_map] at hx
         cases hu : (nearB n es)[i]? with
         | none => rw [hu] at hx; cases hx
         | some u =>
           rw [hu] at hx
           cases hx
           have hi : i ≤ n := by
             have := (List.getElem?_eq_some_iff.mp hu).1
             rw [nearB_length] at this
             omega
           have smT : Same H (upd H3 T (.tup [.int (i : Nat), .int u])) := same_upd sm (sm.free nT)
           refine Or.inl ⟨T, [.int (i : Nat), .int u], rfl, SqT.of upd_same, rfl, .int (i : Nat), [.int u], rfl, .int u, [], rfl, rfl, ?_⟩
           generalize upd H3 T (.tup [.int (i : Nat), .int u]) = H4 at *
           have hno : ∀ h : ¬ Good es n v p i, ∀ j, j < i + 1 → ¬ Good es n v p j := fun h j hj => by
             by_cases e : j = i
             · rw [e]; exact h
             · exact hng j (by omega)
           refine ⟨_, rfl, _, rfl, _, _, rfl, rfl, _, rfl, Or.inl ⟨rfl, _, rfl, ?_⟩⟩
           refine ite2 (fun hc => ?_) (fun hc => ?_)
           · have hc1 : u &&& (m &&& v) = m &&& v := by
               have := of_decide_eq_true hc
               simp only [bAnd] at this
               injection this with this
               exact Int.ofNat.inj this
             refine ⟨_, rfl, _, rfl, Or.inl ⟨rfl, _, rfl, ?_⟩⟩
             refine ite2 (fun hc2 => ?_) (fun hc2 => ?_)
             · have hc2 : i ≠ p := fun e => by
                 subst e
                 simp at hc2
               refine ⟨_, rfl, _, rfl, _, _, rfl, rfl, by omega, _, _, rfl, rfl, _, rfl, ?_⟩
               rw [show ((i : Int)).toNat = i by omega, bit_test]
               refine ite2 (fun hc3 => ?_) (fun hc3 => ?_)
               · have hg : Good es n v p i := ⟨u, m, hu, hm, hc1, hc2, hc3⟩
                 refine ⟨_, rfl, ?_⟩
                 have hmem := (good_iff hSi hv hI.rng hp hi).mp hg
                 have hft : ftM es left p = (i : Int) := ftM_some hp hmem fun x hx => by
                   apply Classical.byContradiction
                   intro hlt
                   have hxr := hI.rng x (onto_sub x hx)
                   refine hng x.toNat (by omega) ((good_iff hSi hv hI.rng hp (by omega)).mpr ?_)
                   rwa [show ((x.toNat : Nat) : Int) = x by omega]
                 have := fin H4 smT
                 rw [hft] at this
                 exact this
               · refine ⟨_, _, rfl, smT, hno ?_⟩
                 rintro ⟨_, _, _, _, _, _, hb⟩
                 exact hc3 hb
             · have hc2 : i = p := by
                 apply Classical.byContradiction
                 intro e
                 exact hc2 (by simp; omega)
               refine ifF rfl ⟨_, _, rfl, smT, hno ?_⟩
               rintro ⟨_, _, _, _, _, h, _⟩
               exact h hc2
           · refine ifF rfl ⟨_, _, rfl, smT, hno ?_⟩
             rintro ⟨u2, m2, hu2, hm2, h, _, _⟩
             rw [hu] at hu2
             rw [hm] at hm2
             cases hu2
             cases hm2
             exact hc (by simp only [bAnd]; rw [h]; simp)
       · rintro σ H3 ⟨y4, y5, rfl, sm, hng⟩
         rw [List.length_map, nearB_length] at hng
         have hft : ftM es left p = 0 := ftM_none fun x hx => by
           have hxr := hI.rng x (onto_sub x hx)
           refine hng x.toNat (by omega) ((good_iff hSi hv hI.rng hp (by omega)).mpr ?_)
           rwa [show ((x.toNat : Nat) : Int) = x by omega]
         have := fin H3 sm
         rw [hft] at this
         exact this
     · refine ifT (by rw [decide_eq_false hp]; rfl) ?_
       have := fin H (Same.refl _)
       rw [show ftM es left p = 0 by unfold ftM; rw [if_neg hp]] at this
       exact this
end
/-! tactics TAC4 -/
local macro_rules | `(tactic| wtm_at "fo e") => `(tactic| first
  | ((with_reducible show PE _ (.UnaryOp .Invert _ _) _); apply pe_un un_inv; wtm_at "fo e")
  | ((with_reducible show PE _ (.BoolOp .Or [_] _) _); apply pe_one; wtm_at "fo e")
  | ((with_reducible show PE _ (.BoolOp .Or _ _) _); apply pe_or; (· wtm_at "fo e"); (· wtm_at "fo e"))
  | ((with_reducible show PE _ (.BinOp _ .Mult _ _) _); apply pe_op opMulB <;> wtm_at "fo e")
  | ((with_reducible show PE _ (.BinOp _ .BitOr _ _) _); apply pe_op op_or <;> wtm_at "fo e")
  | ((with_reducible show PE _ (.Compare _ [.Is] [.Constant .none _ _] _) _); refine' pe_cmpR op_isN ?ka ?kb (nomark _); (case ka => wtm_at "fo e"); (case kb => wtm_at "fo e"))
  | fail "no")
local macro_rules | `(tactic| wtm_at "fo t") => `(tactic| first
  | ((with_reducible show PT _ (.Compare _ [.Is] [.Constant .none _ _] _) _); refine' pt_cmpR op_isN ?ka ?kb (nomark _); (case ka => wtm_at "fo e"); (case kb => wtm_at "fo e"))
  | ((with_reducible show PT _ (.Compare _ [.IsNot] [.Constant .none _ _] _) _); refine' pt_cmpR op_notN ?ka ?kb (nomark _); (case ka => wtm_at "fo e"); (case kb => wtm_at "fo e"))
  | fail "no")
local macro_rules | `(tactic| wtm_at "fo i") => `(tactic| first
  | ((with_reducible show PI _ _ (.Call (.Name (Str.ofString "enumerate") _) [_, _] [] _) _); refine' pi_enumC (by assumption) (by exact rfl) (by rfl) (by assumption) ?ka; (case ka => wtm_at "fo a"))
  | ((with_reducible show PI _ _ (.Call (.Name (Str.ofString "enumerate") _) [_] [_] _) _); refine' pi_enumS (by assumption) (by exact rfl) (by rfl) (by assumption) ?ka ?kb; (case ka => wtm_at "fo a"); (case kb => wtm_at "fo k"))
  | fail "no")
local macro_rules | `(tactic| wtm_at "fo own") => `(tactic| first
  | ((show _ = [2, 4]); kernel_rfl!)
  | ((show _ = [4, 2]); kernel_rfl!)
  | fail "no")
local macro_rules | `(tactic| wtm_at "fo v") => `(tactic| ((with_reducible show PE _ (.Name (Str.ofString "tuple") _) _); exact pe_bltn (v := .ty "tuple") (by rfl) (by assumption) (by decide +kernel) rfl))
/-! piece TO -/
section
variable {P : Program} {w : World} {K : PySem.W.Frag} {mg : Str → Option Value} {base : Heap}
/-! ### the law's onto -/
@[irreducible] def spOnto : Sp := fun vs H Q _ => ∃ (q l : Addr) (n : Nat) (es : List Edge) (left : List Int) (p : Int), vs = [.ref q, .ref l, .int p] ∧ n ≤ 12 ∧ Simp n es ∧ Lists H q (nearM n es) ∧ H l = some (iL left) ∧ InNet n left ∧ p ∈ left ∧
  ∀ r gs H', Same H H' → H r = none → H' r = some (iL gs) → (∀ x, x ∈ gs ↔ x ∈ ontoM es left p) → gs.length ≤ 12 → Q (.ref r) H'
theorem call_onto {q l : Addr} {n : Nat} {es : List Edge} {left : List Int} {p : Int} {H : Hp} {Q : VK} {E : XK} (hn : n ≤ 12) (hS : Simp n es) (hq : Lists H q (nearM n es)) (hl : H l = some (iL left)) (hI : InNet n left) (hp : p ∈ left)
    (fin : ∀ r gs H', Same H H' → H r = none → H' r = some (iL gs) → (∀ x, x ∈ gs ↔ x ∈ ontoM es left p) → gs.length ≤ 12 → Q (.ref r) H') : spOnto [.ref q, .ref l, .int p] H Q E := by
  unfold spOnto
  exact ⟨q, l, n, es, left, p, rfl, hn, hS, hq, hl, hI, hp, fin⟩
def ontoS (es : List Edge) (left : List Int) (p : Int) : List Int :=
  let some := (p :: mates p es).filter fun m => decide (m ∈ left)
  left.filter fun m => decide (m ≠ p ∧ (some.filter fun o => !decide (o ∈ m :: mates m es)) = [])
theorem ontoS_mem {es : List Edge} {left : List Int} {p q : Int} (hp : p ∈ left) : q ∈ ontoS es left p ↔ q ∈ ontoM es left p := by
  rw [ontoM_mem hp]
  unfold ontoS StepOk
  simp only [List.mem_filter, decide_eq_true_eq, List.filter_eq_nil_iff, Bool.not_eq_true', decide_eq_false_iff_not]
  constructor
  · rintro ⟨h2, h3, h4⟩
    refine ⟨hp, h2, fun e => h3 e.symm, fun z hz ha => ?_⟩
    exact Decidable.not_not.mp (h4 z ⟨ha, hz⟩)
  · rintro ⟨_, h2, h3, h4⟩
    refine ⟨h2, fun e => h3 e.symm, fun z hz => ?_⟩
    exact fun hh => hh (h4 z hz.2 hz.1)
set_option maxHeartbeats 4000000 in
theorem ok_onto {f : Addr} {fd : FuncData} (F : Fun K "_law_onto" "_law_onto" s_law_onto f fd) :
    FnOk P w K mg base CX0 1 f fd ["_law_near_here", "_law_stay", "_law_spot"] spOnto := by
  refine F.ok sc_law_onto (fun vs H Q E h => ?_) (fun cdv A outer s H vs Q E hr h => ?_)
  · unfold spOnto at h
    obtain ⟨q, l, n, es, left, p, rfl, _⟩ := h
    rfl
  · have nd := sc_law_onto.nd
    have hS := sc_law_onto
    have hKM : KMark K := ⟨⟩
    refine' mk_body ?body ?rd
    case body =>
      show PSs _ [_, _] _
      wtm_at "fo ss"
    case rd =>
     unfold spOnto at h
     obtain ⟨q, l, n, es, left, p, rfl, hn, hSi, hq, hl, hI, hp, fin⟩ := h
     wtm_at "fo r"
     obtain ⟨rs, hD, hnd, hrl, hat⟩ := hq
     have hpr := hI.rng p hp
     obtain ⟨pn, rfl⟩ : ∃ k : Nat, p = (k : Int) := ⟨p.toNat, by omega⟩
     have hrow : ∀ (m : Nat), 1 ≤ m → m ≤ n → ∃ r, rs[m]? = some r ∧ H r = some (iL ((m : Int) :: mates (m : Int) es)) := fun m h1 h2 => by
       have hg := near_get hSi h1 h2
       have hl1 : m < rs.length := by rw [hrl]; exact (List.getElem?_eq_some_iff.mp hg).1
       exact ⟨rs[m], List.getElem?_eq_getElem hl1, hat _ _ _ (List.getElem?_eq_getElem hl1) hg⟩
     have hsz : ∀ (m : Nat), 1 ≤ m → ((m : Int) :: mates (m : Int) es).length ≤ 100 := fun m _ => by
       have := nodup_le 12 (mates (m : Int) es) (mates_nodup hSi) (fun x hx => by have := mates_rng hSi x hx; omega)
       rw [List.length_cons]
       omega
     have hll : left.length ≤ 12 := nodup_le 12 left (hI.lt.imp fun h => by omega) (fun x hx => by have := hI.rng x hx; omega)
     obtain ⟨rp, hrp, hrpl⟩ := hrow pn (by omega) (by omega)
     refine Or.inl ⟨q, _, (pn : Int), .ref rp, rfl, rfl, SqL.of hD, at_of (j := pn) (by omega) (by rw [List.getElem?_map, hrp]; rfl), ?_⟩
     refine ⟨rp, rfl, ⟨_, SqL.of hrpl⟩, fun D nD => ?_⟩
     refine lc_filt (K := K) (xs := (pn : Int) :: mates (pn : Int) es) (fun m => decide (m ∈ left)) (SqL.of hrpl) nD (Nat.le_trans (hsz pn (by omega)) (by decide)) (Nat.le_of_ble_eq_true rfl) rfl (fun _ => rfl) ?_ ?_
     · intro x hx H2 sm2 R hR
       refine ⟨_, rfl, _, rfl, l, _, rfl, Or.inl (SqL.of (sm2 _ _ hl)), rfl, flat_ints _, _, rfl, ?_⟩
       show R (inV (.int x) (left.map V.int)) H2
       rw [inV_ints]
       exact hR H2 (Same.refl _)
     · intro H2 sm2 hD2
       generalize hso : ((pn : Int) :: mates (pn : Int) es).filter (fun m => decide (m ∈ left)) = some at *
       have hsl : some.length ≤ 100 := by
         rw [← hso]
         exact Nat.le_trans (List.length_filter_le ..) (hsz pn (by omega))
       refine ⟨_, rfl, l, rfl, ⟨_, SqL.of (sm2 _ _ hl)⟩, fun D2 nD2 => ?_⟩
       refine lc_filt (K := K) (xs := left) (fun m => decide (m ≠ (pn : Int) ∧ (some.filter fun o => !decide (o ∈ m :: mates m es)) = [])) (SqL.of (sm2 _ _ hl)) nD2 (Nat.le_trans hll (by decide)) (Nat.le_of_ble_eq_true rfl) rfl (fun _ => rfl) ?_ ?_
       · intro x hx H3 sm3 R hR
         have hxr := hI.rng x hx
         obtain ⟨m, rfl⟩ : ∃ k : Nat, x = (k : Int) := ⟨x.toNat, by omega⟩
         refine ⟨_, rfl, _, rfl, Or.inl ⟨rfl, _, rfl, ?_⟩⟩
         refine ite2 (fun hc => ?_) (fun hc => ?_)
         · have hc : (m : Int) ≠ (pn : Int) := by
             intro e
             rw [e] at hc
             simp at hc
           obtain ⟨rm, hrm, hrml⟩ := hrow m (by omega) (by omega)
           refine ⟨_, rfl, D, rfl, ⟨_, SqL.of (sm3 _ _ hD2)⟩, fun D3 nD3 => ?_⟩
           refine lc_filt (K := K) (xs := some) (fun o => !decide (o ∈ (m : Int) :: mates (m : Int) es)) (SqL.of (sm3 _ _ hD2)) nD3 (Nat.le_trans hsl (by decide)) (Nat.le_of_ble_eq_true rfl) rfl (fun _ => rfl) ?_ ?_
           · intro o ho H4 sm4 R2 hR2
             have s4 := (sm2.trans sm3).trans sm4
             refine ⟨_, rfl, _, rfl, _, rfl, Or.inl ⟨q, _, (m : Int), .ref rm, rfl, rfl, SqL.of (s4 _ _ hD), at_of (j := m) (by omega) (by rw [List.getElem?_map, hrm]; rfl), rm, _, rfl, Or.inl (SqL.of (s4 _ _ hrml)), rfl, flat_ints _, _, rfl, ?_⟩⟩
             show R2 (!inV (.int o) (((m : Int) :: mates (m : Int) es).map V.int)) H4
             rw [inV_ints]
             exact hR2 H4 (Same.refl _)
           · intro H4 sm4 hD4
             generalize hfl : (some.filter fun o => !decide (o ∈ (m : Int) :: mates (m : Int) es)) = fl at *
             wtm_at "fo r"
             rename_i e ne
             have hD5 := (upd_ne (o := HO.lst []) (ne_of_none hD4 ne)).trans hD4
             refine Or.inr ⟨.list (fl.map PyData.int), .list [], dp_dI' (SqL.of hD5), .lst (SqL.of upd_same) .nil, shaped_ints fl, rfl, _, rfl, ?_⟩
             rw [eqv_list_nil]
             have hRR := hR (upd H4 e (.lst [])) (sm4.trans (same_upd (Same.refl _) ne))
             rw [show decide ((m : Int) ≠ (pn : Int) ∧ fl = []) = (fl.map PyData.int).isEmpty by cases fl <;> simp [hc]] at hRR
             exact hRR
         · have hc : (m : Int) = (pn : Int) := by
             apply Classical.byContradiction
             intro e
             exact hc (by simpa using e)
           have hRR := hR H3 (Same.refl _)
           rw [decide_eq_false (fun h => h.1 hc)] at hRR
           exact hRR
       · intro H3 sm3 hD3
         have e : left.filter (fun m => decide (m ≠ (pn : Int) ∧ (some.filter fun o => !decide (o ∈ m :: mates m es)) = [])) = ontoS es left (pn : Int) := by
           unfold ontoS
           rw [hso]
         rw [e] at hD3
         refine fin D2 (ontoS es left (pn : Int)) H3 (sm2.trans sm3) (sm2.free nD2) hD3 (fun x => ontoS_mem hp) ?_
         unfold ontoS
         exact Nat.le_trans (List.length_filter_le ..) hll
end
/-! piece TF -/
section
local macro_rules | `(tactic| wtm_at "fo s") => `(tactic| first
  | ((with_reducible show PS _ (.Assign [.Name (Str.ofString "_law_stay") _] (.ListComp _ [_] _ _) _) _); refine' ps_set (i := 3) (by assumption) rfl (Or.inr rfl) ?ka; (case ka => wtm_at "fo lc"))
  | ((with_reducible show PS _ (.Assign [.Name (Str.ofString "_law_some") _] (.ListComp _ [_] _ _) _) _); refine' ps_setLcO (i := 5) (by assumption) (by exact rfl) (by exact rfl) (by wtm_at "fo own") (by decide +kernel) rfl rfl rfl (sw_true rfl rfl rfl (by decide +kernel)) ?ki ?kg ?kt ?ke; (case ki => wtm_at "fo i"); (case kg => (intro _ _ _ _ _; wtm_at "fo g")); (case kt => (intro _ _ _ _ _; wtm_at "fo ts")); (case ke => (intro _ _ _ _ _; wtm_at "fo e")))
  | fail "no")
variable {P : Program} {w : World} {K : PySem.W.Frag} {mg : Str → Option Value} {base : Heap}
theorem rgV_all (n : Nat) : rgV 1 ((n : Int) + 1) = (allM n).map V.int := by
  unfold rgV allM
  rw [List.map_map, show ((n : Int) + 1 - 1).toNat = n by omega]
  apply List.map_congr_left
  intro i _
  show V.int (1 + (i : Int)) = V.int ((i : Int) + 1)
  rw [Int.add_comm]
theorem ints_ne_refs {left : List Int} {rs : List Addr} {x : Int} (h : x ∈ left) : iL left ≠ .lst (rs.map V.ref) := by
  intro e
  unfold iL at e
  injection e with e
  cases left with
  | nil => cases h
  | cons a l => cases rs with
    | nil => simp at e
    | cons b r => simp at e
theorem Dr.ne_tup {H : Hp} {d r : Addr} {k : Int} {xs : List V} (h : Dr H d k) (hr : H r = some (.tup xs)) : r ≠ d := by
  obtain ⟨a, b, hd, _⟩ := h
  exact ne_of hr hd (by intro e; cases e)
theorem TsAt.but {H H' : Hp} {d D : Addr} {k : Int} {rs : List Addr} {es : List Edge} (h : TsAt H D rs es) (s : SameBut d H H') (hd : Dr H d k) : TsAt H' D rs es :=
  ⟨s _ _ (hd.ne_refs h.hD) h.hD, h.len, fun i r e a b => s _ _ (hd.ne_tup (h.at_ i r e a b)) (h.at_ i r e a b)⟩
/-! ### drawn full folds -/
@[irreducible] def spLFull : Sp := fun vs H Q _ => ∃ (d q : Addr) (k : Int) (n : Nat) (es : List Edge), vs = [.ref d, .ref q, .int n] ∧ Dr H d k ∧ k ≤ 900000 ∧ 1 ≤ n ∧ n ≤ 12 ∧ Simp n es ∧ Lists H q (nearM n es) ∧
  ∀ p a b rs ps left H' k', SameBut d H H' → H p = none → H a = none → H b = none → H' p = some (.tup [.ref a, .ref b]) → TsAt H' a rs ps → H' b = some (iL left) → RunL es (allM n) ps left → foldableM es left = [] →
    Dr H' d k' → k' ≤ k + 100 → Q (.ref p) H'
theorem call_lfull {d q : Addr} {k : Int} {n : Nat} {es : List Edge} {H : Hp} {Q : VK} {E : XK} (hd : Dr H d k) (hk : k ≤ 900000) (h1 : 1 ≤ n) (hn : n ≤ 12) (hS : Simp n es) (hq : Lists H q (nearM n es))
    (fin : ∀ p a b rs ps left H' k', SameBut d H H' → H p = none → H a = none → H b = none → H' p = some (.tup [.ref a, .ref b]) → TsAt H' a rs ps → H' b = some (iL left) → RunL es (allM n) ps left → foldableM es left = [] →
      Dr H' d k' → k' ≤ k + 100 → Q (.ref p) H') : spLFull [.ref d, .ref q, .int n] H Q E := by
  unfold spLFull
  exact ⟨d, q, k, n, es, rfl, hd, hk, h1, hn, hS, hq, fin⟩
set_option maxHeartbeats 4000000 in
theorem ok_lfull {f : Addr} {fd : FuncData} (F : Fun K "_law_full" "_law_full" s_law_full f fd) (mr : mg "range" = none) (ml : mg "list" = none) (mi : mg "int" = none) (mn : mg "len" = none)
    (C1 : Cal P w K mg base "_law_next" 1 ["_law_draws_here"] spNext) (C2 : Cal P w K mg base "_law_onto" 1 ["_law_near_here", "_law_stay", "_law_spot"] spOnto) :
    FnOk P w K mg base CX0 2 f fd ["_law_draws_here", "_law_near_here", "_law_size"] spLFull := by
  refine F.ok sc_law_full (fun vs H Q E h => ?_) (fun cdv A outer s H vs Q E hr h => ?_)
  · unfold spLFull at h
    obtain ⟨d, q, k, n, es, rfl, _⟩ := h
    rfl
  · have nd := sc_law_full.nd
    have hS := sc_law_full
    have hKM : KMark K := ⟨⟩
    refine' mk_body ?body ?rd
    case body =>
      show PSs _ [_, _, _, _, _] _
      wtm_at "fo ss"
    case rd =>
     unfold spLFull at h
     obtain ⟨d, q, k, n, es, rfl, hd, hk, h1, hn, hSi, hq, fin⟩ := h
     wtm_at "fo r"
     intro l nl
     rw [rgV_all n]
     have nld : l ≠ d := hd.trk nl
     have sb1 : SameBut d H (upd H l (.lst ((allM n).map V.int))) := (SameBut.refl d H).new nl
     have hl1 : (upd H l (.lst ((allM n).map V.int))) l = some (iL (allM n)) := upd_same
     have hd1 : Dr (upd H l (.lst ((allM n).map V.int))) d k := hd.same (same_upd (Same.refl _) nl)
     refine ⟨(Nat.le_of_ble_eq_true rfl : _ ≤ sizeLine), fun t nt => ?_⟩
     have nt0 : H t = none := sb1.none hd1 nt
     have smt : Same (upd H l (.lst ((allM n).map V.int))) (upd (upd H l (.lst ((allM n).map V.int))) t (.lst [])) := same_upd (Same.refl _) nt
     have ht2 : (upd (upd H l (.lst ((allM n).map V.int))) t (.lst [])) t = some (.lst []) := upd_same
     have hl2 := smt _ _ hl1
     have hd2 := hd1.same smt
     have sb2 := sb1.trans (Same.but d smt)
     generalize upd (upd H l (.lst ((allM n).map V.int))) t (.lst []) = H2 at *
     have hq2 := hq.but sb2 hd
     refine ⟨_, rfl, l, rfl, ⟨_, SqL.of hl2⟩, fun D nD => ?_⟩
     refine lc_filt (K := K) (xs := allM n) (fun p => decide (ontoM es (allM n) p ≠ [])) (SqL.of hl2) nD (by rw [all_len]; omega) (Nat.le_of_ble_eq_true rfl) rfl (fun _ => rfl) ?_ ?_
     · intro x hx H3 sm3 R hR
       refine ⟨_, rfl, _, rfl, _, rfl, ?_⟩
       refine call_onto hn hSi (hq2.same sm3) (sm3 _ _ hl2) (inNet_all n) hx (fun r gs H4 sm4 nr hr4 hgs hgl => ?_)
       wtm_at "fo r"
       rename_i e ne
       have hr5 := (upd_ne (o := HO.lst []) (ne_of_none hr4 ne)).trans hr4
       refine Or.inr ⟨.list (gs.map PyData.int), .list [], dp_dI' (SqL.of hr5), .lst (SqL.of upd_same) .nil, shaped_ints _, rfl, _, rfl, ?_⟩
       rw [eqv_list_nil]
       have hRR := hR (upd H4 e (.lst [])) (sm4.trans (same_upd (Same.refl _) ne))
       have hgn : gs = [] ↔ ontoM es (allM n) x = [] := by
         rw [List.eq_nil_iff_forall_not_mem, List.eq_nil_iff_forall_not_mem]
         exact forall_congr' fun y => not_congr (hgs y)
       rw [show decide (ontoM es (allM n) x ≠ []) = !(gs.map PyData.int).isEmpty by
         cases gs with
         | nil => simp [hgn.mp rfl]
         | cons a b => simp [show ontoM es (allM n) x ≠ [] from fun e => nomatch hgn.mpr e]] at hRR
       exact hRR
     intro H3 sm3 hD3
     have hd3 := hd2.same sm3
     have sb3 := sb2.trans (Same.but d sm3)
     have nD0 : H D = none := sb2.none hd2 nD
     have hl3 := sm3 _ _ hl2
     have ht3 := sm3 _ _ ht2
     let W : Nat → Sl → Hp → Prop := fun m σ H4 => ∃ (l t s : Addr) (y6 y7 : Option V) (rs : List Addr) (ps : List Edge) (left : List Int) (k' : Int), σ = [some (.ref d), some (.ref q), some (.int n), some (.ref l), some (.ref t), some (.ref s), y6, y7, none] ∧ m = left.length ∧ SameBut d H H4 ∧ H l = none ∧ H t = none ∧ H4 l = some (iL left) ∧
       TsAt H4 t rs ps ∧ H4 s = some (iL (foldableM es left)) ∧ RunL es (allM n) ps left ∧ Dr H4 d k' ∧ k' ≤ k + 2 * ps.length
     refine ⟨W, ⟨_, l, t, D, none, none, [], [], allM n, k, rfl, rfl, sb3, nl, nt0, hl3, TsAt.nil ht3, hD3, .nil _, hd3, by omega⟩, fun m σ H4 hW => ?_⟩
     obtain ⟨l, t, so, y6, y7, rs, ps, left, k1, rfl, rfl, sb4, nl, nt, hl4, hT4, hs4, hR, hd4, hk4⟩ := hW
     have hI := (inNet_all n).run hR
     have hl12 := hR.len12
     have hfl : (foldableM es left).length ≤ 12 := by
       unfold foldableM
       exact Nat.le_trans (List.length_filter_le ..) (Nat.le_trans hI.len hn)
     refine ⟨_, rfl, (Nat.le_of_ble_eq_true rfl : _ ≤ sizeLine), fun e ne => ?_⟩
     have smE : Same H4 (upd H4 e (.lst [])) := same_upd (Same.refl _) ne
     have hs5 := smE _ _ hs4
     refine Or.inr ⟨.list ((foldableM es left).map PyData.int), .list [], dp_dI' (SqL.of hs5), .lst (SqL.of upd_same) .nil, shaped_ints _, rfl, _, rfl, ?_⟩
     rw [eqv_list_nil]
     have hd5 := hd4.same smE
     have sb5 := sb4.trans (Same.but d smE)
     have hl5 := smE _ _ hl4
     have hT5 := hT4.same smE
     generalize upd H4 e (.lst []) = H5 at *
     by_cases hnil : foldableM es left = []
     · refine ifF (by rw [hnil]; rfl) ?_
       refine ⟨_, rfl, _, rfl, (Nat.le_of_ble_eq_true rfl : _ ≤ sizeLine), fun p np => ?_⟩
       have smp : Same H5 (upd H5 p (.tup [.ref t, .ref l])) := same_upd (Same.refl _) np
       exact fin p t l rs ps left _ k1 (sb5.trans (Same.but d smp)) (sb5.none hd5 np) nt nl upd_same (hT5.same smp) (smp _ _ hl5) hR hnil (hd5.same smp) (by omega)
     refine ifT (by cases hfo : foldableM es left with | nil => exact absurd hfo hnil | cons a b => rfl) ?_
     refine ⟨fun σ' H' => ∃ m', m' < left.length ∧ W m' σ' H', fun _ _ h => h, ?_⟩
     generalize hfr : foldableM es left = fr at *
     have hpos : (0 : Int) < ((fr.map V.int).length : Int) := by
       rw [List.length_map]
       have := List.length_pos_iff.mpr hnil
       omega
     wtm_at "fo r"
     refine call_next hd5 (by omega) (fun z H7 hz sb7 hd7 => ?_)
     have hs7 := sb7 _ _ (hd5.ne_ints hs5) hs5
     have hl7 := sb7 _ _ (hd5.ne_ints hl5) hl5
     have hT7 := hT5.but sb7 hd5
     have sb07 := sb5.trans sb7
     have hq7 := hq.but sb07 hd
     wtm_at "fo r"
     obtain ⟨j, hj, ej⟩ := mod_ix (n := z) (len := fr.length) (by rw [List.length_map] at hpos; omega)
     have hy : fr[j]? = some fr[j] := List.getElem?_eq_getElem hj
     have hym := List.getElem_mem hj
     generalize fr[j] = p at *
     refine Or.inl ⟨so, _, z % ((fr.map V.int).length : Int), .int p, rfl, rfl, SqL.of hs7, at_of (j := j) (by rw [List.length_map]; omega) (by rw [List.getElem?_map, hy]; rfl), ?_⟩
     rw [← hfr] at hym
     have hpf := List.mem_filter.mp hym
     have hpo := of_decide_eq_true hpf.2
     wtm_at "fo r"
     refine call_onto hn hSi hq7 hl7 hI hpf.1 (fun o gs H8 sm8 no ho8 hgs hgl => ?_)
     have hgne : gs ≠ [] := fun e => by
       apply hpo
       rw [List.eq_nil_iff_forall_not_mem]
       intro x hx
       have := (hgs x).mpr hx
       rw [e] at this
       cases this
     have hopos : (0 : Int) < ((gs.map V.int).length : Int) := by
       rw [List.length_map]
       have := List.length_pos_iff.mpr hgne
       omega
     have hd8 := hd7.same sm8
     have hT8 := hT7.same sm8
     have hl8 := sm8 _ _ hl7
     have sb08 := sb07.trans (Same.but d sm8)
     wtm_at "fo r"
     refine ⟨.inl ⟨rfl, _, SqL.of hT8.hD⟩, ?_⟩
     wtm_at "fo r"
     refine call_next hd8 (by omega) (fun z2 H9 hz2 sb9 hd9 => ?_)
     have ho9 := sb9 _ _ (hd8.ne_ints ho8) ho8
     have hl9 := sb9 _ _ (hd8.ne_ints hl8) hl8
     have hT9 := hT8.but sb9 hd8
     have sb09 := sb08.trans sb9
     wtm_at "fo r"
     obtain ⟨j2, hj2, ej2⟩ := mod_ix (n := z2) (len := gs.length) (by rw [List.length_map] at hopos; omega)
     have hy2 : gs[j2]? = some gs[j2] := List.getElem?_eq_getElem hj2
     have hqm := List.getElem_mem hj2
     generalize gs[j2] = g at *
     refine Or.inl ⟨o, _, z2 % ((gs.map V.int).length : Int), .int g, rfl, rfl, SqL.of ho9, at_of (j := j2) (by rw [List.length_map]; omega) (by rw [List.getElem?_map, hy2]; rfl), ?_⟩
     refine ⟨(Nat.le_of_ble_eq_true rfl : _ ≤ sizeLine), fun c nc => ?_⟩
     have htc : t ≠ c := ne_of_none hT9.hD nc
     have hPl : (rs.map V.ref).length < sizeLine := by
       rw [List.length_map, hT9.len]
       exact Nat.lt_of_le_of_lt (m := 20) (by omega) (by decide)
     refine ⟨t, _, _, rfl, rfl, (upd_ne htc).trans hT9.hD, hPl, ?_⟩
     have hT10 := hT9.push nc (p, g)
     have hlt : l ≠ t := ne_of hl9 hT9.hD (ints_ne_refs hpf.1)
     have htd : t ≠ d := hd9.ne_refs hT9.hD
     have hl10 : (upd (upd H9 c (.tup [.int p, .int g])) t (.lst (rs.map V.ref ++ [V.ref c]))) l = some (iL left) := by
       rw [upd_ne hlt]
       exact (upd_ne (ne_of_none hl9 nc)).trans hl9
     have hd10 : Dr (upd (upd H9 c (.tup [.int p, .int g])) t (.lst (rs.map V.ref ++ [V.ref c]))) d (k1 + 1 + 1) := by
       obtain ⟨a, b, e, h0⟩ := hd9
       exact ⟨a, b, by rw [upd_ne htd.symm]; exact (upd_ne (ne_of_none e nc)).trans e, h0⟩
     have sb10 : SameBut d H (upd (upd H9 c (.tup [.int p, .int g])) t (.lst (rs.map V.ref ++ [V.ref c]))) := (sb09.new (sb09.none hd9 nc)).new nt
     generalize upd (upd H9 c (.tup [.int p, .int g])) t (.lst (rs.map V.ref ++ [V.ref c])) = H10 at *
     refine ⟨_, rfl, l, rfl, ⟨_, SqL.of hl10⟩, fun L2 nL2 => ?_⟩
     refine lc_filt (K := K) (xs := left) (fun m => decide (m ≠ p)) (SqL.of hl10) nL2 (Nat.le_trans hI.len (by omega)) (Nat.le_of_ble_eq_true rfl) rfl (fun _ => rfl) ?_ ?_
     · intro x hx H11 sm11 R hR
       refine ⟨_, rfl, _, rfl, Or.inl ⟨rfl, _, rfl, ?_⟩⟩
       have hRR := hR H11 (Same.refl _)
       rw [show decide (x ≠ p) = !decide (V.int x = V.int p) by simp] at hRR
       exact hRR
     intro H11 sm11 hL11
     have hL11 : H11 L2 = some (iL (without left p)) := hL11
     have hR11 := hR.snoc hpf.1 ((hgs g).mp hqm)
     have hI11 := (inNet_all n).run hR11
     have hl11 := hR11.len12
     have sb11 := sb10.trans (Same.but d sm11)
     have hd11 := hd10.same sm11
     have hq11 := hq.but sb11 hd
     have hT11 := hT10.same sm11
     have nL0 : H L2 = none := sb10.none hd10 nL2
     have hwl : (without left p).length < left.length := by
       rw [List.length_append, List.length_singleton] at hl11
       omega
     generalize without left p = left2 at *
     refine ⟨_, rfl, L2, rfl, ⟨_, SqL.of hL11⟩, fun S2 nS2 => ?_⟩
     refine lc_filt (K := K) (xs := left2) (fun p => decide (ontoM es left2 p ≠ [])) (SqL.of hL11) nS2 (Nat.le_trans hI11.len (by omega)) (Nat.le_of_ble_eq_true rfl) rfl (fun _ => rfl) ?_ ?_
     · intro x hx H3 sm3 R hR
       refine ⟨_, rfl, _, rfl, _, rfl, ?_⟩
       refine call_onto hn hSi (hq11.same sm3) (sm3 _ _ hL11) hI11 hx (fun r gs H4 sm4 nr hr4 hgs hgl => ?_)
       wtm_at "fo r"
       rename_i e ne
       have hr5 := (upd_ne (o := HO.lst []) (ne_of_none hr4 ne)).trans hr4
       refine Or.inr ⟨.list (gs.map PyData.int), .list [], dp_dI' (SqL.of hr5), .lst (SqL.of upd_same) .nil, shaped_ints _, rfl, _, rfl, ?_⟩
       rw [eqv_list_nil]
       have hRR := hR (upd H4 e (.lst [])) (sm4.trans (same_upd (Same.refl _) ne))
       have hgn : gs = [] ↔ ontoM es left2 x = [] := by
         rw [List.eq_nil_iff_forall_not_mem, List.eq_nil_iff_forall_not_mem]
         exact forall_congr' fun y => not_congr (hgs y)
       rw [show decide (ontoM es left2 x ≠ []) = !(gs.map PyData.int).isEmpty by
         cases gs with
         | nil => simp [hgn.mp rfl]
         | cons a b => simp [show ontoM es left2 x ≠ [] from fun e => nomatch hgn.mpr e]] at hRR
       exact hRR
     intro H12 sm12 hS12
     refine ⟨left2.length, hwl, L2, t, S2, some (.int p), some (.ref o), rs ++ [c], ps ++ [(p, g)], left2, k1 + 1 + 1, rfl, rfl, sb11.trans (Same.but d sm12), nL0, nt, sm12 _ _ hL11, hT11.same sm12, hS12, hR11, hd11.same sm12, ?_⟩
     rw [List.length_append, List.length_singleton]
     omega
end
/-! piece TG -/
section
variable {P : Program} {w : World} {K : PySem.W.Frag} {mg : Str → Option Value} {base : Heap}
theorem rgV_whereE (n : Nat) : rgV 0 ((n : Int) + 1) = (whereL n []).map V.int := by
  unfold rgV whereL
  rw [List.map_map, show ((n : Int) + 1 - 0).toNat = n + 1 by omega]
  apply List.map_congr_left
  intro i _
  show V.int (0 + (i : Int)) = V.int (i : Int)
  rw [Int.zero_add]
theorem ix_nE {n j : Nat} (h : j < n) : ixN n (j : Int) = some j := by
  unfold ixN
  rw [if_pos (Int.natCast_nonneg j), if_pos (by omega)]
  rfl
/-! ### the law's map -/
@[irreducible] def spLGoals : Sp := fun vs H Q _ => ∃ (q : Addr) (rs : List Addr) (n : Nat) (ps : List Edge), vs = [.int n, .ref q] ∧ n ≤ 12 ∧ TsAt H q rs ps ∧ ps.length ≤ 100 ∧ (∀ e ∈ ps, 1 ≤ e.1 ∧ e.1 ≤ n ∧ 1 ≤ e.2 ∧ e.2 ≤ n) ∧
  ∀ r H', Same H H' → H r = none → H' r = some (iL (whereL n ps)) → Q (.ref r) H'
theorem call_lgoals {q : Addr} {rs : List Addr} {n : Nat} {ps : List Edge} {H : Hp} {Q : VK} {E : XK} (hn : n ≤ 12) (hq : TsAt H q rs ps) (hl : ps.length ≤ 100) (hr : ∀ e ∈ ps, 1 ≤ e.1 ∧ e.1 ≤ n ∧ 1 ≤ e.2 ∧ e.2 ≤ n)
    (fin : ∀ r H', Same H H' → H r = none → H' r = some (iL (whereL n ps)) → Q (.ref r) H') : spLGoals [.int n, .ref q] H Q E := by
  unfold spLGoals
  exact ⟨q, rs, n, ps, rfl, hn, hq, hl, hr, fin⟩
set_option maxHeartbeats 4000000 in
theorem ok_lgoals {f : Addr} {fd : FuncData} (F : Fun K "_law_goals" "_law_goals" s_law_goals f fd) (mr : mg "range" = none) (ml : mg "list" = none) :
    FnOk P w K mg base CX0 1 f fd ["_law_size", "_law_steps"] spLGoals := by
  refine F.ok sc_law_goals (fun vs H Q E h => ?_) (fun cdv A outer s H vs Q E hr h => ?_)
  · unfold spLGoals at h
    obtain ⟨q, rs, n, ps, rfl, _⟩ := h
    rfl
  · have nd := sc_law_goals.nd
    have hS := sc_law_goals
    have hKM : KMark K := ⟨⟩
    refine' mk_body ?body ?rd
    case body =>
      show PSs _ [_, _, _] _
      wtm_at "fo ss"
    case rd =>
     unfold spLGoals at h
     obtain ⟨q, rs, n, ps, rfl, hn, hq, hl, hrg, fin⟩ := h
     wtm_at "fo r"
     intro t nt
     have el : rgV 0 ((n : Int) + 1) = (whereL n []).map V.int := rgV_whereE n
     rw [el]
     have sm1 : Same H (upd H t (.lst ((whereL n []).map V.int))) := same_upd (Same.refl _) nt
     have ht1 : (upd H t (.lst ((whereL n []).map V.int))) t = some (iL (whereL n [])) := upd_same
     generalize upd H t (.lst ((whereL n []).map V.int)) = H1 at *
     have hq1 := hq.same sm1
     refine ⟨_, rfl, 1, rfl, _, rfl, q, _, rfl, Or.inr rfl, SqL.of hq1.hD, fun c nc => ?_⟩
     have est : stepV (some (-1)) (rs.map V.ref) = rs.reverse.map V.ref := by
       rw [List.map_reverse]; rfl
     show (fun x H1 => _) (V.ref c) (upd H1 c (.lst (stepV (some (-1)) (rs.map V.ref))))
     rw [est]
     have sm2 : Same H1 (upd H1 c (.lst (rs.reverse.map V.ref))) := same_upd (Same.refl _) nc
     have hc2 : (upd H1 c (.lst (rs.reverse.map V.ref))) c = some (.lst (rs.reverse.map V.ref)) := upd_same
     have hct : c ≠ t := (ne_of_none ht1 nc).symm
     generalize upd H1 c (.lst (rs.reverse.map V.ref)) = H2 at *
     refine ⟨c, rfl, ⟨_, SqL.of hc2⟩, ?_⟩
     refine for_list (K := K) (xs := rs.reverse.map V.ref) (fun i σ H3 => ∃ y3 y4, σ = [some (.int n), some (.ref q), some (.ref t), y3, y4] ∧ Same H H3 ∧ H3 c = some (.lst (rs.reverse.map V.ref)) ∧ H3 t = some (iL (whereL n (ps.drop (ps.length - i))))) ?_ ?_ ?_ ?_
     · refine ⟨none, none, rfl, sm1.trans sm2, hc2, ?_⟩
       rw [Nat.sub_zero, List.drop_length]
       exact sm2 _ _ ht1
     · rintro i σ H3 _ ⟨y3, y4, rfl, sm3, hc3, ht3⟩
       exact SqL.of hc3
     · rintro i x σ H3 hx ⟨y3, y4, rfl, sm3, hc3, ht3⟩
       obtain ⟨r, hr, rfl⟩ := ref_at hx
       have hi : i < rs.length := by
         have := (List.getElem?_eq_some_iff.mp hr).1
         rwa [List.length_reverse] at this
       have hi2 : i < ps.length := by rw [← hq.len]; exact hi
       rw [List.getElem?_reverse hi, hq.len] at hr
       have hpe : ps[ps.length - 1 - i]? = some (ps[ps.length - 1 - i]'(by omega)) := List.getElem?_eq_getElem _
       have hre := sm3 _ _ (hq.at_ _ _ _ hr hpe)
       have hdr : ps.drop (ps.length - (i + 1)) = (ps[ps.length - 1 - i]'(by omega)) :: ps.drop (ps.length - i) := by
         rw [show ps.length - (i + 1) = ps.length - 1 - i by omega, List.drop_eq_getElem_cons (by omega), show ps.length - 1 - i + 1 = ps.length - i by omega]
       have hrn := hrg _ (List.mem_of_getElem? hpe)
       generalize ps[ps.length - 1 - i]'(by omega) = e at *
       obtain ⟨a, b⟩ := e
       simp only at hre hrn
       obtain ⟨p, rfl⟩ : ∃ k : Nat, a = (k : Int) := ⟨a.toNat, by omega⟩
       obtain ⟨g, rfl⟩ : ∃ k : Nat, b = (k : Int) := ⟨b.toNat, by omega⟩
       refine Or.inl ⟨r, [.int p, .int g], rfl, SqT.of hre, rfl, .int p, [.int g], rfl, .int g, [], rfl, rfl, ?_⟩
       refine ⟨_, rfl, _, rfl, Or.inl ⟨t, _, (g : Int), .int (mapR (ps.drop (ps.length - i)) g), rfl, rfl, SqL.of ht3, at_of (j := g) rfl (by rw [List.getElem?_map, whereL_get (by omega)]; rfl), ?_⟩⟩
       refine ⟨_, rfl, _, rfl, t, _, _, p, rfl, rfl, ht3, ix_nE (by rw [List.length_map, whereL_length]; omega), ?_⟩
       refine ⟨_, _, rfl, same_upd sm3 nt, (upd_ne hct).trans hc3, ?_⟩
       rw [upd_same, hdr, ← whereL_set (by omega)]
       unfold iL
       rw [List.map_set]
     · rintro σ H3 ⟨y3, y4, rfl, sm3, hc3, ht3⟩
       refine ⟨_, rfl, ?_⟩
       rw [List.length_map, List.length_reverse, hq.len, Nat.sub_self, List.drop_zero] at ht3
       exact fin t H3 sm3 nt ht3
end
/-! piece PA -/
section
local macro_rules | `(tactic| wtm_at "fo e") => `(tactic| ((with_reducible show PE _ (.UnaryOp .Invert _ _) _); apply pe_un un_inv; wtm_at "fo e"))
/-! ### fold_around -/
theorem sub_and : ∀ (k v h : Nat), (v - (v &&& h)).testBit k = (v.testBit k && !h.testBit k)
  | 0, v, h => by
    have h1 := Nat.and_mod_two_eq_one (a := v) (b := h)
    have h2 : v &&& h ≤ v := Nat.and_le_left
    rw [Nat.testBit_zero, Nat.testBit_zero, Nat.testBit_zero, ← decide_not, ← Bool.decide_and]
    apply decide_eq_decide.mpr
    generalize v &&& h = m at *
    omega
  | k + 1, v, h => by
    have h1 := Nat.and_mod_two_eq_one (a := v) (b := h)
    have h2 : v &&& h ≤ v := Nat.and_le_left
    have h3 : (v &&& h) / 2 = v / 2 &&& h / 2 := Nat.and_div_two
    have h4 : (v - (v &&& h)) / 2 = v / 2 - (v / 2 &&& h / 2) := by
      rw [← h3]
      clear h3
      generalize v &&& h = m at *
      omega
    rw [Nat.testBit_succ, Nat.testBit_succ, Nat.testBit_succ, h4]
    exact sub_and k (v / 2) (h / 2)
theorem and_not_lot {v h : Nat} {left hs : List Int} (hv : LotIs v left) (hh : LotIs h hs) : ∃ u : Nat, Builtin.bitAnd (v : Int) (Builtin.bitNot (h : Int)) = (u : Int) ∧ LotIs u (left.filter fun x => decide (x ∉ hs)) := by
  have h1 : v &&& h ≤ v := Nat.and_le_left
  refine ⟨v - (v &&& h), ?_, fun k => ?_⟩
  · have e1 : Builtin.bitNot (h : Int) = -(h : Int) - 1 := rfl
    have e2 : Builtin.bitNot (Builtin.bitNot (h : Int)) = (h : Int) := by show -(-(h : Int) - 1) - 1 = (h : Int); omega
    unfold Builtin.bitAnd
    rw [decide_eq_true (Int.natCast_nonneg v), decide_eq_false (show ¬ (0 ≤ Builtin.bitNot (h : Int)) by rw [e1]; omega)]
    show (v : Int) - (((v : Int).toNat &&& (Builtin.bitNot (Builtin.bitNot (h : Int))).toNat : Nat) : Int) = _
    rw [e2, Int.toNat_natCast, Int.toNat_natCast]
    omega
  · rw [sub_and, hv, hh, ← decide_not, ← Bool.decide_and]
    apply decide_eq_decide.mpr
    rw [List.mem_filter, decide_eq_true_eq]
@[irreducible] def spAround : Sp := fun vs H Q _ => ∃ (r : Addr) (n h : Nat) (es : List Edge) (hs : List Int), vs = [.ref r, .int h] ∧ n ≤ 12 ∧ Simp n es ∧ H r = some (nLst (nearB n es)) ∧ LotIs h hs ∧
  ∀ p q rs (v : Nat) ps left H', aroundA n es hs = (left, ps) → Same H H' → H p = none → H q = none → H' p = some (.tup [.int v, .ref q]) → TsAt H' q rs ps → LotIs v left → RunL es (allM n) ps left → (∀ e ∈ ps, e.1 ∉ hs) → (∀ x ∈ left, x ∉ hs → ontoM es left x = []) → Q (.ref p) H'
theorem call_around {r : Addr} {n h : Nat} {es : List Edge} {hs : List Int} {H : Hp} {Q : VK} {E : XK} (hn : n ≤ 12) (hS : Simp n es) (hr : H r = some (nLst (nearB n es))) (hh : LotIs h hs)
    (fin : ∀ p q rs (v : Nat) ps left H', aroundA n es hs = (left, ps) → Same H H' → H p = none → H q = none → H' p = some (.tup [.int v, .ref q]) → TsAt H' q rs ps → LotIs v left → RunL es (allM n) ps left → (∀ e ∈ ps, e.1 ∉ hs) → (∀ x ∈ left, x ∉ hs → ontoM es left x = []) → Q (.ref p) H') : spAround [.ref r, .int h] H Q E := by
  unfold spAround
  exact ⟨r, n, h, es, hs, rfl, hn, hS, hr, hh, fin⟩
variable {P : Program} {w : World} {K : PySem.W.Frag} {mg : Str → Option Value} {base : Heap}
set_option maxHeartbeats 4000000 in
theorem ok_around {f : Addr} {fd : FuncData} (F : Fun K "fold_around" "fold_around" s_fold_around f fd)
    (C1 : Cal P w K mg base "whole_lot" 1 ["near"] spWhole) (C2 : Cal P w K mg base "first_target" 1 ["near", "lot", "place"] spFirst) (C3 : Cal P w K mg base "members" 1 ["lot"] spMembers) :
    FnOk P w K mg base CX0 2 f fd ["near", "held"] spAround := by
  refine F.ok sc_fold_around (fun vs H Q E h => ?_) (fun cdv A outer s H vs Q E hr h => ?_)
  · unfold spAround at h
    obtain ⟨r, n, h, es, hs, rfl, _⟩ := h
    rfl
  · have nd := sc_fold_around.nd
    have hS := sc_fold_around
    have hKM : KMark K := ⟨⟩
    refine' mk_body ?body ?rd
    case body =>
      show PSs _ [_, _, _, _, _] _
      wtm_at "fo ss"
    case rd =>
     unfold spAround at h
     obtain ⟨r, n, h, es, hs, rfl, hn, hSi, hr0, hh, fin⟩ := h
     have hrl : ((nearB n es).map fun (v : Nat) => V.int v).length = n + 1 := by rw [List.length_map, nearB_length]
     refine ⟨_, rfl, ?_⟩
     refine call_whole hr0 hrl (by omega) ?_
     refine ⟨(Nat.le_of_ble_eq_true rfl : _ ≤ sizeLine), fun q nq => ?_⟩
     have sm1 : Same H (upd H q (.lst [])) := same_upd (Same.refl _) nq
     have hq1 : (upd H q (.lst [])) q = some (.lst []) := upd_same
     generalize upd H q (.lst []) = H1 at *
     let W : Nat → Sl → Hp → Prop := fun m σ H2 => ∃ (v : Nat) (left : List Int) (ps : List Edge) (rs : List Addr) (b : Bool) (y5 y6 : Option V), σ = [some (.ref r), some (.int h), some (.int v), some (.ref q), some (.bl b), y5, y6] ∧ m = left.length + (if b then 1 else 0) ∧ Same H H2 ∧ LotIs v left ∧ TsAt H2 q rs ps ∧ RunL es (allM n) ps left ∧ (∀ e ∈ ps, e.1 ∉ hs) ∧ (b = false → ∀ x ∈ left, x ∉ hs → ontoM es left x = []) ∧ ∃ k, iterA n es hs k = (left, ps) ∧ k + left.length ≤ n ∧ (b = false → passA es hs (left, ps) = (left, ps))
     refine ⟨W, ⟨_, _, allM n, [], [], true, none, none, rfl, rfl, sm1, whole_is n, TsAt.nil hq1, .nil _, (fun e he => nomatch he), (fun hh => nomatch hh), 0, rfl, by simp [allM], (fun hh => nomatch hh)⟩, fun m σ H2 hW => ?_⟩
     obtain ⟨v, left, ps, rs, b, y5, y6, rfl, rfl, sm2, hv, hT, hR, hke, hst, kk, hkk, hkl, hpf⟩ := hW
     have hI : InNet n left := (inNet_all n).run hR
     refine ⟨_, rfl, b, rfl, ?_⟩
     cases b with
     | false =>
       refine ifF rfl ?_
       refine ⟨_, rfl, _, rfl, (Nat.le_of_ble_eq_true rfl : _ ≤ sizeLine), fun t nt => ?_⟩
       have smt : Same H2 (upd H2 t (.tup [.int v, .ref q])) := same_upd (Same.refl _) nt
       exact fin t q rs v ps left _ (by rw [aroundA_is (k := kk) (by omega) (by rw [hkk]; exact hpf rfl), hkk]) (sm2.trans smt) (sm2.free nt) nq upd_same (hT.same smt) hv hR hke (hst rfl)
     | true =>
       refine ifT rfl ?_
       refine ⟨fun σ' H' => ∃ m', m' < left.length + 1 ∧ W m' σ' H', fun _ _ h => h, ?_⟩
       obtain ⟨u, hu, hul⟩ := and_not_lot hv hh
       refine ⟨_, rfl, _, rfl, _, rfl, _, _, rfl, rfl, ?_⟩
       have hmm : ∀ Q E, spMembers [.int (u : Int)] H2 Q E → spMembers [.int (Builtin.bitAnd (v : Int) (Builtin.bitNot (h : Int)))] H2 Q E := fun _ _ hx => by rw [hu]; exact hx
       refine hmm _ _ ?_
       generalize hxs : (left.filter fun x => decide (x ∉ hs)) = xs at *
       have hxl : xs.Pairwise (· < ·) := by rw [← hxs]; exact List.Pairwise.filter _ hI.lt
       have hxm : ∀ x ∈ xs, x ∈ left ∧ x ∉ hs := fun x hx => by
         rw [← hxs] at hx
         obtain ⟨h1, h2⟩ := List.mem_filter.mp hx
         exact ⟨h1, of_decide_eq_true h2⟩
       refine call_members (Nat.lt_of_lt_of_le (lot_small hul fun x hx => (hI.rng x (hxm x hx).1).2) (Nat.pow_le_pow_right (by decide) (by omega))) (fun p H3 sm3 np hp => ?_)
       rw [members_lot hul hxl fun x hx => (hI.rng x (hxm x hx).1).1] at hp
       have hqp : q ≠ p := ne_of_none hT.hD np
       refine ⟨p, rfl, ⟨_, SqL.of hp⟩, ?_⟩
       refine for_list (K := K) (xs := xs.map V.int) (fun i σ H4 => ∃ (v2 : Nat) (left2 : List Int) (ps2 : List Edge) (rs2 : List Addr) (b2 : Bool) (y5 y6 : Option V), σ = [some (.ref r), some (.int h), some (.int v2), some (.ref q), some (.bl b2), y5, y6] ∧ Same H H4 ∧ H4 p = some (iL xs) ∧ LotIs v2 left2 ∧ TsAt H4 q rs2 ps2 ∧ RunL es (allM n) ps2 left2 ∧ (∀ e ∈ ps2, e.1 ∉ hs) ∧
         (xs.take i).foldl (stepA es) (left, ps) = (left2, ps2) ∧ (b2 = false → (left2 = left ∧ ps2 = ps) ∧ ∀ k x, k < i → xs[k]? = some x → ontoM es left x = []) ∧ (b2 = true → left2.length < left.length) ∧ (∀ k x, i ≤ k → xs[k]? = some x → x ∈ left2)) ?_ ?_ ?_ ?_
       · exact ⟨v, left, ps, rs, false, y5, y6, rfl, sm2.trans sm3, hp, hv, hT.same sm3, hR, hke, rfl, fun _ => ⟨⟨rfl, rfl⟩, fun k x hk => absurd hk (Nat.not_lt_zero k)⟩, (fun e => nomatch e), fun k x _ hx => (hxm x (List.mem_of_getElem? hx)).1⟩
       · rintro i σ H4 _ ⟨v2, left2, ps2, rs2, b2, y5, y6, rfl, sm, hp4, _⟩
         exact SqL.of hp4
       · rintro i x σ H4 hx ⟨v2, left2, ps2, rs2, b2, y5, y6, rfl, sm4, hp4, hv2, hT4, hR4, hke4, hfd, hf4, ht4, hm4⟩
         have htk : (xs.take (i + 1)).foldl (stepA es) (left, ps) = stepA es (left2, ps2) ((xs[i]?).getD 0) := by
           rw [List.take_add_one, List.foldl_append, hfd]
           cases hq : xs[i]? with
           | none => rw [List.getElem?_map, hq] at hx; cases hx
           | some r => rfl
         obtain ⟨z, hz, rfl⟩ : ∃ z, xs[i]? = some z ∧ x = V.int z := by
           rw [List.getElem?_map] at hx
           cases hq : xs[i]? with
           | none => rw [hq] at hx; cases hx
           | some r => rw [hq] at hx; exact ⟨r, rfl, (Option.some.inj hx).symm⟩
         have hI2 : InNet n left2 := (inNet_all n).run hR4
         have hz2 := hm4 i z (Nat.le_refl i) hz
         have hzr := hI2.rng z hz2
         have hzh := (hxm z (List.mem_of_getElem? hz)).2
         have hl4 := (hR4.length ((allM_lt n).imp fun h => by omega)).1
         rw [show (allM n).length = n by simp [allM]] at hl4
         obtain ⟨z, rfl⟩ : ∃ k : Nat, z = (k : Int) := ⟨z.toNat, by omega⟩
         refine ⟨_, rfl, _, rfl, _, rfl, ?_⟩
         refine call_first hn hSi (sm4 _ _ hr0) hv2 hI2 (by omega) (by omega) (fun H5 sm5 => ?_)
         have s5 := sm4.trans sm5
         have hT5 := hT4.same sm5
         have hp5 := sm5 _ _ hp4
         refine ⟨_, rfl, _, rfl, ?_⟩
         have hzero := ftM_zero (es := es) (fun x hx => (hI2.rng x hx).1) hz2
         by_cases h0 : ftM es left2 (z : Int) = 0
         · refine ifF (by rw [h0]; rfl) ?_
           refine ⟨v2, left2, ps2, rs2, b2, _, _, rfl, s5, hp5, hv2, hT5, hR4, hke4, ?_, fun e => ?_, ht4, fun k x hk => hm4 k x (by omega)⟩
           · rw [htk, hz]
             show stepA es (left2, ps2) (z : Int) = _
             unfold stepA
             rw [if_pos (hzero.mp h0)]
           obtain ⟨e1, e2⟩ := hf4 e
           refine ⟨e1, fun k x hk hx2 => ?_⟩
           by_cases hki : k = i
           · rw [hki, hz] at hx2
             cases hx2
             rw [← e1.1]
             exact hzero.mp h0
           · exact e2 k x (by omega) hx2
         · refine ifT (by simp [h0]) ?_
           have hft : ftM es left2 (z : Int) = minL (ontoM es left2 (z : Int)) := by unfold ftM; rw [if_pos hz2]
           have hgo : ftM es left2 (z : Int) ∈ ontoM es left2 (z : Int) := by
             rw [hft]
             exact minL_mem fun e => h0 (hzero.mpr e)
           have hst2 : stepA es (left2, ps2) (z : Int) = (without left2 z, ps2 ++ [((z : Int), ftM es left2 (z : Int))]) := by
             unfold stepA
             rw [if_neg (fun e => h0 (hzero.mpr e)), ← hft]
           generalize ftM es left2 (z : Int) = g at *
           refine ⟨_, rfl, .inl ⟨rfl, _, SqL.of hT5.hD⟩, ?_⟩
           refine ⟨_, rfl, _, rfl, (Nat.le_of_ble_eq_true rfl : _ ≤ sizeLine), fun c nc => ?_⟩
           have hqc : q ≠ c := ne_of_none hT5.hD nc
           have hpc : p ≠ c := ne_of_none hp5 nc
           refine ⟨q, _, _, rfl, rfl, (upd_ne hqc).trans hT5.hD, ?_, ?_⟩
           · rw [List.length_map, hT5.len]
             exact Nat.lt_of_le_of_lt (m := 20) (by omega) (by decide)
           have hT6 := hT5.push nc ((z : Int), g)
           have hR6 := hR4.snoc hz2 hgo
           have hl6 := (hR6.length ((allM_lt n).imp fun h => by omega)).1
           rw [show (allM n).length = n by simp [allM], List.length_append, List.length_singleton] at hl6
           refine ⟨_, rfl, _, rfl, _, _, rfl, rfl, ⟨by omega, by omega, by decide⟩, _, _, rfl, rfl, ?_⟩
           refine ⟨v2 ^^^ 2 ^ z, without left2 z, ps2 ++ [((z : Int), g)], rs2 ++ [c], true, some (.int z), some (.int g), ?_, same_upd (same_upd s5 (s5.free nc)) nq, ?_, xor_pow hv2 hz2, hT6, hR6, ?_, ?_, (fun e => nomatch e), fun _ => ?_, fun k x hk hx => ?_⟩
           · have e : Builtin.bitXor (v2 : Int) (1 * 2 ^ ((z : Int)).toNat) = ((v2 ^^^ 2 ^ z : Nat) : Int) := by
               rw [← bXor, Int.one_mul, Int.toNat_natCast, Int.natCast_pow]
               rfl
             show [some (V.ref r), some (V.int h), some (V.int (Builtin.bitXor (v2 : Int) (1 * 2 ^ ((z : Int)).toNat))), some (V.ref q), some (V.bl true), some (V.int z), some (V.int g)] = _
             rw [e]
           · exact (upd_ne hqp.symm).trans ((upd_ne hpc).trans hp5)
           · intro e he
             rcases List.mem_append.mp he with he | he
             · exact hke4 e he
             · rw [List.mem_singleton.mp he]
               exact hzh
           · rw [htk, hz]
             exact hst2
           · have : left2.length ≤ left.length := by
               cases b2 with
               | false => rw [(hf4 rfl).1.1]; exact Nat.le_refl _
               | true => exact Nat.le_of_lt (ht4 rfl)
             omega
           · refine without_mem.mpr ⟨hm4 k x (by omega) hx, fun e => ?_⟩
             rw [e] at hx
             have := nd_ix (hxl.imp fun h => by omega : xs.Nodup) hx hz
             omega
       · rintro σ H4 ⟨v2, left2, ps2, rs2, b2, y5, y6, rfl, sm4, hp4, hv2, hT4, hR4, hke4, hfd, hf4, ht4, hm4⟩
         rw [List.length_map, List.take_length] at hfd
         have hpp : passA es hs (left, ps) = (left2, ps2) := by unfold passA; rw [hxs]; exact hfd
         refine ⟨left2.length + (if b2 then 1 else 0), ?_, v2, left2, ps2, rs2, b2, y5, y6, rfl, rfl, sm4, hv2, hT4, hR4, hke4, fun e x hx hxh => ?_, ?_⟩
         · cases b2 with
           | false => rw [(hf4 rfl).1.1]; exact Nat.lt_succ_self _
           | true =>
             have := ht4 rfl
             simp only [if_true]
             omega
         · obtain ⟨e1, e2⟩ := hf4 e
           rw [e1.1] at hx ⊢
           obtain ⟨k, hk⟩ := List.getElem?_of_mem (show x ∈ xs by rw [← hxs]; exact List.mem_filter.mpr ⟨hx, decide_eq_true hxh⟩)
           exact e2 k x (by rw [List.length_map]; exact (List.getElem?_eq_some_iff.mp hk).1) hk
         · cases b2 with
           | false =>
             obtain ⟨e1, e2⟩ := (hf4 rfl).1
             subst e1
             subst e2
             exact ⟨kk, hkk, hkl, fun _ => hpp⟩
           | true =>
             have := ht4 rfl
             exact ⟨kk + 1, by show passA es hs (iterA n es hs kk) = _; rw [hkk]; exact hpp, by omega, (fun e => nomatch e)⟩
end
/-! piece PB -/
section
variable {P : Program} {w : World} {K : PySem.W.Frag} {mg : Str → Option Value} {base : Heap}
theorem lot_nil : LotIs 0 [] := fun k => by simp
/-- a comprehension over pairs, tuples, that filters and tells -/
theorem lc_ts {K : PySem.W.Frag} {q : Addr} {rs : List Addr} {ps : List Edge} {i j : Nat} {tt : TT} {te : TE} {vs : List Nat} {σ : Sl} {H1 : Hp} {D : Addr} {Qd : Hp → Prop} (f : Edge → Bool) (e : Edge → V)
    (hT : TsAt H1 q rs ps) (nD : H1 D = none) (hn : ps.length ≤ 10000) (hw : ∀ u v, wipe (((wipe σ vs).set i (some u)).set j (some v)) vs = wipe σ vs)
    (ht : ∀ x ∈ ps, ∀ H2, Same H1 H2 → ∀ R : Bool → Hp → Prop, (∀ H3, Same H2 H3 → R (f x) H3) → tt (((wipe σ vs).set i (some (.int x.1))).set j (some (.int x.2))) H2 R)
    (he : ∀ x ∈ ps, f x = true → ∀ H2, Same H1 H2 → ∀ R : V → Hp → Prop, (∀ H3, Same H2 H3 → R (e x) H3) → te (((wipe σ vs).set i (some (.int x.1))).set j (some (.int x.2))) H2 R)
    (hd : ∀ H2, Same H1 H2 → H2 D = some (.lst ((ps.filter f).map e)) → Qd H2) :
    ∃ W : Nat → Nat → Hp → Prop, (∃ m, W 0 m (upd H1 D (.lst []))) ∧ ∀ i' m H, W i' m H →
      ((Itl K q).stop i' H ∧ Qd H) ∨ ((Itl K q).go i' H ∧ ∃ Nx : Hp → Prop, (∀ H', Nx H' → ∃ m', m' < m ∧ W (i' + 1) m' H') ∧ ∀ x H', (Itl K q).yld i' H x H' → gOr (gTup K 2 (gCons (gName i) (gCons (gName j) gNil))) (gUnl K 2 (gCons (gName i) (gCons (gName j) gNil))) x (wipe σ vs) H' fun σ2 H2 => wipe σ2 vs = wipe σ vs ∧ tt σ2 H2 fun b H3 =>
        if b = true then te σ2 H3 fun y H4 => ∃ acc, H4 D = some (.lst acc) ∧ acc.length < sizeLine ∧ Nx (upd H4 D (.lst (acc ++ [y]))) else Nx H3) := by
  refine lc_list (K := K) (xs := rs.map V.ref) (fun k H2 => Same H1 H2 ∧ H2 D = some (.lst (((ps.take k).filter f).map e))) ⟨same_upd (Same.refl _) nD, upd_same⟩ ?_ ?_ ?_
  · rintro k H2 _ ⟨sm, _⟩
    exact SqL.of (sm _ _ hT.hD)
  · rintro k x H2 hx ⟨sm, hD⟩
    rw [List.getElem?_map] at hx
    cases hc : rs[k]? with
    | none => rw [hc] at hx; cases hx
    | some c =>
      rw [hc] at hx
      cases hx
      have hkl : k < ps.length := by rw [← hT.len]; exact (List.getElem?_eq_some_iff.mp hc).1
      have hv : ps[k]? = some ps[k] := List.getElem?_eq_getElem hkl
      have hce := sm _ _ (hT.at_ _ _ _ hc hv)
      have hm := List.getElem_mem hkl
      have htk : ps.take (k + 1) = ps.take k ++ [ps[k]] := by rw [List.take_add_one, hv]; rfl
      generalize ps[k] = y at *
      refine Or.inl ⟨c, [.int y.1, .int y.2], rfl, SqT.of hce, rfl, .int y.1, [.int y.2], rfl, .int y.2, [], rfl, rfl, ?_⟩
      refine ⟨hw _ _, ht y hm H2 sm _ fun H3 sm3 => ?_⟩
      cases hf : f y with
      | false =>
        refine ifF rfl ⟨sm.trans sm3, ?_⟩
        rw [htk, List.filter_append, List.filter_cons, hf]
        simpa using sm3 _ _ hD
      | true =>
        refine ifT rfl (he y hm hf H3 (sm.trans sm3) _ fun H4 sm4 => ?_)
        refine ⟨_, sm4 _ _ (sm3 _ _ hD), ?_, same_upd ((sm.trans sm3).trans sm4) nD, ?_⟩
        · rw [List.length_map]
          exact Nat.lt_of_le_of_lt (Nat.le_trans (List.length_filter_le ..) (Nat.le_trans (by rw [List.length_take]; exact Nat.min_le_right _ _) hn)) (by decide)
        · rw [upd_same, htk, List.filter_append, List.filter_cons, hf, List.map_append]
          simp
  · rintro H2 ⟨sm, hD⟩
    rw [List.length_map, hT.len, List.take_length] at hD
    exact hd H2 sm hD
/-! ### _order_around, full_order, end_size, all_lead -/
@[irreducible] def spOA : Sp := fun vs H Q _ => ∃ (r : Addr) (n h : Nat) (es : List Edge) (hs : List Int), vs = [.ref r, .int h] ∧ n ≤ 12 ∧ Simp n es ∧ H r = some (nLst (nearB n es)) ∧ LotIs h hs ∧
  ∀ p ps left H', aroundA n es hs = (left, ps) → Same H H' → H p = none → H' p = some (iL (ps.map (·.1))) → RunL es (allM n) ps left → (∀ e ∈ ps, e.1 ∉ hs) → (∀ x ∈ left, x ∉ hs → ontoM es left x = []) → Q (.ref p) H'
theorem call_oa {r : Addr} {n h : Nat} {es : List Edge} {hs : List Int} {H : Hp} {Q : VK} {E : XK} (hn : n ≤ 12) (hS : Simp n es) (hr : H r = some (nLst (nearB n es))) (hh : LotIs h hs)
    (fin : ∀ p ps left H', aroundA n es hs = (left, ps) → Same H H' → H p = none → H' p = some (iL (ps.map (·.1))) → RunL es (allM n) ps left → (∀ e ∈ ps, e.1 ∉ hs) → (∀ x ∈ left, x ∉ hs → ontoM es left x = []) → Q (.ref p) H') : spOA [.ref r, .int h] H Q E := by
  unfold spOA
  exact ⟨r, n, h, es, hs, rfl, hn, hS, hr, hh, fin⟩
set_option maxHeartbeats 4000000 in
theorem ok_oa {f : Addr} {fd : FuncData} (F : Fun K "_order_around" "_order_around" s_order_around f fd) (C : Cal P w K mg base "fold_around" 2 ["near", "held"] spAround) :
    FnOk P w K mg base CX0 3 f fd ["near", "held"] spOA := by
  refine F.ok sc_order_around (fun vs H Q E h => ?_) (fun cdv A outer s H vs Q E hr h => ?_)
  · unfold spOA at h
    obtain ⟨r, n, h, es, hs, rfl, _⟩ := h
    rfl
  · have nd := sc_order_around.nd
    have hS := sc_order_around
    have hKM : KMark K := ⟨⟩
    refine' mk_body ?body ?rd
    case body =>
      show PSs _ [_, _] _
      wtm_at "fo ss"
    case rd =>
     unfold spOA at h
     obtain ⟨r, n, h, es, hs, rfl, hn, hSi, hr0, hh, fin⟩ := h
     wtm_at "fo r"
     refine call_around hn hSi hr0 hh (fun p q rs v ps left H1 hA sm1 np nq hp hT hv hR hke hst => ?_)
     refine Or.inl ⟨p, [.int v, .ref q], rfl, SqT.of hp, rfl, .int v, [.ref q], rfl, .ref q, [], rfl, rfl, ?_⟩
     refine ⟨_, rfl, q, rfl, ⟨_, SqL.of hT.hD⟩, fun D nD => ?_⟩
     have hl := hR.len12
     refine lc_ts (fun _ => true) (fun e => V.int e.1) hT nD (by omega) (fun _ _ => rfl) (fun x _ H2 _ R hR => hR H2 (Same.refl _)) (fun x _ _ H2 _ R hR => ⟨_, rfl, hR H2 (Same.refl _)⟩) ?_
     intro H2 sm2 hD2
     rw [List.filter_eq_self.mpr (fun _ _ => rfl)] at hD2
     refine fin D ps left H2 hA (sm1.trans sm2) (sm1.free nD) ?_ hR hke hst
     rw [hD2]
     unfold iL
     rw [List.map_map]
     rfl
/-! what is left at last -/
structure EndOf (n : Nat) (es ps : List Edge) (left : List Int) : Prop where
  is : aroundA n es [] = (left, ps)
  run : RunL es (allM n) ps left
  st : foldableM es left = []
theorem EndOf.of {n : Nat} {es ps : List Edge} {left : List Int} (hA : aroundA n es [] = (left, ps)) (hR : RunL es (allM n) ps left) (hst : ∀ x ∈ left, x ∉ ([] : List Int) → ontoM es left x = []) : EndOf n es ps left := by
  refine ⟨hA, hR, ?_⟩
  unfold foldableM
  rw [List.filter_eq_nil_iff]
  intro x hx
  simp [hst x hx (by simp)]
@[irreducible] def spFull : Sp := fun vs H Q _ => ∃ (q : Addr) (n : Nat) (es : List Edge), vs = [.int n, .ref q] ∧ 1 ≤ n ∧ n ≤ 12 ∧ Pairs H q es ∧ Simp n es ∧ es.length ≤ 200 ∧
  ∀ p ps left H', EndOf n es ps left → Same H H' → H p = none → H' p = some (iL (ps.map (·.1))) → Q (.ref p) H'
theorem call_full {q : Addr} {n : Nat} {es : List Edge} {H : Hp} {Q : VK} {E : XK} (h1 : 1 ≤ n) (hn : n ≤ 12) (hq : Pairs H q es) (hS : Simp n es) (hl : es.length ≤ 200)
    (fin : ∀ p ps left H', EndOf n es ps left → Same H H' → H p = none → H' p = some (iL (ps.map (·.1))) → Q (.ref p) H') : spFull [.int n, .ref q] H Q E := by
  unfold spFull
  exact ⟨q, n, es, rfl, h1, hn, hq, hS, hl, fin⟩
set_option maxHeartbeats 4000000 in
theorem ok_full {f : Addr} {fd : FuncData} (F : Fun K "full_order" "full_order" s_full_order f fd) (C : Cal P w K mg base "read_net" 2 ["places", "lines"] spRead) (C2 : Cal P w K mg base "_order_around" 3 ["near", "held"] spOA) :
    FnOk P w K mg base CX0 4 f fd ["places", "lines"] spFull := by
  refine F.ok sc_full_order (fun vs H Q E h => ?_) (fun cdv A outer s H vs Q E hr h => ?_)
  · unfold spFull at h
    obtain ⟨q, n, es, rfl, _⟩ := h
    rfl
  · have nd := sc_full_order.nd
    have hS := sc_full_order
    have hKM : KMark K := ⟨⟩
    refine' mk_body ?body ?rd
    case body =>
      show PSs _ [_] _
      wtm_at "fo ss"
    case rd =>
     unfold spFull at h
     obtain ⟨q, n, es, rfl, h1, hn, hq, hSi, hl, fin⟩ := h
     wtm_at "fo r"
     refine call_read h1 hn hq hSi hl (fun r H1 sm1 nr hr1 => ?_)
     exact call_oa hn hSi hr1 lot_nil (fun p ps left H2 hA sm2 np hp hR hke hst => fin p ps left H2 (.of hA hR hst) (sm1.trans sm2) (sm1.free np) hp)
@[irreducible] def spSize : Sp := fun vs H Q _ => ∃ (q : Addr) (n : Nat) (es : List Edge), vs = [.int n, .ref q] ∧ 1 ≤ n ∧ n ≤ 12 ∧ Pairs H q es ∧ Simp n es ∧ es.length ≤ 200 ∧
  ∀ ps left H', EndOf n es ps left → Same H H' → Q (.int (left.length : Nat)) H'
theorem call_size {q : Addr} {n : Nat} {es : List Edge} {H : Hp} {Q : VK} {E : XK} (h1 : 1 ≤ n) (hn : n ≤ 12) (hq : Pairs H q es) (hS : Simp n es) (hl : es.length ≤ 200)
    (fin : ∀ ps left H', EndOf n es ps left → Same H H' → Q (.int (left.length : Nat)) H') : spSize [.int n, .ref q] H Q E := by
  unfold spSize
  exact ⟨q, n, es, rfl, h1, hn, hq, hS, hl, fin⟩
set_option maxHeartbeats 4000000 in
theorem ok_size {f : Addr} {fd : FuncData} (F : Fun K "end_size" "end_size" s_end_size f fd) (mn : mg "len" = none) (C : Cal P w K mg base "full_order" 4 ["places", "lines"] spFull) :
    FnOk P w K mg base CX0 5 f fd ["places", "lines"] spSize := by
  refine F.ok sc_end_size (fun vs H Q E h => ?_) (fun cdv A outer s H vs Q E hr h => ?_)
  · unfold spSize at h
    obtain ⟨q, n, es, rfl, _⟩ := h
    rfl
  · have nd := sc_end_size.nd
    have hS := sc_end_size
    have hKM : KMark K := ⟨⟩
    refine' mk_body ?body ?rd
    case body =>
      show PSs _ [_] _
      wtm_at "fo ss"
    case rd =>
     unfold spSize at h
     obtain ⟨q, n, es, rfl, h1, hn, hq, hSi, hl, fin⟩ := h
     wtm_at "fo r"
     refine call_full h1 hn hq hSi hl (fun p ps left H1 hE sm1 np hp => ?_)
     refine ⟨p, _, rfl, Or.inl (SqL.of hp), _, _, rfl, rfl, ?_⟩
     have hl2 := hE.run.len12
     have e : ((n : Int) - (((ps.map (·.1)).map V.int).length : Nat)) = ((left.length : Nat) : Int) := by rw [List.length_map, List.length_map]; omega
     show Q (.int ((n : Int) - (((ps.map (·.1)).map V.int).length : Nat))) H1
     rw [e]
     exact fin ps left H1 hE sm1
@[irreducible] def spAllLead : Sp := fun vs H Q _ => ∃ (q : Addr) (n : Nat) (es : List Edge), vs = [.int n, .ref q] ∧ 1 ≤ n ∧ n ≤ 12 ∧ Pairs H q es ∧ Simp n es ∧ es.length ≤ 200 ∧
  ∀ ps left H', EndOf n es ps left → Same H H' → Q (.bl (decide (left.length = 1))) H'
theorem call_alllead {q : Addr} {n : Nat} {es : List Edge} {H : Hp} {Q : VK} {E : XK} (h1 : 1 ≤ n) (hn : n ≤ 12) (hq : Pairs H q es) (hS : Simp n es) (hl : es.length ≤ 200)
    (fin : ∀ ps left H', EndOf n es ps left → Same H H' → Q (.bl (decide (left.length = 1))) H') : spAllLead [.int n, .ref q] H Q E := by
  unfold spAllLead
  exact ⟨q, n, es, rfl, h1, hn, hq, hS, hl, fin⟩
set_option maxHeartbeats 4000000 in
theorem ok_alllead {f : Addr} {fd : FuncData} (F : Fun K "all_lead" "all_lead" s_all_lead f fd) (C : Cal P w K mg base "end_size" 5 ["places", "lines"] spSize) :
    FnOk P w K mg base CX0 6 f fd ["places", "lines"] spAllLead := by
  refine F.ok sc_all_lead (fun vs H Q E h => ?_) (fun cdv A outer s H vs Q E hr h => ?_)
  · unfold spAllLead at h
    obtain ⟨q, n, es, rfl, _⟩ := h
    rfl
  · have nd := sc_all_lead.nd
    have hS := sc_all_lead
    have hKM : KMark K := ⟨⟩
    refine' mk_body ?body ?rd
    case body =>
      show PSs _ [_] _
      wtm_at "fo ss"
    case rd =>
     unfold spAllLead at h
     obtain ⟨q, n, es, rfl, h1, hn, hq, hSi, hl, fin⟩ := h
     wtm_at "fo r"
     refine call_size h1 hn hq hSi hl (fun ps left H1 hE sm1 => ?_)
     refine Or.inl ⟨rfl, ?_⟩
     have e : decide (V.int ((left.length : Nat) : Int) = V.int 1) = decide (left.length = 1) := by
       apply decide_eq_decide.mpr
       constructor
       · intro h; injection h with h; omega
       · intro h; rw [h]; rfl
     rw [e]
     exact fin ps left H1 hE sm1
end
/-! piece PFm -/
section
/-! ### rows of numbers in a list -/
structure RwAt (H : Hp) (D : Addr) (rs : List Addr) (ts : List (List Int)) : Prop where
  hD : H D = some (.lst (rs.map V.ref))
  len : rs.length = ts.length
  at_ : ∀ (i : Nat) (r : Addr) (t : List Int), rs[i]? = some r → ts[i]? = some t → H r = some (iL t)
theorem RwAt.mem {H : Hp} {D : Addr} {rs : List Addr} {ts : List (List Int)} (h : RwAt H D rs ts) {r : Addr} (hr : r ∈ rs) : ∃ t ∈ ts, H r = some (iL t) := by
  obtain ⟨i, hi⟩ := List.getElem?_of_mem hr
  have hl : i < ts.length := by rw [← h.len]; exact (List.getElem?_eq_some_iff.mp hi).1
  exact ⟨ts[i], List.getElem_mem hl, h.at_ i r _ hi (List.getElem?_eq_getElem hl)⟩
theorem iL_ne_refs {t : List Int} {rs : List Addr} (h : t ≠ [] ∨ rs ≠ []) : iL t ≠ .lst (rs.map V.ref) := by
  intro e
  unfold iL at e
  injection e with e
  cases t with
  | nil => cases rs with
    | nil => rcases h with h | h <;> exact h rfl
    | cons b r => simp at e
  | cons a l => cases rs with
    | nil => simp at e
    | cons b r => simp at e
theorem RwAt.nil {H : Hp} {D : Addr} (h : H D = some (.lst [])) : RwAt H D [] [] := ⟨h, rfl, fun i r t h _ => by simp at h⟩
theorem RwAt.same {H H' : Hp} {D : Addr} {rs : List Addr} {ts : List (List Int)} (h : RwAt H D rs ts) (s : Same H H') : RwAt H' D rs ts :=
  ⟨s _ _ h.hD, h.len, fun i r t a b => s _ _ (h.at_ i r t a b)⟩
/-- one more row, that is not the list itself -/
theorem RwAt.push {H : Hp} {D r : Addr} {rs : List Addr} {ts : List (List Int)} {t : List Int} (h : RwAt H D rs ts) (hr : H r = some (iL t)) (hrD : r ≠ D) (hnD : D ∉ rs) :
    RwAt (upd H D (.lst (rs.map V.ref ++ [V.ref r]))) D (rs ++ [r]) (ts ++ [t]) := by
  refine ⟨?_, ?_, ?_⟩
  · rw [upd_same, List.map_append]
    rfl
  · rw [List.length_append, List.length_append, h.len]
    rfl
  · intro i a u ha hu
    by_cases hi : i < rs.length
    · rw [List.getElem?_append_left hi] at ha
      rw [List.getElem?_append_left (by rw [← h.len]; exact hi)] at hu
      rw [upd_ne (fun e => hnD (by rw [← e]; exact List.mem_of_getElem? ha))]
      exact h.at_ i a u ha hu
    · rw [List.getElem?_append_right (by omega)] at ha
      rw [List.getElem?_append_right (by rw [← h.len]; omega), ← h.len] at hu
      have e0 : i - rs.length = 0 := by
        have := (List.getElem?_eq_some_iff.mp ha).1
        simp at this
        omega
      rw [e0] at ha hu
      simp at ha hu
      subst ha hu
      rw [upd_ne hrD]
      exact hr
/-- a comprehension of new rows, with a test -/
theorem lc_rows {K : PySem.W.Frag} {a : Addr} {α : Type} {inj : α → V} {xs : List α} {i : Nat} {tt : TT} {te : TE} {vs : List Nat} {σ : Sl} {H1 : Hp} {D : Addr} {Qd : Hp → Prop} (f : α → Prop) (e : α → List Int)
    (hl : SqL K H1 a (xs.map inj)) (nD : H1 D = none) (hn : xs.length ≤ 10000) (hw : ∀ v, wipe ((wipe σ vs).set i (some v)) vs = wipe σ vs)
    (ht : ∀ x ∈ xs, ∀ H2, Same H1 H2 → ∀ R : Bool → Hp → Prop, (∀ b H3, Same H2 H3 → (b = true ↔ f x) → R b H3) → tt ((wipe σ vs).set i (some (inj x))) H2 R)
    (he : ∀ x ∈ xs, f x → ∀ H2, Same H1 H2 → ∀ R : V → Hp → Prop, (∀ H3 r, Same H2 H3 → H2 r = none → H3 r = some (iL (e x)) → R (.ref r) H3) → te ((wipe σ vs).set i (some (inj x))) H2 R)
    (hd : ∀ (H2 : Hp) (rs : List Addr) (ys : List α), Same H1 H2 → RwAt H2 D rs (ys.map e) → (∀ r ∈ rs, H1 r = none) → D ∉ rs → (∀ x, x ∈ ys ↔ x ∈ xs ∧ f x) → ys.Sublist xs → Qd H2) :
    ∃ W : Nat → Nat → Hp → Prop, (∃ m, W 0 m (upd H1 D (.lst []))) ∧ ∀ i' m H, W i' m H →
      ((Itl K a).stop i' H ∧ Qd H) ∨ ((Itl K a).go i' H ∧ ∃ Nx : Hp → Prop, (∀ H', Nx H' → ∃ m', m' < m ∧ W (i' + 1) m' H') ∧ ∀ x H', (Itl K a).yld i' H x H' → gName i x (wipe σ vs) H' fun σ2 H2 => wipe σ2 vs = wipe σ vs ∧ tt σ2 H2 fun b H3 =>
        if b = true then te σ2 H3 fun y H4 => ∃ acc, H4 D = some (.lst acc) ∧ acc.length < sizeLine ∧ Nx (upd H4 D (.lst (acc ++ [y]))) else Nx H3) := by
  refine lc_list (K := K) (xs := xs.map inj) (fun j H2 => Same H1 H2 ∧ ∃ (rs : List Addr) (ys : List α), RwAt H2 D rs (ys.map e) ∧ (∀ r ∈ rs, H1 r = none) ∧ D ∉ rs ∧ (∀ x, x ∈ ys ↔ x ∈ xs.take j ∧ f x) ∧ ys.Sublist (xs.take j)) ⟨same_upd (Same.refl _) nD, [], [], RwAt.nil upd_same, (fun _ h => nomatch h), (fun h => nomatch h), (fun x => by simp), List.Sublist.refl _⟩ ?_ ?_ ?_
  · rintro j H2 _ ⟨sm, _⟩
    exact sm.seq hl
  · rintro j x H2 hx ⟨sm, rs, ys, hP, hfr, hnD, hys, hsb⟩
    rw [List.getElem?_map] at hx
    cases hv : xs[j]? with
    | none => rw [hv] at hx; cases hx
    | some y =>
      rw [hv] at hx
      cases hx
      have hm := List.mem_of_getElem? hv
      have htk : xs.take (j + 1) = xs.take j ++ [y] := by rw [List.take_add_one, hv]; rfl
      have hyl : ys.length ≤ xs.length := Nat.le_trans hsb.length_le (by rw [List.length_take]; exact Nat.min_le_right _ _)
      refine ⟨hw _, ht y hm H2 sm _ fun b H3 sm3 hb => ?_⟩
      cases b with
      | false =>
        have hf : ¬ f y := fun h => nomatch hb.mpr h
        refine ifF rfl ⟨sm.trans sm3, rs, ys, hP.same sm3, hfr, hnD, fun x => ?_, ?_⟩
        · rw [hys, htk, List.mem_append, List.mem_singleton]
          constructor
          · exact fun h => ⟨.inl h.1, h.2⟩
          · rintro ⟨h | h, h2⟩
            · exact ⟨h, h2⟩
            · exact absurd (h ▸ h2) hf
        · rw [htk]
          exact hsb.trans (List.sublist_append_left _ _)
      | true =>
        have hf : f y := hb.mp rfl
        refine ifT rfl (he y hm hf H3 (sm.trans sm3) _ fun H4 r sm4 nr hr => ?_)
        have hP4 := (hP.same sm3).same sm4
        have s3 := sm.trans sm3
        have hrD : r ≠ D := fun h => by
          have := (hP.same sm3).hD
          rw [← h, nr] at this
          cases this
        refine ⟨_, hP4.hD, ?_, same_upd (s3.trans sm4) nD, rs ++ [r], ys ++ [y], ?_, ?_, ?_, fun x => ?_, ?_⟩
        · rw [List.length_map, hP4.len, List.length_map]
          exact Nat.lt_of_le_of_lt (Nat.le_trans hyl hn) (by decide)
        · rw [List.map_append]
          exact hP4.push hr hrD hnD
        · intro c hc
          rcases List.mem_append.mp hc with hc | hc
          · exact hfr c hc
          · rw [List.mem_singleton.mp hc]
            exact s3.free nr
        · intro hc
          rcases List.mem_append.mp hc with hc | hc
          · exact hnD hc
          · exact hrD (List.mem_singleton.mp hc).symm
        · rw [List.mem_append, List.mem_singleton, hys, htk, List.mem_append, List.mem_singleton]
          constructor
          · rintro (h | h)
            · exact ⟨.inl h.1, h.2⟩
            · exact ⟨.inr h, h ▸ hf⟩
          · rintro ⟨h | h, h2⟩
            · exact .inl ⟨h, h2⟩
            · exact .inr h
        · rw [htk]
          exact hsb.append (List.Sublist.refl _)
  · rintro H2 ⟨sm, rs, ys, hP, hfr, hnD, hys, hsb⟩
    rw [List.length_map, List.take_length] at hys hsb
    exact hd H2 rs ys sm hP hfr hnD hys hsb
end
/-! piece SR -/
section
/-! ### sorted of rows -/
def rSortedR (K : PySem.W.Frag) : List V → Hp → VK → Prop := fun vs H Q => ∃ (a : Addr) (rs : List Addr) (ts : List (List Int)), vs = [V.ref a] ∧ RwAt H a rs ts ∧ rs.length ≤ 5000 ∧
  ∀ (p : Addr) (rs' : List Addr) (ts' : List (List Int)), H p = none → rs'.Perm rs → ts'.Perm ts → RwAt (upd H p (.lst (rs'.map V.ref))) p rs' ts' → Q (.ref p) (upd H p (.lst (rs'.map V.ref)))
theorem each_refsR : ∀ {out : List Value} {bs : List (Addr × List Int)}, PySem.W.EachIs (fun (v : Value) (b : Addr × List Int) => v = .ref b.1) out bs → out = (bs.map (·.1)).map Value.ref
  | _, _, .nil => rfl
  | _, _, .cons h t => by rw [h, each_refsR t]; rfl
section
variable {X : Cx}
theorem cr_sortedR (hu : X.A.units + 64 < cLine) : CallR X (.builtin "sorted") (rSortedR X.K) := by
  intro pins s σ H vs us Q I r h
  obtain ⟨a, rs, ts, rfl, hP, hlen, q⟩ := h
  obtain ⟨its, rv, hl, hz⟩ := I.list (SqL.of hP.hD)
  rw [Vals.ref1 r]
  have ei := vals_refs rv
  let bs : List (Addr × List Int) := rs.zip ts
  have hbl : bs.length = rs.length := by simp [bs, hP.len]
  let enc : Addr × List Int → PyData := fun b => .list (b.2.map .int)
  have hb1 : bs.map (·.1) = rs := by simp [bs, List.map_fst_zip, hP.len]
  have hb2 : bs.map (·.2) = ts := by simp [bs, List.map_snd_zip, hP.len]
  have hget : ∀ b ∈ bs, H b.1 = some (iL b.2) := fun b hb => by
    obtain ⟨i, hi⟩ := List.getElem?_of_mem hb
    have h1 : rs[i]? = some b.1 := by rw [← hb1, List.getElem?_map, hi]; rfl
    have h2 : ts[i]? = some b.2 := by rw [← hb2, List.getElem?_map, hi]; rfl
    exact hP.at_ i b.1 b.2 h1 h2
  have e : PySem.W.EachIs (fun (v : Value) (b : Addr × List Int) => v = .ref b.1) its bs := each_of (by rw [hbl, ei, List.length_map]) fun i v b hv hb => by
    rw [ei, List.getElem?_map] at hv
    have h1 : rs[i]? = some b.1 := by rw [← hb1, List.getElem?_map, hb]; rfl
    rw [h1] at hv
    exact (Option.some.inj hv).symm
  have er : PySem.W.EachIs (fun (v : Value) (b : Addr × List Int) => ∃ as, Reads s.heap v (enc b) as) its bs := each_of (by rw [hbl, ei, List.length_map]) fun i v b hv hb => by
    rw [ei, List.getElem?_map] at hv
    have h1 : rs[i]? = some b.1 := by rw [← hb1, List.getElem?_map, hb]; rfl
    rw [h1] at hv
    have hv := (Option.some.inj hv).symm
    exact Dp.reads I (enc b) (.ref b.1) v (.lst (SqL.of (hget b (List.mem_of_getElem? hb))) (dp_ints _)) hv
  refine PySem.W.sorted_data (enc := enc) hl.isList e er (PySem.W.AllAlike.of fun b b' => by show PySem.W.alikeAll _ _ = true; exact PySem.W.alike_ints _ _) (PySem.W.Sortable.others fun b => ⟨(fun z => nomatch z), (fun xs z => nomatch z)⟩) (by rw [hbl]; exact Nat.le_trans hlen (by decide)) (fun b _ => by
    have : (enc b).depth ≤ 1 := by show PyData.depth (.list _) ≤ 1; unfold PyData.depth; rw [PySem.W.depth_ints]; exact Nat.le_refl _
    omega) fun out h1 h2 => ?_
  generalize hbs : bs.mergeSort (PySem.W.dataLe false enc) = bs' at h2
  have hperm : bs'.Perm bs := by rw [← hbs]; exact List.mergeSort_perm _ _
  have eo := each_refsR h2
  obtain ⟨ep, he'⟩ := PyProof.Rows.sortedAll_at s.heap its out.toArray
  have hn : H (s.heap.objs.size + 1) = none := I.hok.fresh (Nat.le_succ _)
  have hlo : ((bs'.map (·.1)).map V.ref).length ≤ sizeLine := by
    rw [List.length_map, List.length_map, hperm.length_eq, hbl]
    exact Nat.le_trans hlen (by decide)
  have rvo : Vals ((bs'.map (·.1)).map V.ref) out := by rw [eo]; exact refs_vals _
  refine ⟨.ref _, upd H (s.heap.objs.size + 1) (.lst ((bs'.map (·.1)).map V.ref)), I.laid (t' := s.toks) (fun _ _ => PyProof.Rows.sortedAll_old) (Nat.le_succ _) ⟨hlo, out, ep, rvo, he'⟩, rfl, ?_⟩
  refine q _ (bs'.map (·.1)) (bs'.map (·.2)) hn ?_ ?_ ⟨upd_same, by rw [List.length_map, List.length_map], ?_⟩
  · rw [← hb1]
    exact hperm.map _
  · rw [← hb2]
    exact hperm.map _
  · intro i r e hr he
    rw [List.getElem?_map] at hr he
    cases hb : bs'[i]? with
    | none => rw [hb] at hr; cases hr
    | some b =>
      rw [hb] at hr he
      cases hr
      cases he
      have := hget b (hperm.mem_iff.mp (List.mem_of_getElem? hb))
      rw [upd_ne (ne_of_none this hn)]
      exact this
theorem cr_sortedRK {K : PySem.W.Frag} (_ : KMark K) (h : X.K = K) (hu : X.A.units + 64 < cLine) : CallR X (.builtin "sorted") (rSortedR K) := h ▸ cr_sortedR hu
end
end
/-! piece PGm -/
section
/-! ### standings -/
def plc (xs : List Int) (i : Int) : Int := xs.getD (i.toNat - 1) 0
structure Stds (m n : Nat) (xs : List Int) : Prop where
  len : xs.length = m
  rng : ∀ x ∈ xs, 1 ≤ x ∧ x ≤ n
theorem plc_get {xs : List Int} {i : Int} (h1 : 1 ≤ i) (h2 : i ≤ xs.length) : xs[i.toNat - 1]? = some (plc xs i) := by
  unfold plc
  rw [List.getD_eq_getElem?_getD, List.getElem?_eq_getElem (by omega)]
  rfl
theorem plc_mem {xs : List Int} {i : Int} (h1 : 1 ≤ i) (h2 : i ≤ xs.length) : plc xs i ∈ xs := List.mem_of_getElem? (plc_get h1 h2)
theorem Stds.plc {m n : Nat} {xs : List Int} (h : Stds m n xs) {i : Int} (h1 : 1 ≤ i) (h2 : i ≤ m) : 1 ≤ plc xs i ∧ plc xs i ≤ n := h.rng _ (plc_mem h1 (by rw [h.len]; exact h2))
theorem plc_of {xs : List Int} {k : Nat} {x : Int} (h : xs[k]? = some x) : plc xs ((k : Int) + 1) = x := by
  unfold plc
  rw [show (((k : Int) + 1)).toNat - 1 = k by omega, List.getD_eq_getElem?_getD, h]
  rfl
theorem plc_ext {xs ys : List Int} (hl : xs.length = ys.length) (h : ∀ i : Int, 1 ≤ i → i ≤ xs.length → plc xs i = plc ys i) : xs = ys := by
  apply List.ext_getElem? 
  intro k
  by_cases hk : k < xs.length
  · have h1 := plc_get (xs := xs) (i := (k : Int) + 1) (by omega) (by omega)
    have h2 := plc_get (xs := ys) (i := (k : Int) + 1) (by omega) (by omega)
    rw [show (((k : Int) + 1)).toNat - 1 = k by omega] at h1 h2
    rw [h1, h2, h _ (by omega) (by omega)]
  · rw [List.getElem?_eq_none (by omega), List.getElem?_eq_none (by omega)]
def StandOk (es fs : List Edge) (xs : List Int) : Prop := ∀ e ∈ fs, Adj es (plc xs e.1) (plc xs e.2)
instance (es fs : List Edge) (xs : List Int) : Decidable (StandOk es fs xs) := by unfold StandOk; exact inferInstance
theorem StandOk.mate {es fs : List Edge} {xs : List Int} (h : StandOk es fs xs) {i j : Int} (hj : j ∈ mates i fs) : Adj es (plc xs i) (plc xs j) := by
  rcases mem_mates.mp hj with he | he
  · exact h _ he
  · exact adj_symm _ _ (h _ he)
/-- held against the greater ones alone -/
theorem standOk_of {m : Nat} {es fs : List Edge} {xs : List Int} (hS : Simp m fs) (h : ∀ k : Nat, k < m → ∀ o ∈ mates ((k : Int) + 1) fs, (k : Int) + 1 < o → Adj es (plc xs ((k : Int) + 1)) (plc xs o)) : StandOk es fs xs := by
  intro e he
  obtain ⟨h1, h2, h3, h4, h5⟩ := hS.rng e he
  by_cases hlt : e.1 < e.2
  · have := h (e.1.toNat - 1) (by omega) e.2 (mem_mates.mpr (.inl (by rw [show ((e.1.toNat - 1 : Nat) : Int) + 1 = e.1 by omega]; exact he))) (by omega)
    rwa [show ((e.1.toNat - 1 : Nat) : Int) + 1 = e.1 by omega] at this
  · have := h (e.2.toNat - 1) (by omega) e.1 (mem_mates.mpr (.inr (by rw [show ((e.2.toNat - 1 : Nat) : Int) + 1 = e.2 by omega]; exact he))) (by omega)
    rw [show ((e.2.toNat - 1 : Nat) : Int) + 1 = e.2 by omega] at this
    exact adj_symm _ _ this
theorem Simp.pos {n : Int} {es : List Edge} (h : Simp n es) : ∀ e ∈ es, 1 ≤ e.1 ∧ 1 ≤ e.2 ∧ e.1 ≠ e.2 := fun e he => by
  have := h.rng e he
  omega
/-- the lot beside a place -/
theorem near_lot {n : Nat} {es : List Edge} (hS : Simp n es) {p : Nat} (h1 : 1 ≤ p) (h2 : p ≤ n) : ∃ u, (nearB n es)[p]? = some u ∧ (∀ k : Nat, u.testBit k = decide (Adj es (p : Int) k)) ∧ LotIs u (besideM n es p) := by
  obtain ⟨u, hu, hb⟩ := nearB_bit hS.pos h1 h2
  refine ⟨u, hu, hb, fun k => ?_⟩
  rw [hb]
  apply decide_eq_decide.mpr
  exact (besideM_mem hS (by omega) (by omega) _).symm
theorem lot_and {v u : Nat} {a b : List Int} (hv : LotIs v a) (hu : LotIs u b) : LotIs (v &&& u) (a.filter fun x => decide (x ∈ b)) := fun k => by
  rw [Nat.testBit_and, hv, hu, ← Bool.decide_and]
  apply decide_eq_decide.mpr
  rw [List.mem_filter, decide_eq_true_eq]
theorem lot_pow (p : Nat) : LotIs (2 ^ p) [(p : Int)] := fun k => by
  rw [Nat.testBit_two_pow]
  apply decide_eq_decide.mpr
  rw [List.mem_singleton]
  omega
theorem LotIs.congr {v : Nat} {a b : List Int} (h : LotIs v a) (e : ∀ x, x ∈ a ↔ x ∈ b) : LotIs v b := fun k => by
  rw [h]
  exact decide_eq_decide.mpr (e _)
def mayH (n : Nat) (es : List Edge) (xs : List Int) (x : Int) (os : List Int) : List Int := (besideM n es x).filter fun g => decide (g ≠ x ∧ ∀ o ∈ os, Adj es (plc xs o) g)
/-- where a person may go -/
def mayG (n : Nat) (es fs : List Edge) (xs : List Int) (i x : Int) : List Int := (besideM n es x).filter fun g => decide (g ≠ x ∧ ∀ o ∈ mates i fs, Adj es (plc xs o) g)
def mayM (n : Nat) (es fs : List Edge) (xs : List Int) (k : Nat) : List Edge := (List.range k).flatMap fun (i : Nat) => (mayG n es fs xs ((i : Int) + 1) (plc xs ((i : Int) + 1))).map fun g => ((i : Int) + 1, g)
theorem mayM_succ (n : Nat) (es fs : List Edge) (xs : List Int) (k : Nat) : mayM n es fs xs (k + 1) = mayM n es fs xs k ++ (mayG n es fs xs ((k : Int) + 1) (plc xs ((k : Int) + 1))).map fun g => ((k : Int) + 1, g) := by
  unfold mayM
  rw [List.range_succ, List.flatMap_append]
  simp
theorem mayG_len {n : Nat} (hn : n ≤ 12) (es fs : List Edge) (xs : List Int) (i x : Int) : (mayG n es fs xs i x).length ≤ 12 := by
  unfold mayG
  exact Nat.le_trans (List.length_filter_le ..) (besideM_length hn)
theorem mayM_len {n : Nat} (hn : n ≤ 12) (es fs : List Edge) (xs : List Int) : ∀ k, (mayM n es fs xs k).length ≤ 12 * k
  | 0 => Nat.le_refl _
  | k + 1 => by
    rw [mayM_succ, List.length_append, List.length_map]
    have := mayM_len hn es fs xs k
    have := mayG_len hn es fs xs ((k : Int) + 1) (plc xs ((k : Int) + 1))
    omega
theorem mayG_lt {n : Nat} {es fs : List Edge} {xs : List Int} {i x : Int} : (mayG n es fs xs i x).Pairwise (· < ·) := List.Pairwise.filter _ (besideM_lt n es x)
theorem mayG_mem {n : Nat} {es fs : List Edge} {xs : List Int} {i x g : Int} (hS : Simp n es) (h1 : 1 ≤ x) (h2 : x ≤ n) : g ∈ mayG n es fs xs i x ↔ Adj es x g ∧ g ≠ x ∧ ∀ o ∈ mates i fs, Adj es (plc xs o) g := by
  unfold mayG
  rw [List.mem_filter, decide_eq_true_eq, besideM_mem hS h1 h2]
  exact Iff.rfl
theorem mayM_mem {n : Nat} {es fs : List Edge} {xs : List Int} {k : Nat} {e : Edge} : e ∈ mayM n es fs xs k ↔ (1 ≤ e.1 ∧ e.1 ≤ k) ∧ e.2 ∈ mayG n es fs xs e.1 (plc xs e.1) := by
  unfold mayM
  rw [List.mem_flatMap]
  constructor
  · rintro ⟨i, hi, he⟩
    obtain ⟨g, hg, rfl⟩ := List.mem_map.mp he
    have := List.mem_range.mp hi
    exact ⟨⟨by show (1 : Int) ≤ (i : Int) + 1; omega, by show (i : Int) + 1 ≤ k; omega⟩, hg⟩
  · rintro ⟨⟨h1, h2⟩, hg⟩
    refine ⟨e.1.toNat - 1, List.mem_range.mpr (by omega), List.mem_map.mpr ⟨e.2, ?_, ?_⟩⟩
    · rw [show ((e.1.toNat - 1 : Nat) : Int) + 1 = e.1 by omega]
      exact hg
    · rw [show ((e.1.toNat - 1 : Nat) : Int) + 1 = e.1 by omega]
end
/-! piece PG -/
section
variable {P : Program} {w : World} {K : PySem.W.Frag} {mg : Str → Option Value} {base : Heap}
/-! ### _read_nets -/
@[irreducible] def spNets : Sp := fun vs H Q _ => ∃ (q q2 : Addr) (m n : Nat) (fs es : List Edge), vs = [.int m, .ref q, .int n, .ref q2] ∧ 1 ≤ m ∧ m ≤ 12 ∧ Pairs H q fs ∧ Simp m fs ∧ fs.length ≤ 200 ∧ 1 ≤ n ∧ n ≤ 12 ∧ Pairs H q2 es ∧ Simp n es ∧ es.length ≤ 200 ∧
  ∀ p r1 r2 H', Same H H' → H p = none → H' p = some (.tup [.ref r1, .ref r2]) → H' r1 = some (nLst (nearB m fs)) → H' r2 = some (nLst (nearB n es)) → Q (.ref p) H'
theorem call_nets {q q2 : Addr} {m n : Nat} {fs es : List Edge} {H : Hp} {Q : VK} {E : XK} (a1 : 1 ≤ m) (a2 : m ≤ 12) (a3 : Pairs H q fs) (a4 : Simp m fs) (a5 : fs.length ≤ 200) (b1 : 1 ≤ n) (b2 : n ≤ 12) (b3 : Pairs H q2 es) (b4 : Simp n es) (b5 : es.length ≤ 200)
    (fin : ∀ p r1 r2 H', Same H H' → H p = none → H' p = some (.tup [.ref r1, .ref r2]) → H' r1 = some (nLst (nearB m fs)) → H' r2 = some (nLst (nearB n es)) → Q (.ref p) H') : spNets [.int m, .ref q, .int n, .ref q2] H Q E := by
  unfold spNets
  exact ⟨q, q2, m, n, fs, es, rfl, a1, a2, a3, a4, a5, b1, b2, b3, b4, b5, fin⟩
set_option maxHeartbeats 4000000 in
theorem ok_nets {f : Addr} {fd : FuncData} (F : Fun K "_read_nets" "_read_nets" s_read_nets f fd) (C : Cal P w K mg base "read_net" 2 ["places", "lines"] spRead) :
    FnOk P w K mg base CX0 3 f fd ["people", "ties", "places", "lines"] spNets := by
  refine F.ok sc_read_nets (fun vs H Q E h => ?_) (fun cdv A outer s H vs Q E hr h => ?_)
  · unfold spNets at h
    obtain ⟨q, q2, m, n, fs, es, rfl, _⟩ := h
    rfl
  · have nd := sc_read_nets.nd
    have hS := sc_read_nets
    have hKM : KMark K := ⟨⟩
    refine' mk_body ?body ?rd
    case body =>
      show PSs _ [_, _] _
      wtm_at "fo ss"
    case rd =>
     unfold spNets at h
     obtain ⟨q, q2, m, n, fs, es, rfl, a1, a2, a3, a4, a5, b1, b2, b3, b4, b5, fin⟩ := h
     wtm_at "fo r"
     refine call_read a1 a2 a3 a4 a5 (fun r1 H1 sm1 n1 hr1 => ?_)
     wtm_at "fo r"
     refine call_read b1 b2 (b3.same sm1) b4 b5 (fun r2 H2 sm2 n2 hr2 => ?_)
     refine ⟨(Nat.le_of_ble_eq_true rfl : _ ≤ sizeLine), fun p np => ?_⟩
     have smp : Same H2 (upd H2 p (.tup [.ref r1, .ref r2])) := same_upd (Same.refl _) np
     have s2 := sm1.trans sm2
     exact fin p r1 r2 _ (s2.trans smp) (s2.free np) upd_same (smp _ _ (sm2 _ _ hr1)) (smp _ _ hr2)
/-! ### _check_places -/
@[irreducible] def spCheckP : Sp := fun vs H Q _ => ∃ (r1 r2 s : Addr) (as bs : List V) (m n : Nat) (xs : List Int), vs = [.ref r1, .ref r2, .ref s] ∧ H r1 = some (.lst as) ∧ as.length = m + 1 ∧ H r2 = some (.lst bs) ∧ bs.length = n + 1 ∧ H s = some (iL xs) ∧ Stds m n xs ∧ ∀ H', Same H H' → Q .non H'
theorem call_checkp {r1 r2 s : Addr} {as bs : List V} {m n : Nat} {xs : List Int} {H : Hp} {Q : VK} {E : XK} (h1 : H r1 = some (.lst as)) (l1 : as.length = m + 1) (h2 : H r2 = some (.lst bs)) (l2 : bs.length = n + 1) (h3 : H s = some (iL xs)) (h4 : Stds m n xs) (fin : ∀ H', Same H H' → Q .non H') : spCheckP [.ref r1, .ref r2, .ref s] H Q E := by
  unfold spCheckP
  exact ⟨r1, r2, s, as, bs, m, n, xs, rfl, h1, l1, h2, l2, h3, h4, fin⟩
set_option maxHeartbeats 4000000 in
theorem ok_checkp {f : Addr} {fd : FuncData} (F : Fun K "_check_places" "_check_places" s_check_places f fd) (mi : mg "isinstance" = none) (ml : mg "list" = none) (mn : mg "len" = none) (me : mg "enumerate" = none) (C : Cal P w K mg base "is_place" 1 ["place", "places"] spIsPlace) :
    FnOk P w K mg base CX0 2 f fd ["knows", "near", "standing"] spCheckP := by
  refine F.ok sc_check_places (fun vs H Q E h => ?_) (fun cdv A outer s H vs Q E hr h => ?_)
  · unfold spCheckP at h
    obtain ⟨r1, r2, s, as, bs, m, n, xs, rfl, _⟩ := h
    rfl
  · have nd := sc_check_places.nd
    have hS := sc_check_places
    have hKM : KMark K := ⟨⟩
    refine' mk_body ?body ?rd
    case body =>
      show PSs _ [_, _] _
      wtm_at "fo ss"
    case rd =>
     unfold spCheckP at h
     obtain ⟨r1, r2, st, as, bs, m, n, xs, rfl, h1, l1, h2, l2, h3, h4, fin⟩ := h
     wtm_at "fo r"
     refine ⟨.ref st, .ty "list", _, _, true, rfl, .ty "list", .base (.lst h3), kit_ty (by decide +kernel), ?_⟩
     refine ⟨true, rfl, ?_⟩
     refine ifF rfl ?_
     refine ⟨_, rfl, st, _, rfl, Or.inl (SqL.of h3), _, rfl, r1, _, rfl, Or.inl (SqL.of h1), _, _, rfl, rfl, Or.inl ⟨rfl, _, rfl, ?_⟩⟩
     have hxl : (xs.map V.int).length = m := by rw [List.length_map, h4.len]
     refine ifF (by rw [decide_eq_true (by rw [hxl, l1]; congr 1; omega)]; rfl) ?_
     refine ⟨_, rfl, st, _, rfl, SqL.of h3, ?_⟩
     refine for_enum (K := K) (xs := xs.map V.int) (fun i σ H3 => ∃ y3 y4, σ = [some (.ref r1), some (.ref r2), some (.ref st), y3, y4] ∧ Same H H3) ?_ ?_ ?_ ?_
     · exact ⟨none, none, rfl, Same.refl _⟩
     · rintro i σ H3 _ ⟨y3, y4, rfl, sm⟩
       exact SqL.of (sm _ _ h3)
     · rintro i x T σ H3 hx ⟨y3, y4, rfl, sm⟩ nT
       obtain ⟨z, hz, rfl⟩ := int_at hx
       have hzr := h4.rng z (List.mem_of_getElem? hz)
       have smT : Same H3 (upd H3 T (.tup [.int (i : Nat), .int z])) := same_upd (Same.refl _) nT
       have s4 := sm.trans smT
       refine Or.inl ⟨T, [.int (i : Nat), .int z], rfl, SqT.of upd_same, rfl, .int (i : Nat), [.int z], rfl, .int z, [], rfl, rfl, ?_⟩
       generalize upd H3 T (.tup [.int (i : Nat), .int z]) = H4 at *
       refine ⟨_, rfl, _, rfl, r2, _, rfl, Or.inl (SqL.of (s4 _ _ h2)), _, _, rfl, rfl, ?_⟩
       refine call_isplace ⟨_, rfl, ?_⟩
       refine ifF (by rw [decide_eq_true (by rw [l2]; omega)]; rfl) ?_
       exact ⟨_, _, rfl, s4⟩
     · rintro σ H3 ⟨y3, y4, rfl, sm⟩
       exact fin H3 sm
/-! ### _parted_pair -/
@[irreducible] def spPair : Sp := fun vs H Q _ => ∃ (r1 r2 s : Addr) (m n : Nat) (fs es : List Edge) (xs : List Int), vs = [.ref r1, .ref r2, .ref s] ∧ m ≤ 12 ∧ n ≤ 12 ∧ Simp m fs ∧ Simp n es ∧ H r1 = some (nLst (nearB m fs)) ∧ H r2 = some (nLst (nearB n es)) ∧ H s = some (iL xs) ∧ Stds m n xs ∧
  ∀ v H', Same H H' → (v = .non ↔ StandOk es fs xs) → Q v H'
theorem call_pair {r1 r2 s : Addr} {m n : Nat} {fs es : List Edge} {xs : List Int} {H : Hp} {Q : VK} {E : XK} (hm : m ≤ 12) (hn : n ≤ 12) (hS1 : Simp m fs) (hS2 : Simp n es) (h1 : H r1 = some (nLst (nearB m fs))) (h2 : H r2 = some (nLst (nearB n es))) (h3 : H s = some (iL xs)) (h4 : Stds m n xs)
    (fin : ∀ v H', Same H H' → (v = .non ↔ StandOk es fs xs) → Q v H') : spPair [.ref r1, .ref r2, .ref s] H Q E := by
  unfold spPair
  exact ⟨r1, r2, s, m, n, fs, es, xs, rfl, hm, hn, hS1, hS2, h1, h2, h3, h4, fin⟩
set_option maxHeartbeats 4000000 in
theorem ok_pair {f : Addr} {fd : FuncData} (F : Fun K "_parted_pair" "_parted_pair" s_parted_pair f fd) (me : mg "enumerate" = none) (C : Cal P w K mg base "members" 1 ["lot"] spMembers) :
    FnOk P w K mg base CX0 2 f fd ["knows", "near", "standing"] spPair := by
  refine F.ok sc_parted_pair (fun vs H Q E h => ?_) (fun cdv A outer s H vs Q E hr h => ?_)
  · unfold spPair at h
    obtain ⟨r1, r2, s, m, n, fs, es, xs, rfl, _⟩ := h
    rfl
  · have nd := sc_parted_pair.nd
    have hS := sc_parted_pair
    have hKM : KMark K := ⟨⟩
    refine' mk_body ?body ?rd
    case body =>
      show PSs _ [_, _] _
      wtm_at "fo ss"
    case rd =>
     unfold spPair at h
     obtain ⟨r1, r2, st, m, n, fs, es, xs, rfl, hm, hn, hS1, hS2, h1, h2, h3, h4, fin⟩ := h
     refine ⟨_, rfl, st, _, 1, rfl, rfl, SqL.of h3, ⟨by decide, by decide⟩, ?_⟩
     refine for_enumC (K := K) (xs := xs.map V.int) (fun i σ H3 => ∃ y3 y4 y5, σ = [some (.ref r1), some (.ref r2), some (.ref st), y3, y4, y5] ∧ Same H H3 ∧ ∀ k : Nat, k < i → ∀ o ∈ mates ((k : Int) + 1) fs, (k : Int) + 1 < o → Adj es (plc xs ((k : Int) + 1)) (plc xs o)) ?_ ?_ ?_ ?_
     · exact ⟨none, none, none, rfl, Same.refl _, fun k hk => absurd hk (Nat.not_lt_zero k)⟩
     · rintro i σ H3 _ ⟨y3, y4, y5, rfl, sm, _⟩
       exact SqL.of (sm _ _ h3)
     · rintro i x T σ H3 hx ⟨y3, y4, y5, rfl, sm, hgo⟩ nT
       obtain ⟨z, hz, rfl⟩ := int_at hx
       have hzr := h4.rng z (List.mem_of_getElem? hz)
       have him : i < m := by rw [← h4.len]; exact (List.getElem?_eq_some_iff.mp hz).1
       have hpz := plc_of hz
       obtain ⟨z, rfl⟩ : ∃ k : Nat, z = (k : Int) := ⟨z.toNat, by omega⟩
       have smT : Same H3 (upd H3 T (.tup [.int (1 + (i : Nat)), .int z])) := same_upd (Same.refl _) nT
       have s4 := sm.trans smT
       refine Or.inl ⟨T, [.int (1 + (i : Nat)), .int z], rfl, SqT.of upd_same, rfl, .int (1 + (i : Nat)), [.int z], rfl, .int z, [], rfl, rfl, ?_⟩
       generalize upd H3 T (.tup [.int (1 + (i : Nat)), .int z]) = H4 at *
       obtain ⟨u, hu, hub, hul⟩ := near_lot hS1 (p := i + 1) (by omega) (by omega)
       refine ⟨_, rfl, _, rfl, Or.inl ⟨r1, _, 1 + (i : Int), _, rfl, rfl, SqL.of (s4 _ _ h1), at_of (j := i + 1) (by omega) (get_nb hu), ?_⟩⟩
       refine call_members (Nat.lt_of_lt_of_le (nearB_small hS1 hu) (Nat.pow_le_pow_right (by decide) (by omega))) (fun p H5 sm5 np hp => ?_)
       rw [members_lot hul (besideM_lt m fs _) fun x hx => (besideM_rng hx).1] at hp
       have s5 := s4.trans sm5
       refine ⟨p, rfl, ⟨_, SqL.of hp⟩, ?_⟩
       obtain ⟨u2, hu2, hub2, hul2⟩ := near_lot hS2 (p := z) (by omega) (by omega)
       refine for_list (K := K) (xs := (besideM m fs ((i + 1 : Nat) : Int)).map V.int) (fun j σ H6 => ∃ y5, σ = [some (.ref r1), some (.ref r2), some (.ref st), some (.int (1 + (i : Nat))), some (.int z), y5] ∧ Same H5 H6 ∧
         ∀ (k : Nat) (o : Int), k < j → (besideM m fs ((i + 1 : Nat) : Int))[k]? = some o → (i : Int) + 1 < o → Adj es (plc xs ((i : Int) + 1)) (plc xs o)) ?_ ?_ ?_ ?_
       · exact ⟨_, rfl, Same.refl _, fun k o hk => absurd hk (Nat.not_lt_zero k)⟩
       · rintro j σ H6 _ ⟨y5, rfl, sm6, _⟩
         exact SqL.of (sm6 _ _ hp)
       · rintro j x σ H6 hx2 ⟨y5, rfl, sm6, hgj⟩
         obtain ⟨o, ho, rfl⟩ := int_at hx2
         have hor := besideM_rng (List.mem_of_getElem? ho)
         have hob := plc_get (xs := xs) (i := o) hor.1 (by rw [h4.len]; exact hor.2)
         have hopr := h4.plc hor.1 hor.2
         have s6 := s5.trans sm6
         obtain ⟨zo, hzo⟩ : ∃ k : Nat, plc xs o = (k : Int) := ⟨(plc xs o).toNat, by omega⟩
         refine ⟨_, rfl, _, rfl, _, _, rfl, rfl, _, rfl, ?_⟩
         refine ite2 (fun hc => ?_) (fun hc => ?_)
         · have hc := of_decide_eq_true hc
           refine ⟨_, rfl, _, rfl, Or.inl ⟨r2, _, (z : Int), _, rfl, rfl, SqL.of (s6 _ _ h2), at_nb hu2, ?_⟩⟩
           refine ⟨_, rfl, _, rfl, _, _, rfl, rfl, Or.inl ⟨st, _, o - 1, .int (plc xs o), rfl, rfl, SqL.of (s6 _ _ h3), at_of (j := o.toNat - 1) (by omega) (by rw [List.getElem?_map, hob]; rfl), ?_⟩⟩
           refine ⟨_, _, rfl, rfl, by omega, _, _, rfl, rfl, _, rfl, ?_⟩
           rw [hzo, show ((zo : Int)).toNat = zo by omega, bit_test, hub2]
           by_cases ha : Adj es (z : Int) (zo : Int)
           · refine ifF (by rw [decide_eq_true ha]; rfl) ⟨_, rfl, sm6, fun k o2 hk ho2 hlt => ?_⟩
             by_cases hkj : k = j
             · rw [hkj, ho] at ho2
               cases ho2
               rw [hpz, hzo]
               exact ha
             · exact hgj k o2 (by omega) ho2 hlt
           · refine ifT (by rw [decide_eq_false ha]; rfl) ?_
             refine ⟨_, rfl, _, rfl, (Nat.le_of_ble_eq_true rfl : _ ≤ sizeLine), fun c nc => ?_⟩
             refine fin _ _ (s6.trans (same_upd (Same.refl _) nc)) ⟨(fun e => nomatch e), fun hst => ?_⟩
             exfalso
             apply ha
             have hm2 : o ∈ mates ((i : Int) + 1) fs := by
               have h := (besideM_mem hS1 (p := ((i + 1 : Nat) : Int)) (by omega) (by omega) o).mp (List.mem_of_getElem? ho)
               rcases List.mem_cons.mp h with e | h
               · omega
               · exact h
             have := hst.mate hm2
             rwa [hpz, hzo] at this
         · have hc : ¬ (1 + (i : Int) < o) := fun h => hc (decide_eq_true h)
           refine ifF rfl ⟨_, rfl, sm6, fun k o2 hk ho2 hlt => ?_⟩
           by_cases hkj : k = j
           · rw [hkj, ho] at ho2
             cases ho2
             omega
           · exact hgj k o2 (by omega) ho2 hlt
       · rintro σ H6 ⟨y5, rfl, sm6, hgj⟩
         rw [List.length_map] at hgj
         refine ⟨_, _, _, rfl, s5.trans sm6, fun k hk o ho hlt => ?_⟩
         by_cases hki : k = i
         · subst hki
           obtain ⟨j, hj⟩ := List.getElem?_of_mem (show o ∈ besideM m fs ((k + 1 : Nat) : Int) from (besideM_mem hS1 (by omega) (by omega) o).mpr (List.mem_cons_of_mem _ ho))
           exact hgj j o (List.getElem?_eq_some_iff.mp hj).1 hj hlt
         · exact hgo k (by omega) o ho hlt
     · rintro σ H3 ⟨y3, y4, y5, rfl, sm, hgo⟩
       rw [List.length_map, h4.len] at hgo
       exact fin .non H3 sm ⟨fun _ => standOk_of hS1 hgo, fun _ => rfl⟩
end
/-! piece PH -/
section
variable {P : Program} {w : World} {K : PySem.W.Frag} {mg : Str → Option Value} {base : Heap}
/-! ### _check_standing, is_standing -/
@[irreducible] def spCheckS : Sp := fun vs H Q _ => ∃ (r1 r2 s : Addr) (m n : Nat) (fs es : List Edge) (xs : List Int), vs = [.ref r1, .ref r2, .ref s] ∧ m ≤ 12 ∧ n ≤ 12 ∧ Simp m fs ∧ Simp n es ∧ H r1 = some (nLst (nearB m fs)) ∧ H r2 = some (nLst (nearB n es)) ∧ H s = some (iL xs) ∧ Stds m n xs ∧ StandOk es fs xs ∧
  ∀ H', Same H H' → Q .non H'
theorem call_checks {r1 r2 s : Addr} {m n : Nat} {fs es : List Edge} {xs : List Int} {H : Hp} {Q : VK} {E : XK} (hm : m ≤ 12) (hn : n ≤ 12) (hS1 : Simp m fs) (hS2 : Simp n es) (h1 : H r1 = some (nLst (nearB m fs))) (h2 : H r2 = some (nLst (nearB n es))) (h3 : H s = some (iL xs)) (h4 : Stds m n xs) (h5 : StandOk es fs xs)
    (fin : ∀ H', Same H H' → Q .non H') : spCheckS [.ref r1, .ref r2, .ref s] H Q E := by
  unfold spCheckS
  exact ⟨r1, r2, s, m, n, fs, es, xs, rfl, hm, hn, hS1, hS2, h1, h2, h3, h4, h5, fin⟩
theorem nb_len (n : Nat) (es : List Edge) : ((nearB n es).map fun (v : Nat) => V.int v).length = n + 1 := by rw [List.length_map, nearB_length]
set_option maxHeartbeats 4000000 in
theorem ok_checks {f : Addr} {fd : FuncData} (F : Fun K "_check_standing" "_check_standing" s_check_standing f fd) (C : Cal P w K mg base "_check_places" 2 ["knows", "near", "standing"] spCheckP) (C2 : Cal P w K mg base "_parted_pair" 2 ["knows", "near", "standing"] spPair) :
    FnOk P w K mg base CX0 3 f fd ["knows", "near", "standing"] spCheckS := by
  refine F.ok sc_check_standing (fun vs H Q E h => ?_) (fun cdv A outer s H vs Q E hr h => ?_)
  · unfold spCheckS at h
    obtain ⟨r1, r2, s, m, n, fs, es, xs, rfl, _⟩ := h
    rfl
  · have nd := sc_check_standing.nd
    have hS := sc_check_standing
    have hKM : KMark K := ⟨⟩
    refine' mk_body ?body ?rd
    case body =>
      show PSs _ [_, _, _] _
      wtm_at "fo ss"
    case rd =>
     unfold spCheckS at h
     obtain ⟨r1, r2, st, m, n, fs, es, xs, rfl, hm, hn, hS1, hS2, h1, h2, h3, h4, h5, fin⟩ := h
     wtm_at "fo r"
     refine call_checkp h1 (nb_len m fs) h2 (nb_len n es) h3 h4 (fun H1 sm1 => ?_)
     wtm_at "fo r"
     refine call_pair hm hn hS1 hS2 (sm1 _ _ h1) (sm1 _ _ h2) (sm1 _ _ h3) h4 (fun v H2 sm2 hv => ?_)
     obtain rfl := hv.mpr h5
     refine ⟨_, rfl, rfl, _, rfl, ifF rfl ?_⟩
     exact fin H2 (sm1.trans sm2)
@[irreducible] def spIsStand : Sp := fun vs H Q _ => ∃ (q q2 s : Addr) (m n : Nat) (fs es : List Edge) (xs : List Int), vs = [.int m, .ref q, .int n, .ref q2, .ref s] ∧ 1 ≤ m ∧ m ≤ 12 ∧ Pairs H q fs ∧ Simp m fs ∧ fs.length ≤ 200 ∧ 1 ≤ n ∧ n ≤ 12 ∧ Pairs H q2 es ∧ Simp n es ∧ es.length ≤ 200 ∧ H s = some (iL xs) ∧ Stds m n xs ∧
  ∀ H', Same H H' → Q (.bl (decide (StandOk es fs xs))) H'
theorem call_isstand {q q2 s : Addr} {m n : Nat} {fs es : List Edge} {xs : List Int} {H : Hp} {Q : VK} {E : XK} (a1 : 1 ≤ m) (a2 : m ≤ 12) (a3 : Pairs H q fs) (a4 : Simp m fs) (a5 : fs.length ≤ 200) (b1 : 1 ≤ n) (b2 : n ≤ 12) (b3 : Pairs H q2 es) (b4 : Simp n es) (b5 : es.length ≤ 200) (c1 : H s = some (iL xs)) (c2 : Stds m n xs)
    (fin : ∀ H', Same H H' → Q (.bl (decide (StandOk es fs xs))) H') : spIsStand [.int m, .ref q, .int n, .ref q2, .ref s] H Q E := by
  unfold spIsStand
  exact ⟨q, q2, s, m, n, fs, es, xs, rfl, a1, a2, a3, a4, a5, b1, b2, b3, b4, b5, c1, c2, fin⟩
set_option maxHeartbeats 4000000 in
theorem ok_isstand {f : Addr} {fd : FuncData} (F : Fun K "is_standing" "is_standing" s_is_standing f fd) (C : Cal P w K mg base "_read_nets" 3 ["people", "ties", "places", "lines"] spNets) (C2 : Cal P w K mg base "_check_places" 2 ["knows", "near", "standing"] spCheckP) (C3 : Cal P w K mg base "_parted_pair" 2 ["knows", "near", "standing"] spPair) :
    FnOk P w K mg base CX0 4 f fd ["people", "ties", "places", "lines", "standing"] spIsStand := by
  refine F.ok sc_is_standing (fun vs H Q E h => ?_) (fun cdv A outer s H vs Q E hr h => ?_)
  · unfold spIsStand at h
    obtain ⟨q, q2, s, m, n, fs, es, xs, rfl, _⟩ := h
    rfl
  · have nd := sc_is_standing.nd
    have hS := sc_is_standing
    have hKM : KMark K := ⟨⟩
    refine' mk_body ?body ?rd
    case body =>
      show PSs _ [_, _, _] _
      wtm_at "fo ss"
    case rd =>
     unfold spIsStand at h
     obtain ⟨q, q2, st, m, n, fs, es, xs, rfl, a1, a2, a3, a4, a5, b1, b2, b3, b4, b5, c1, c2, fin⟩ := h
     wtm_at "fo r"
     refine call_nets a1 a2 a3 a4 a5 b1 b2 b3 b4 b5 (fun p r1 r2 H1 sm1 np hp hr1 hr2 => ?_)
     refine Or.inl ⟨p, [.ref r1, .ref r2], rfl, SqT.of hp, rfl, .ref r1, [.ref r2], rfl, .ref r2, [], rfl, rfl, ?_⟩
     wtm_at "fo r"
     refine call_checkp hr1 (nb_len m fs) hr2 (nb_len n es) (sm1 _ _ c1) c2 (fun H2 sm2 => ?_)
     wtm_at "fo r"
     have s2 := sm1.trans sm2
     refine call_pair a2 b2 a4 b4 (sm2 _ _ hr1) (sm2 _ _ hr2) (s2 _ _ c1) c2 (fun v H3 sm3 hv => ?_)
     refine ⟨rfl, ?_⟩
     rw [show decide (v = .non) = decide (StandOk es fs xs) from decide_eq_decide.mpr hv]
     exact fin H3 (s2.trans sm3)
end
/-! piece PM -/
section
local macro_rules | `(tactic| wtm_at "fo s") => `(tactic| ((with_reducible show PS _ (.AugAssign (.Name _ _) .BitAnd _ _) _); refine' ps_aug (i := 10) (by assumption) rfl (by first | exact Or.inl rfl | exact Or.inr rfl) ?ka ip_and; (case ka => wtm_at "fo e")))
local macro_rules | `(tactic| wtm_at "fo meth") => `(tactic| ((with_reducible show PE _ (.Call (.Attribute _ (Str.ofString "extend") _) _ _ _) _); refine' pe_bm PySem.F.plainAttrs_list PySem.F.slot_list_extend PySem.F.type_list_extend mt_extend ?ka ?kb; (case ka => wtm_at "fo e"); (case kb => wtm_at "fo a")))
variable {P : Program} {w : World} {K : PySem.W.Frag} {mg : Str → Option Value} {base : Heap}
@[irreducible] def spMayGo : Sp := fun vs H Q _ => ∃ (q q2 s : Addr) (m n : Nat) (fs es : List Edge) (xs : List Int), vs = [.int m, .ref q, .int n, .ref q2, .ref s] ∧ 1 ≤ m ∧ m ≤ 12 ∧ Pairs H q fs ∧ Simp m fs ∧ fs.length ≤ 200 ∧ 1 ≤ n ∧ n ≤ 12 ∧ Pairs H q2 es ∧ Simp n es ∧ es.length ≤ 200 ∧ H s = some (iL xs) ∧ Stds m n xs ∧ StandOk es fs xs ∧
  ∀ p rs H', Same H H' → H p = none → PsF H H' p rs (mayM n es fs xs m) → Q (.ref p) H'
theorem call_maygo {q q2 s : Addr} {m n : Nat} {fs es : List Edge} {xs : List Int} {H : Hp} {Q : VK} {E : XK} (a1 : 1 ≤ m) (a2 : m ≤ 12) (a3 : Pairs H q fs) (a4 : Simp m fs) (a5 : fs.length ≤ 200) (b1 : 1 ≤ n) (b2 : n ≤ 12) (b3 : Pairs H q2 es) (b4 : Simp n es) (b5 : es.length ≤ 200) (c1 : H s = some (iL xs)) (c2 : Stds m n xs) (c3 : StandOk es fs xs)
    (fin : ∀ p rs H', Same H H' → H p = none → PsF H H' p rs (mayM n es fs xs m) → Q (.ref p) H') : spMayGo [.int m, .ref q, .int n, .ref q2, .ref s] H Q E := by
  unfold spMayGo
  exact ⟨q, q2, s, m, n, fs, es, xs, rfl, a1, a2, a3, a4, a5, b1, b2, b3, b4, b5, c1, c2, c3, fin⟩
set_option maxHeartbeats 4000000 in
theorem ok_maygo {f : Addr} {fd : FuncData} (F : Fun K "may_go" "may_go" s_may_go f fd) (me : mg "enumerate" = none) (C : Cal P w K mg base "_read_nets" 3 ["people", "ties", "places", "lines"] spNets) (C2 : Cal P w K mg base "_check_standing" 3 ["knows", "near", "standing"] spCheckS) (C3 : Cal P w K mg base "members" 1 ["lot"] spMembers) :
    FnOk P w K mg base CX0 4 f fd ["people", "ties", "places", "lines", "standing"] spMayGo := by
  refine F.ok sc_may_go (fun vs H Q E h => ?_) (fun cdv A outer s H vs Q E hr h => ?_)
  · unfold spMayGo at h
    obtain ⟨q, q2, s, m, n, fs, es, xs, rfl, _⟩ := h
    rfl
  · have nd := sc_may_go.nd
    have hS := sc_may_go
    have hKM : KMark K := ⟨⟩
    refine' mk_body ?body ?rd
    case body =>
      show PSs _ [_, _, _, _, _] _
      wtm_at "fo ss"
    case rd =>
     unfold spMayGo at h
     obtain ⟨q, q2, st, m, n, fs, es, xs, rfl, a1, a2, a3, a4, a5, b1, b2, b3, b4, b5, c1, c2, c3, fin⟩ := h
     wtm_at "fo r"
     refine call_nets a1 a2 a3 a4 a5 b1 b2 b3 b4 b5 (fun p r1 r2 H1 sm1 np hp hr1 hr2 => ?_)
     refine Or.inl ⟨p, [.ref r1, .ref r2], rfl, SqT.of hp, rfl, .ref r1, [.ref r2], rfl, .ref r2, [], rfl, rfl, ?_⟩
     wtm_at "fo r"
     refine call_checks a2 b2 a4 b4 hr1 hr2 (sm1 _ _ c1) c2 c3 (fun H2 sm2 => ?_)
     have s2 := sm1.trans sm2
     have h1 := sm2 _ _ hr1
     have h2 := sm2 _ _ hr2
     have h3 := s2 _ _ c1
     refine ⟨(Nat.le_of_ble_eq_true rfl : _ ≤ sizeLine), fun L nL => ?_⟩
     have smL : Same H2 (upd H2 L (.lst [])) := same_upd (Same.refl _) nL
     have hL : PsF H2 (upd H2 L (.lst [])) L [] (mayM n es fs xs 0) := ⟨PsAt.nil upd_same, List.nodup_nil, fun r h => nomatch h⟩
     generalize upd H2 L (.lst []) = H3 at *
     refine ⟨_, rfl, st, _, 1, rfl, rfl, SqL.of (smL _ _ h3), ⟨by decide, by decide⟩, ?_⟩
     refine for_enumC (K := K) (xs := xs.map V.int) (fun i σ H4 => ∃ (rs : List Addr) (y8 y9 y10 y11 : Option V), σ = [some (.int m), some (.ref q), some (.int n), some (.ref q2), some (.ref st), some (.ref r1), some (.ref r2), some (.ref L), y8, y9, y10, y11, none] ∧ Same H2 H4 ∧ PsF H2 H4 L rs (mayM n es fs xs i)) ?_ ?_ ?_ ?_
     · exact ⟨[], none, none, none, none, rfl, smL, hL⟩
     · rintro i σ H4 _ ⟨rs, y8, y9, y10, y11, rfl, sm, _⟩
       exact SqL.of (sm _ _ h3)
     · rintro i x T σ H4 hx ⟨rs, y8, y9, y10, y11, rfl, sm, hP⟩ nT
       obtain ⟨z, hz, rfl⟩ := int_at hx
       have hzr := c2.rng z (List.mem_of_getElem? hz)
       have him : i < m := by rw [← c2.len]; exact (List.getElem?_eq_some_iff.mp hz).1
       have hpz := plc_of hz
       obtain ⟨z, rfl⟩ : ∃ k : Nat, z = (k : Int) := ⟨z.toNat, by omega⟩
       have smT : Same H4 (upd H4 T (.tup [.int (1 + (i : Nat)), .int z])) := same_upd (Same.refl _) nT
       have s5 := sm.trans smT
       have hP5 := hP.same smT
       refine Or.inl ⟨T, [.int (1 + (i : Nat)), .int z], rfl, SqT.of upd_same, rfl, .int (1 + (i : Nat)), [.int z], rfl, .int z, [], rfl, rfl, ?_⟩
       generalize upd H4 T (.tup [.int (1 + (i : Nat)), .int z]) = H5 at *
       obtain ⟨u, hu, hub, hul⟩ := near_lot a4 (p := i + 1) (by omega) (by omega)
       obtain ⟨u2, hu2, hub2, hul2⟩ := near_lot b4 (p := z) (by omega) (by omega)
       obtain ⟨g0, hg0, hgl0⟩ := and_not_lot hul2 (lot_pow z)
       refine ⟨_, rfl, _, rfl, Or.inl ⟨r2, _, (z : Int), _, rfl, rfl, SqL.of (s5 _ _ h2), at_nb hu2, _, rfl, _, _, rfl, rfl, ⟨by omega, by omega, by decide⟩, _, rfl, _, _, rfl, rfl, ?_⟩⟩
       refine ⟨_, rfl, _, rfl, Or.inl ⟨r1, _, 1 + (i : Int), _, rfl, rfl, SqL.of (s5 _ _ h1), at_of (j := i + 1) (by omega) (get_nb hu), ?_⟩⟩
       refine call_members (Nat.lt_of_lt_of_le (nearB_small a4 hu) (Nat.pow_le_pow_right (by decide) (by omega))) (fun p6 H6 sm6 np6 hp6 => ?_)
       rw [members_lot hul (besideM_lt m fs _) fun x hx => (besideM_rng hx).1] at hp6
       have s6 := s5.trans sm6
       have hP6 := hP5.same sm6
       let G : Nat → List Int := fun j => mayH n es xs (z : Int) ((besideM m fs ((i + 1 : Nat) : Int)).take j)
       refine ⟨p6, rfl, ⟨_, SqL.of hp6⟩, ?_⟩
       refine for_list (K := K) (xs := (besideM m fs ((i + 1 : Nat) : Int)).map V.int) (fun j σ H7 => ∃ (gv : Nat) (y11 : Option V), σ = [some (.int m), some (.ref q), some (.int n), some (.ref q2), some (.ref st), some (.ref r1), some (.ref r2), some (.ref L), some (.int (1 + (i : Nat))), some (.int z), some (.int gv), y11, none] ∧ Same H6 H7 ∧ LotIs gv (G j)) ?_ ?_ ?_ ?_
       · refine ⟨g0, y11, ?_, Same.refl _, hgl0.congr fun x => ?_⟩
         · have e : Builtin.bitAnd (u2 : Int) (Builtin.bitNot (1 * 2 ^ ((z : Int)).toNat)) = (g0 : Int) := by
             rw [← hg0, Int.one_mul, Int.toNat_natCast, Int.natCast_pow]
             rfl
           show [some (V.int m), some (.ref q), some (.int n), some (.ref q2), some (.ref st), some (.ref r1), some (.ref r2), some (.ref L), some (.int (1 + (i : Nat))), some (.int z), some (.int (Builtin.bitAnd (u2 : Int) (Builtin.bitNot (1 * 2 ^ ((z : Int)).toNat)))), y11, none] = _
           rw [e]
         · show _ ↔ x ∈ mayH n es xs (z : Int) _
           unfold mayH
           rw [List.mem_filter, List.mem_filter, decide_eq_true_eq, decide_eq_true_eq, List.mem_singleton, List.take_zero]
           simp
       · rintro j σ H7 _ ⟨gv, y11, rfl, sm7, _⟩
         exact SqL.of (sm7 _ _ hp6)
       · rintro j x σ H7 hx2 ⟨gv, y11, rfl, sm7, hgl⟩
         obtain ⟨o, ho, rfl⟩ := int_at hx2
         have hor := besideM_rng (List.mem_of_getElem? ho)
         have hob := plc_get (xs := xs) (i := o) hor.1 (by rw [c2.len]; exact hor.2)
         have hopr := c2.plc hor.1 hor.2
         have s7 := s6.trans sm7
         obtain ⟨zo, hzo⟩ : ∃ k : Nat, plc xs o = (k : Int) := ⟨(plc xs o).toNat, by omega⟩
         obtain ⟨u3, hu3, hub3, hul3⟩ := near_lot b4 (p := zo) (by omega) (by omega)
         refine ⟨_, rfl, _, rfl, _, rfl, _, rfl, _, _, rfl, rfl, Or.inl ⟨st, _, o - 1, .int (plc xs o), rfl, rfl, SqL.of (s7 _ _ h3), at_of (j := o.toNat - 1) (by omega) (by rw [List.getElem?_map, hob]; rfl), ?_⟩⟩
         refine Or.inl ⟨r2, _, plc xs o, .int u3, rfl, rfl, SqL.of (s7 _ _ h2), by rw [hzo]; exact at_nb hu3, _, _, rfl, rfl, ?_⟩
         refine ⟨gv &&& u3, some (.int o), ?_, sm7, (lot_and hgl hul3).congr fun x => ?_⟩
         · show [some (V.int m), some (.ref q), some (.int n), some (.ref q2), some (.ref st), some (.ref r1), some (.ref r2), some (.ref L), some (.int (1 + (i : Nat))), some (.int z), some (.int (Builtin.bitAnd (gv : Int) (u3 : Int))), some (.int o), none] = _
           rw [bAnd]
         · have htk : (besideM m fs ((i + 1 : Nat) : Int)).take (j + 1) = (besideM m fs ((i + 1 : Nat) : Int)).take j ++ [o] := by rw [List.take_add_one, ho]; rfl
           show x ∈ List.filter _ (mayH n es xs (z : Int) _) ↔ x ∈ mayH n es xs (z : Int) _
           unfold mayH
           rw [List.mem_filter, List.mem_filter, List.mem_filter, decide_eq_true_eq, decide_eq_true_eq, decide_eq_true_eq, htk, besideM_mem b4 (by omega) (by omega) x, ← hzo]
           constructor
           · rintro ⟨⟨k1, k2, k3⟩, k4⟩
             refine ⟨k1, k2, fun o2 ho2 => ?_⟩
             rcases List.mem_append.mp ho2 with ho2 | ho2
             · exact k3 o2 ho2
             · rw [List.mem_singleton.mp ho2]
               exact (besideM_mem b4 (by omega) (by omega) x).mp k4
           · rintro ⟨k1, k2, k3⟩
             refine ⟨⟨k1, k2, fun o2 ho2 => k3 o2 (List.mem_append_left _ ho2)⟩, (besideM_mem b4 (by omega) (by omega) x).mpr (k3 o (List.mem_append_right _ (List.mem_singleton.mpr rfl)))⟩
       · rintro σ H7 ⟨gv, y11, rfl, sm7, hgl⟩
         rw [List.length_map] at hgl
         have hgl : LotIs gv (mayG n es fs xs ((i : Int) + 1) (z : Int)) := hgl.congr fun x => by
           show x ∈ mayH n es xs (z : Int) _ ↔ _
           unfold mayH
           rw [mayG_mem b4 (by omega) (by omega), List.mem_filter, decide_eq_true_eq, List.take_length, besideM_mem b4 (by omega) (by omega) x]
           constructor
           · rintro ⟨k1, k2, k3⟩
             exact ⟨k1, k2, fun o ho => k3 o ((besideM_mem a4 (by omega) (by omega) o).mpr (List.mem_cons_of_mem _ ho))⟩
           · rintro ⟨k1, k2, k3⟩
             refine ⟨k1, k2, fun o ho => ?_⟩
             rcases List.mem_cons.mp ((besideM_mem a4 (by omega) (by omega) o).mp ho) with e | ho
             · rw [e, show ((i + 1 : Nat) : Int) = (i : Int) + 1 by omega, hpz]
               exact k1
             · exact k3 o ho
         have hP7 := hP6.same sm7
         have s7 := s6.trans sm7
         have hrg : ∀ g ∈ mayG n es fs xs ((i : Int) + 1) (z : Int), 1 ≤ g ∧ g ≤ n := fun g hg => besideM_rng (List.mem_filter.mp hg).1
         have hgn := mayG_len b2 es fs xs ((i : Int) + 1) (z : Int)
         refine ⟨_, rfl, .inl ⟨rfl, _, SqL.of hP7.ps.hD⟩, ?_⟩
         refine ⟨_, rfl, ?_⟩
         refine call_members (Nat.lt_of_lt_of_le (lot_small hgl fun x hx => (hrg x hx).2) (Nat.pow_le_pow_right (by decide) (by omega))) (fun p8 H8 sm8 np8 hp8 => ?_)
         rw [members_lot hgl mayG_lt fun x hx => (hrg x hx).1] at hp8
         refine ⟨p8, rfl, ⟨_, SqL.of hp8⟩, fun D nD => ?_⟩
         refine lc_prs (K := K) (xs := mayG n es fs xs ((i : Int) + 1) (z : Int)) (fun g => ((i : Int) + 1, g)) (SqL.of hp8) nD (by omega) (fun _ => rfl) ?_ ?_
         · intro g hg H9 sm9 R hRR
           refine ⟨_, rfl, _, rfl, (Nat.le_of_ble_eq_true rfl : _ ≤ sizeLine), fun c nc => ?_⟩
           have := hRR H9 c (Same.refl _) nc
           rw [show (i : Int) + 1 = 1 + (i : Int) by omega] at this
           exact this
         · intro H9 rs9 sm9 hP9
           have sm89 := sm8.trans sm9
           have hL9 := sm89 _ _ hP7.ps.hD
           refine ⟨L, D, _, _, rfl, rfl, hL9, hP9.ps.hD, ?_, ?_⟩
           · rw [List.length_map, List.length_map, hP7.ps.len, hP9.ps.len, List.length_map]
             have := mayM_len b2 es fs xs i
             exact Nat.le_trans (m := 1000) (by omega) (by decide)
           · refine ⟨rs ++ rs9, _, _, _, _, rfl, same_upd (s7.trans sm89) nL, ?_⟩
             rw [mayM_succ, hpz]
             exact hP7.ext sm89 ⟨hP9.ps, hP9.nd, fun r hr => sm8.free (hP9.fr r hr)⟩ s7 nL
     · rintro σ H4 ⟨rs, y8, y9, y10, y11, rfl, sm, hP⟩
       rw [List.length_map, c2.len] at hP
       exact ⟨_, rfl, fin L rs H4 (s2.trans sm) (s2.free nL) ⟨hP.ps, hP.nd, fun r hr => s2.free (hP.fr r hr)⟩⟩
end
/-! piece PPm -/
section
/-! ### the people of an end, as a net -/
def rowT (es : List Edge) (xs : List Int) (i k : Nat) : List Edge := ((List.range k).filter fun (j : Nat) => decide (i < j ∧ Adj es (plc xs ((i : Int) + 1)) (plc xs ((j : Int) + 1)))).map fun (j : Nat) => ((i : Int) + 1, (j : Int) + 1)
def tiesM (es : List Edge) (xs : List Int) (k : Nat) : List Edge := (List.range k).flatMap fun (i : Nat) => rowT es xs i xs.length
theorem rowT_succ (es : List Edge) (xs : List Int) (i k : Nat) : rowT es xs i (k + 1) = rowT es xs i k ++ (if i < k ∧ Adj es (plc xs ((i : Int) + 1)) (plc xs ((k : Int) + 1)) then [((i : Int) + 1, (k : Int) + 1)] else []) := by
  unfold rowT
  rw [List.range_succ, List.filter_append, List.map_append]
  congr 1
  rw [List.filter_cons]
  by_cases hh : i < k ∧ Adj es (plc xs ((i : Int) + 1)) (plc xs ((k : Int) + 1))
  · rw [if_pos hh, if_pos (decide_eq_true hh)]
    rfl
  · rw [if_neg hh, if_neg (fun e => hh (of_decide_eq_true e))]
    rfl
theorem tiesM_succ (es : List Edge) (xs : List Int) (k : Nat) : tiesM es xs (k + 1) = tiesM es xs k ++ rowT es xs k xs.length := by
  unfold tiesM
  rw [List.range_succ, List.flatMap_append]
  simp
theorem rowT_len (es : List Edge) (xs : List Int) (i k : Nat) : (rowT es xs i k).length ≤ k := by
  unfold rowT
  rw [List.length_map]
  exact Nat.le_trans (List.length_filter_le ..) (by rw [List.length_range]; exact Nat.le_refl _)
theorem tiesM_len (es : List Edge) (xs : List Int) : ∀ k, (tiesM es xs k).length ≤ xs.length * k
  | 0 => Nat.zero_le _
  | k + 1 => by
    rw [tiesM_succ, List.length_append, Nat.mul_succ]
    exact Nat.add_le_add (tiesM_len es xs k) (rowT_len es xs k xs.length)
theorem rowT_mem {es : List Edge} {xs : List Int} {i k : Nat} {e : Edge} : e ∈ rowT es xs i k ↔ e.1 = (i : Int) + 1 ∧ e.1 < e.2 ∧ e.2 ≤ k ∧ Adj es (plc xs e.1) (plc xs e.2) := by
  unfold rowT
  rw [List.mem_map]
  constructor
  · rintro ⟨j, hj, rfl⟩
    obtain ⟨h1, h2⟩ := List.mem_filter.mp hj
    have h1 := List.mem_range.mp h1
    have h2 := of_decide_eq_true h2
    exact ⟨rfl, by show (i : Int) + 1 < (j : Int) + 1; omega, by show (j : Int) + 1 ≤ k; omega, h2.2⟩
  · rintro ⟨h1, h2, h3, h4⟩
    refine ⟨e.2.toNat - 1, List.mem_filter.mpr ⟨List.mem_range.mpr (by omega), decide_eq_true ⟨by omega, ?_⟩⟩, ?_⟩
    · rw [show ((e.2.toNat - 1 : Nat) : Int) + 1 = e.2 by omega, ← h1]
      exact h4
    · rw [show ((e.2.toNat - 1 : Nat) : Int) + 1 = e.2 by omega, ← h1]
theorem tiesM_mem {es : List Edge} {xs : List Int} {k : Nat} {e : Edge} : e ∈ tiesM es xs k ↔ 1 ≤ e.1 ∧ e.1 ≤ k ∧ e.1 < e.2 ∧ e.2 ≤ xs.length ∧ Adj es (plc xs e.1) (plc xs e.2) := by
  unfold tiesM
  rw [List.mem_flatMap]
  constructor
  · rintro ⟨i, hi, he⟩
    have hi := List.mem_range.mp hi
    obtain ⟨h1, h2⟩ := rowT_mem.mp he
    exact ⟨by omega, by omega, h2⟩
  · rintro ⟨h1, h2, h3⟩
    exact ⟨e.1.toNat - 1, List.mem_range.mpr (by omega), rowT_mem.mpr ⟨by omega, h3⟩⟩
theorem rowT_pw (es : List Edge) (xs : List Int) (i k : Nat) : (rowT es xs i k).Pairwise fun a b => a.1 = b.1 ∧ a.2 < b.2 := by
  unfold rowT
  rw [List.pairwise_map]
  exact (List.Pairwise.filter _ List.pairwise_lt_range).imp fun h => ⟨rfl, by show (_ : Int) + 1 < (_ : Int) + 1; omega⟩
theorem tiesM_pw (es : List Edge) (xs : List Int) : ∀ k, (tiesM es xs k).Pairwise fun a b => a.1 < b.1 ∨ (a.1 = b.1 ∧ a.2 < b.2)
  | 0 => List.Pairwise.nil
  | k + 1 => by
    rw [tiesM_succ, List.pairwise_append]
    refine ⟨tiesM_pw es xs k, (rowT_pw es xs k xs.length).imp fun h => .inr h, fun a ha b hb => ?_⟩
    have h1 := tiesM_mem.mp ha
    have h2 := rowT_mem.mp hb
    exact .inl (by omega)
/-- greater pairs ascending are a net's lines -/
theorem simp_asc {n : Int} {l : List Edge} (hr : ∀ e ∈ l, 1 ≤ e.1 ∧ e.1 < e.2 ∧ e.2 ≤ n) (hp : l.Pairwise fun a b => a.1 < b.1 ∨ (a.1 = b.1 ∧ a.2 < b.2)) : Simp n l := by
  refine ⟨fun e he => by have := hr e he; omega, hp.imp_of_mem fun {a b} ha hb hab => ?_⟩
  have h1 := hr a ha
  have h2 := hr b hb
  refine ⟨fun e => ?_, fun e => ?_⟩
  · subst e; omega
  · have e1 := congrArg Prod.fst e
    have e2 := congrArg Prod.snd e
    simp only at e1 e2
    omega
theorem tiesM_simp (es : List Edge) (xs : List Int) : Simp (xs.length : Int) (tiesM es xs xs.length) :=
  simp_asc (fun e he => by have := tiesM_mem.mp he; omega) (tiesM_pw es xs xs.length)
theorem tiesM_mates {es : List Edge} {xs : List Int} {i j : Int} (h1 : 1 ≤ i) (h2 : i ≤ xs.length) (h3 : 1 ≤ j) (h4 : j ≤ xs.length) : j ∈ mates i (tiesM es xs xs.length) ↔ i ≠ j ∧ Adj es (plc xs i) (plc xs j) := by
  rw [mem_mates, tiesM_mem, tiesM_mem]
  simp only
  constructor
  · rintro (⟨_, _, k3, _, k5⟩ | ⟨_, _, k3, _, k5⟩)
    · exact ⟨by omega, k5⟩
    · exact ⟨by omega, adj_symm _ _ k5⟩
  · rintro ⟨k1, k2⟩
    by_cases hlt : i < j
    · exact .inl ⟨by omega, by omega, hlt, by omega, k2⟩
    · exact .inr ⟨by omega, by omega, by omega, by omega, adj_symm _ _ k2⟩
theorem rep_flat (x : Int) : ∀ k, (List.replicate k [V.int x]).flatten = (List.replicate k x).map V.int
  | 0 => rfl
  | k + 1 => by
    rw [List.replicate_succ, List.replicate_succ, List.flatten_cons, rep_flat x k]
    rfl
end
/-! piece THm -/
section
/-! ### steps, told by any table of what is beside -/
def rowA (T : List (List Int)) (x : Int) : List Int := T.getD x.toNat []
theorem rowA_get {T : List (List Int)} {x : Int} (h0 : 0 ≤ x) (h : x < T.length) : T[x.toNat]? = some (rowA T x) := by
  unfold rowA
  rw [List.getD_eq_getElem?_getD, List.getElem?_eq_getElem (by omega)]
  rfl
def FitsT (T : List (List Int)) (fs : List Edge) (xs : List Int) : Prop := ∀ e ∈ fs, plc xs e.2 ∈ rowA T (plc xs e.1)
instance (T : List (List Int)) (fs : List Edge) (xs : List Int) : Decidable (FitsT T fs xs) := by unfold FitsT; exact inferInstance
def putP (xs : List Int) (i g : Int) : List Int := xs.set (i.toNat - 1) g
def MayE (T : List (List Int)) (m : Nat) (fs : List Edge) (xs : List Int) (e : Edge) : Prop := 1 ≤ e.1 ∧ e.1 ≤ m ∧ e.2 ∈ rowA T (plc xs e.1) ∧ e.2 ≠ plc xs e.1 ∧ FitsT T fs (putP xs e.1 e.2)
def ltE (a b : Edge) : Prop := a.1 < b.1 ∨ (a.1 = b.1 ∧ a.2 < b.2)
theorem ltE_unique : ∀ {l m : List Edge}, l.Pairwise ltE → m.Pairwise ltE → (∀ x, x ∈ l ↔ x ∈ m) → l = m
  | [], [], _, _, _ => rfl
  | [], b :: m, _, _, h => by have := (h b).mpr (List.mem_cons_self ..); simp at this
  | a :: l, [], _, _, h => by have := (h a).mp (List.mem_cons_self ..); simp at this
  | a :: l, b :: m, hl, hm, h => by
    rw [List.pairwise_cons] at hl hm
    have ir : ∀ x, ¬ ltE x x := fun x hx => by unfold ltE at hx; omega
    have as : ∀ x y, ltE x y → ¬ ltE y x := fun x y h1 h2 => by unfold ltE at h1 h2; omega
    have hab : a = b := by
      have h1 := (h a).mp (List.mem_cons_self ..)
      have h2 := (h b).mpr (List.mem_cons_self ..)
      rcases List.mem_cons.mp h1 with e | h1
      · exact e
      · rcases List.mem_cons.mp h2 with e | h2
        · exact e.symm
        · exact absurd (hl.1 b h2) (as _ _ (hm.1 a h1))
    subst hab
    rw [ltE_unique hl.2 hm.2 fun x => ?_]
    constructor
    · intro hx
      rcases List.mem_cons.mp ((h x).mp (List.mem_cons_of_mem _ hx)) with e | hx2
      · subst e; exact absurd (hl.1 x hx) (ir x)
      · exact hx2
    · intro hx
      rcases List.mem_cons.mp ((h x).mpr (List.mem_cons_of_mem _ hx)) with e | hx2
      · subst e; exact absurd (hm.1 x hx) (ir x)
      · exact hx2
theorem plc_put {xs : List Int} {i g j : Int} (h1 : 1 ≤ i) (h2 : i ≤ xs.length) (h3 : 1 ≤ j) : plc (putP xs i g) j = if j = i then g else plc xs j := by
  unfold plc putP
  rw [List.getD_eq_getElem?_getD, List.getElem?_set, List.getD_eq_getElem?_getD]
  by_cases e : j = i
  · subst e
    rw [if_pos rfl, if_pos rfl, if_pos (by omega)]
    rfl
  · rw [if_neg e, if_neg (by omega)]
theorem putP_len (xs : List Int) (i g : Int) : (putP xs i g).length = xs.length := by unfold putP; rw [List.length_set]
theorem Stds.put {m n : Nat} {xs : List Int} (h : Stds m n xs) {i g : Int} (h1 : 1 ≤ g) (h2 : g ≤ n) : Stds m n (putP xs i g) := by
  refine ⟨by rw [putP_len]; exact h.len, fun x hx => ?_⟩
  unfold putP at hx
  rcases List.mem_or_eq_of_mem_set hx with hx | hx
  · exact h.rng x hx
  · rw [hx]; exact ⟨h1, h2⟩
/-- what stands ahead of a place and behind it -/
theorem put_cut {xs : List Int} {i : Nat} {g : Int} (h : i < xs.length) : xs.take i ++ [g] ++ xs.drop (i + 1) = putP xs ((i : Int) + 1) g := by
  unfold putP
  rw [show ((i : Int) + 1).toNat - 1 = i by omega, List.set_eq_take_append_cons_drop, if_pos h, List.append_assoc]
  rfl
theorem cut_to (xs : List V) {k : Nat} (h : k ≤ xs.length) : cutV xs none (some (k : Int)) = xs.take k := by
  unfold cutV
  rw [HT.sIx_nat, HT.sIx_none, List.drop_zero, Nat.sub_zero, Nat.min_eq_left h]
theorem cut_from (xs : List V) {k : Nat} (h : k ≤ xs.length) : cutV xs (some (k : Int)) none = xs.drop k := by
  unfold cutV
  rw [HT.sIx_nat, HT.sIx_none, Nat.min_eq_left h]
  rw [List.take_of_length_le]
  rw [List.length_drop]
  exact Nat.le_refl _
theorem dpAll_map {K : PySem.W.Frag} {H : Hp} {α : Type} (g : α → V) (d : α → PyData) : ∀ {l : List α}, (∀ x ∈ l, Dp K H (g x) (d x)) → DpAll K H (l.map g) (l.map d)
  | [], _ => .nil
  | x :: l, h => .cons (h x (List.mem_cons_self ..)) (dpAll_map g d fun y hy => h y (List.mem_cons_of_mem _ hy))
end
/-! piece TH -/
section
variable {P : Program} {w : World} {K : PySem.W.Frag} {mg : Str → Option Value} {base : Heap}
/-! ### the law's fits -/
/-- rows of a table, that is long enough -/
structure Tab (H : Hp) (q : Addr) (n : Nat) (T : List (List Int)) : Prop where
  at_ : Lists H q T
  len : T.length = n + 1
theorem Tab.row {H : Hp} {q : Addr} {n : Nat} {T : List (List Int)} (h : Tab H q n T) : ∃ rs : List Addr, H q = some (.lst (rs.map V.ref)) ∧ ∀ x : Int, 0 ≤ x → x ≤ n → ∃ r, rs[x.toNat]? = some r ∧ H r = some (iL (rowA T x)) := by
  obtain ⟨rs, a, b, c, e⟩ := h.at_
  refine ⟨rs, a, fun x h0 h1 => ?_⟩
  have hg := rowA_get (T := T) h0 (by rw [h.len]; omega)
  have hl1 : x.toNat < rs.length := by rw [c, h.len]; omega
  exact ⟨rs[x.toNat], List.getElem?_eq_getElem hl1, e _ _ _ (List.getElem?_eq_getElem hl1) hg⟩
theorem Tab.same {H H' : Hp} {q : Addr} {n : Nat} {T : List (List Int)} (h : Tab H q n T) (s : Same H H') : Tab H' q n T := ⟨h.at_.same s, h.len⟩
theorem Tab.but {H H' : Hp} {d q : Addr} {k : Int} {n : Nat} {T : List (List Int)} (h : Tab H q n T) (s : SameBut d H H') (hd : Dr H d k) : Tab H' q n T := ⟨h.at_.but s hd, h.len⟩
@[irreducible] def spFits : Sp := fun vs H Q _ => ∃ (q kq s : Addr) (n m : Nat) (T : List (List Int)) (fs : List Edge) (xs : List Int), vs = [.ref q, .ref kq, .ref s] ∧ m ≤ 12 ∧ Tab H q n T ∧ Pairs H kq fs ∧ fs.length ≤ 200 ∧ (∀ e ∈ fs, 1 ≤ e.1 ∧ e.1 ≤ m ∧ 1 ≤ e.2 ∧ e.2 ≤ m) ∧ H s = some (iL xs) ∧ Stds m n xs ∧
  ∀ H', Same H H' → Q (.bl (decide (FitsT T fs xs))) H'
theorem call_fits {q kq s : Addr} {n m : Nat} {T : List (List Int)} {fs : List Edge} {xs : List Int} {H : Hp} {Q : VK} {E : XK} (hm : m ≤ 12) (hT : Tab H q n T) (hk : Pairs H kq fs) (hl : fs.length ≤ 200) (hr : ∀ e ∈ fs, 1 ≤ e.1 ∧ e.1 ≤ m ∧ 1 ≤ e.2 ∧ e.2 ≤ m) (hs : H s = some (iL xs)) (hS : Stds m n xs)
    (fin : ∀ H', Same H H' → Q (.bl (decide (FitsT T fs xs))) H') : spFits [.ref q, .ref kq, .ref s] H Q E := by
  unfold spFits
  exact ⟨q, kq, s, n, m, T, fs, xs, rfl, hm, hT, hk, hl, hr, hs, hS, fin⟩
set_option maxHeartbeats 4000000 in
theorem ok_fits {f : Addr} {fd : FuncData} (F : Fun K "_law_fits" "_law_fits" s_law_fits f fd) :
    FnOk P w K mg base CX0 1 f fd ["_law_near_here", "_law_knots", "_law_spots"] spFits := by
  refine F.ok sc_law_fits (fun vs H Q E h => ?_) (fun cdv A outer s H vs Q E hr h => ?_)
  · unfold spFits at h
    obtain ⟨q, kq, s, n, m, T, fs, xs, rfl, _⟩ := h
    rfl
  · have nd := sc_law_fits.nd
    have hS := sc_law_fits
    have hKM : KMark K := ⟨⟩
    refine' mk_body ?body ?rd
    case body =>
      show PSs _ [_] _
      wtm_at "fo ss"
    case rd =>
     unfold spFits at h
     obtain ⟨q, kq, st, n, m, T, fs, xs, rfl, hm, hT, hk, hl, hrg, hs, hSt, fin⟩ := h
     obtain ⟨trs, hq, hrow⟩ := hT.row
     obtain ⟨rs, hkq, hlen, hat⟩ := hk
     let f : Addr × Edge → Bool := fun x => !decide (plc xs x.2.2 ∈ rowA T (plc xs x.2.1))
     have hz : (rs.zip fs).map (fun x => V.ref x.1) = rs.map V.ref := by
       rw [show (fun x : Addr × Edge => V.ref x.1) = V.ref ∘ Prod.fst from rfl, ← List.map_map, List.map_fst_zip (by omega)]
     have hmem : ∀ x ∈ rs.zip fs, H x.1 = some (.lst [.int x.2.1, .int x.2.2]) ∧ x.2 ∈ fs := fun x hx => by
       obtain ⟨i, hi⟩ := List.getElem?_of_mem hx
       rw [List.getElem?_zip_eq_some] at hi
       exact ⟨hat i _ _ hi.1 hi.2, List.mem_of_getElem? hi.2⟩
     refine ⟨_, rfl, kq, rfl, ⟨_, SqL.of hkq⟩, fun D nD => ?_⟩
     refine lc_gen (K := K) (xs := rs.zip fs) (inj := fun x => V.ref x.1) f (fun x => V.ref x.1) (by rw [hz]; exact SqL.of hkq) nD (by rw [List.length_zip]; omega) (fun _ => rfl) ?_ ?_ ?_
     · intro x hx H2 sm2 R hR
       obtain ⟨hx1, hx2⟩ := hmem x hx
       have hxr := hrg _ hx2
       have p1 := plc_get (xs := xs) (i := x.2.1) hxr.1 (by rw [hSt.len]; exact hxr.2.1)
       have p2 := plc_get (xs := xs) (i := x.2.2) hxr.2.2.1 (by rw [hSt.len]; exact hxr.2.2.2)
       have q1 := hSt.plc hxr.1 hxr.2.1
       obtain ⟨rr, hrr, hrl⟩ := hrow (plc xs x.2.1) (by omega) q1.2
       obtain ⟨y, e⟩ := x
       simp only at hx1 hx2 hxr p1 p2 q1 hrr hrl hR
       have g1 := sm2 _ _ hx1
       have g2 := sm2 _ _ hs
       refine ⟨_, rfl, _, rfl, Or.inl ⟨y, _, 1, .int e.2, rfl, rfl, SqL.of g1, rfl, ?_⟩⟩
       refine ⟨_, _, rfl, rfl, Or.inl ⟨st, _, e.2 - 1, .int (plc xs e.2), rfl, rfl, SqL.of g2, at_of (j := e.2.toNat - 1) (by omega) (by rw [List.getElem?_map, p2]; rfl), ?_⟩⟩
       refine ⟨_, rfl, _, rfl, _, rfl, Or.inl ⟨y, _, 0, .int e.1, rfl, rfl, SqL.of g1, rfl, ?_⟩⟩
       refine ⟨_, _, rfl, rfl, Or.inl ⟨st, _, e.1 - 1, .int (plc xs e.1), rfl, rfl, SqL.of g2, at_of (j := e.1.toNat - 1) (by omega) (by rw [List.getElem?_map, p1]; rfl), ?_⟩⟩
       refine Or.inl ⟨q, _, plc xs e.1, .ref rr, rfl, rfl, SqL.of (sm2 _ _ hq), at_of (j := (plc xs e.1).toNat) (by omega) (by rw [List.getElem?_map, hrr]; rfl), ?_⟩
       refine ⟨rr, _, rfl, Or.inl (SqL.of (sm2 _ _ hrl)), rfl, flat_ints _, _, rfl, ?_⟩
       show R (!inV (.int (plc xs e.2)) ((rowA T (plc xs e.1)).map V.int)) H2
       rw [inV_ints]
       exact hR H2 (Same.refl _)
     · intro x hx hf H2 sm2 R hR
       exact ⟨_, rfl, hR H2 (Same.refl _)⟩
     · intro H2 sm2 hD2
       generalize hfl : (rs.zip fs).filter f = l at *
       refine ⟨(Nat.le_of_ble_eq_true rfl : _ ≤ sizeLine), fun e ne => ?_⟩
       have smE : Same H2 (upd H2 e (.lst [])) := same_upd (Same.refl _) ne
       have hD3 := smE _ _ hD2
       have hsub : ∀ x ∈ l, x ∈ rs.zip fs := fun x hx => by rw [← hfl] at hx; exact (List.mem_filter.mp hx).1
       have hdp : Dp K (upd H2 e (.lst [])) (.ref D) (.list (l.map fun x => .list [.int x.2.1, .int x.2.2])) := .lst (SqL.of hD3) (dpAll_map _ _ fun x hx => .lst (SqL.of (smE _ _ (sm2 _ _ (hmem x (hsub x hx)).1))) (.cons (.int _) (.cons (.int _) .nil)))
       have hsh : SeqAt.shaped (.list (l.map fun x : Addr × Edge => PyData.list [.int x.2.1, .int x.2.2])) = true := by
         have := (dok_dE (es := l.map (·.2)) fun e he => by
           obtain ⟨x, hx, rfl⟩ := List.mem_map.mp he
           have := hrg _ (hmem x (hsub x hx)).2
           omega).shaped (by decide)
         unfold dE at this
         rw [List.map_map] at this
         exact this
       refine Or.inr ⟨.list (l.map fun x => .list [.int x.2.1, .int x.2.2]), .list [], hdp, .lst (SqL.of upd_same) .nil, hsh, rfl, ?_⟩
       rw [eqv_list_nil]
       have he : (l.map fun x : Addr × Edge => PyData.list [.int x.2.1, .int x.2.2]).isEmpty = decide (FitsT T fs xs) := by
         have hiff : l = [] ↔ FitsT T fs xs := by
           rw [← hfl, List.filter_eq_nil_iff]
           constructor
           · intro h e he
             obtain ⟨i, hi⟩ := List.getElem?_of_mem he
             have hil : i < rs.length := by rw [hlen]; exact (List.getElem?_eq_some_iff.mp hi).1
             have hm2 : (rs[i], e) ∈ rs.zip fs := List.mem_of_getElem? (i := i) (List.getElem?_zip_eq_some.mpr ⟨List.getElem?_eq_getElem hil, hi⟩)
             have := h _ hm2
             simpa [f] using this
           · intro h x hx
             have := h _ (hmem x hx).2
             simpa [f] using this
         cases l with
         | nil => symm; exact decide_eq_true (hiff.mp rfl)
         | cons a b => symm; exact decide_eq_false fun h => nomatch hiff.mpr h
       rw [he]
       exact fin _ (sm2.trans smE)
end
/-! piece TI -/
section
variable {P : Program} {w : World} {K : PySem.W.Frag} {mg : Str → Option Value} {base : Heap}
/-! ### the law's may -/
def TabR (n : Nat) (T : List (List Int)) : Prop := ∀ x, 1 ≤ x → x ≤ (n : Int) → (rowA T x).Nodup ∧ ∀ y ∈ rowA T x, 1 ≤ y ∧ y ≤ n
@[irreducible] def spLMay : Sp := fun vs H Q _ => ∃ (q kq s : Addr) (n m : Nat) (T : List (List Int)) (fs : List Edge) (xs : List Int), vs = [.ref q, .ref kq, .ref s] ∧ m ≤ 12 ∧ n ≤ 12 ∧ Tab H q n T ∧ TabR n T ∧ Pairs H kq fs ∧ fs.length ≤ 200 ∧ (∀ e ∈ fs, 1 ≤ e.1 ∧ e.1 ≤ m ∧ 1 ≤ e.2 ∧ e.2 ≤ m) ∧ H s = some (iL xs) ∧ Stds m n xs ∧
  ∀ p rs out H', Same H H' → H p = none → PsF H H' p rs out → out.Pairwise ltE → (∀ e, e ∈ out ↔ MayE T m fs xs e) → out.length ≤ 144 → Q (.ref p) H'
theorem call_lmay {q kq s : Addr} {n m : Nat} {T : List (List Int)} {fs : List Edge} {xs : List Int} {H : Hp} {Q : VK} {E : XK} (hm : m ≤ 12) (hn : n ≤ 12) (hT : Tab H q n T) (hTR : TabR n T) (hk : Pairs H kq fs) (hl : fs.length ≤ 200) (hr : ∀ e ∈ fs, 1 ≤ e.1 ∧ e.1 ≤ m ∧ 1 ≤ e.2 ∧ e.2 ≤ m) (hs : H s = some (iL xs)) (hS : Stds m n xs)
    (fin : ∀ p rs out H', Same H H' → H p = none → PsF H H' p rs out → out.Pairwise ltE → (∀ e, e ∈ out ↔ MayE T m fs xs e) → out.length ≤ 144 → Q (.ref p) H') : spLMay [.ref q, .ref kq, .ref s] H Q E := by
  unfold spLMay
  exact ⟨q, kq, s, n, m, T, fs, xs, rfl, hm, hn, hT, hTR, hk, hl, hr, hs, hS, fin⟩
set_option maxHeartbeats 4000000 in
theorem ok_lmay {f : Addr} {fd : FuncData} (F : Fun K "_law_may" "_law_may" s_law_may f fd) (me : mg "enumerate" = none) (msd : mg "sorted" = none) (C : Cal P w K mg base "_law_fits" 1 ["_law_near_here", "_law_knots", "_law_spots"] spFits) :
    FnOk P w K mg base CX0 2 f fd ["_law_near_here", "_law_knots", "_law_spots"] spLMay := by
  refine F.ok sc_law_may (fun vs H Q E h => ?_) (fun cdv A outer s H vs Q E hr h => ?_)
  · unfold spLMay at h
    obtain ⟨q, kq, s, n, m, T, fs, xs, rfl, _⟩ := h
    rfl
  · have nd := sc_law_may.nd
    have hS := sc_law_may
    have hKM : KMark K := ⟨⟩
    refine' mk_body ?body ?rd
    case body =>
      show PSs _ [_, _, _] _
      wtm_at "fo ss"
    case rd =>
     unfold spLMay at h
     obtain ⟨q, kq, st, n, m, T, fs, xs, rfl, hm, hn, hT, hTR, hk, hl, hrg, hs, hSt, fin⟩ := h
     refine ⟨(Nat.le_of_ble_eq_true rfl : _ ≤ sizeLine), fun L nL => ?_⟩
     have smL : Same H (upd H L (.lst [])) := same_upd (Same.refl _) nL
     have hL : PsF H (upd H L (.lst [])) L [] [] := ⟨PsAt.nil upd_same, List.nodup_nil, fun r h => nomatch h⟩
     generalize upd H L (.lst []) = H1 at *
     refine ⟨_, rfl, st, _, 1, rfl, SqL.of (smL _ _ hs), ⟨by decide, by decide⟩, ?_⟩
     refine for_enumC (K := K) (xs := xs.map V.int) (fun i σ H4 => ∃ (rs : List Addr) (out : List Edge) (y4 y5 y6 y7 : Option V), σ = [some (.ref q), some (.ref kq), some (.ref st), some (.ref L), y4, y5, y6, y7] ∧ Same H H4 ∧ PsF H H4 L rs out ∧ out.Pairwise ltE ∧ (∀ e, e ∈ out ↔ e.1 ≤ i ∧ MayE T m fs xs e) ∧ out.length ≤ 12 * i) ?_ ?_ ?_ ?_
     · refine ⟨[], [], none, none, none, none, rfl, smL, hL, List.Pairwise.nil, fun e => ⟨(fun h => nomatch h), fun h => ?_⟩, Nat.le_refl _⟩
       have h1 := h.2.1
       have h2 := h.1
       exfalso
       omega
     · rintro i σ H4 _ ⟨rs, out, y4, y5, y6, y7, rfl, sm, _⟩
       exact SqL.of (sm _ _ hs)
     · rintro i x Tt σ H4 hx ⟨rs, out, y4, y5, y6, y7, rfl, sm, hP, hpw, hom, hol⟩ nT
       obtain ⟨z, hz, rfl⟩ := int_at hx
       have hzr := hSt.rng z (List.mem_of_getElem? hz)
       have hil : i < xs.length := (List.getElem?_eq_some_iff.mp hz).1
       have him : i < m := by rw [← hSt.len]; exact hil
       have hpz := plc_of hz
       have smT : Same H4 (upd H4 Tt (.tup [.int (1 + (i : Nat)), .int z])) := same_upd (Same.refl _) nT
       have s5 := sm.trans smT
       have hP5 := hP.same smT
       refine Or.inl ⟨Tt, [.int (1 + (i : Nat)), .int z], rfl, SqT.of upd_same, rfl, .int (1 + (i : Nat)), [.int z], rfl, .int z, [], rfl, rfl, ?_⟩
       generalize upd H4 Tt (.tup [.int (1 + (i : Nat)), .int z]) = H5 at *
       obtain ⟨trs, hq5, hrow⟩ := (hT.same s5).row
       obtain ⟨rr, hrr, hrl⟩ := hrow z (by omega) hzr.2
       obtain ⟨hnd, hrn⟩ := hTR z hzr.1 hzr.2
       have hrowl : (rowA T z).length ≤ 12 := Nat.le_trans (nodup_le n _ hnd hrn) hn
       refine ⟨_, rfl, _, rfl, Or.inl ⟨q, _, z, .ref rr, rfl, rfl, SqL.of hq5, at_of (j := z.toNat) (by omega) (by rw [List.getElem?_map, hrr]; rfl), ?_⟩⟩
       refine Or.inl ⟨rr, rowA T z, rfl, SqL.of hrl, by omega, fun ss p hpm hrs np => ?_⟩
       have smp : Same H5 (upd H5 p (.lst (ss.map V.int))) := same_upd (Same.refl _) np
       have hp6 : (upd H5 p (.lst (ss.map V.int))) p = some (iL ss) := upd_same
       have hP6 := hP5.same smp
       have s6 := s5.trans smp
       have np0 := s5.free np
       have hLp : L ≠ p := ne_of_none hP5.ps.hD np
       generalize upd H5 p (.lst (ss.map V.int)) = H6 at *
       have hss : ss.Pairwise (· < ·) := (hrs.and (hpm.nodup_iff.mpr hnd)).imp fun ⟨a, b⟩ => by omega
       have hsm : ∀ y, y ∈ ss ↔ y ∈ rowA T z := fun y => hpm.mem_iff
       have hsl : ss.length ≤ 12 := by rw [hpm.length_eq]; exact hrowl
       refine ⟨p, rfl, ⟨_, SqL.of hp6⟩, ?_⟩
       refine for_list (K := K) (xs := ss.map V.int) (fun j σ H7 => ∃ (rs : List Addr) (out : List Edge) (y6 y7 : Option V), σ = [some (.ref q), some (.ref kq), some (.ref st), some (.ref L), some (.int (1 + (i : Nat))), some (.int z), y6, y7] ∧ Same H H7 ∧ H7 p = some (iL ss) ∧ PsF H H7 L rs out ∧ out.Pairwise ltE ∧
         (∀ e, e ∈ out ↔ (e.1 ≤ i ∧ MayE T m fs xs e) ∨ (e.1 = (i : Int) + 1 ∧ e.2 ∈ ss.take j ∧ e.2 ≠ z ∧ FitsT T fs (putP xs e.1 e.2))) ∧ out.length ≤ 12 * i + j) ?_ ?_ ?_ ?_
       · refine ⟨rs, out, _, _, rfl, s6, hp6, hP6, hpw, fun e => ?_, hol⟩
         rw [hom, List.take_zero]
         simp
       · rintro j σ H7 _ ⟨rs, out, y6, y7, rfl, s7, hp7, _⟩
         exact SqL.of hp7
       · rintro j x σ H7 hx2 ⟨rs, out, y6, y7, rfl, s7, hp7, hP7, hpw7, hom7, hol7⟩
         obtain ⟨g, hg, rfl⟩ := int_at hx2
         have hgr := hrn g ((hsm g).mp (List.mem_of_getElem? hg))
         have htk : ss.take (j + 1) = ss.take j ++ [g] := by rw [List.take_add_one, hg]; rfl
         have hjl : j < ss.length := (List.getElem?_eq_some_iff.mp hg).1
         have hs7 := s7 _ _ hs
         have hxl : (xs.map V.int).length = xs.length := List.length_map _
         have hx12 : xs.length ≤ 12 := by rw [hSt.len]; exact hm
         have h63 : ∀ k, k ≤ 100 → k ≤ sizeLine := fun k hk => Nat.le_trans hk (by decide)
         refine ⟨_, rfl, _, rfl, _, _, rfl, rfl, _, rfl, st, _, rfl, SqL.of hs7, fun c1 nc1 => ?_⟩
         rw [show (1 : Int) + (i : Int) - 1 = (i : Int) by omega, cut_to _ (by rw [hxl]; omega), ← List.map_take]
         have sa : Same H7 (upd H7 c1 (.lst ((xs.take i).map V.int))) := same_upd (Same.refl _) nc1
         have ha1 : (upd H7 c1 (.lst ((xs.take i).map V.int))) c1 = some (iL (xs.take i)) := upd_same
         generalize upd H7 c1 (.lst ((xs.take i).map V.int)) = Ha at *
         refine ⟨_, rfl, (Nat.le_of_ble_eq_true rfl : _ ≤ sizeLine), fun c2 nc2 => ?_⟩
         have sb : Same Ha (upd Ha c2 (.lst [.int g])) := same_upd (Same.refl _) nc2
         have hb1 := sb _ _ ha1
         have hb2 : (upd Ha c2 (.lst [.int g])) c2 = some (.lst [.int g]) := upd_same
         have s7b := sa.trans sb
         generalize upd Ha c2 (.lst [.int g]) = Hb at *
         refine Or.inr ⟨c1, c2, _, _, rfl, rfl, hb1, hb2, ?_, fun c3 nc3 => ?_⟩
         · rw [List.length_map, List.length_take]
           exact h63 _ (by simp; omega)
         have sc : Same Hb (upd Hb c3 (.lst ((xs.take i).map V.int ++ [.int g]))) := same_upd (Same.refl _) nc3
         have hc3 : (upd Hb c3 (.lst ((xs.take i).map V.int ++ [.int g]))) c3 = some (iL (xs.take i ++ [g])) := by
           rw [upd_same]; unfold iL; rw [List.map_append]; rfl
         have s7c := s7b.trans sc
         generalize upd Hb c3 (.lst ((xs.take i).map V.int ++ [.int g])) = Hc at *
         refine ⟨_, rfl, _, rfl, _, rfl, st, _, rfl, SqL.of (s7c _ _ hs7), fun c4 nc4 => ?_⟩
         have hcf : cutV (xs.map V.int) (some (1 + (i : Int))) none = (xs.drop (i + 1)).map V.int := by
           rw [show (1 : Int) + (i : Int) = ((i + 1 : Nat) : Int) by omega, cut_from _ (by rw [hxl]; omega), ← List.map_drop]
         rw [hcf]
         have sd : Same Hc (upd Hc c4 (.lst ((xs.drop (i + 1)).map V.int))) := same_upd (Same.refl _) nc4
         have hd4 : (upd Hc c4 (.lst ((xs.drop (i + 1)).map V.int))) c4 = some (iL (xs.drop (i + 1))) := upd_same
         have hd3 := sd _ _ hc3
         have s7d := s7c.trans sd
         generalize upd Hc c4 (.lst ((xs.drop (i + 1)).map V.int)) = Hd at *
         refine Or.inr ⟨c3, c4, _, _, rfl, rfl, hd3, hd4, ?_, fun c5 nc5 => ?_⟩
         · rw [List.length_map, List.length_map, List.length_append, List.length_take, List.length_drop]
           exact h63 _ (by simp; omega)
         have hput : upd Hd c5 (.lst ((xs.take i ++ [g]).map V.int ++ (xs.drop (i + 1)).map V.int)) = upd Hd c5 (iL (putP xs ((i : Int) + 1) g)) := by
           unfold iL
           rw [← List.map_append, put_cut hil]
         rw [hput]
         have se : Same Hd (upd Hd c5 (iL (putP xs ((i : Int) + 1) g))) := same_upd (Same.refl _) nc5
         have he5 : (upd Hd c5 (iL (putP xs ((i : Int) + 1) g))) c5 = some (iL (putP xs ((i : Int) + 1) g)) := upd_same
         have s7e := s7d.trans se
         generalize upd Hd c5 (iL (putP xs ((i : Int) + 1) g)) = He at *
         have s0e := s7.trans s7e
         have hPe := hP7.same s7e
         have hpe := s7e _ _ hp7
         have hmemE : ∀ e : Edge, (e.1 = (i : Int) + 1 ∧ e.2 ∈ ss.take (j + 1) ∧ e.2 ≠ z ∧ FitsT T fs (putP xs e.1 e.2)) ↔ (e.1 = (i : Int) + 1 ∧ e.2 ∈ ss.take j ∧ e.2 ≠ z ∧ FitsT T fs (putP xs e.1 e.2)) ∨ (e = ((i : Int) + 1, g) ∧ g ≠ z ∧ FitsT T fs (putP xs ((i : Int) + 1) g)) := fun e => by
           rw [htk, List.mem_append, List.mem_singleton]
           obtain ⟨e1, e2⟩ := e
           simp only [Prod.mk.injEq]
           constructor
           · rintro ⟨k1, k2 | k2, k3, k4⟩
             · exact .inl ⟨k1, k2, k3, k4⟩
             · subst k1; subst k2
               exact .inr ⟨⟨rfl, rfl⟩, k3, k4⟩
           · rintro (⟨k1, k2, k3, k4⟩ | ⟨⟨k1, k2⟩, k3, k4⟩)
             · exact ⟨k1, .inl k2, k3, k4⟩
             · subst k1; subst k2
               exact ⟨rfl, .inr rfl, k3, k4⟩
         have hno : ∀ H8, Same He H8 → ¬ (g ≠ z ∧ FitsT T fs (putP xs ((i : Int) + 1) g)) → ∃ (rs : List Addr) (out : List Edge) (y6' y7' : Option V), [some (V.ref q), some (.ref kq), some (.ref st), some (.ref L), some (.int (1 + (i : Nat))), some (.int z), some (.int g), some (.ref c5)] = [some (.ref q), some (.ref kq), some (.ref st), some (.ref L), some (.int (1 + (i : Nat))), some (.int z), y6', y7'] ∧ Same H H8 ∧ H8 p = some (iL ss) ∧ PsF H H8 L rs out ∧ out.Pairwise ltE ∧
             (∀ e, e ∈ out ↔ (e.1 ≤ i ∧ MayE T m fs xs e) ∨ (e.1 = (i : Int) + 1 ∧ e.2 ∈ ss.take (j + 1) ∧ e.2 ≠ z ∧ FitsT T fs (putP xs e.1 e.2))) ∧ out.length ≤ 12 * i + (j + 1) := fun H8 s8 hn2 => by
           refine ⟨rs, out, _, _, rfl, s0e.trans s8, s8 _ _ hpe, hPe.same s8, hpw7, fun e => ?_, by omega⟩
           rw [hom7, hmemE]
           constructor
           · rintro (h | h)
             · exact .inl h
             · exact .inr (.inl h)
           · rintro (h | h | h)
             · exact .inl h
             · exact .inr h
             · exact absurd h.2 hn2
         refine ⟨_, rfl, _, rfl, Or.inl ⟨rfl, _, rfl, ?_⟩⟩
         refine ite2 (fun hc => ?_) (fun hc => ?_)
         · have hgz : g ≠ z := fun e => by rw [e] at hc; simp at hc
           refine ⟨_, rfl, _, rfl, _, rfl, ?_⟩
           refine call_fits hm (hT.same s0e) (hk.same s0e) hl hrg he5 (hSt.put hgr.1 hgr.2) (fun H8 sm8 => ?_)
           refine ⟨_, rfl, ?_⟩
           refine ite2 (fun hc2 => ?_) (fun hc2 => ?_)
           · have hc2 := of_decide_eq_true hc2
             have hP8 := hPe.same sm8
             have s08 := s0e.trans sm8
             refine ⟨_, rfl, .inl ⟨rfl, _, SqL.of hP8.ps.hD⟩, ?_⟩
             refine ⟨_, rfl, _, rfl, (Nat.le_of_ble_eq_true rfl : _ ≤ sizeLine), fun c6 nc6 => ?_⟩
             have hLc : L ≠ c6 := ne_of_none hP8.ps.hD nc6
             have hpL : p ≠ L := fun e => hLp e.symm
             have hP9 := hP8.push nc6 (s08.free nc6) ((i : Int) + 1, g)
             refine ⟨L, _, _, rfl, rfl, (upd_ne hLc).trans hP8.ps.hD, ?_, ?_⟩
             · rw [List.length_map, hP8.ps.len]
               exact Nat.lt_of_le_of_lt (m := 1000) (by omega) (by decide)
             refine ⟨rs ++ [c6], out ++ [((i : Int) + 1, g)], _, _, rfl, same_upd (same_upd s08 (s08.free nc6)) nL, ?_, ?_, ?_, fun e => ?_, ?_⟩
             · rw [upd_ne hpL]
               exact (upd_ne (ne_of_none (sm8 _ _ hpe) nc6)).trans (sm8 _ _ hpe)
             · have e1 : [V.int (1 + (i : Int)), V.int g] = [V.int ((i : Int) + 1), V.int g] := by rw [Int.add_comm]
               show PsF H (upd (upd H8 c6 (.lst [V.int (1 + (i : Int)), V.int g])) L (.lst (rs.map V.ref ++ [V.ref c6]))) L _ _
               rw [e1]
               exact hP9
             · rw [List.pairwise_append]
               refine ⟨hpw7, List.pairwise_singleton _ _, fun a ha b hb => ?_⟩
               rw [List.mem_singleton.mp hb]
               rcases (hom7 a).mp ha with h | ⟨h1, h2, _⟩
               · exact .inl (by show a.1 < (i : Int) + 1; omega)
               · refine .inr ⟨h1, ?_⟩
                 show a.2 < g
                 obtain ⟨k, hk⟩ := List.getElem?_of_mem h2
                 rw [List.getElem?_take] at hk
                 split at hk
                 · rename_i hkj
                   have hkl : k < ss.length := by omega
                   have := List.pairwise_iff_getElem.mp hss k j hkl hjl hkj
                   rw [List.getElem?_eq_getElem hkl] at hk
                   rw [List.getElem?_eq_getElem hjl] at hg
                   rw [← Option.some.inj hk, ← Option.some.inj hg]
                   exact this
                 · cases hk
             · rw [List.mem_append, List.mem_singleton, hom7, hmemE]
               constructor
               · rintro ((h | h) | h)
                 · exact .inl h
                 · exact .inr (.inl h)
                 · exact .inr (.inr ⟨h, hgz, hc2⟩)
               · rintro (h | h | h)
                 · exact .inl (.inl h)
                 · exact .inl (.inr h)
                 · exact .inr h.1
             · rw [List.length_append, List.length_singleton]
               omega
           · exact hno H8 sm8 fun h => hc2 (decide_eq_true h.2)
         · have hgz : g = z := by
             apply Classical.byContradiction
             intro e
             exact hc (by simp; exact e)
           exact ifF rfl (hno He (Same.refl _) fun h => h.1 hgz)
       · rintro σ H7 ⟨rs, out, y6, y7, rfl, s7, hp7, hP7, hpw7, hom7, hol7⟩
         rw [List.length_map, List.take_length] at hom7
         rw [List.length_map] at hol7
         refine ⟨rs, out, _, _, _, _, rfl, s7, hP7, hpw7, fun e => ?_, by omega⟩
         rw [hom7]
         constructor
         · rintro (⟨h1, h2⟩ | ⟨h1, h2, h3, h4⟩)
           · exact ⟨by omega, h2⟩
           · refine ⟨by omega, by omega, by omega, ?_, ?_, h4⟩
             · rw [h1, hpz]; exact (hsm _).mp h2
             · rw [h1, hpz]; exact h3
         · rintro ⟨h1, h2⟩
           by_cases h3 : e.1 ≤ i
           · exact .inl ⟨h3, h2⟩
           · have h4 : e.1 = (i : Int) + 1 := by omega
             obtain ⟨k1, k2, k3, k4, k5⟩ := h2
             rw [h4, hpz] at k3 k4
             exact .inr ⟨h4, (hsm _).mpr k3, k4, k5⟩
     · rintro σ H4 ⟨rs, out, y4, y5, y6, y7, rfl, sm, hP, hpw, hom, hol⟩
       rw [List.length_map, hSt.len] at hom hol
       refine ⟨_, rfl, fin L rs out H4 sm nL hP hpw (fun e => ?_) (by omega)⟩
       rw [hom]
       exact ⟨fun h => h.2, fun h => ⟨h.2.1, h⟩⟩
end
/-! piece SH -/
section
/-! ### the law's table, and the people's shadows -/
theorem rowA_near {n : Nat} {es : List Edge} (hS : Simp n es) {x : Int} (h1 : 1 ≤ x) (h2 : x ≤ n) : rowA (nearM n es) x = x :: mates x es := by
  unfold rowA
  rw [List.getD_eq_getElem?_getD, near_get hS (by omega) (by omega), show ((x.toNat : Nat) : Int) = x by omega]
  rfl
theorem nearM_len (n : Nat) (es : List Edge) : (nearM n es).length = n + 1 := by
  unfold nearM
  rw [foldl_addE_length, near0_length]
theorem near_tabR {n : Nat} {es : List Edge} (hS : Simp n es) : TabR n (nearM n es) := fun x h1 h2 => by
  rw [rowA_near hS h1 h2]
  refine ⟨List.nodup_cons.mpr ⟨fun hm => (mates_rng hS x hm).2.2 rfl, mates_nodup hS⟩, fun y hy => ?_⟩
  rcases List.mem_cons.mp hy with rfl | hy
  · exact ⟨h1, h2⟩
  · have := mates_rng hS y hy
    exact ⟨this.1, this.2.1⟩
theorem near_adj {n : Nat} {es : List Edge} (hS : Simp n es) {x y : Int} (h1 : 1 ≤ x) (h2 : x ≤ n) : y ∈ rowA (nearM n es) x ↔ Adj es x y := by
  rw [rowA_near hS h1 h2]
  exact Iff.rfl
theorem fits_near {n m : Nat} {es fs : List Edge} {xs : List Int} (hS : Simp n es) (hr : Simp m fs) (hSt : Stds m n xs) : FitsT (nearM n es) fs xs ↔ StandOk es fs xs := by
  unfold FitsT StandOk
  refine forall_congr' fun e => forall_congr' fun he => ?_
  have := hr.rng e he
  have h := hSt.plc (i := e.1) this.1 this.2.1
  exact near_adj hS h.1 h.2
theorem stand_put {m : Nat} {es fs : List Edge} {xs : List Int} (hSf : Simp m fs) (hl : xs.length = m) (hok : StandOk es fs xs) {i g : Int} (h1 : 1 ≤ i) (h2 : i ≤ m) : StandOk es fs (putP xs i g) ↔ ∀ o ∈ mates i fs, Adj es (plc xs o) g := by
  constructor
  · intro h o ho
    have hor := mates_rng hSf o ho
    have := h.mate ho
    rw [plc_put h1 (by rw [hl]; exact h2) h1, if_pos rfl, plc_put h1 (by rw [hl]; exact h2) hor.1, if_neg hor.2.2] at this
    exact adj_symm _ _ this
  · intro h e he
    have hr := hSf.rng e he
    rw [plc_put h1 (by rw [hl]; exact h2) hr.1, plc_put h1 (by rw [hl]; exact h2) hr.2.2.1]
    by_cases e1 : e.1 = i
    · by_cases e2 : e.2 = i
      · omega
      · rw [if_pos e1, if_neg e2]
        exact adj_symm _ _ (h e.2 (mem_mates.mpr (.inl (by rw [← e1]; exact he))))
    · by_cases e2 : e.2 = i
      · rw [if_neg e1, if_pos e2]
        exact h e.1 (mem_mates.mpr (.inr (by rw [← e2]; exact he)))
      · rw [if_neg e1, if_neg e2]
        exact hok e he
theorem may_iff {n m : Nat} {es fs : List Edge} {xs : List Int} (hS : Simp n es) (hSf : Simp m fs) (hSt : Stds m n xs) (hok : StandOk es fs xs) (e : Edge) : e ∈ mayM n es fs xs m ↔ MayE (nearM n es) m fs xs e := by
  rw [mayM_mem]
  unfold MayE
  constructor
  · rintro ⟨⟨h1, h2⟩, h3⟩
    have hp := hSt.plc h1 h2
    obtain ⟨k1, k2, k3⟩ := (mayG_mem hS hp.1 hp.2).mp h3
    have hg := besideM_rng (List.mem_filter.mp h3).1
    refine ⟨h1, h2, (near_adj hS hp.1 hp.2).mpr k1, k2, ?_⟩
    rw [fits_near hS hSf (hSt.put hg.1 hg.2), stand_put hSf hSt.len hok h1 h2]
    exact k3
  · rintro ⟨h1, h2, h3, h4, h5⟩
    have hp := hSt.plc h1 h2
    have hg := (near_tabR hS _ hp.1 hp.2).2 _ h3
    rw [fits_near hS hSf (hSt.put hg.1 hg.2), stand_put hSf hSt.len hok h1 h2] at h5
    exact ⟨⟨h1, h2⟩, (mayG_mem hS hp.1 hp.2).mpr ⟨(near_adj hS hp.1 hp.2).mp h3, h4, h5⟩⟩
theorem mayM_pw (n : Nat) (es fs : List Edge) (xs : List Int) : ∀ k, (mayM n es fs xs k).Pairwise ltE
  | 0 => List.Pairwise.nil
  | k + 1 => by
    rw [mayM_succ, List.pairwise_append]
    refine ⟨mayM_pw n es fs xs k, ?_, fun a ha b hb => ?_⟩
    · rw [List.pairwise_map]
      exact mayG_lt.imp fun h => .inr ⟨rfl, h⟩
    · have h1 := (mayM_mem.mp ha).1
      obtain ⟨g, _, rfl⟩ := List.mem_map.mp hb
      exact .inl (by show a.1 < (k : Int) + 1; omega)
theorem may_is {n m : Nat} {es fs : List Edge} {xs : List Int} {out : List Edge} (hS : Simp n es) (hSf : Simp m fs) (hSt : Stds m n xs) (hok : StandOk es fs xs) (hp : out.Pairwise ltE) (ho : ∀ e, e ∈ out ↔ MayE (nearM n es) m fs xs e) : out = mayM n es fs xs m :=
  ltE_unique hp (mayM_pw n es fs xs m) fun e => (ho e).trans (may_iff hS hSf hSt hok e).symm
/-- the places of an end as people -/
structure Crowd (n m : Nat) (es fs : List Edge) (left : List Int) : Prop where
  len : left.length = m
  inn : InNet n left
  sim : Simp m fs
  ks : ∀ i j : Int, 1 ≤ i → i ≤ m → 1 ≤ j → j ≤ m → (j ∈ mates i fs ↔ i ≠ j ∧ Adj es (plc left i) (plc left j))
theorem Crowd.nd {n m : Nat} {es fs : List Edge} {left : List Int} (h : Crowd n m es fs left) : left.Nodup := h.inn.lt.imp fun h => by omega
theorem Crowd.stds {n m : Nat} {es fs : List Edge} {left : List Int} (h : Crowd n m es fs left) : Stds m n left := ⟨h.len, h.inn.rng⟩
theorem Crowd.inj {n m : Nat} {es fs : List Edge} {left : List Int} (h : Crowd n m es fs left) {i j : Int} (h1 : 1 ≤ i) (h2 : i ≤ m) (h3 : 1 ≤ j) (h4 : j ≤ m) (e : plc left i = plc left j) : i = j := by
  have a := plc_get (xs := left) (i := i) h1 (by rw [h.len]; exact h2)
  have b := plc_get (xs := left) (i := j) h3 (by rw [h.len]; exact h4)
  rw [e] at a
  have := nd_ix h.nd a b
  omega
/-- the number of the person whose place it is -/
def whoM (left : List Int) (x : Int) : Int := (left.idxOf x : Int) + 1
theorem Crowd.who {n m : Nat} {es fs : List Edge} {left : List Int} (h : Crowd n m es fs left) {x : Int} (hx : x ∈ left) : 1 ≤ whoM left x ∧ whoM left x ≤ m ∧ plc left (whoM left x) = x := by
  have hl := List.idxOf_lt_length_of_mem hx
  unfold whoM
  refine ⟨by omega, by rw [← h.len]; omega, ?_⟩
  apply plc_of
  rw [List.getElem?_eq_getElem hl, List.getElem_idxOf]
theorem Crowd.start_ok {n m : Nat} {es fs : List Edge} {left : List Int} (h : Crowd n m es fs left) : StandOk es fs left := fun e he => by
  have hr := h.sim.rng e he
  exact ((h.ks e.1 e.2 hr.1 hr.2.1 hr.2.2.1 hr.2.2.2.1).mp (mem_mates.mpr (.inl he))).2
structure Shadow (n m : Nat) (es fs : List Edge) (left : List Int) (ls : List (List Edge)) (xs : List Int) : Prop where
  st : Stds m n xs
  ok : StandOk es fs xs
  back : ∀ l ∈ ls, ∀ i : Int, 1 ≤ i → i ≤ m → mapR l (plc xs i) = plc left i
theorem shadow_start {n m : Nat} {es fs : List Edge} {left : List Int} {ls : List (List Edge)} (h : Crowd n m es fs left) (hls : ∀ l ∈ ls, RunL es (allM n) l left) : Shadow n m es fs left ls left :=
  ⟨h.stds, h.start_ok, fun l hl i h1 h2 => mapR_fix (hls l hl).run (plc_mem h1 (by rw [h.len]; exact h2))⟩
theorem shadow_may {n m : Nat} {es fs : List Edge} {left : List Int} {ls : List (List Edge)} {xs : List Int} {e : Edge} (hS : Simp n es) (h : Crowd n m es fs left) (hls : ∀ l ∈ ls, RunL es (allM n) l left) (hst : foldableM es left = []) (hx : Shadow n m es fs left ls xs) (he : MayE (nearM n es) m fs xs e) :
    Shadow n m es fs left ls (putP xs e.1 e.2) := by
  obtain ⟨h1, h2, h3, h4, h5⟩ := he
  have hp := hx.st.plc h1 h2
  have hg := (near_tabR hS _ hp.1 hp.2).2 _ h3
  have hSp := hx.st.put (i := e.1) hg.1 hg.2
  have ha := (near_adj hS hp.1 hp.2).mp h3
  rw [fits_near hS h.sim hSp] at h5
  refine ⟨hSp, h5, fun l hl i hi1 hi2 => ?_⟩
  rw [plc_put h1 (by rw [hx.st.len]; exact h2) hi1]
  by_cases hie : i = e.1
  · rw [if_pos hie, hie]
    rw [stand_put h.sim hx.st.len hx.ok h1 h2] at h5
    refine shadow_step adj_symm (hls l hl).run (stiff_of hst) (s := fun z => plc xs (whoM left z)) (fun z hz => ?_) (fun z hz => ?_) (plc_mem h1 (by rw [h.len]; exact h2)) (allM_mem.mpr hg) (fun z hz hza => ?_)
    · obtain ⟨w1, w2, w3⟩ := h.who hz
      exact allM_mem.mpr (hx.st.plc w1 w2)
    · obtain ⟨w1, w2, w3⟩ := h.who hz
      show mapR l (plc xs (whoM left z)) = z
      rw [hx.back l hl _ w1 w2, w3]
    · obtain ⟨w1, w2, w3⟩ := h.who hz
      by_cases hw : whoM left z = e.1
      · show Adj es e.2 (plc xs (whoM left z))
        rw [hw]
        exact adj_symm _ _ ha
      · refine adj_symm _ _ (h5 _ ((h.ks e.1 (whoM left z) h1 h2 w1 w2).mpr ⟨fun q => hw q.symm, ?_⟩))
        rw [w3]
        exact hza
  · rw [if_neg hie]
    exact hx.back l hl i hi1 hi2
theorem shadow_differ {n m : Nat} {es fs : List Edge} {left : List Int} {ls : List (List Edge)} {xs : List Int} {l : List Edge} (h : Crowd n m es fs left) (hl : l ∈ ls) (hx : Shadow n m es fs left ls xs) (hm : 2 ≤ m) : plc xs 1 ≠ plc xs 2 := fun e => by
  have h1 := hx.back l hl 1 (by omega) (by omega)
  have h2 := hx.back l hl 2 (by omega) (by omega)
  rw [e, h2] at h1
  have := h.inj (i := 2) (j := 1) (by omega) (by omega) (by omega) (by omega) h1
  omega
theorem plc_rep {m : Nat} {c i : Int} (h1 : 1 ≤ i) (h2 : i ≤ m) : plc (List.replicate m c) i = c := by
  unfold plc
  rw [List.getD_eq_getElem?_getD, List.getElem?_replicate, if_pos (by omega)]
  rfl
theorem rep_stds {m n : Nat} {c : Int} (h1 : 1 ≤ c) (h2 : c ≤ n) : Stds m n (List.replicate m c) := ⟨List.length_replicate, fun x hx => by rw [(List.mem_replicate.mp hx).2]; exact ⟨h1, h2⟩⟩
theorem rep_ok {m : Nat} {es fs : List Edge} {c : Int} (hSf : Simp m fs) : StandOk es fs (List.replicate m c) := fun e he => by
  have hr := hSf.rng e he
  rw [plc_rep hr.1 hr.2.1, plc_rep hr.2.2.1 hr.2.2.2.1]
  exact adj_refl es c
theorem flips_symm : ∀ {as bs : List Edge}, Flips as bs → Flips bs as
  | [], [], _ => trivial
  | a :: as, b :: bs, h => ⟨by
      rcases h.1 with e | e
      · exact .inl e.symm
      · exact .inr (by rw [e]), flips_symm h.2⟩
theorem flips_mates {as bs : List Edge} (h : Flips as bs) (i j : Int) : j ∈ mates i bs ↔ j ∈ mates i as := by
  have one : ∀ {as bs : List Edge}, Flips as bs → j ∈ mates i bs → j ∈ mates i as := fun h hm => by
    rcases mem_mates.mp hm with hb | hb
    · obtain ⟨a, ha, e | e⟩ := flips_mem h _ hb
      · exact mem_mates.mpr (.inl (e ▸ ha))
      · exact mem_mates.mpr (.inr (by rw [Prod.mk.injEq] at e; rw [e.1, e.2]; exact ha))
    · obtain ⟨a, ha, e | e⟩ := flips_mem h _ hb
      · exact mem_mates.mpr (.inr (e ▸ ha))
      · exact mem_mates.mpr (.inl (by rw [Prod.mk.injEq] at e; rw [e.1, e.2]; exact ha))
  exact ⟨one h, one (flips_symm h)⟩
theorem crowd_of {n : Nat} {es fs : List Edge} {left : List Int} (hI : InNet n left) (hf : Flips (tiesM es left left.length) fs) : Crowd n left.length es fs left :=
  ⟨rfl, hI, simp_flips (tiesM_simp es left) hf, fun i j h1 h2 h3 h4 => by rw [flips_mates hf, tiesM_mates h1 h2 h3 h4]⟩
theorem flips_refl : ∀ as : List Edge, Flips as as
  | [] => trivial
  | _ :: as => ⟨.inl rfl, flips_refl as⟩
/-- all ends have as many places -/
theorem nodup_sub_le : ∀ {l m : List Int}, l.Nodup → (∀ x ∈ l, x ∈ m) → l.length ≤ m.length
  | [], _, _, _ => Nat.zero_le _
  | a :: l, m, nd, h => by
    have hnd := List.nodup_cons.mp nd
    have ha := h a (List.mem_cons_self ..)
    have := nodup_sub_le (l := l) (m := m.erase a) hnd.2 fun x hx => (List.mem_erase_of_ne (fun e => hnd.1 (by first | (rw [← e]; exact hx) | (rw [e]; exact hx)))).mpr (h x (List.mem_cons_of_mem _ hx))
    rw [List.length_erase_of_mem ha] at this
    have hp := List.length_pos_of_mem ha
    rw [List.length_cons]
    omega
theorem ends_le {n : Nat} {es l m : List Edge} {a b : List Int} (ra : RunL es (allM n) l a) (sa : foldableM es a = []) (rb : RunL es (allM n) m b) : a.length ≤ b.length := by
  have nda : a.Nodup := (ra.length ((allM_lt n).imp fun h => by omega)).2
  have h1 : (a.map (mapR m)).Nodup := by
    refine List.pairwise_map.mpr (nda.imp_of_mem fun {x y} hx hy hne e => hne ?_)
    have k1 := back (adj_refl es) adj_symm ra.run (stiff_of sa) rb.run hx
    have k2 := back (adj_refl es) adj_symm ra.run (stiff_of sa) rb.run hy
    rw [← k1, ← k2, e]
  have := nodup_sub_le h1 fun x hx => by
    obtain ⟨y, hy, rfl⟩ := List.mem_map.mp hx
    exact mapR_in rb.run (ra.sub y hy)
  rwa [List.length_map] at this
theorem ends_eq {n : Nat} {es l m : List Edge} {a b : List Int} (ra : RunL es (allM n) l a) (sa : foldableM es a = []) (rb : RunL es (allM n) m b) (sb : foldableM es b = []) : a.length = b.length :=
  Nat.le_antisymm (ends_le ra sa rb) (ends_le rb sb ra)
/-- on another end none of the people has a step -/
def innerT (T : List (List Int)) (stay : List Int) : List (List Int) := T.map fun row => row.filter fun x => decide (x ∈ stay)
theorem rowA_inner {T : List (List Int)} {stay : List Int} {x : Int} (h0 : 0 ≤ x) (h : x < T.length) : rowA (innerT T stay) x = (rowA T x).filter fun x => decide (x ∈ stay) := by
  have h1 := rowA_get (T := T) h0 h
  have h2 := rowA_get (T := innerT T stay) h0 (by unfold innerT; rw [List.length_map]; exact h)
  unfold innerT at h2
  rw [List.getElem?_map, h1] at h2
  exact (Option.some.inj h2).symm
theorem inner_tabR {n : Nat} {es : List Edge} (hS : Simp n es) (stay : List Int) : TabR n (innerT (nearM n es) stay) := fun x h1 h2 => by
  rw [rowA_inner (by omega) (by rw [nearM_len]; omega)]
  obtain ⟨k1, k2⟩ := near_tabR hS x h1 h2
  exact ⟨k1.filter _, fun y hy => k2 y (List.mem_filter.mp hy).1⟩
theorem never_may {n m : Nat} {es fs l l2 : List Edge} {left stay : List Int} (hS : Simp n es) (h : Crowd n m es fs left) (rl : RunL es (allM n) l left) (sl : foldableM es left = []) (r2 : RunL es (allM n) l2 stay) (s2 : foldableM es stay = []) (e : Edge) :
    ¬ MayE (innerT (nearM n es) stay) m fs (left.map (mapR l2)) e := by
  rintro ⟨h1, h2, h3, h4, h5⟩
  have hpl : ∀ i : Int, 1 ≤ i → i ≤ m → plc (left.map (mapR l2)) i = mapR l2 (plc left i) := fun i k1 k2 => by
    have := plc_get (xs := left) (i := i) k1 (by rw [h.len]; exact k2)
    have h6 := plc_get (xs := left.map (mapR l2)) (i := i) k1 (by rw [List.length_map, h.len]; exact k2)
    rw [List.getElem?_map, this] at h6
    exact (Option.some.inj h6).symm
  have hxl : (left.map (mapR l2)).length = m := by rw [List.length_map, h.len]
  have hin : ∀ i : Int, 1 ≤ i → i ≤ m → plc left i ∈ left := fun i k1 k2 => plc_mem k1 (by rw [h.len]; exact k2)
  have hst : ∀ i : Int, 1 ≤ i → i ≤ m → mapR l2 (plc left i) ∈ stay := fun i k1 k2 => mapR_in r2.run (rl.sub _ (hin i k1 k2))
  have hrg : ∀ x ∈ stay, 1 ≤ x ∧ x ≤ (n : Int) := fun x hx => allM_mem.mp (r2.sub x hx)
  have hrow : ∀ x y : Int, 1 ≤ x → x ≤ n → (y ∈ rowA (innerT (nearM n es) stay) x ↔ Adj es x y ∧ y ∈ stay) := fun x y k1 k2 => by
    rw [rowA_inner (by omega) (by rw [nearM_len]; omega), List.mem_filter, decide_eq_true_eq, near_adj hS k1 k2]
  rw [hpl _ h1 h2] at h3 h4
  have hh := hst _ h1 h2
  have hhr := hrg _ hh
  obtain ⟨ha, hts⟩ := (hrow _ _ hhr.1 hhr.2).mp h3
  have htr := hrg _ hts
  refine stiff_of s2 _ _ ⟨hh, hts, fun q => h4 q.symm, fun z hz hza => ?_⟩
  -- z is where somebody stands
  have hzb := back (adj_refl es) adj_symm r2.run (stiff_of s2) rl.run hz
  have hy : mapR l z ∈ left := mapR_in rl.run (r2.sub z hz)
  obtain ⟨w1, w2, w3⟩ := h.who hy
  have hzw : z = mapR l2 (plc left (whoM left (mapR l z))) := by rw [w3, hzb]
  generalize whoM left (mapR l z) = j at *
  by_cases hji : j = e.1
  · rw [hzw, hji]
    exact adj_symm _ _ ha
  have hadj : Adj es (plc left e.1) (plc left j) := by
    rw [hzw] at hza
    exact (alike_iff (adj_refl es) adj_symm rl.run (stiff_of sl) r2.run (hin _ h1 h2) (hin _ w1 w2)).mp hza
  have hjm : j ∈ mates e.1 fs := (h.ks e.1 j h1 h2 w1 w2).mpr ⟨fun q => hji q.symm, hadj⟩
  have pe : plc (putP (left.map (mapR l2)) e.1 e.2) e.1 = e.2 := by rw [plc_put h1 (by rw [hxl]; exact h2) h1, if_pos rfl]
  have pj : plc (putP (left.map (mapR l2)) e.1 e.2) j = z := by rw [plc_put h1 (by rw [hxl]; exact h2) w1, if_neg hji, hpl _ w1 w2, ← hzw]
  have hzr := hrg _ hz
  rcases mem_mates.mp hjm with hf | hf
  · have := h5 _ hf
    simp only at this
    rw [pe, pj, hrow _ _ htr.1 htr.2] at this
    exact this.1
  · have := h5 _ hf
    simp only at this
    rw [pe, pj, hrow _ _ hzr.1 hzr.2] at this
    exact adj_symm _ _ this.1
end
/-! piece XM -/
section
theorem zip_of {H : Hp} {D : Addr} {rs : List Addr} {ps : List Edge} (h : TsAt H D rs ps) : (∀ x ∈ rs.zip ps, H x.1 = some (.tup [.int x.2.1, .int x.2.2]) ∧ x.2 ∈ ps) ∧ (rs.zip ps).map (fun x => V.ref x.1) = rs.map V.ref ∧ (rs.zip ps).map (fun x => x.2) = ps := by
  refine ⟨fun x hx => ?_, ?_, ?_⟩
  · obtain ⟨i, hi⟩ := List.getElem?_of_mem hx
    rw [List.getElem?_zip_eq_some] at hi
    exact ⟨h.at_ i _ _ hi.1 hi.2, List.mem_of_getElem? hi.2⟩
  · rw [show (fun x : Addr × Edge => V.ref x.1) = V.ref ∘ Prod.fst from rfl, ← List.map_map, List.map_fst_zip (by rw [h.len]; exact Nat.le_refl _)]
  · exact List.map_snd_zip (by rw [h.len]; exact Nat.le_refl _)
theorem eqv_ints_dec : ∀ xs ys : List Int, PyData.eqv (.list (xs.map .int)) (.list (ys.map .int)) = decide (xs = ys) := fun xs ys => by
  have h : ∀ xs ys : List Int, PyData.eqvAll (xs.map .int) (ys.map .int) = decide (xs = ys) := fun xs => by
    induction xs with
    | nil => intro ys; cases ys <;> simp [PyData.eqvAll]
    | cons x r ih =>
      intro ys
      cases ys with
      | nil => simp [PyData.eqvAll]
      | cons y q =>
        rw [List.map_cons, List.map_cons, PyData.eqvAll, ih]
        by_cases e : x = y
        · by_cases e2 : r = q <;> simp [PyData.eqv, e, e2]
        · simp [PyData.eqv, e]
  rw [PyData.eqv, h]
theorem plc_map {xs : List Int} {f : Int → Int} {i : Int} (h1 : 1 ≤ i) (h2 : i ≤ xs.length) : plc (xs.map f) i = f (plc xs i) := by
  have a := plc_get (xs := xs) h1 h2
  have b := plc_get (xs := xs.map f) (i := i) h1 (by rw [List.length_map]; exact h2)
  rw [List.getElem?_map, a] at b
  exact (Option.some.inj b).symm
end
/-! piece SA -/
section
/-! ### standings that come along with folds -/
/-- the persons among the first k who stand on a place -/
def onK (xs : List Int) (p : Int) (k : Nat) : List Int := ((List.range k).filter fun (i : Nat) => decide (plc xs ((i : Int) + 1) = p)).map fun (i : Nat) => (i : Int) + 1
def onP (xs : List Int) (p : Int) : List Int := onK xs p xs.length
def foldP (xs : List Int) (p q : Int) : List Int := xs.map fun a => if a = p then q else a
def alongS : List Edge → List Int → List Int → List Edge × List Edge
  | [], _, _ => ([], [])
  | (p, q) :: l, xs, ys => if xs = ys then ([], []) else
    ((onP xs p).map (fun i => (i, q)) ++ (alongS l (foldP xs p q) (foldP ys p q)).1, (onP ys p).map (fun i => (i, p)) ++ (alongS l (foldP xs p q) (foldP ys p q)).2)
theorem onK_succ (xs : List Int) (p : Int) (k : Nat) : onK xs p (k + 1) = onK xs p k ++ (if plc xs ((k : Int) + 1) = p then [(k : Int) + 1] else []) := by
  unfold onK
  rw [List.range_succ, List.filter_append, List.map_append]
  congr 1
  rw [List.filter_cons]
  by_cases hh : plc xs ((k : Int) + 1) = p
  · rw [if_pos hh, if_pos (decide_eq_true hh)]
    rfl
  · rw [if_neg hh, if_neg (fun e => hh (of_decide_eq_true e))]
    rfl
theorem onK_len (xs : List Int) (p : Int) (k : Nat) : (onK xs p k).length ≤ k := by
  unfold onK
  rw [List.length_map]
  exact Nat.le_trans (List.length_filter_le ..) (by rw [List.length_range]; exact Nat.le_refl _)
theorem onP_mem {xs : List Int} {p i : Int} : i ∈ onP xs p ↔ 1 ≤ i ∧ i ≤ xs.length ∧ plc xs i = p := by
  unfold onP onK
  rw [List.mem_map]
  constructor
  · rintro ⟨j, hj, rfl⟩
    obtain ⟨h1, h2⟩ := List.mem_filter.mp hj
    have h1 := List.mem_range.mp h1
    exact ⟨by omega, by omega, of_decide_eq_true h2⟩
  · rintro ⟨h1, h2, h3⟩
    refine ⟨i.toNat - 1, List.mem_filter.mpr ⟨List.mem_range.mpr (by omega), decide_eq_true ?_⟩, by omega⟩
    rw [show ((i.toNat - 1 : Nat) : Int) + 1 = i by omega]
    exact h3
theorem onP_nodup (xs : List Int) (p : Int) : (onP xs p).Nodup := by
  unfold onP onK
  rw [List.nodup_iff_pairwise_ne, List.pairwise_map]
  exact (List.Pairwise.filter _ List.pairwise_lt_range).imp fun h => by omega
theorem foldP_len (xs : List Int) (p q : Int) : (foldP xs p q).length = xs.length := by unfold foldP; rw [List.length_map]
theorem foldP_plc {xs : List Int} {p q i : Int} (h1 : 1 ≤ i) (h2 : i ≤ xs.length) : plc (foldP xs p q) i = if plc xs i = p then q else plc xs i := plc_map h1 h2
theorem alongS_len (m : Nat) : ∀ (l : List Edge) (xs ys : List Int), xs.length = m → ys.length = m → (alongS l xs ys).1.length ≤ m * l.length ∧ (alongS l xs ys).2.length ≤ m * l.length
  | [], _, _, _, _ => ⟨Nat.le_refl _, Nat.le_refl _⟩
  | (p, q) :: l, xs, ys, h1, h2 => by
    have ih := alongS_len m l (foldP xs p q) (foldP ys p q) (by rw [foldP_len, h1]) (by rw [foldP_len, h2])
    have e1 := onK_len xs p xs.length
    have e2 := onK_len ys p ys.length
    have hm : m * (l.length + 1) = m * l.length + m := Nat.mul_succ ..
    unfold alongS
    by_cases e : xs = ys
    · rw [if_pos e]
      exact ⟨Nat.zero_le _, Nat.zero_le _⟩
    · rw [if_neg e, List.length_cons]
      simp only [List.length_append, List.length_map]
      unfold onP
      omega
/-- steps, one by one, each of them let -/
inductive Wk (n m : Nat) (es fs : List Edge) : List Int → List Edge → List Int → Prop where
  | nil (xs : List Int) : Wk n m es fs xs [] xs
  | cons {xs ys : List Int} {e : Edge} {l : List Edge} (h : e ∈ mayM n es fs xs m) (r : Wk n m es fs (putP xs e.1 e.2) l ys) : Wk n m es fs xs (e :: l) ys
theorem Wk.append {n m : Nat} {es fs : List Edge} {xs ys zs : List Int} {l k : List Edge} (h : Wk n m es fs xs l ys) (h2 : Wk n m es fs ys k zs) : Wk n m es fs xs (l ++ k) zs := by
  induction h with
  | nil xs => exact h2
  | cons a r ih => exact .cons a (ih h2)
theorem putP_putP {xs : List Int} {i a b : Int} : putP (putP xs i a) i b = putP xs i b := by
  unfold putP
  rw [List.set_set]
theorem putP_same {xs : List Int} {i : Int} (h1 : 1 ≤ i) (h2 : i ≤ xs.length) : putP xs i (plc xs i) = xs := by
  refine plc_ext (putP_len ..) fun j h3 h4 => ?_
  rw [plc_put h1 h2 h3]
  by_cases e : j = i
  · rw [if_pos e, e]
  · rw [if_neg e]
theorem step_mem {n m : Nat} {es fs : List Edge} {xs : List Int} (hS : Simp n es) (hSt : Stds m n xs) {k q : Int} (h1 : 1 ≤ k) (h2 : k ≤ m) (ha : Adj es (plc xs k) q) (hne : q ≠ plc xs k) (ho : ∀ o ∈ mates k fs, Adj es (plc xs o) q) : (k, q) ∈ mayM n es fs xs m := by
  have hp := hSt.plc h1 h2
  exact mayM_mem.mpr ⟨⟨h1, h2⟩, (mayG_mem hS hp.1 hp.2).mpr ⟨ha, hne, ho⟩⟩
/-- all who are told go from one place to another one, one by one, and back -/
theorem moves {n m : Nat} {es fs : List Edge} (hS : Simp n es) (hSf : Simp m fs) {p q : Int} {S : Int → Prop} (hne : p ≠ q) (hp : 1 ≤ p ∧ p ≤ n) (hq : 1 ≤ q ∧ q ≤ n) (hSp : S p) (hSq : S q) (hpq : ∀ z, S z → Adj es p z → Adj es q z) :
    ∀ (ks : List Int) (xs : List Int), ks.Nodup → (∀ k ∈ ks, 1 ≤ k ∧ k ≤ m ∧ plc xs k = p) → Stds m n xs → StandOk es fs xs → (∀ x ∈ xs, S x) →
      ∃ zs, zs = ks.foldl (fun ys k => putP ys k q) xs ∧ Wk n m es fs xs (ks.map fun k => (k, q)) zs ∧ Wk n m es fs zs (ks.map fun k => (k, p)).reverse xs ∧ Stds m n zs ∧ StandOk es fs zs ∧ (∀ x ∈ zs, S x)
  | [], xs, _, _, hSt, hok, hin => ⟨xs, rfl, .nil xs, .nil xs, hSt, hok, hin⟩
  | k :: ks, xs, hnd, hk, hSt, hok, hin => by
    have hnd2 := List.nodup_cons.mp hnd
    obtain ⟨h1, h2, h3⟩ := hk k (List.mem_cons_self ..)
    have h2l : k ≤ xs.length := by rw [hSt.len]; exact h2
    have hqp : Adj es q p := hpq p hSp (adj_refl es p)
    have hmate : ∀ o ∈ mates k fs, Adj es (plc xs o) q := fun o ho => by
      have hr := mates_rng hSf o ho
      have ha := hok.mate ho
      rw [h3] at ha
      exact adj_symm _ _ (hpq _ (hin _ (plc_mem hr.1 (by rw [hSt.len]; exact hr.2.1))) ha)
    have hmem : (k, q) ∈ mayM n es fs xs m := step_mem hS hSt h1 h2 (by rw [h3]; exact adj_symm _ _ hqp) (by rw [h3]; exact hne.symm) hmate
    have hSt1 : Stds m n (putP xs k q) := hSt.put hq.1 hq.2
    have hok1 : StandOk es fs (putP xs k q) := (stand_put hSf hSt.len hok h1 h2).mpr hmate
    have hin1 : ∀ x ∈ putP xs k q, S x := fun x hx => by
      unfold putP at hx
      rcases List.mem_or_eq_of_mem_set hx with hx | hx
      · exact hin x hx
      · rw [hx]; exact hSq
    obtain ⟨zs, e, w1, w2, st, ok, ins⟩ := moves hS hSf hne hp hq hSp hSq hpq ks (putP xs k q) hnd2.2 (fun j hj => by
      obtain ⟨g1, g2, g3⟩ := hk j (List.mem_cons_of_mem _ hj)
      refine ⟨g1, g2, ?_⟩
      rw [plc_put h1 h2l g1, if_neg (fun e => hnd2.1 (by rw [← e]; exact hj))]
      exact g3) hSt1 hok1 hin1
    refine ⟨zs, e, .cons hmem w1, ?_, st, ok, ins⟩
    rw [List.map_cons, List.reverse_cons]
    refine w2.append (.cons ?_ ?_)
    · refine step_mem hS hSt1 h1 h2 ?_ ?_ fun o ho => ?_
      · rw [plc_put h1 h2l h1, if_pos rfl]
        exact hqp
      · rw [plc_put h1 h2l h1, if_pos rfl]
        exact hne
      · have hr := mates_rng hSf o ho
        rw [plc_put h1 h2l hr.1, if_neg hr.2.2]
        have ha := hok.mate ho
        rw [h3] at ha
        exact adj_symm _ _ ha
    · show Wk n m es fs (putP (putP xs k q) k p) [] xs
      rw [putP_putP, ← h3, putP_same h1 h2l]
      exact .nil xs
theorem put_all {q : Int} : ∀ (ks : List Int) (xs : List Int), (∀ k ∈ ks, 1 ≤ k ∧ k ≤ xs.length) → ∀ i, 1 ≤ i → plc (ks.foldl (fun ys k => putP ys k q) xs) i = if i ∈ ks then q else plc xs i
  | [], xs, _, i, _ => by simp
  | k :: ks, xs, hk, i, hi => by
    have h0 := hk k (List.mem_cons_self ..)
    rw [List.foldl_cons, put_all ks (putP xs k q) (fun j hj => by rw [putP_len]; exact hk j (List.mem_cons_of_mem _ hj)) i hi, plc_put h0.1 h0.2 hi]
    by_cases h1 : i ∈ ks
    · rw [if_pos h1, if_pos (List.mem_cons_of_mem _ h1)]
    · rw [if_neg h1]
      by_cases h2 : i = k
      · rw [if_pos h2, if_pos (by rw [h2]; exact List.mem_cons_self ..)]
      · rw [if_neg h2, if_neg (fun h => by rcases List.mem_cons.mp h with h | h; exact h2 h; exact h1 h)]
theorem put_len {q : Int} : ∀ (ks : List Int) (xs : List Int), (ks.foldl (fun ys k => putP ys k q) xs).length = xs.length
  | [], _ => rfl
  | k :: ks, xs => by rw [List.foldl_cons, put_len ks, putP_len]
theorem put_fold (xs : List Int) (p q : Int) : (onP xs p).foldl (fun ys k => putP ys k q) xs = foldP xs p q := by
  refine plc_ext (by rw [put_len, foldP_len]) fun i h1 h2 => ?_
  rw [put_len] at h2
  rw [put_all _ _ (fun k hk => by have := onP_mem.mp hk; exact ⟨this.1, this.2.1⟩) i h1, foldP_plc h1 h2]
  by_cases h : plc xs i = p
  · rw [if_pos h, if_pos (onP_mem.mpr ⟨h1, h2, h⟩)]
  · rw [if_neg h, if_neg fun e => h (onP_mem.mp e).2.2]
theorem all_one {m n : Nat} {xs ys : List Int} {c : Int} (h1 : Stds m n xs) (h2 : Stds m n ys) (g1 : ∀ x ∈ xs, x = c) (g2 : ∀ x ∈ ys, x = c) : xs = ys := by
  refine plc_ext (h1.len.trans h2.len.symm) fun i h3 h4 => ?_
  rw [g1 _ (plc_mem h3 h4), g2 _ (plc_mem h3 (by rw [h2.len, ← h1.len]; exact h4))]
/-- two standings come along with folds until they meet -/
theorem along_walk {n m : Nat} {es fs : List Edge} (hS : Simp n es) (hSf : Simp m fs) {left left' : List Int} {l : List Edge} (r : RunL es left l left') (hI : InNet n left) (h1 : left'.length ≤ 1) :
    ∀ {xs ys : List Int}, Stds m n xs → Stds m n ys → StandOk es fs xs → StandOk es fs ys → (∀ x ∈ xs, x ∈ left) → (∀ x ∈ ys, x ∈ left) →
      ∃ z, Wk n m es fs xs (alongS l xs ys).1 z ∧ Wk n m es fs z (alongS l xs ys).2.reverse ys := by
  induction r with
  | nil left =>
    intro xs ys a1 a2 b1 b2 c1 c2
    have e : xs = ys := by
      match left, h1 with
      | [], _ =>
        refine plc_ext (a1.len.trans a2.len.symm) fun i h3 h4 => ?_
        exact absurd (c1 _ (plc_mem h3 h4)) (by simp)
      | [c], _ => exact all_one a1 a2 (c := c) (fun x hx => List.mem_singleton.mp (c1 x hx)) fun x hx => List.mem_singleton.mp (c2 x hx)
    subst e
    exact ⟨xs, .nil xs, .nil xs⟩
  | @cons left left' p q l hp hq r ih =>
    intro xs ys a1 a2 b1 b2 c1 c2
    unfold alongS
    by_cases e : xs = ys
    · rw [if_pos e]
      subst e
      exact ⟨xs, .nil xs, .nil xs⟩
    rw [if_neg e]
    have hst := (ontoM_mem hp).mp hq
    obtain ⟨_, hq2, hne, hn⟩ := hst
    obtain ⟨z1, e1, f1, g1, st1, ok1, in1⟩ := moves hS hSf (S := (· ∈ left)) hne (hI.rng p hp) (hI.rng q hq2) hp hq2 hn (onP xs p) xs (onP_nodup xs p) (fun k hk => by have := onP_mem.mp hk; rw [a1.len] at this; exact this) a1 b1 c1
    obtain ⟨z2, e2, f2, g2, st2, ok2, in2⟩ := moves hS hSf (S := (· ∈ left)) hne (hI.rng p hp) (hI.rng q hq2) hp hq2 hn (onP ys p) ys (onP_nodup ys p) (fun k hk => by have := onP_mem.mp hk; rw [a2.len] at this; exact this) a2 b2 c2
    rw [put_fold] at e1 e2
    subst e1
    subst e2
    have hw : ∀ zs : List Int, (∀ x ∈ foldP zs p q, x ∈ left) → ∀ x ∈ foldP zs p q, x ∈ without left p := fun zs hz x hx => by
      refine without_mem.mpr ⟨hz x hx, fun e => ?_⟩
      unfold foldP at hx
      obtain ⟨a, _, ha⟩ := List.mem_map.mp hx
      by_cases h : a = p
      · rw [if_pos h, e] at ha
        exact hne ha.symm
      · rw [if_neg h, e] at ha
        exact h ha
    obtain ⟨z, w1, w2⟩ := ih (hI.without p) h1 st1 st2 ok1 ok2 (hw xs in1) (hw ys in2)
    refine ⟨z, f1.append w1, ?_⟩
    simp only [List.reverse_append]
    exact w2.append g2
end
/-! piece PSm -/
section
theorem for_listB {K : PySem.W.Frag} {a : Addr} {xs : List V} {g : TG} {tb : TS} {D : Ends} {σ : Sl} {H : Hp} (Pv : Nat → Sl → Hp → Prop) (Fin : Sl → Hp → Prop) (hf : ∀ σ H, Fin σ H → D.nx σ H) (h0 : Pv 0 σ H) (hl : ∀ i σ H, i ≤ xs.length → Pv i σ H → SqL K H a xs)
    (hs : (∀ σ H, Fin σ H → D.nx σ H) → ∀ i x σ H, xs[i]? = some x → Pv i σ H → g x σ H fun σ2 H2 => tb { D with nx := Pv (i + 1), ct := Pv (i + 1), bk := D.nx } σ2 H2) (hd : ∀ σ H, Pv xs.length σ H → Fin σ H) :
    ∃ W : Nat → Nat → Sl → Hp → Prop, (∃ m, W 0 m σ H) ∧ ∀ i m σ H, W i m σ H →
      ((Itl K a).stop i H ∧ D.nx σ H) ∨ ((Itl K a).go i H ∧ ∃ N : Sl → Hp → Prop, (∀ σ' H', N σ' H' → ∃ m', m' < m ∧ W (i + 1) m' σ' H') ∧ ∀ x H', (Itl K a).yld i H x H' → g x σ H' fun σ2 H2 => tb { D with nx := N, ct := N, bk := D.nx } σ2 H2) :=
  for_list (K := K) Pv h0 hl (hs hf) fun σ H h => hf σ H (hd σ H h)
theorem lc_enumC {K : PySem.W.Frag} {a : Addr} {c : Int} {xs : List V} {g1 : TG} {tt1 : TT} {te : TE} {vs1 : List Nat} {σ2 : Sl} {H1 : Hp} {D : Addr} {Qd : Hp → Prop} (Pv : Nat → Hp → Prop) (h0 : Pv 0 (upd H1 D (.lst []))) (hl : ∀ i H, i ≤ xs.length → Pv i H → SqL K H a xs)
    (hs : ∀ (i : Nat) x T H, xs[i]? = some x → Pv i H → H T = none → g1 (.ref T) (wipe σ2 vs1) (upd H T (.tup [.int (c + (i : Nat)), x])) fun σ3 H5 => wipe σ3 vs1 = wipe σ2 vs1 ∧ tt1 σ3 H5 fun b H6 =>
          if b = true then te σ3 H6 fun y H7 => ∃ acc, H7 D = some (.lst acc) ∧ acc.length < sizeLine ∧ Pv (i + 1) (upd H7 D (.lst (acc ++ [y]))) else Pv (i + 1) H6)
    (hd : ∀ H, Pv xs.length H → Qd H) :
    ∃ W1 : Nat → Nat → Hp → Prop, (∃ m, W1 0 m (upd H1 D (.lst []))) ∧ ∀ j k H, W1 j k H →
        ((ItE K a c).stop j H ∧ Qd H) ∨ ((ItE K a c).go j H ∧ ∃ Nx1 : Hp → Prop, (∀ H', Nx1 H' → ∃ k', k' < k ∧ W1 (j + 1) k' H') ∧ ∀ x H', (ItE K a c).yld j H x H' → g1 x (wipe σ2 vs1) H' fun σ3 H5 => wipe σ3 vs1 = wipe σ2 vs1 ∧ tt1 σ3 H5 fun b H6 =>
          if b = true then te σ3 H6 fun y H7 => ∃ acc, H7 D = some (.lst acc) ∧ acc.length < sizeLine ∧ Nx1 (upd H7 D (.lst (acc ++ [y]))) else Nx1 H6) := lc2_enumI Pv h0 hl hs hd
theorem PsAt.upd2 {H : Hp} {D T : Addr} {rs : List Addr} {es : List Edge} {o : HO} (h : PsAt H D rs es) (hD : D ≠ T) (hr : ∀ r ∈ rs, r ≠ T) : PsAt (upd H T o) D rs es :=
  ⟨by rw [upd_ne hD]; exact h.hD, h.len, fun i r e a b => by rw [upd_ne (hr r (List.mem_of_getElem? a))]; exact h.at_ i r e a b⟩
theorem PsAt.has2 {H : Hp} {D : Addr} {rs : List Addr} {es : List Edge} (h : PsAt H D rs es) {r : Addr} (hm : r ∈ rs) : ∃ e : Edge, H r = some (.lst [.int e.1, .int e.2]) := by
  obtain ⟨i, hi⟩ := List.getElem?_of_mem hm
  have hl : i < es.length := by rw [← h.len]; exact (List.getElem?_eq_some_iff.mp hi).1
  exact ⟨_, h.at_ i r _ hi (List.getElem?_eq_getElem hl)⟩
theorem PsAt.apart {H : Hp} {D D2 : Addr} {rs rs2 : List Addr} {es es2 : List Edge} (h : PsAt H D rs es) (h2 : PsAt H D2 rs2 es2) : ∀ r ∈ rs, r ≠ D2 := fun r hr e => by
  obtain ⟨x, hx⟩ := h.has2 hr
  rw [e, h2.hD] at hx
  cases rs2 with
  | nil => simp at hx
  | cons a l => simp at hx
theorem PsF.rev {H0 H : Hp} {D p : Addr} {rs : List Addr} {es : List Edge} (h : PsF H0 H D rs es) (np : H p = none) : PsAt (upd H p (.lst (rs.reverse.map V.ref))) p rs.reverse es.reverse := by
  have sm : Same H (upd H p (.lst (rs.reverse.map V.ref))) := same_upd (Same.refl _) np
  refine ⟨upd_same, by rw [List.length_reverse, List.length_reverse, h.ps.len], fun i r e hr he => ?_⟩
  have h1 : i < rs.length := by
    have := (List.getElem?_eq_some_iff.mp hr).1
    rwa [List.length_reverse] at this
  rw [List.getElem?_reverse h1] at hr
  rw [List.getElem?_reverse (by rw [← h.ps.len]; exact h1), ← h.ps.len] at he
  exact sm _ _ (h.ps.at_ _ r e hr he)
end
/-! piece CM -/
section
/-! ### counting standings by rows of lots -/
def packM : List Nat → Nat
  | [] => 0
  | a :: l => packM l * 2 ^ 13 ||| a
theorem packM_bit : ∀ (l : List Nat), (∀ a ∈ l, a < 2 ^ 13) → ∀ (j b : Nat), b < 13 → (packM l).testBit (13 * j + b) = (l.getD j 0).testBit b
  | [], _, j, b, _ => by
    show (0 : Nat).testBit _ = _
    rw [Nat.zero_testBit, List.getD_nil, Nat.zero_testBit]
  | a :: l, h, j, b, hb => by
    have ha := h a (List.mem_cons_self ..)
    show (packM l * 2 ^ 13 ||| a).testBit _ = _
    rw [Nat.testBit_or, Nat.testBit_mul_two_pow]
    cases j with
    | zero =>
      rw [decide_eq_false (by omega), Bool.false_and, Bool.false_or, Nat.mul_zero, Nat.zero_add]
      rfl
    | succ j =>
      rw [decide_eq_true (by omega), Bool.true_and, show 13 * (j + 1) + b - 13 = 13 * j + b by omega, packM_bit l (fun x hx => h x (List.mem_cons_of_mem _ hx)) j b hb,
        Nat.testBit_lt_two_pow (Nat.lt_of_lt_of_le ha (Nat.pow_le_pow_right (by decide) (by omega))), Bool.or_false]
      rfl
theorem packM_lt : ∀ (l : List Nat), (∀ a ∈ l, a < 2 ^ 13) → packM l < 2 ^ (13 * l.length)
  | [], _ => by show 0 < 2 ^ 0; decide
  | a :: l, h => by
    have ih := packM_lt l fun x hx => h x (List.mem_cons_of_mem _ hx)
    have ha := h a (List.mem_cons_self ..)
    show packM l * 2 ^ 13 ||| a < 2 ^ (13 * (l.length + 1))
    have e : 2 ^ (13 * (l.length + 1)) = 2 ^ (13 * l.length) * 2 ^ 13 := by rw [Nat.mul_succ, Nat.pow_add]
    refine Nat.or_lt_two_pow ?_ (Nat.lt_of_lt_of_le ha (Nat.pow_le_pow_right (by decide) (by omega)))
    rw [e]
    exact Nat.mul_lt_mul_of_pos_right ih (by decide)
/-- all rows of k places -/
def allZ (n : Nat) : Nat → List (List Int)
  | 0 => [[]]
  | k + 1 => (allM n).flatMap fun x => (allZ n k).map (x :: ·)
theorem allZ_mem {n : Nat} : ∀ {k : Nat} {zs : List Int}, zs ∈ allZ n k ↔ Stds k n zs
  | 0, zs => by
    show zs ∈ [[]] ↔ _
    rw [List.mem_singleton]
    constructor
    · rintro rfl; exact ⟨rfl, fun x h => nomatch h⟩
    · intro h; exact List.eq_nil_of_length_eq_zero h.len
  | k + 1, zs => by
    show zs ∈ (allM n).flatMap _ ↔ _
    rw [List.mem_flatMap]
    constructor
    · rintro ⟨x, hx, h⟩
      obtain ⟨ys, hy, rfl⟩ := List.mem_map.mp h
      have st := allZ_mem.mp hy
      refine ⟨by rw [List.length_cons, st.len], fun y h => ?_⟩
      rcases List.mem_cons.mp h with rfl | h
      · exact allM_mem.mp hx
      · exact st.rng y h
    · intro h
      cases zs with
      | nil => have := h.len; simp at this
      | cons z zs =>
        refine ⟨z, allM_mem.mpr (h.rng z (List.mem_cons_self ..)), List.mem_map.mpr ⟨zs, allZ_mem.mpr ⟨?_, fun x hx => h.rng x (List.mem_cons_of_mem _ hx)⟩, rfl⟩⟩
        have := h.len
        rw [List.length_cons] at this
        omega
theorem flatMap_flatMap' {α β γ : Type} (l : List α) (f : α → List β) (g : β → List γ) : (l.flatMap f).flatMap g = l.flatMap fun x => (f x).flatMap g := by
  induction l with
  | nil => rfl
  | cons a l ih => rw [List.flatMap_cons, List.flatMap_cons, List.flatMap_append, ih]
/-- the same rows, made longer at their end -/
theorem allZ_snoc (n : Nat) : ∀ k, allZ n (k + 1) = (allZ n k).flatMap fun r => (allM n).map fun x => r ++ [x]
  | 0 => by
    show (allM n).flatMap (fun x => [[x]]) = [[]].flatMap _
    rw [List.flatMap_cons, List.flatMap_nil, List.append_nil]
    induction allM n with
    | nil => rfl
    | cons a l ih => rw [List.flatMap_cons, ih]; rfl
  | k + 1 => by
    show (allM n).flatMap (fun x => (allZ n (k + 1)).map (x :: ·)) = ((allM n).flatMap fun x => (allZ n k).map (x :: ·)).flatMap _
    rw [flatMap_flatMap', allZ_snoc n k]
    congr 1
    funext x
    rw [List.map_flatMap, List.flatMap_map]
    congr 1
    funext r
    rw [List.map_map]
    rfl
theorem allZ_len (n : Nat) : ∀ k, (allZ n k).length = n ^ k
  | 0 => rfl
  | k + 1 => by
    show ((allM n).flatMap _).length = _
    rw [List.length_flatMap, Nat.pow_succ, Nat.mul_comm]
    have h : ∀ l : List Int, (l.map fun x => ((allZ n k).map (x :: ·)).length).sum = l.length * n ^ k := fun l => by
      induction l with
      | nil => simp
      | cons a l ih => rw [List.map_cons, List.sum_cons, ih, List.length_map, allZ_len n k, List.length_cons, Nat.succ_mul, Nat.add_comm]
    rw [h, all_len]
def countSt (n m : Nat) (es fs : List Edge) : Nat := ((allZ n m).filter fun zs => decide (StandOk es fs zs)).length
theorem countSt_free (n m : Nat) (es : List Edge) : countSt n m es [] = n ^ m := by
  unfold countSt
  have h : ((allZ n m).filter fun zs => decide (StandOk es [] zs)) = allZ n m := List.filter_eq_self.mpr fun zs _ => decide_eq_true (show StandOk es [] zs from fun e h => nomatch h)
  rw [h, allZ_len]
/-- whether those behind the first k can stand so -/
def okF (R : Nat → Int → Nat) : Nat → Nat → List Int → Bool
  | _, _, [] => true
  | k, row, z :: zs => row.testBit z.toNat && okF R (k + 1) (row / 2 ^ 13 &&& R k z) zs
def waysR (R : Nat → Int → Nat) (n k r row : Nat) : Nat := ((allZ n r).filter (okF R k row)).length
theorem ways_zero (R : Nat → Int → Nat) (n k row : Nat) : waysR R n k 0 row = 1 := rfl
theorem sum_split (f : Int → Nat) (p : Int → Bool) : ∀ l : List Int, (l.map fun z => if p z = true then f z else 0).sum = ((l.filter p).map f).sum
  | [] => rfl
  | a :: l => by
    rw [List.map_cons, List.sum_cons, sum_split f p l, List.filter_cons]
    by_cases h : p a = true
    · rw [if_pos h, if_pos h, List.map_cons, List.sum_cons]
    · rw [if_neg h, if_neg h, Nat.zero_add]
theorem ways_succ (R : Nat → Int → Nat) (n k r row : Nat) : waysR R n k (r + 1) row = (((allM n).filter fun z => row.testBit z.toNat).map fun z => waysR R n (k + 1) r (row / 2 ^ 13 &&& R k z)).sum := by
  rw [← sum_split]
  show (((allM n).flatMap fun x => (allZ n r).map (x :: ·)).filter (okF R k row)).length = _
  induction allM n with
  | nil => rfl
  | cons z l ih =>
    rw [List.flatMap_cons, List.filter_append, List.length_append, ih, List.map_cons, List.sum_cons]
    congr 1
    rw [List.filter_map, List.length_map]
    by_cases h : row.testBit z.toNat = true
    · rw [if_pos h]
      unfold waysR
      congr 2
      funext zs
      show (row.testBit z.toNat && _) = _
      rw [h, Bool.true_and]
    · rw [if_neg h, List.filter_eq_nil_iff.mpr]
      · rfl
      · intro zs _
        show ¬ (row.testBit z.toNat && _) = true
        simp [h]
/-- a row's bits tell places -/
def RowB (n row : Nat) : Prop := ∀ i, row.testBit i = true → 1 ≤ i % 13 ∧ i % 13 ≤ n
theorem RowB.next {n row : Nat} (h : RowB n row) (x : Nat) : RowB n (row / 2 ^ 13 &&& x) := fun i hi => by
  rw [Nat.testBit_and, Nat.testBit_div_two_pow, Bool.and_eq_true] at hi
  have := h _ hi.1
  omega
theorem mask_bit (row k : Nat) : (row &&& (2 ^ 13 - 1)).testBit k = (row.testBit k && decide (k < 13)) := by
  rw [Nat.and_two_pow_sub_one_eq_mod, Nat.testBit_mod_two_pow]
  exact Bool.and_comm ..
theorem row_lot {n row : Nat} (hn : n ≤ 12) (h : RowB n row) : LotIs (row &&& (2 ^ 13 - 1)) ((allM n).filter fun z => row.testBit z.toNat) := fun k => by
  rw [mask_bit]
  by_cases hb : row.testBit k = true
  · by_cases hk : k < 13
    · have := h k hb
      rw [hb, decide_eq_true hk]
      refine (decide_eq_true ?_).symm
      rw [List.mem_filter, allM_mem]
      exact ⟨by omega, hb⟩
    · rw [decide_eq_false hk, Bool.and_false]
      refine (decide_eq_false ?_).symm
      rw [List.mem_filter, allM_mem]
      intro h2
      omega
  · rw [Bool.eq_false_iff.mpr hb, Bool.false_and]
    refine (decide_eq_false ?_).symm
    rw [List.mem_filter]
    intro h2
    exact hb h2.2
theorem row_members {n row : Nat} (hn : n ≤ 12) (h : RowB n row) : membersM (row &&& (2 ^ 13 - 1)) = (allM n).filter fun z => row.testBit z.toNat :=
  members_lot (row_lot hn h) (List.Pairwise.filter _ (allM_lt n)) fun x hx => (allM_mem.mp (List.mem_filter.mp hx).1).1
/-- the row of the lots of those behind the first k and one more, who stands beside a lot -/
def rowOf (m n k : Nat) (fs : List Edge) (lot : Nat) : Nat := packM ((List.range (m - (k + 1))).map fun j => if ((nearB m fs).getD (k + 1) 0).testBit (k + 2 + j) = true then lot else 2 ^ (n + 1) - 2)
def rowR (m n : Nat) (fs es : List Edge) (k : Nat) (z : Int) : Nat := rowOf m n k fs ((nearB n es).getD z.toNat 0)
theorem whole_lt {n : Nat} (hn : n ≤ 12) : 2 ^ (n + 1) - 2 < 2 ^ 13 := by
  have : 2 ^ (n + 1) ≤ 2 ^ 13 := Nat.pow_le_pow_right (by decide) (by omega)
  have : 0 < 2 ^ (n + 1) := Nat.pow_pos (by decide)
  omega
theorem rowOf_bit {m n k : Nat} {fs : List Edge} {lot j b : Nat} (hn : n ≤ 12) (hl : lot < 2 ^ 13) (hb : b < 13) (hj : j < m - (k + 1)) :
    (rowOf m n k fs lot).testBit (13 * j + b) = if ((nearB m fs).getD (k + 1) 0).testBit (k + 2 + j) = true then lot.testBit b else (2 ^ (n + 1) - 2).testBit b := by
  unfold rowOf
  rw [packM_bit _ (fun a ha => ?_) j b hb, List.getD_eq_getElem?_getD, List.getElem?_map, List.getElem?_range hj]
  · show (if _ then lot else _ : Nat).testBit b = _
    split <;> rfl
  · obtain ⟨i, _, rfl⟩ := List.mem_map.mp ha
    split
    · exact hl
    · exact whole_lt hn
theorem near_small {n : Nat} {es : List Edge} (hS : Simp n es) (hn : n ≤ 12) (p : Nat) : (nearB n es).getD p 0 < 2 ^ 13 := by
  rw [List.getD_eq_getElem?_getD]
  cases h : (nearB n es)[p]? with
  | none => decide
  | some u => exact Nat.lt_of_lt_of_le (nearB_small hS h) (Nat.pow_le_pow_right (by decide) (by omega))
theorem near_getD {n : Nat} {es : List Edge} (hS : Simp n es) {p : Nat} (h1 : 1 ≤ p) (h2 : p ≤ n) (k : Nat) : ((nearB n es).getD p 0).testBit k = decide (Adj es (p : Int) k) := by
  obtain ⟨u, hu, hb⟩ := nearB_bit hS.pos h1 h2
  rw [List.getD_eq_getElem?_getD, hu]
  exact hb k
theorem rowR_bit {m n k : Nat} {fs es : List Edge} (hS : Simp n es) (hSf : Simp m fs) (hn : n ≤ 12) {z y : Int} (hz : 1 ≤ z ∧ z ≤ n) (hy : 1 ≤ y ∧ y ≤ n) {j : Nat} (hj : j < m - (k + 1)) :
    (rowR m n fs es k z).testBit (13 * j + y.toNat) = decide (Adj fs ((k : Int) + 1) ((k : Int) + 2 + j) → Adj es z y) := by
  unfold rowR
  rw [rowOf_bit hn (near_small hS hn _) (by omega) hj, near_getD hSf (by omega) (by omega), near_getD hS (by omega) (by omega),
    show (((k + 1 : Nat)) : Int) = (k : Int) + 1 by omega, show (((k + 2 + j : Nat)) : Int) = (k : Int) + 2 + j by omega, show ((z.toNat : Nat) : Int) = z by omega, show ((y.toNat : Nat) : Int) = y by omega]
  by_cases h : Adj fs ((k : Int) + 1) ((k : Int) + 2 + j)
  · rw [if_pos (decide_eq_true h)]
    exact decide_eq_decide.mpr ⟨fun a _ => a, fun a => a h⟩
  · rw [if_neg (by simp [h]), decide_eq_true (fun a => absurd a h), whole_is n]
    exact decide_eq_true (allM_mem.mpr (by omega))
theorem okF_iff {m n : Nat} {fs es : List Edge} (hS : Simp n es) (hSf : Simp m fs) (hn : n ≤ 12) : ∀ (zs : List Int) (k row : Nat), k + zs.length = m → (∀ z ∈ zs, 1 ≤ z ∧ z ≤ (n : Int)) →
    (okF (rowR m n fs es) k row zs = true ↔ (∀ j : Nat, j < zs.length → row.testBit (13 * j + (plc zs ((j : Int) + 1)).toNat) = true) ∧
      ∀ i j : Nat, i < j → j < zs.length → Adj fs ((k : Int) + 1 + i) ((k : Int) + 1 + j) → Adj es (plc zs ((i : Int) + 1)) (plc zs ((j : Int) + 1)))
  | [], k, row, _, _ => ⟨fun _ => ⟨fun j h => absurd h (Nat.not_lt_zero _), fun i j _ h => absurd h (Nat.not_lt_zero _)⟩, fun _ => rfl⟩
  | z :: zs, k, row, hk, hr => by
    have hz := hr z (List.mem_cons_self ..)
    have hr2 : ∀ y ∈ zs, 1 ≤ y ∧ y ≤ (n : Int) := fun y h => hr y (List.mem_cons_of_mem _ h)
    rw [List.length_cons] at hk
    have ih := okF_iff hS hSf hn zs (k + 1) (row / 2 ^ 13 &&& rowR m n fs es k z) (by omega) hr2
    have p0 : plc (z :: zs) (((0 : Nat) : Int) + 1) = z := rfl
    have ps : ∀ j : Nat, plc (z :: zs) (((j + 1 : Nat) : Int) + 1) = plc zs ((j : Int) + 1) := fun j => by
      unfold plc
      rw [show ((((j + 1 : Nat) : Int) + 1)).toNat - 1 = j + 1 by omega, show (((j : Int) + 1)).toNat - 1 = j by omega]
      rfl
    have hbit : ∀ j : Nat, j < zs.length → ((row / 2 ^ 13 &&& rowR m n fs es k z).testBit (13 * j + (plc zs ((j : Int) + 1)).toNat) = true ↔
        row.testBit (13 * (j + 1) + (plc zs ((j : Int) + 1)).toNat) = true ∧ (Adj fs ((k : Int) + 1) ((k : Int) + 2 + j) → Adj es z (plc zs ((j : Int) + 1)))) := fun j hj => by
      rw [Nat.testBit_and, Nat.testBit_div_two_pow, rowR_bit hS hSf hn hz (hr2 _ (plc_mem (by omega) (by omega))) (by omega), Bool.and_eq_true, decide_eq_true_eq,
        show 13 * j + (plc zs ((j : Int) + 1)).toNat + 13 = 13 * (j + 1) + (plc zs ((j : Int) + 1)).toNat by omega]
    show (row.testBit z.toNat && okF _ (k + 1) _ zs) = true ↔ _
    rw [Bool.and_eq_true, ih]
    constructor
    · rintro ⟨h0, h1, h2⟩
      refine ⟨fun j hj => ?_, fun i j hij hj ha => ?_⟩
      · cases j with
        | zero => rw [p0, Nat.mul_zero, Nat.zero_add]; exact h0
        | succ j =>
          rw [ps]
          rw [List.length_cons] at hj
          exact ((hbit j (by omega)).mp (h1 j (by omega))).1
      · rw [List.length_cons] at hj
        cases j with
        | zero => omega
        | succ j =>
          rw [ps]
          cases i with
          | zero =>
            rw [p0]
            refine ((hbit j (by omega)).mp (h1 j (by omega))).2 ?_
            rw [show (k : Int) + 1 + ((0 : Nat) : Int) = (k : Int) + 1 by omega, show (k : Int) + 1 + ((j + 1 : Nat) : Int) = (k : Int) + 2 + j by omega] at ha
            exact ha
          | succ i =>
            rw [ps]
            refine h2 i j (by omega) (by omega) ?_
            rw [show (((k + 1 : Nat)) : Int) + 1 + i = (k : Int) + 1 + ((i + 1 : Nat) : Int) by omega, show (((k + 1 : Nat)) : Int) + 1 + j = (k : Int) + 1 + ((j + 1 : Nat) : Int) by omega]
            exact ha
    · rintro ⟨h1, h2⟩
      refine ⟨?_, fun j hj => ?_, fun i j hij hj ha => ?_⟩
      · have := h1 0 (by rw [List.length_cons]; omega)
        rwa [p0, Nat.mul_zero, Nat.zero_add] at this
      · refine (hbit j hj).mpr ⟨?_, fun ha => ?_⟩
        · have := h1 (j + 1) (by rw [List.length_cons]; omega)
          rwa [ps] at this
        · have := h2 0 (j + 1) (by omega) (by rw [List.length_cons]; omega)
          rw [p0, ps, show (k : Int) + 1 + ((0 : Nat) : Int) = (k : Int) + 1 by omega, show (k : Int) + 1 + ((j + 1 : Nat) : Int) = (k : Int) + 2 + j by omega] at this
          exact this ha
      · have := h2 (i + 1) (j + 1) (by omega) (by rw [List.length_cons]; omega)
        rw [ps, ps] at this
        refine this ?_
        rw [show (((k + 1 : Nat)) : Int) + 1 + i = (k : Int) + 1 + ((i + 1 : Nat) : Int) by omega, show (((k + 1 : Nat)) : Int) + 1 + j = (k : Int) + 1 + ((j + 1 : Nat) : Int) by omega] at ha
        exact ha
theorem row0_bit {m n : Nat} (hn : n ≤ 12) {j b : Nat} (hj : j < m) (hb : 1 ≤ b ∧ b ≤ n) : (packM (List.replicate m (2 ^ (n + 1) - 2))).testBit (13 * j + b) = true := by
  rw [packM_bit _ (fun a ha => by rw [(List.mem_replicate.mp ha).2]; exact whole_lt hn) j b (by omega), List.getD_eq_getElem?_getD, List.getElem?_replicate, if_pos hj]
  show (2 ^ (n + 1) - 2).testBit b = true
  rw [whole_is n]
  exact decide_eq_true (allM_mem.mpr (by omega))
theorem row0_B {m n : Nat} (hn : n ≤ 12) : RowB n (packM (List.replicate m (2 ^ (n + 1) - 2))) := fun i hi => by
  have e : i = 13 * (i / 13) + i % 13 := (Nat.div_add_mod i 13).symm
  rw [e, packM_bit _ (fun a ha => by rw [(List.mem_replicate.mp ha).2]; exact whole_lt hn) _ _ (Nat.mod_lt _ (by decide)), List.getD_eq_getElem?_getD, List.getElem?_replicate] at hi
  by_cases hj : i / 13 < m
  · rw [if_pos hj] at hi
    have hi : (2 ^ (n + 1) - 2).testBit (i % 13) = true := hi
    rw [whole_is n] at hi
    have := allM_mem.mp (of_decide_eq_true hi)
    omega
  · rw [if_neg hj] at hi
    have hi : (0 : Nat).testBit (i % 13) = true := hi
    rw [Nat.zero_testBit] at hi
    cases hi
theorem ways_all {m n : Nat} {fs es : List Edge} (hS : Simp n es) (hSf : Simp m fs) (hn : n ≤ 12) : waysR (rowR m n fs es) n 0 m (packM (List.replicate m (2 ^ (n + 1) - 2))) = countSt n m es fs := by
  unfold waysR countSt
  congr 1
  refine List.filter_congr fun zs hz => ?_
  have st := allZ_mem.mp hz
  have h := okF_iff hS hSf hn zs 0 (packM (List.replicate m (2 ^ (n + 1) - 2))) (by rw [st.len]; omega) st.rng
  rw [Bool.eq_iff_iff, h, decide_eq_true_eq]
  constructor
  · rintro ⟨_, h2⟩
    refine standOk_of hSf fun k hk o ho hlt => ?_
    have hor := mates_rng hSf o ho
    have := h2 k (o.toNat - 1) (by omega) (by rw [st.len]; omega)
    rw [show ((0 : Nat) : Int) + 1 + k = (k : Int) + 1 by omega, show ((0 : Nat) : Int) + 1 + ((o.toNat - 1 : Nat) : Int) = o by omega, show ((o.toNat - 1 : Nat) : Int) + 1 = o by omega] at this
    exact this (List.mem_cons_of_mem _ ho)
  · intro ok
    refine ⟨fun j hj => ?_, fun i j hij hj ha => ?_⟩
    · rw [st.len] at hj
      have := st.plc (i := (j : Int) + 1) (by omega) (by omega)
      exact row0_bit hn hj (by omega)
    · rw [show ((0 : Nat) : Int) + 1 + i = (i : Int) + 1 by omega, show ((0 : Nat) : Int) + 1 + j = (j : Int) + 1 by omega] at ha
      rcases List.mem_cons.mp ha with e | hm
      · omega
      · exact ok.mate hm
/-! ### what a dict counts -/
def kvC (ps : List (Nat × Nat)) : List (Key × V) := ps.map fun p => (Sum.inl (p.1 : Int), V.int (p.2 : Nat))
def addC (ps : List (Nat × Nat)) (r c : Nat) : List (Nat × Nat) := if (ps.any fun p => decide (p.1 = r)) = true then ps.map (fun p => if p.1 = r then (p.1, p.2 + c) else p) else ps ++ [(r, c)]
def totC (f : Nat → Nat) (ps : List (Nat × Nat)) : Nat := (ps.map fun p => p.2 * f p.1).sum
theorem kvC_any (ps : List (Nat × Nat)) (r : Nat) : ((kvC ps).any fun kv => decide (kv.1 = Sum.inl (r : Int))) = ps.any fun p => decide (p.1 = r) := by
  unfold kvC
  rw [List.any_map]
  congr 1
  funext p
  show decide ((Sum.inl (p.1 : Int) : Key) = Sum.inl (r : Int)) = decide (p.1 = r)
  apply decide_eq_decide.mpr
  constructor
  · intro h
    have := Sum.inl.inj h
    omega
  · intro h; rw [h]
theorem kvC_val : ∀ (ps : List (Nat × Nat)) (r : Nat), (ps.map (·.1)).Nodup → ∀ c, (r, c) ∈ ps → valV (kvC ps) (Sum.inl (r : Int)) = some (.int (c : Nat))
  | [], _, _, _, h => nomatch h
  | p :: ps, r, hnd, c, h => by
    rw [List.map_cons, List.nodup_cons] at hnd
    rcases List.mem_cons.mp h with e | h
    · subst e
      exact valV_pos rfl
    · have hne : p.1 ≠ r := fun e => hnd.1 (by rw [e]; exact List.mem_map.mpr ⟨(r, c), h, rfl⟩)
      show valV ((Sum.inl (p.1 : Int), V.int (p.2 : Nat)) :: kvC ps) _ = _
      rw [valV_neg (by
        intro e
        have := Sum.inl.inj e
        exact hne (by omega))]
      exact kvC_val ps r hnd.2 c h
theorem putK_add {ps : List (Nat × Nat)} (hnd : (ps.map (·.1)).Nodup) (r c : Nat) : ∃ v : Nat, (valV (kvC ps) (Sum.inl (r : Int))).getD (.int 0) = .int (v : Nat) ∧ putK (kvC ps) (Sum.inl (r : Int)) (.int ((v : Int) + (c : Int))) = kvC (addC ps r c) := by
  have ha := kvC_any ps r
  by_cases h : (ps.any fun p => decide (p.1 = r)) = true
  · obtain ⟨p, hp, he⟩ := List.any_eq_true.mp h
    have he := of_decide_eq_true he
    obtain ⟨p1, v⟩ := p
    simp only at he
    subst he
    refine ⟨v, by rw [kvC_val ps p1 hnd v hp]; rfl, ?_⟩
    unfold putK addC
    rw [if_pos (ha.trans h), if_pos h]
    unfold kvC
    rw [List.map_map, List.map_map]
    refine List.map_congr_left fun q hq => ?_
    show (if (Sum.inl (q.1 : Int) : Key) = Sum.inl (p1 : Int) then (Sum.inl (q.1 : Int), V.int _) else (Sum.inl (q.1 : Int), V.int (q.2 : Nat))) = (Sum.inl (((if q.1 = p1 then (q.1, q.2 + c) else q).1 : Nat) : Int), V.int (((if q.1 = p1 then (q.1, q.2 + c) else q).2 : Nat) : Int))
    by_cases e : q.1 = p1
    · have hv : q.2 = v := by
        have h1 := kvC_val ps p1 hnd v hp
        have h2 := kvC_val ps p1 hnd q.2 (by rw [← e]; exact hq)
        rw [h1] at h2
        have := V.int.inj (Option.some.inj h2)
        omega
      rw [if_pos (by rw [e]), if_pos e, hv]
      rfl
    · rw [if_neg (fun h => e (by have := Sum.inl.inj h; omega)), if_neg e]
  · refine ⟨0, ?_, ?_⟩
    · have : valV (kvC ps) (Sum.inl (r : Int)) = none := by
        have h1 := valV_any (Sum.inl (r : Int)) (kvC ps)
        rw [ha, Bool.eq_false_iff.mpr h] at h1
        cases e : valV (kvC ps) (Sum.inl (r : Int)) with
        | none => rfl
        | some y => rw [e] at h1; cases h1
      rw [this]
      rfl
    · unfold putK addC
      rw [if_neg (fun e => h (ha.symm.trans e)), if_neg h]
      unfold kvC
      rw [List.map_append, show ((0 : Nat) : Int) + (c : Int) = (c : Int) by omega]
      rfl
theorem addC_fst (ps : List (Nat × Nat)) (r c : Nat) : (addC ps r c).map (·.1) = if (ps.any fun p => decide (p.1 = r)) = true then ps.map (·.1) else ps.map (·.1) ++ [r] := by
  unfold addC
  split
  · rw [List.map_map]
    refine List.map_congr_left fun q _ => ?_
    show (if q.1 = r then (q.1, q.2 + c) else q).1 = q.1
    split <;> rfl
  · rw [List.map_append]; rfl
theorem addC_nodup {ps : List (Nat × Nat)} (hnd : (ps.map (·.1)).Nodup) (r c : Nat) : ((addC ps r c).map (·.1)).Nodup := by
  rw [addC_fst]
  split
  · exact hnd
  · rename_i h
    refine List.nodup_append.mpr ⟨hnd, by simp, fun x hx y hy e => h ?_⟩
    rw [List.mem_singleton] at hy
    subst hy
    obtain ⟨q, hq, e2⟩ := List.mem_map.mp hx
    exact List.any_eq_true.mpr ⟨q, hq, decide_eq_true (e2.trans e)⟩
theorem addC_len (ps : List (Nat × Nat)) (r c : Nat) : (addC ps r c).length ≤ ps.length + 1 := by
  unfold addC
  split
  · rw [List.length_map]; exact Nat.le_succ _
  · rw [List.length_append, List.length_singleton]; exact Nat.le_refl _
theorem addC_rows {n : Nat} {ps : List (Nat × Nat)} {r c : Nat} (h : ∀ p ∈ ps, RowB n p.1) (hr : RowB n r) : ∀ p ∈ addC ps r c, RowB n p.1 := fun p hp => by
  have hm : p.1 ∈ (addC ps r c).map (·.1) := List.mem_map.mpr ⟨p, hp, rfl⟩
  rw [addC_fst] at hm
  have old : p.1 ∈ ps.map (·.1) → RowB n p.1 := fun hm => by
    obtain ⟨q, hq, e⟩ := List.mem_map.mp hm
    rw [← e]
    exact h q hq
  split at hm
  · exact old hm
  · rcases List.mem_append.mp hm with hm | hm
    · exact old hm
    · rw [List.mem_singleton.mp hm]; exact hr
theorem totC_map (f : Nat → Nat) (r c : Nat) : ∀ ps : List (Nat × Nat), (ps.map (·.1)).Nodup → r ∈ ps.map (·.1) → totC f (ps.map fun p => if p.1 = r then (p.1, p.2 + c) else p) = totC f ps + c * f r
  | [], _, h => nomatch h
  | p :: ps, hnd, h => by
    rw [List.map_cons, List.nodup_cons] at hnd
    show (if p.1 = r then (p.1, p.2 + c) else p).2 * f (if p.1 = r then (p.1, p.2 + c) else p).1 + totC f (ps.map _) = p.2 * f p.1 + totC f ps + c * f r
    by_cases e : p.1 = r
    · have hno : ps.map (fun p => if p.1 = r then (p.1, p.2 + c) else p) = ps := by
        conv => rhs; rw [← List.map_id ps]
        refine List.map_congr_left fun q hq => ?_
        rw [if_neg (fun e2 => hnd.1 (List.mem_map.mpr ⟨q, hq, e2.trans e.symm⟩))]
        rfl
      rw [hno, if_pos e]
      show (p.2 + c) * f p.1 + totC f ps = _
      rw [Nat.add_mul, e]
      omega
    · rw [if_neg e, totC_map f r c ps hnd.2 (by
        rw [List.map_cons] at h
        rcases List.mem_cons.mp h with h | h
        · exact absurd h.symm e
        · exact h)]
      omega
theorem totC_add (f : Nat → Nat) {ps : List (Nat × Nat)} (hnd : (ps.map (·.1)).Nodup) (r c : Nat) : totC f (addC ps r c) = totC f ps + c * f r := by
  unfold addC
  by_cases h : (ps.any fun p => decide (p.1 = r)) = true
  · rw [if_pos h]
    refine totC_map f r c ps hnd ?_
    obtain ⟨q, hq, e⟩ := List.any_eq_true.mp h
    exact List.mem_map.mpr ⟨q, hq, of_decide_eq_true e⟩
  · rw [if_neg h]
    unfold totC
    rw [List.map_append, List.sum_append]
    simp
theorem totC_one (ps : List (Nat × Nat)) : totC (fun _ => 1) ps = (ps.map (·.2)).sum := by
  unfold totC
  simp
end
/-! piece TJ -/
section
variable {P : Program} {w : World} {K : PySem.W.Frag} {mg : Str → Option Value} {base : Heap}
/-! ### the law's gone, walked -/
@[irreducible] def spGone : Sp := fun vs H Q _ => ∃ (s st : Addr) (xs : List Int) (e : Edge), vs = [.ref s, .ref st] ∧ H s = some (iL xs) ∧ xs.length ≤ 12 ∧ H st = some (.lst [.int e.1, .int e.2]) ∧ 1 ≤ e.1 ∧ e.1 ≤ xs.length ∧
  ∀ r H', Same H H' → H r = none → H' r = some (iL (putP xs e.1 e.2)) → Q (.ref r) H'
theorem call_gone {s st : Addr} {xs : List Int} {e : Edge} {H : Hp} {Q : VK} {E : XK} (hs : H s = some (iL xs)) (hl : xs.length ≤ 12) (ht : H st = some (.lst [.int e.1, .int e.2])) (h1 : 1 ≤ e.1) (h2 : e.1 ≤ xs.length)
    (fin : ∀ r H', Same H H' → H r = none → H' r = some (iL (putP xs e.1 e.2)) → Q (.ref r) H') : spGone [.ref s, .ref st] H Q E := by
  unfold spGone
  exact ⟨s, st, xs, e, rfl, hs, hl, ht, h1, h2, fin⟩
set_option maxHeartbeats 4000000 in
theorem ok_gone {f : Addr} {fd : FuncData} (F : Fun K "_law_gone" "_law_gone" s_law_gone f fd) :
    FnOk P w K mg base CX0 1 f fd ["_law_spots", "_law_step"] spGone := by
  refine F.ok sc_law_gone (fun vs H Q E h => ?_) (fun cdv A outer s H vs Q E hr h => ?_)
  · unfold spGone at h
    obtain ⟨s, st, xs, e, rfl, _⟩ := h
    rfl
  · have nd := sc_law_gone.nd
    have hS := sc_law_gone
    have hKM : KMark K := ⟨⟩
    refine' mk_body ?body ?rd
    case body =>
      show PSs _ [_] _
      wtm_at "fo ss"
    case rd =>
     unfold spGone at h
     obtain ⟨sp, st, xs, e, rfl, hs7, hx12, ht, h1, h2, fin⟩ := h
     obtain ⟨e1, g⟩ := e
     simp only at ht h1 h2 fin
     obtain ⟨i, rfl⟩ : ∃ k : Nat, e1 = (k : Int) + 1 := ⟨(e1 - 1).toNat, by omega⟩
     have hil : i < xs.length := by omega
     have hxl : (xs.map V.int).length = xs.length := List.length_map _
     have h63 : ∀ k, k ≤ 100 → k ≤ sizeLine := fun k hk => Nat.le_trans hk (by decide)
     have hcf : cutV (xs.map V.int) (some ((i : Int) + 1)) none = (xs.drop (i + 1)).map V.int := by
       rw [show (i : Int) + 1 = ((i + 1 : Nat) : Int) by omega, cut_from _ (by rw [hxl]; omega), ← List.map_drop]
     have hct : cutV (xs.map V.int) none (some ((i : Int) + 1 - 1)) = (xs.take i).map V.int := by
       rw [show (i : Int) + 1 - 1 = (i : Int) by omega, cut_to _ (by rw [hxl]; omega), ← List.map_take]
     refine ⟨_, rfl, _, rfl, Or.inl ⟨st, _, 0, .int ((i : Int) + 1), rfl, rfl, SqL.of ht, rfl, ?_⟩⟩
     refine ⟨_, _, rfl, rfl, _, rfl, sp, _, rfl, SqL.of hs7, fun c1 nc1 => ?_⟩
     rw [hct]
     have sa : Same H (upd H c1 (.lst ((xs.take i).map V.int))) := same_upd (Same.refl _) nc1
     have ha1 : (upd H c1 (.lst ((xs.take i).map V.int))) c1 = some (iL (xs.take i)) := upd_same
     generalize upd H c1 (.lst ((xs.take i).map V.int)) = Ha at *
     refine ⟨_, rfl, Or.inl ⟨st, _, 1, .int g, rfl, rfl, SqL.of (sa _ _ ht), rfl, ?_⟩⟩
     refine ⟨(Nat.le_of_ble_eq_true rfl : _ ≤ sizeLine), fun c2 nc2 => ?_⟩
     have sb : Same Ha (upd Ha c2 (.lst [.int g])) := same_upd (Same.refl _) nc2
     have hb1 := sb _ _ ha1
     have hb2 : (upd Ha c2 (.lst [.int g])) c2 = some (.lst [.int g]) := upd_same
     have s7b := sa.trans sb
     generalize upd Ha c2 (.lst [.int g]) = Hb at *
     refine Or.inr ⟨c1, c2, _, _, rfl, rfl, hb1, hb2, ?_, fun c3 nc3 => ?_⟩
     · rw [List.length_map, List.length_take]
       exact h63 _ (by simp; omega)
     have sc : Same Hb (upd Hb c3 (.lst ((xs.take i).map V.int ++ [.int g]))) := same_upd (Same.refl _) nc3
     have hc3 : (upd Hb c3 (.lst ((xs.take i).map V.int ++ [.int g]))) c3 = some (iL (xs.take i ++ [g])) := by
       rw [upd_same]; unfold iL; rw [List.map_append]; rfl
     have s7c := s7b.trans sc
     generalize upd Hb c3 (.lst ((xs.take i).map V.int ++ [.int g])) = Hc at *
     refine ⟨_, rfl, _, rfl, Or.inl ⟨st, _, 0, .int ((i : Int) + 1), rfl, rfl, SqL.of (s7c _ _ ht), rfl, ?_⟩⟩
     refine ⟨_, rfl, sp, _, rfl, SqL.of (s7c _ _ hs7), fun c4 nc4 => ?_⟩
     rw [hcf]
     have sd : Same Hc (upd Hc c4 (.lst ((xs.drop (i + 1)).map V.int))) := same_upd (Same.refl _) nc4
     have hd4 : (upd Hc c4 (.lst ((xs.drop (i + 1)).map V.int))) c4 = some (iL (xs.drop (i + 1))) := upd_same
     have hd3 := sd _ _ hc3
     have s7d := s7c.trans sd
     generalize upd Hc c4 (.lst ((xs.drop (i + 1)).map V.int)) = Hd at *
     refine Or.inr ⟨c3, c4, _, _, rfl, rfl, hd3, hd4, ?_, fun c5 nc5 => ?_⟩
     · rw [List.length_map, List.length_map, List.length_append, List.length_take, List.length_drop]
       exact h63 _ (by simp; omega)
     have hput : upd Hd c5 (.lst ((xs.take i ++ [g]).map V.int ++ (xs.drop (i + 1)).map V.int)) = upd Hd c5 (iL (putP xs ((i : Int) + 1) g)) := by
       unfold iL
       rw [← List.map_append, put_cut hil]
     rw [hput]
     exact fin c5 _ (s7d.trans (same_upd (Same.refl _) nc5)) (s7d.free nc5) upd_same
theorem Dr.le {H : Hp} {d : Addr} {k : Int} (h : Dr H d k) : 0 ≤ k := by obtain ⟨a, b, _, h0⟩ := h; exact h0
theorem may_shaped {m n : Nat} {out : List Edge} (h : ∀ e ∈ out, 1 ≤ e.1 ∧ e.1 ≤ m ∧ 1 ≤ e.2 ∧ e.2 ≤ n) (hm : m ≤ 12) (hn : n ≤ 12) : SeqAt.shaped (dE out) = true :=
  (dok_dE (es := out) fun e he => by have := h e he; omega).shaped (by decide)
@[irreducible] def spWalked : Sp := fun vs H Q _ => ∃ (d q kq s : Addr) (k : Int) (n m most : Nat) (T : List (List Int)) (fs : List Edge) (xs : List Int) (I : List Int → Prop), vs = [.ref d, .ref q, .ref kq, .ref s, .int most] ∧ Dr H d k ∧ k ≤ 900000 ∧ most ≤ 100 ∧ m ≤ 12 ∧ n ≤ 12 ∧ Tab H q n T ∧ TabR n T ∧ Pairs H kq fs ∧ fs.length ≤ 200 ∧ (∀ e ∈ fs, 1 ≤ e.1 ∧ e.1 ≤ m ∧ 1 ≤ e.2 ∧ e.2 ≤ m) ∧ H s = some (iL xs) ∧ I xs ∧
  (∀ ys, I ys → Stds m n ys) ∧ (∀ ys e, I ys → MayE T m fs ys e → I (putP ys e.1 e.2)) ∧
  ∀ p ys H' k', SameBut d H H' → H' p = some (iL ys) → I ys → Dr H' d k' → k' ≤ k + 300 → Q (.ref p) H'
theorem call_walked {d q kq s : Addr} {k : Int} {n m most : Nat} {T : List (List Int)} {fs : List Edge} {xs : List Int} {H : Hp} {Q : VK} {E : XK} (I : List Int → Prop) (hd : Dr H d k) (hk : k ≤ 900000) (hmo : most ≤ 100) (hm : m ≤ 12) (hn : n ≤ 12) (hT : Tab H q n T) (hTR : TabR n T) (hkq : Pairs H kq fs) (hl : fs.length ≤ 200) (hr : ∀ e ∈ fs, 1 ≤ e.1 ∧ e.1 ≤ m ∧ 1 ≤ e.2 ∧ e.2 ≤ m) (hs : H s = some (iL xs)) (hI : I xs)
    (hIS : ∀ ys, I ys → Stds m n ys) (hIM : ∀ ys e, I ys → MayE T m fs ys e → I (putP ys e.1 e.2))
    (fin : ∀ p ys H' k', SameBut d H H' → H' p = some (iL ys) → I ys → Dr H' d k' → k' ≤ k + 300 → Q (.ref p) H') : spWalked [.ref d, .ref q, .ref kq, .ref s, .int most] H Q E := by
  unfold spWalked
  exact ⟨d, q, kq, s, k, n, m, most, T, fs, xs, I, rfl, hd, hk, hmo, hm, hn, hT, hTR, hkq, hl, hr, hs, hI, hIS, hIM, fin⟩
theorem Pairs.but {H H' : Hp} {d p : Addr} {k : Int} {es : List Edge} (h : Pairs H p es) (s : SameBut d H H') (hd : Dr H d k) : Pairs H' p es := by
  obtain ⟨rs, hp⟩ := PsAt.of h
  exact (hp.but s hd).pairs
set_option maxHeartbeats 4000000 in
theorem ok_walked {f : Addr} {fd : FuncData} (F : Fun K "_law_walked" "_law_walked" s_law_walked f fd) (mr : mg "range" = none) (mi : mg "int" = none) (mn : mg "len" = none) (C1 : Cal P w K mg base "_law_next" 1 ["_law_draws_here"] spNext)
    (C2 : Cal P w K mg base "_law_may" 2 ["_law_near_here", "_law_knots", "_law_spots"] spLMay) (C3 : Cal P w K mg base "_law_gone" 1 ["_law_spots", "_law_step"] spGone) :
    FnOk P w K mg base CX0 3 f fd ["_law_draws_here", "_law_near_here", "_law_knots", "_law_spots", "_law_most"] spWalked := by
  refine F.ok sc_law_walked (fun vs H Q E h => ?_) (fun cdv A outer s H vs Q E hr h => ?_)
  · unfold spWalked at h
    obtain ⟨d, q, kq, s, k, n, m, most, T, fs, xs, I, rfl, _⟩ := h
    rfl
  · have nd := sc_law_walked.nd
    have hS := sc_law_walked
    have hKM : KMark K := ⟨⟩
    refine' mk_body ?body ?rd
    case body =>
      show PSs _ [_, _] _
      wtm_at "fo ss"
    case rd =>
     unfold spWalked at h
     obtain ⟨d, q, kq, sp, k, n, m, most, T, fs, xs, I, rfl, hd, hk, hmo, hm, hn, hT, hTR, hkq, hl, hrg, hs, hI, hIS, hIM, fin⟩ := h
     wtm_at "fo r"
     refine call_next hd (by omega) (fun z H1 hz sb1 hd1 => ?_)
     wtm_at "fo r"
     have h1 := Int.emod_nonneg z (show ((most : Int) + 1) ≠ 0 by omega)
     have h2 := Int.emod_lt_of_pos z (show (0 : Int) < (most : Int) + 1 by omega)
     generalize z % ((most : Int) + 1) = r at *
     refine ⟨by omega, by omega, ?_⟩
     have hs1 := sb1 _ _ (hd.ne_ints hs) hs
     refine for_range (fun i σ H3 => ∃ (s3 : Addr) (ys : List Int) (y5 y6 : Option V) (k3 : Int), σ = [some (.ref d), some (.ref q), some (.ref kq), some (.ref s3), some (.int most), y5, y6] ∧ SameBut d H H3 ∧ H3 s3 = some (iL ys) ∧ I ys ∧ Dr H3 d k3 ∧ k3 ≤ k + 1 + i) ?_ ?_ ?_
     · exact ⟨sp, xs, none, none, k + 1, rfl, sb1, hs1, hI, hd1, by omega⟩
     · rintro i σ H3 hi ⟨s3, ys, y5, y6, k3, rfl, sb3, hs3, hI3, hd3, hk3⟩
       have hir : i < 101 := by
         have : i < (r - 0).toNat ∨ i < r.toNat := by first | exact .inr hi | exact .inl hi
         omega
       have hS3 := hIS ys hI3
       wtm_at "fo r"
       refine call_lmay hm hn (hT.but sb3 hd) hTR (hkq.but sb3 hd) hl hrg hs3 hS3 (fun p rs out H4 sm4 np hP hpw hom hol => ?_)
       have hrng : ∀ e ∈ out, 1 ≤ e.1 ∧ e.1 ≤ m ∧ 1 ≤ e.2 ∧ e.2 ≤ n := fun e he => by
         obtain ⟨g1, g2, g3, _⟩ := (hom e).mp he
         have g4 := hS3.plc g1 g2
         have g5 := (hTR _ g4.1 g4.2).2 _ g3
         exact ⟨g1, g2, g5.1, g5.2⟩
       refine ⟨_, rfl, (Nat.le_of_ble_eq_true rfl : _ ≤ sizeLine), fun e ne => ?_⟩
       have smE : Same H4 (upd H4 e (.lst [])) := same_upd (Same.refl _) ne
       have hP5 : PsF H3 (upd H4 e (.lst [])) p rs out := hP.same smE
       refine Or.inr ⟨dE out, .list [], dp_dE hP5.ps.pairs, .lst (SqL.of upd_same) .nil, may_shaped hrng hm hn, rfl, _, rfl, ?_⟩
       unfold dE
       rw [eqv_list_nil]
       have sm5 := sm4.trans smE
       have hd5 := hd3.same sm5
       have hs5 := sm5 _ _ hs3
       have sb5 := sb3.trans (Same.but d sm5)
       generalize upd H4 e (.lst []) = H5 at *
       by_cases hnil : out = []
       · refine ifF (by rw [hnil]; rfl) ?_
         exact ⟨s3, ys, _, _, k3, rfl, sb5, hs5, hI3, hd5, by omega⟩
       refine ifT (by cases hfo : out with | nil => exact absurd hfo hnil | cons a b => rfl) ?_
       have hpos : (0 : Int) < ((rs.map V.ref).length : Int) := by
         rw [List.length_map, hP5.ps.len]
         have := List.length_pos_iff.mpr hnil
         omega
       wtm_at "fo r"
       refine call_next hd5 (by omega) (fun z2 H6 hz2 sb6 hd6 => ?_)
       have hs6 := sb6 _ _ (hd5.ne_ints hs5) hs5
       have hP6 := hP5.but sb6 hd5
       have sb06 := sb5.trans sb6
       have hp6 := hP6.ps.hD
       wtm_at "fo r"
       obtain ⟨j, hj, ej⟩ := mod_ix (n := z2) (len := rs.length) (by rw [List.length_map] at hpos; omega)
       have hjo : j < out.length := by rw [← hP6.ps.len]; exact hj
       have hy : rs[j]? = some rs[j] := List.getElem?_eq_getElem hj
       have hyo : out[j]? = some out[j] := List.getElem?_eq_getElem hjo
       have hat := hP6.ps.at_ _ _ _ hy hyo
       have hem := (hom _).mp (List.getElem_mem hjo)
       generalize out[j] = eo at *
       generalize rs[j] = ro at *
       refine Or.inl ⟨p, _, z2 % ((rs.map V.ref).length : Int), .ref ro, rfl, rfl, SqL.of hP6.ps.hD, at_of (j := j) (by rw [List.length_map]; omega) (by rw [List.getElem?_map, hy]; rfl), ?_⟩
       refine call_gone hs6 (by rw [hS3.len]; exact hm) hat hem.1 (by rw [hS3.len]; exact hem.2.1) (fun s7 H7 sm7 ns7 hs7 => ?_)
       exact ⟨s7, _, _, _, k3 + 1, rfl, sb06.trans (Same.but d sm7), hs7, hIM ys eo hI3 hem, hd6.same sm7, by omega⟩
     · rintro σ H3 ⟨s3, ys, y5, y6, k3, rfl, sb3, hs3, hI3, hd3, hk3⟩
       exact ⟨_, rfl, fin s3 ys H3 k3 sb3 hs3 hI3 hd3 (by omega)⟩
end
/-! piece NTm -/
section
def mkSig {X : Cx} {b : List Stmt} {t : TS} (h : PSs X b t) : PSigma fun t => PSs X b t := ⟨t, h⟩
/-! ### drawn nets: what may be appended -/
def ltN (a b : Edge) : Prop := a.2 < b.2 ∨ (a.2 = b.2 ∧ a.1 < b.1)
theorem simp_asc2 {n : Int} {l : List Edge} (hr : ∀ e ∈ l, 1 ≤ e.1 ∧ e.1 < e.2 ∧ e.2 ≤ n) (hp : l.Pairwise ltN) : Simp n l := by
  refine ⟨fun e he => by have := hr e he; omega, hp.imp_of_mem fun {a b} ha hb hab => ?_⟩
  have h1 := hr a ha
  have h2 := hr b hb
  unfold ltN at hab
  refine ⟨fun e => ?_, fun e => ?_⟩
  · subst e; omega
  · have e1 := congrArg Prod.fst e
    have e2 := congrArg Prod.snd e
    simp only at e1 e2
    omega
theorem simp_more {n a b : Int} {l : List Edge} (h : Simp n l) (hr : ∀ e ∈ l, e.1 < e.2) (h1 : 1 ≤ a) (h2 : a < b) (h3 : b ≤ n) (hn : (a, b) ∉ l) : Simp n (l ++ [(a, b)]) := by
  refine ⟨fun e he => ?_, ?_⟩
  · rcases List.mem_append.mp he with he | he
    · exact h.rng e he
    · rw [List.mem_singleton.mp he]
      simp only
      omega
  · rw [List.pairwise_append]
    refine ⟨h.ap, List.pairwise_singleton _ _, fun x hx y hy => ?_⟩
    rw [List.mem_singleton.mp hy]
    refine ⟨fun e => hn (e ▸ hx), fun e => ?_⟩
    have := hr x hx
    rw [e] at this
    simp only at this
    omega
theorem any_pair (a b : Int) : ∀ es : List Edge, ((es.map fun e => PyData.list [.int e.1, .int e.2]).any fun z => PyData.eqv z (.list [.int a, .int b])) = decide ((a, b) ∈ es)
  | [] => rfl
  | e :: es => by
    rw [List.map_cons, List.any_cons, any_pair a b es]
    have h : PyData.eqv (.list [.int e.1, .int e.2]) (.list [.int a, .int b]) = decide ((a, b) = e) := by
      have := eqv_ints_dec [e.1, e.2] [a, b]
      rw [show ([e.1, e.2].map PyData.int) = [.int e.1, .int e.2] from rfl, show ([a, b].map PyData.int) = [.int a, .int b] from rfl] at this
      rw [this]
      apply decide_eq_decide.mpr
      obtain ⟨e1, e2⟩ := e
      simp only [List.cons.injEq, and_true, Prod.mk.injEq]
      omega
    rw [h, ← Bool.decide_or]
    apply decide_eq_decide.mpr
    rw [List.mem_cons]
theorem ite_tt' {c : Bool} {A B : Prop} (h : A) (h2 : B) : if c = true then A else B := by
  cases c
  · exact ifF rfl h2
  · exact ifT rfl h
theorem bl_at (c0 c1 c2 c3 : Bool) {j : Int} (h0 : 0 ≤ j) (h1 : j < 4) : ∃ c, atI [V.bl c0, V.bl c1, V.bl c2, V.bl c3] j = some (.bl c) := by
  have : j = 0 ∨ j = 1 ∨ j = 2 ∨ j = 3 := by omega
  rcases this with e | e | e | e <;> rw [e] <;> exact ⟨_, rfl⟩
theorem shaped_pair {a b : Int} (h1 : a.natAbs < 1000) (h2 : b.natAbs < 1000) : SeqAt.shaped (.list [.int a, .int b]) = true := (dok_pair h1 h2).shaped (by decide)
theorem shaped_dE {es : List Edge} (h : ∀ e ∈ es, e.1.natAbs < 1000 ∧ e.2.natAbs < 1000) : SeqAt.shaped (dE es) = true := (dok_dE h).shaped (by decide)
theorem dp_two {K : PySem.W.Frag} {H : Hp} {p : Addr} {a b : Int} (h : H p = some (.lst [.int a, .int b])) : Dp K H (.ref p) (.list [.int a, .int b]) := .lst (SqL.of h) (.cons (.int _) (.cons (.int _) .nil))
theorem pe_mono {X : Cx} {e : Expr} {te te' : TE} (h : PE X e te) (m : ∀ σ H Q, te' σ H Q → te σ H Q) : PE X e te' := ⟨fun pins s σ H Q I q => h.run pins s σ H Q I (m σ H Q q)⟩
/-- [a, b] in pairs or [b, a] in pairs: a truth, whichever -/
def tKnown : TE := fun σ H Q => ∃ (a b : Int) (p : Addr) (es : List Edge), σ[7]? = some (some (.int a)) ∧ σ[6]? = some (some (.int b)) ∧ σ[4]? = some (some (.ref p)) ∧ Pairs H p es ∧ a.natAbs < 1000 ∧ b.natAbs < 1000 ∧ (∀ e ∈ es, e.1.natAbs < 1000 ∧ e.2.natAbs < 1000) ∧ ∀ k H', Same H H' → Q (.bl k) H'
theorem known_mono (K : PySem.W.Frag) : ∀ σ H Q, tKnown σ H Q → tOrV (tOp (rInD K) (tLst (tCons (tVar 7) (tCons (tVar 6) tNil))) (tVar 4)) (tOp (rInD K) (tLst (tCons (tVar 6) (tCons (tVar 7) tNil))) (tVar 4)) σ H Q := by
  rintro σ H Q ⟨a, b, p, es, h7, h6, h4, hP, ha, hb, hes, hQ⟩
  refine ⟨_, h7, _, h6, (Nat.le_of_ble_eq_true rfl : _ ≤ sizeLine), fun c1 nc1 => ?_⟩
  have sm1 : Same H (upd H c1 (.lst [.int a, .int b])) := same_upd (Same.refl _) nc1
  refine ⟨_, h4, .list [.int a, .int b], _, dp_two upd_same, dp_dE (hP.same sm1), shaped_pair ha hb, shaped_dE hes, _, rfl, ?_⟩
  refine ite_tt' (hQ _ _ sm1) ?_
  refine ⟨_, h6, _, h7, (Nat.le_of_ble_eq_true rfl : _ ≤ sizeLine), fun c2 nc2 => ?_⟩
  have sm2 : Same (upd H c1 (.lst [.int a, .int b])) (upd (upd H c1 (.lst [.int a, .int b])) c2 (.lst [.int b, .int a])) := same_upd (Same.refl _) nc2
  exact ⟨_, h4, .list [.int b, .int a], _, dp_two upd_same, dp_dE ((hP.same sm1).same sm2), shaped_pair hb ha, shaped_dE hes, hQ _ _ (sm1.trans sm2)⟩
def tMaybe : TE := fun σ H Q => ∃ (a b c : Int) (k : Bool), σ[7]? = some (some (.int a)) ∧ σ[6]? = some (some (.int b)) ∧ σ[9]? = some (some (.bl k)) ∧ σ[8]? = some (some (.int c)) ∧ ∀ k, Q (.bl k) H
theorem maybe_mono (K : PySem.W.Frag) : ∀ σ H Q, tMaybe σ H Q → tOrV (tOp (rEqB K) (tVar 7) (tVar 6)) (tAndV (tVar 9) (tOp (rEqB K) (tOp (rI (fun _ j => 0 < j) fun i j => .int (i % j)) (tVar 8) (tC (.int 2))) (tC (.int 0)))) σ H Q := by
  rintro σ H Q ⟨a, b, c, k, h7, h6, h9, h8, hQ⟩
  refine ⟨_, h7, _, h6, Or.inl ⟨rfl, _, rfl, ite_tt' (hQ _) ?_⟩⟩
  refine ⟨_, h9, k, rfl, ?_⟩
  cases k
  · exact ifF rfl (hQ _)
  · exact ifT rfl ⟨_, h8, _, _, rfl, rfl, (show (0 : Int) < 2 by decide), Or.inl ⟨rfl, hQ _⟩⟩
theorem ps_mono {X : Cx} {st : Stmt} {ts ts' : TS} (h : PS X st ts) (m : ∀ D σ H, ts' D σ H → ts D σ H) : PS X st ts' := ⟨fun pins s σ H D I q => h.run pins s σ H D I (m D σ H q)⟩
/-- perhaps one line more, from 1 to the greatest place -/
def tMore : TS := fun D σ H => ∃ (d pp : Addr) (n : Nat) (kind k : Int) (es : List Edge) (rs : List Addr) (H2 : Hp), σ[0]? = some (some (.ref d)) ∧ σ[2]? = some (some (.int n)) ∧ σ[3]? = some (some (.int kind)) ∧ σ[4]? = some (some (.ref pp)) ∧
  PsF H2 H pp rs es ∧ Simp n es ∧ (∀ e ∈ es, e.1 < e.2) ∧ n ≤ 12 ∧ es.length ≤ 190 ∧ SameBut d H2 H ∧ H2 pp = none ∧ Dr H d k ∧ k ≤ 900000 ∧
  ∀ H' rs' es' k', PsF H2 H' pp rs' es' → Simp n es' → es'.length ≤ es.length + 1 → SameBut d H2 H' → Dr H' d k' → k' ≤ k + 1 → D.nx σ H'
theorem more_mono (K K' : PySem.W.Frag) : ∀ D σ H, tMore D σ H → tIfS (tAnd (tTest (tOp (rEqB K) (tVar 3) (tC (.int 0)))) (tAnd (tTest (tOp (rI0 fun i j => .bl (decide (j < i))) (tVar 2) (tC (.int 2))))
    (tAnd (tTest (tOp (rNotInD K) (tLst (tCons (tC (.int 1)) (tCons (tVar 2) tNil))) (tVar 4))) (tTest (tOp (rEqB K) (tOp (rI (fun _ j => 0 < j) fun i j => .int (i % j)) (tCB cInt (tCons (tCall spNext [] E0 (tCons (tVar 0) tNil)) tNil)) (tC (.int 2))) (tC (.int 0)))))))
    (tDrop (tBM K' "list" rAppend (tVar 4) (tCons (tLst (tCons (tC (.int 1)) (tCons (tVar 2) tNil))) tNil))) tNext D σ H := by
  rintro D σ H ⟨d, pp, n, kind, k, es, rs, H2, h0, h2, h3, h4, hP, hS, hlt, hn, hl, sb, npp, hd, hk, fin⟩
  have hno : ∀ H', Same H H' → D.nx σ H' := fun H' sm => fin H' rs es k (hP.same sm) hS (by omega) (sb.trans (Same.but d sm)) (hd.same sm) (by omega)
  refine ⟨_, h3, Or.inl ⟨rfl, _, rfl, ?_⟩⟩
  refine ite2 (fun _ => ?_) (fun _ => ifF rfl (hno H (Same.refl _)))
  refine ⟨_, h2, _, _, rfl, rfl, _, rfl, ?_⟩
  refine ite2 (fun hc2 => ?_) (fun _ => ifF rfl (hno H (Same.refl _)))
  have hc2 := of_decide_eq_true hc2
  refine ⟨_, h2, (Nat.le_of_ble_eq_true rfl : _ ≤ sizeLine), fun c1 nc1 => ?_⟩
  have sm1 : Same H (upd H c1 (.lst [.int 1, .int n])) := same_upd (Same.refl _) nc1
  have hsm : ∀ e ∈ es, e.1.natAbs < 1000 ∧ e.2.natAbs < 1000 := fun e he => by
    have := hS.rng e he
    omega
  refine ⟨_, h4, .list [.int 1, .int n], _, dp_two upd_same, dp_dE (hP.same sm1).ps.pairs, shaped_pair (by decide) (by omega), shaped_dE hsm, _, rfl, ?_⟩
  rw [any_pair]
  by_cases hin : ((1 : Int), (n : Int)) ∈ es
  · rw [decide_eq_true hin]
    exact ifF rfl (ifF rfl (hno _ sm1))
  rw [decide_eq_false hin]
  refine ifT rfl ?_
  have hP1 := hP.same sm1
  have hd1 := hd.same sm1
  have sb1 := sb.trans (Same.but d sm1)
  generalize upd H c1 (.lst [.int 1, .int n]) = H1 at *
  refine ⟨_, h0, ?_⟩
  refine call_next hd1 (by omega) (fun z H3 hz sb3 hd3 => ?_)
  have hP3 := hP1.but sb3 hd1
  have sb13 := sb1.trans sb3
  refine Or.inl ⟨_, rfl, _, _, rfl, rfl, (show (0 : Int) < 2 by decide), Or.inl ⟨rfl, _, rfl, ?_⟩⟩
  refine ite2 (fun _ => ?_) (fun _ => fin H3 rs es (k + 1) hP3 hS (by omega) sb13 hd3 (by omega))
  refine ⟨_, h4, .inl ⟨rfl, _, SqL.of hP3.ps.hD⟩, ?_⟩
  refine ⟨_, h2, (Nat.le_of_ble_eq_true rfl : _ ≤ sizeLine), fun c5 nc5 => ?_⟩
  have hpc : pp ≠ c5 := ne_of_none hP3.ps.hD nc5
  have hppd : pp ≠ d := hd3.ne_refs hP3.ps.hD
  have hc5d : c5 ≠ d := hd3.trk nc5
  refine ⟨pp, _, _, rfl, rfl, (upd_ne hpc).trans hP3.ps.hD, ?_, ?_⟩
  · rw [List.length_map, hP3.ps.len]
    exact Nat.lt_of_le_of_lt (m := 1000) (by omega) (by decide)
  refine fin _ (rs ++ [c5]) (es ++ [(1, (n : Int))]) (k + 1) (hP3.push nc5 (sb13.none hd3 nc5) (1, (n : Int))) (simp_more hS hlt (by omega) (by omega) (Int.le_refl _) hin) ?_ ((sb13.new (sb13.none hd3 nc5)).new npp) ?_ (by omega)
  · rw [List.length_append, List.length_singleton]
    exact Nat.le_refl _
  · obtain ⟨a, b, e, h0⟩ := hd3
    exact ⟨a, b, by rw [upd_ne hppd.symm, upd_ne hc5d.symm]; exact e, h0⟩
end
/-! piece WH -/
section
theorem cut5 (ns : List Int) : (cutV (ns.map V.int) none (some 5)).length ≤ 5 := by
  unfold cutV
  rw [List.length_take]
  refine Nat.le_trans (Nat.min_le_left _ _) (Nat.le_trans (Nat.sub_le _ _) ?_)
  unfold HT.sIx
  simp only [show ¬ (5 : Int) < 0 by decide, if_false]
  omega
theorem cutInt {ns : List Int} {lo hi : Option Int} {x : V} (h : x ∈ cutV (ns.map V.int) lo hi) : ∃ i, x = V.int i := by
  unfold cutV at h
  obtain ⟨i, _, rfl⟩ := List.mem_map.mp (List.mem_of_mem_drop (List.mem_of_mem_take h))
  exact ⟨i, rfl⟩
/-! ### nets written in the text -/
structure RowAt (H : Hp) (rs : List Addr) (es : List Edge) : Prop where
  len : rs.length = es.length
  at_ : ∀ (i : Nat) (r : Addr) (e : Edge), rs[i]? = some r → es[i]? = some e → H r = some (.lst [.int e.1, .int e.2])
theorem RowAt.nil (H : Hp) : RowAt H [] [] := ⟨rfl, fun i r e h _ => by simp at h⟩
theorem RowAt.same {H H' : Hp} {rs : List Addr} {es : List Edge} (h : RowAt H rs es) (s : Same H H') : RowAt H' rs es := ⟨h.len, fun i r e a b => s _ _ (h.at_ i r e a b)⟩
theorem RowAt.snoc {H : Hp} {rs : List Addr} {es : List Edge} {r : Addr} {a b : Int} (h : RowAt H rs es) (nr : H r = none) : RowAt (upd H r (.lst [.int a, .int b])) (rs ++ [r]) (es ++ [(a, b)]) := by
  have hs := h.same (same_upd (o := .lst [.int a, .int b]) (Same.refl _) nr)
  refine ⟨by simp [h.len], fun i r2 e h1 h2 => ?_⟩
  by_cases hi : i < rs.length
  · rw [List.getElem?_append_left hi] at h1
    rw [List.getElem?_append_left (by rw [← h.len]; exact hi)] at h2
    exact hs.at_ i r2 e h1 h2
  · have hlt : i < (rs ++ [r]).length := (List.getElem?_eq_some_iff.mp h1).1
    have hi2 : i = rs.length := by rw [List.length_append, List.length_singleton] at hlt; omega
    subst hi2
    rw [List.getElem?_concat_length] at h1
    rw [h.len, List.getElem?_concat_length] at h2
    cases h1
    cases h2
    exact upd_same
theorem RowAt.net {H : Hp} {rs : List Addr} {es : List Edge} {q : Addr} (h : RowAt H rs es) (nq : H q = none) : PsAt (upd H q (.lst (rs.map V.ref))) q rs es :=
  let hs := h.same (same_upd (o := .lst (rs.map V.ref)) (Same.refl _) nq)
  ⟨upd_same, hs.len, hs.at_⟩
theorem simp_of {n : Int} {es : List Edge} (h1 : ∀ e ∈ es, 1 ≤ e.1 ∧ e.1 ≤ n ∧ 1 ≤ e.2 ∧ e.2 ≤ n ∧ e.1 ≠ e.2) (h2 : es.Pairwise fun a b => a ≠ b ∧ a ≠ (b.2, b.1)) : Simp n es := ⟨h1, h2⟩
theorem eqv_dI (xs : List Int) : PyData.eqv (dI xs) (dI xs) = true := by
  unfold dI
  induction xs with
  | nil => simp [PyData.eqv, PyData.eqvAll]
  | cons a l ih => simp_all [PyData.eqv, PyData.eqvAll]
@[irreducible] def spLaw (K : PySem.W.Frag) : Sp := fun vs H Q _ => ∃ (a : Addr) (ns : List Int), vs = [.ref a] ∧ SqL K H a (ns.map V.int) ∧ ns.length ≤ sizeLine ∧ ∀ H', Q (.bl true) H'
theorem PsAt.take {H : Hp} {D c : Addr} {rs : List Addr} {es : List Edge} (h : PsAt H D rs es) (k : Nat) (nc : H c = none) : PsAt (upd H c (.lst ((rs.map V.ref).take k))) c (rs.take k) (es.take k) := by
  have sm : Same H (upd H c (.lst ((rs.map V.ref).take k))) := same_upd (Same.refl _) nc
  refine ⟨by rw [upd_same, List.map_take], by rw [List.length_take, List.length_take, h.len], fun i r e hr he => ?_⟩
  rw [List.getElem?_take] at hr he
  by_cases hi : i < k
  · rw [if_pos hi] at hr he
    exact sm _ _ (h.at_ i r e hr he)
  · rw [if_neg hi] at hr
    cases hr
theorem same_draw {A B C : Hp} {d : Addr} {o : HO} (h : Same A B) (n : B d = none) (s : SameBut d (upd B d o) C) : Same A C := fun b ob e => by
  have h1 := h b ob e
  have hne : b ≠ d := ne_of_none h1 n
  exact s b ob hne (by rw [upd_ne hne]; exact h1)
end
/-! piece PS -/
section
local macro_rules | `(tactic| wtm_at "fo s") => `(tactic| ((with_reducible show PS _ (.Break _) _); exact ps_break))
local macro_rules | `(tactic| wtm_at "fo meth") => `(tactic| ((with_reducible show PE _ (.Call (.Attribute _ (Str.ofString "extend") _) _ _ _) _); refine' pe_bm PySem.F.plainAttrs_list PySem.F.slot_list_extend PySem.F.type_list_extend mt_extend ?ka ?kb; (case ka => wtm_at "fo e"); (case kb => wtm_at "fo a")))
variable {P : Program} {w : World} {K : PySem.W.Frag} {mg : Str → Option Value} {base : Heap}
/-! ### _who_stand -/
@[irreducible] def spWho : Sp := fun vs H Q _ => ∃ (s : Addr) (p : Int) (xs : List Int), vs = [.ref s, .int p] ∧ H s = some (iL xs) ∧ xs.length ≤ 12 ∧
  ∀ r H', Same H H' → H r = none → H' r = some (iL (onP xs p)) → Q (.ref r) H'
theorem call_who {s : Addr} {p : Int} {xs : List Int} {H : Hp} {Q : VK} {E : XK} (hs : H s = some (iL xs)) (hl : xs.length ≤ 12)
    (fin : ∀ r H', Same H H' → H r = none → H' r = some (iL (onP xs p)) → Q (.ref r) H') : spWho [.ref s, .int p] H Q E := by
  unfold spWho
  exact ⟨s, p, xs, rfl, hs, hl, fin⟩
set_option maxHeartbeats 4000000 in
theorem ok_who {f : Addr} {fd : FuncData} (F : Fun K "_who_stand" "_who_stand" s_who_stand f fd) (me : mg "enumerate" = none) :
    FnOk P w K mg base CX0 1 f fd ["standing", "place"] spWho := by
  refine F.ok sc_who_stand (fun vs H Q E h => ?_) (fun cdv A outer s H vs Q E hr h => ?_)
  · unfold spWho at h
    obtain ⟨s, p, xs, rfl, _⟩ := h
    rfl
  · have nd := sc_who_stand.nd
    have hS := sc_who_stand
    have hKM : KMark K := ⟨⟩
    refine' mk_body ?body ?rd
    case body =>
      show PSs _ [_] _
      wtm_at "fo ss"
    case rd =>
     unfold spWho at h
     obtain ⟨st, p, xs, rfl, hs, hl, fin⟩ := h
     refine ⟨_, rfl, st, _, 1, rfl, rfl, SqL.of hs, ⟨by decide, by decide⟩, fun D nD => ?_⟩
     refine lc_enumC (K := K) (a := st) (xs := xs.map V.int) (fun j H7 => Same H H7 ∧ H7 D = some (iL (onK xs p j))) ?_ ?_ ?_ ?_
     · exact ⟨same_upd (Same.refl _) nD, upd_same⟩
     · rintro j H7 _ ⟨sm7, _⟩
       exact SqL.of (sm7 _ _ hs)
     · rintro j y T H7 hy ⟨sm7, hD7⟩ nT
       obtain ⟨z, hz, rfl⟩ := int_at hy
       have hpz := plc_of hz
       have hjl : j < xs.length := (List.getElem?_eq_some_iff.mp hz).1
       have smT : Same H7 (upd H7 T (.tup [.int (1 + (j : Nat)), .int z])) := same_upd (Same.refl _) nT
       have hD8 := smT _ _ hD7
       have sm8 := sm7.trans smT
       refine Or.inl ⟨T, [.int (1 + (j : Nat)), .int z], rfl, SqT.of upd_same, rfl, .int (1 + (j : Nat)), [.int z], rfl, .int z, [], rfl, rfl, ?_⟩
       generalize upd H7 T (.tup [.int (1 + (j : Nat)), .int z]) = H8 at *
       refine ⟨rfl, _, rfl, _, rfl, Or.inl ⟨rfl, _, rfl, ?_⟩⟩
       have hlen := onK_len xs p j
       refine ite2 (fun hc => ?_) (fun hc => ?_)
       · have hc : z = p := V.int.inj (of_decide_eq_true hc)
         refine ⟨_, rfl, _, hD8, ?_, same_upd sm8 nD, ?_⟩
         · rw [List.length_map]
           exact Nat.lt_of_le_of_lt (m := 60000) (by omega) (by decide)
         · rw [upd_same, onK_succ, hpz, if_pos hc]
           unfold iL
           rw [List.map_append, show (j : Int) + 1 = 1 + (j : Int) by omega]
           rfl
       · have hc : ¬ z = p := fun e => hc (by rw [e]; simp)
         refine ⟨sm8, ?_⟩
         rw [onK_succ, hpz, if_neg hc, List.append_nil]
         exact hD8
     · rintro H7 ⟨sm7, hD7⟩
       rw [List.length_map] at hD7
       exact fin D H7 sm7 nD hD7
/-! ### _steps_along -/
@[irreducible] def spAlong : Sp := fun vs H Q _ => ∃ (q hx hy : Addr) (rs : List Addr) (ps : List Edge) (xs ys : List Int), vs = [.ref q, .ref hx, .ref hy] ∧ TsAt H q rs ps ∧ ps.length ≤ 12 ∧ H hx = some (iL xs) ∧ H hy = some (iL ys) ∧ xs.length ≤ 12 ∧ ys.length ≤ 12 ∧
  ∀ r rs' H', Same H H' → H r = none → PsF H H' r rs' ((alongS ps xs ys).1 ++ (alongS ps xs ys).2.reverse) → Q (.ref r) H'
theorem call_along {q hx hy : Addr} {rs : List Addr} {ps : List Edge} {xs ys : List Int} {H : Hp} {Q : VK} {E : XK} (hq : TsAt H q rs ps) (hl : ps.length ≤ 12) (h1 : H hx = some (iL xs)) (h2 : H hy = some (iL ys)) (l1 : xs.length ≤ 12) (l2 : ys.length ≤ 12)
    (fin : ∀ r rs' H', Same H H' → H r = none → PsF H H' r rs' ((alongS ps xs ys).1 ++ (alongS ps xs ys).2.reverse) → Q (.ref r) H') : spAlong [.ref q, .ref hx, .ref hy] H Q E := by
  unfold spAlong
  exact ⟨q, hx, hy, rs, ps, xs, ys, rfl, hq, hl, h1, h2, l1, l2, fin⟩
set_option maxHeartbeats 8000000 in
theorem ok_along {f : Addr} {fd : FuncData} (F : Fun K "_steps_along" "_steps_along" s_steps_along f fd) (C : Cal P w K mg base "_who_stand" 1 ["standing", "place"] spWho) :
    FnOk P w K mg base CX0 2 f fd ["pairs", "here", "there"] spAlong := by
  refine F.ok sc_steps_along (fun vs H Q E h => ?_) (fun cdv A outer s H vs Q E hr h => ?_)
  · unfold spAlong at h
    obtain ⟨q, hx, hy, rs, ps, xs, ys, rfl, _⟩ := h
    rfl
  · have nd := sc_steps_along.nd
    have hS := sc_steps_along
    have hKM : KMark K := ⟨⟩
    refine' mk_body ?body ?rd
    case body =>
      show PSs _ [_, _, _, _] _
      wtm_at "fo ss"
    case rd =>
     unfold spAlong at h
     obtain ⟨q, hx, hy, rs, ps, xs, ys, rfl, hq, hl, h1, h2, l1, l2, fin⟩ := h
     wtm_at "fo r"
     rename_i S nS B nB
     have sm1 : Same H (upd H S (.lst [])) := same_upd (Same.refl _) nS
     have nB0 : H B = none := sm1.free nB
     have hSB : S ≠ B := ne_of_none upd_same nB
     have smB : Same (upd H S (.lst [])) (upd (upd H S (.lst [])) B (.lst [])) := same_upd (Same.refl _) nB
     have hS0 : PsF H (upd (upd H S (.lst [])) B (.lst [])) S [] [] := ⟨PsAt.nil (smB _ _ upd_same), List.nodup_nil, fun r h => nomatch h⟩
     have hB0 : PsF H (upd (upd H S (.lst [])) B (.lst [])) B [] [] := ⟨PsAt.nil upd_same, List.nodup_nil, fun r h => nomatch h⟩
     have sm0 := sm1.trans smB
     show _ ∧ _
     generalize upd (upd H S (.lst [])) B (.lst []) = H0 at *
     refine ⟨⟨_, SqL.of (hq.same sm0).hD⟩, ?_⟩
     have hbl := alongS_len 12
     refine for_listB (K := K) (xs := rs.map V.ref)
       (fun i σ H3 => ∃ (hx3 hy3 : Addr) (xs3 ys3 : List Int) (y5 y6 : Option V) (rsS rsB : List Addr) (sx bx : List Edge), σ = [some (.ref q), some (.ref hx3), some (.ref hy3), some (.ref S), some (.ref B), y5, y6, none, none] ∧ Same H H3 ∧ H3 hx3 = some (iL xs3) ∧ H3 hy3 = some (iL ys3) ∧ xs3.length = xs.length ∧ ys3.length = ys.length ∧ hx3 ≠ S ∧ hx3 ≠ B ∧ hy3 ≠ S ∧ hy3 ≠ B ∧
         PsF H H3 S rsS sx ∧ PsF H H3 B rsB bx ∧ (rsS ++ rsB).Nodup ∧ sx.length ≤ 12 * i ∧ bx.length ≤ 12 * i ∧
         alongS ps xs ys = (sx ++ (alongS (ps.drop i) xs3 ys3).1, bx ++ (alongS (ps.drop i) xs3 ys3).2))
       (fun σ H3 => ∃ (y1 y2 y5 y6 : Option V) (rsS rsB : List Addr) (sx bx : List Edge), σ = [some (.ref q), y1, y2, some (.ref S), some (.ref B), y5, y6, none, none] ∧ Same H H3 ∧
         PsF H H3 S rsS sx ∧ PsF H H3 B rsB bx ∧ (rsS ++ rsB).Nodup ∧ sx.length ≤ 144 ∧ bx.length ≤ 144 ∧ alongS ps xs ys = (sx, bx)) ?hf ?h0 ?hl ?hs ?hd
     case hf =>
       rintro σ H3 ⟨y1, y2, y5, y6, rsS, rsB, sx, bx, rfl, sm, hPS, hPB, hnd, hls, hlb, hal⟩
       refine ⟨_, rfl, _, rfl, 1, rfl, _, rfl, B, _, rfl, Or.inr rfl, SqL.of hPB.ps.hD, fun c nc => ?_⟩
       have est : stepV (some (-1)) (rsB.map V.ref) = rsB.reverse.map V.ref := by
         rw [List.map_reverse]; rfl
       show rAddB (.ref S) (.ref c) (upd H3 c (.lst (stepV (some (-1)) (rsB.map V.ref)))) _
       rw [est]
       have hR := hPB.rev nc
       have smc : Same H3 (upd H3 c (.lst (rsB.reverse.map V.ref))) := same_upd (Same.refl _) nc
       have hPS2 := hPS.ps.same smc
       have lS := hPS.ps.len
       have lB := hPB.ps.len
       refine Or.inr ⟨S, c, _, _, rfl, rfl, hPS2.hD, hR.hD, ?_, fun t nt => ?_⟩
       · simp only [List.length_map, List.length_reverse]
         exact Nat.le_trans (m := 1000) (by omega) (by decide)
       · have hcat := hPS2.cat hR nt
         rw [hal] at fin
         refine fin t _ _ (sm.trans (smc.trans (same_upd (Same.refl _) nt))) (sm.free (smc.free nt)) ⟨hcat, ?_, fun r hr => ?_⟩
         · obtain ⟨n1, n2, n3⟩ := List.nodup_append.mp hnd
           exact List.nodup_append.mpr ⟨n1, (List.reverse_perm rsB).nodup_iff.mpr n2, fun a ha b hb => n3 a ha b (List.mem_reverse.mp hb)⟩
         · rcases List.mem_append.mp hr with hr | hr
           · exact hPS.fr r hr
           · exact hPB.fr r (List.mem_reverse.mp hr)
     case h0 => exact ⟨hx, hy, xs, ys, none, none, [], [], [], [], rfl, sm0, sm0 _ _ h1, sm0 _ _ h2, rfl, rfl, ne_of_none h1 nS, ne_of_none h1 nB0, ne_of_none h2 nS, ne_of_none h2 nB0, hS0, hB0, List.nodup_nil, Nat.zero_le _, Nat.zero_le _, rfl⟩
     case hl =>
       rintro i σ H3 _ ⟨hx3, hy3, xs3, ys3, y5, y6, rsS, rsB, sx, bx, rfl, sm, _⟩
       exact SqL.of (sm _ _ hq.hD)
     case hd =>
       rintro σ H3 ⟨hx3, hy3, xs3, ys3, y5, y6, rsS, rsB, sx, bx, rfl, sm, a1, a2, a3, a4, x1, x2, x3, x4, hPS, hPB, hnd, hls, hlb, hal⟩
       rw [List.length_map, hq.len] at hls hlb hal
       rw [List.drop_length] at hal
       refine ⟨_, _, y5, y6, rsS, rsB, sx, bx, rfl, sm, hPS, hPB, hnd, by omega, by omega, ?_⟩
       rw [hal]
       show (sx ++ [], bx ++ []) = _
       rw [List.append_nil, List.append_nil]
     case hs =>
       rintro hf i x σ H3 hx0 ⟨hx3, hy3, xs3, ys3, y5, y6, rsS, rsB, sx, bx, rfl, sm, a1, a2, a3, a4, x1, x2, x3, x4, hPS, hPB, hnd, hls, hlb, hal⟩
       obtain ⟨r, hr, rfl⟩ := ref_at hx0
       have hil : i < ps.length := by rw [← hq.len]; exact (List.getElem?_eq_some_iff.mp hr).1
       have hpe : ps[i]? = some ps[i] := List.getElem?_eq_getElem hil
       have hre := sm _ _ (hq.at_ _ _ _ hr hpe)
       have hdr : ps.drop i = ps[i] :: ps.drop (i + 1) := List.drop_eq_getElem_cons hil
       rw [hdr] at hal
       generalize ps[i] = e at *
       obtain ⟨p, g⟩ := e
       simp only at hre
       refine Or.inl ⟨r, [.int p, .int g], rfl, SqT.of hre, rfl, .int p, [.int g], rfl, .int g, [], rfl, rfl, ?_⟩
       refine ⟨_, rfl, _, rfl, Or.inr ⟨_, _, dp_dI' (SqL.of a1), dp_dI' (SqL.of a2), shaped_ints _, shaped_ints _, _, rfl, ?_⟩⟩
       rw [eqv_ints_dec]
       by_cases hxy : xs3 = ys3
       · refine ifT (decide_eq_true hxy) ?_
         refine hf _ _ ⟨_, _, _, _, rsS, rsB, sx, bx, rfl, sm, hPS, hPB, hnd, by omega, by omega, ?_⟩
         rw [hal]
         unfold alongS
         rw [if_pos hxy, List.append_nil, List.append_nil]
       refine ifF (decide_eq_false hxy) ?_
       have e1 := onK_len xs3 p xs3.length
       have e2 := onK_len ys3 p ys3.length
       have lS := hPS.ps.len
       have lB := hPB.ps.len
       refine ⟨_, rfl, .inl ⟨rfl, _, SqL.of hPS.ps.hD⟩, ?_⟩
       refine ⟨_, rfl, _, rfl, ?_⟩
       refine call_who a1 (by omega) (fun w1 H4 sm4 nw1 hw1 => ?_)
       refine ⟨w1, rfl, ⟨_, SqL.of hw1⟩, fun D nD => ?_⟩
       refine lc_prs (K := K) (xs := onP xs3 p) (fun k => (k, g)) (SqL.of hw1) nD (by unfold onP; omega) (fun _ => rfl) ?_ ?_
       · intro k hk H5 sm5 R hR
         exact ⟨_, rfl, _, rfl, (Nat.le_of_ble_eq_true rfl : _ ≤ sizeLine), fun c nc => hR H5 c (Same.refl _) nc⟩
       intro H5 rs5 sm5 hP5
       have sm45 := sm4.trans sm5
       have l5 := hP5.ps.len
       rw [List.length_map] at l5
       refine ⟨S, D, _, _, rfl, rfl, sm45 _ _ hPS.ps.hD, hP5.ps.hD, ?_, ?_⟩
       · simp only [List.length_map]
         exact Nat.le_trans (m := 1000) (by unfold onP at l5; omega) (by decide)
       have hP53 : PsF H3 H5 D rs5 ((onP xs3 p).map fun k => (k, g)) := ⟨hP5.ps, hP5.nd, fun r hr => sm4.free (hP5.fr r hr)⟩
       have hPS6 := hPS.ext sm45 hP53 sm nS
       have hPB6 : PsF H (upd H5 S (.lst (rsS.map V.ref ++ rs5.map V.ref))) B rsB bx := ⟨(hPB.ps.same sm45).upd2 hSB.symm (hPB.ps.apart hPS.ps), hPB.nd, hPB.fr⟩
       have sm6 : Same H (upd H5 S (.lst (rsS.map V.ref ++ rs5.map V.ref))) := same_upd (sm.trans sm45) nS
       have a16 : (upd H5 S (.lst (rsS.map V.ref ++ rs5.map V.ref))) hx3 = some (iL xs3) := by rw [upd_ne x1]; exact sm45 _ _ a1
       have a26 : (upd H5 S (.lst (rsS.map V.ref ++ rs5.map V.ref))) hy3 = some (iL ys3) := by rw [upd_ne x3]; exact sm45 _ _ a2
       generalize upd H5 S (.lst (rsS.map V.ref ++ rs5.map V.ref)) = H6 at *
       refine ⟨_, rfl, .inl ⟨rfl, _, SqL.of hPB6.ps.hD⟩, ?_⟩
       refine ⟨_, rfl, _, rfl, ?_⟩
       refine call_who a26 (by omega) (fun w2 H7 sm7 nw2 hw2 => ?_)
       refine ⟨w2, rfl, ⟨_, SqL.of hw2⟩, fun D2 nD2 => ?_⟩
       refine lc_prs (K := K) (xs := onP ys3 p) (fun k => (k, p)) (SqL.of hw2) nD2 (by unfold onP; omega) (fun _ => rfl) ?_ ?_
       · intro k hk H8 sm8 R hR
         exact ⟨_, rfl, _, rfl, (Nat.le_of_ble_eq_true rfl : _ ≤ sizeLine), fun c nc => hR H8 c (Same.refl _) nc⟩
       intro H8 rs8 sm8 hP8
       have sm78 := sm7.trans sm8
       have l8 := hP8.ps.len
       rw [List.length_map] at l8
       refine ⟨B, D2, _, _, rfl, rfl, sm78 _ _ hPB6.ps.hD, hP8.ps.hD, ?_, ?_⟩
       · simp only [List.length_map]
         exact Nat.le_trans (m := 1000) (by unfold onP at l8; omega) (by decide)
       have hP86 : PsF H6 H8 D2 rs8 ((onP ys3 p).map fun k => (k, p)) := ⟨hP8.ps, hP8.nd, fun r hr => sm7.free (hP8.fr r hr)⟩
       have hPB9 := hPB6.ext sm78 hP86 sm6 nB0
       have hPS9 : PsF H (upd H8 B (.lst (rsB.map V.ref ++ rs8.map V.ref))) S (rsS ++ rs5) (sx ++ (onP xs3 p).map fun k => (k, g)) := ⟨(hPS6.ps.same sm78).upd2 hSB (hPS6.ps.apart hPB6.ps), hPS6.nd, hPS6.fr⟩
       have sm9 : Same H (upd H8 B (.lst (rsB.map V.ref ++ rs8.map V.ref))) := same_upd (sm6.trans sm78) nB0
       have a19 : (upd H8 B (.lst (rsB.map V.ref ++ rs8.map V.ref))) hx3 = some (iL xs3) := by rw [upd_ne x2]; exact sm78 _ _ a16
       have a29 : (upd H8 B (.lst (rsB.map V.ref ++ rs8.map V.ref))) hy3 = some (iL ys3) := by rw [upd_ne x4]; exact sm78 _ _ a26
       have hnd9 : (rsS ++ rs5 ++ (rsB ++ rs8)).Nodup := by
         refine List.nodup_append.mpr ⟨hPS6.nd, hPB9.nd, fun a ha b hb e => ?_⟩
         subst e
         rcases List.mem_append.mp hb with hb | hb
         · rcases List.mem_append.mp ha with ha | ha
           · exact (List.nodup_append.mp hnd).2.2 a ha a hb rfl
           · obtain ⟨x, hx⟩ := hPB.ps.has2 hb
             have := hP53.fr a ha
             rw [hx] at this
             cases this
         · obtain ⟨x, hx⟩ := hPS6.ps.has2 ha
           have := hP86.fr a hb
           rw [hx] at this
           cases this
       have hal9 : alongS ps xs ys = ((sx ++ (onP xs3 p).map fun k => (k, g)) ++ (alongS (ps.drop (i + 1)) (foldP xs3 p g) (foldP ys3 p g)).1, (bx ++ (onP ys3 p).map fun k => (k, p)) ++ (alongS (ps.drop (i + 1)) (foldP xs3 p g) (foldP ys3 p g)).2) := by
         rw [hal, alongS, if_neg hxy, List.append_assoc, List.append_assoc]
       clear hP5 hP53 hP8 hP86 hPS6 hPB6 hPS hPB hal hnd hre hdr a1 a2 a16 a26
       generalize upd H8 B (.lst (rsB.map V.ref ++ rs8.map V.ref)) = H9 at *
       refine ⟨_, rfl, hx3, rfl, ⟨_, SqL.of a19⟩, fun D3 nD3 => ?_⟩
       refine lc_vals (K := K) (xs := xs3) (inj := V.int) (fun a => V.int (if a = p then g else a)) (SqL.of a19) nD3 (by omega) (fun _ => rfl) ?_ ?_
       · intro a ha H10 sm10 R hR
         refine ⟨_, rfl, _, rfl, Or.inl ⟨rfl, _, rfl, ?_⟩⟩
         refine ite2 (fun hc => ?_) (fun hc => ?_)
         · have hc : a = p := V.int.inj (of_decide_eq_true hc)
           have := hR H10 (Same.refl _)
           rw [if_pos hc] at this
           exact ⟨_, rfl, this⟩
         · have hc : ¬ a = p := fun e => hc (by rw [e]; simp)
           have := hR H10 (Same.refl _)
           rw [if_neg hc] at this
           exact ⟨_, rfl, this⟩
       intro H10 sm10 hD3
       have hD3 : H10 D3 = some (iL (foldP xs3 p g)) := by
         rw [hD3]
         unfold iL foldP
         rw [List.map_map]
         rfl
       have a210 := sm10 _ _ a29
       refine ⟨_, rfl, hy3, rfl, ⟨_, SqL.of a210⟩, fun D4 nD4 => ?_⟩
       refine lc_vals (K := K) (xs := ys3) (inj := V.int) (fun a => V.int (if a = p then g else a)) (SqL.of a210) nD4 (by omega) (fun _ => rfl) ?_ ?_
       · intro a ha H11 sm11 R hR
         refine ⟨_, rfl, _, rfl, Or.inl ⟨rfl, _, rfl, ?_⟩⟩
         refine ite2 (fun hc => ?_) (fun hc => ?_)
         · have hc : a = p := V.int.inj (of_decide_eq_true hc)
           have := hR H11 (Same.refl _)
           rw [if_pos hc] at this
           exact ⟨_, rfl, this⟩
         · have hc : ¬ a = p := fun e => hc (by rw [e]; simp)
           have := hR H11 (Same.refl _)
           rw [if_neg hc] at this
           exact ⟨_, rfl, this⟩
       intro H11 sm11 hD4
       have hD4 : H11 D4 = some (iL (foldP ys3 p g)) := by
         rw [hD4]
         unfold iL foldP
         rw [List.map_map]
         rfl
       have sm911 := sm10.trans sm11
       refine ⟨D3, D4, foldP xs3 p g, foldP ys3 p g, _, _, rsS ++ rs5, rsB ++ rs8, _, _, rfl, sm9.trans sm911, sm11 _ _ hD3, hD4, by rw [foldP_len, a3], by rw [foldP_len, a4], ?_, ?_, ?_, ?_, hPS9.same sm911, hPB9.same sm911, hnd9, ?_, ?_, hal9⟩
       · exact (ne_of_none hPS9.ps.hD nD3).symm
       · exact (ne_of_none hPB9.ps.hD nD3).symm
       · exact (ne_of_none (sm10 _ _ hPS9.ps.hD) nD4).symm
       · exact (ne_of_none (sm10 _ _ hPB9.ps.hD) nD4).symm
       · rw [List.length_append, List.length_map]
         unfold onP
         omega
       · rw [List.length_append, List.length_map]
         unfold onP
         omega
end
/-! piece PT -/
section
variable {P : Program} {w : World} {K : PySem.W.Frag} {mg : Str → Option Value} {base : Heap}
/-! ### steps_between -/
@[irreducible] def spBetween : Sp := fun vs H Q _ => ∃ (q q2 s t : Addr) (m n : Nat) (fs es : List Edge) (xs ys : List Int), vs = [.int m, .ref q, .int n, .ref q2, .ref s, .ref t] ∧ 1 ≤ m ∧ m ≤ 12 ∧ Pairs H q fs ∧ Simp m fs ∧ fs.length ≤ 200 ∧ 1 ≤ n ∧ n ≤ 12 ∧ Pairs H q2 es ∧ Simp n es ∧ es.length ≤ 200 ∧ H s = some (iL xs) ∧ Stds m n xs ∧ StandOk es fs xs ∧ H t = some (iL ys) ∧ Stds m n ys ∧ StandOk es fs ys ∧
  (∀ ps left H', EndOf n es ps left → ¬ left.length = 1 → Same H H' → Q .non H') ∧
  ∀ r rs ps left H', EndOf n es ps left → left.length = 1 → Same H H' → H r = none → PsF H H' r rs ((alongS ps xs ys).1 ++ (alongS ps xs ys).2.reverse) → Q (.ref r) H'
theorem call_between {q q2 s t : Addr} {m n : Nat} {fs es : List Edge} {xs ys : List Int} {H : Hp} {Q : VK} {E : XK} (a1 : 1 ≤ m) (a2 : m ≤ 12) (a3 : Pairs H q fs) (a4 : Simp m fs) (a5 : fs.length ≤ 200) (b1 : 1 ≤ n) (b2 : n ≤ 12) (b3 : Pairs H q2 es) (b4 : Simp n es) (b5 : es.length ≤ 200) (c1 : H s = some (iL xs)) (c2 : Stds m n xs) (c3 : StandOk es fs xs) (d1 : H t = some (iL ys)) (d2 : Stds m n ys) (d3 : StandOk es fs ys)
    (f1 : ∀ ps left H', EndOf n es ps left → ¬ left.length = 1 → Same H H' → Q .non H')
    (f2 : ∀ r rs ps left H', EndOf n es ps left → left.length = 1 → Same H H' → H r = none → PsF H H' r rs ((alongS ps xs ys).1 ++ (alongS ps xs ys).2.reverse) → Q (.ref r) H') : spBetween [.int m, .ref q, .int n, .ref q2, .ref s, .ref t] H Q E := by
  unfold spBetween
  exact ⟨q, q2, s, t, m, n, fs, es, xs, ys, rfl, a1, a2, a3, a4, a5, b1, b2, b3, b4, b5, c1, c2, c3, d1, d2, d3, f1, f2⟩
set_option maxHeartbeats 4000000 in
theorem ok_between {f : Addr} {fd : FuncData} (F : Fun K "steps_between" "steps_between" s_steps_between f fd) (mn : mg "len" = none) (ml : mg "list" = none) (C : Cal P w K mg base "_read_nets" 3 ["people", "ties", "places", "lines"] spNets) (C2 : Cal P w K mg base "_check_standing" 3 ["knows", "near", "standing"] spCheckS)
    (C3 : Cal P w K mg base "fold_around" 2 ["near", "held"] spAround) (C4 : Cal P w K mg base "members" 1 ["lot"] spMembers) (C5 : Cal P w K mg base "_steps_along" 2 ["pairs", "here", "there"] spAlong) :
    FnOk P w K mg base CX0 4 f fd ["people", "ties", "places", "lines", "standing", "goal"] spBetween := by
  refine F.ok sc_steps_between (fun vs H Q E h => ?_) (fun cdv A outer s H vs Q E hr h => ?_)
  · unfold spBetween at h
    obtain ⟨q, q2, s, t, m, n, fs, es, xs, ys, rfl, _⟩ := h
    rfl
  · have nd := sc_steps_between.nd
    have hS := sc_steps_between
    have hKM : KMark K := ⟨⟩
    refine' mk_body ?body ?rd
    case body =>
      show PSs _ [_, _, _, _, _, _] _
      wtm_at "fo ss"
    case rd =>
     unfold spBetween at h
     obtain ⟨q, q2, s, t, m, n, fs, es, xs, ys, rfl, a1, a2, a3, a4, a5, b1, b2, b3, b4, b5, c1, c2, c3, d1, d2, d3, f1, f2⟩ := h
     wtm_at "fo r"
     refine call_nets a1 a2 a3 a4 a5 b1 b2 b3 b4 b5 (fun p r1 r2 H1 sm1 np hp hr1 hr2 => ?_)
     refine Or.inl ⟨p, [.ref r1, .ref r2], rfl, SqT.of hp, rfl, .ref r1, [.ref r2], rfl, .ref r2, [], rfl, rfl, ?_⟩
     wtm_at "fo r"
     refine call_checks a2 b2 a4 b4 hr1 hr2 (sm1 _ _ c1) c2 c3 (fun H2 sm2 => ?_)
     wtm_at "fo r"
     have s2 := sm1.trans sm2
     refine call_checks a2 b2 a4 b4 (sm2 _ _ hr1) (sm2 _ _ hr2) (s2 _ _ d1) d2 d3 (fun H3 sm3 => ?_)
     have s3 := s2.trans sm3
     wtm_at "fo r"
     refine call_around b2 b4 (sm3 _ _ (sm2 _ _ hr2)) lot_nil (fun p2 q3 rs v ps left H4 hA sm4 np2 nq3 hp2 hT hv hR hke hst => ?_)
     refine Or.inl ⟨p2, [.int v, .ref q3], rfl, SqT.of hp2, rfl, .int v, [.ref q3], rfl, .ref q3, [], rfl, rfl, ?_⟩
     have hE : EndOf n es ps left := .of hA hR hst
     have s4 := s3.trans sm4
     have hl12 := hR.len12
     have hI : InNet n left := (inNet_all n).run hR
     wtm_at "fo r"
     have hv13 : v < 2 ^ 20 := Nat.lt_of_lt_of_le (lot_small hv fun x hx => (hI.rng x hx).2) (Nat.pow_le_pow_right (by decide) (by omega))
     refine call_members hv13 (fun m2 H5 sm5 nm2 hm2 => ?_)
     rw [members_lot hv hI.lt fun x hx => (hI.rng x hx).1] at hm2
     have s5 := s4.trans sm5
     have hpos : 0 < left.length := List.length_pos_iff.mpr (hR.pos (by
       intro e
       have := congrArg List.length e
       rw [all_len] at this
       simp at this
       omega))
     refine ⟨m2, _, rfl, Or.inl (SqL.of hm2), _, _, rfl, rfl, _, rfl, ?_⟩
     rw [List.length_map]
     by_cases h1 : left.length = 1
     · refine ifF (by rw [h1]; rfl) ?_
       show tNext _ [some (.int m), some (.ref q), some (.int n), some (.ref q2), some (.ref s), some (.ref t), some (.ref r1), some (.ref r2), some (.int v), some (.ref q3)] H5
       refine ⟨_, rfl, ?_⟩
       refine ⟨_, rfl, ?_⟩
       refine ⟨s, _, rfl, .inl (SqL.of (s5 _ _ c1)), fun l1 nl1 => ?_⟩
       have sml1 : Same H5 (upd H5 l1 (.lst (xs.map V.int))) := same_upd (Same.refl _) nl1
       have hl1 : (upd H5 l1 (.lst (xs.map V.int))) l1 = some (iL xs) := upd_same
       generalize upd H5 l1 (.lst (xs.map V.int)) = H6 at *
       have s6 := s5.trans sml1
       refine ⟨_, rfl, t, _, rfl, .inl (SqL.of (s6 _ _ d1)), fun l2 nl2 => ?_⟩
       have sml2 : Same H6 (upd H6 l2 (.lst (ys.map V.int))) := same_upd (Same.refl _) nl2
       have hl2 : (upd H6 l2 (.lst (ys.map V.int))) l2 = some (iL ys) := upd_same
       generalize upd H6 l2 (.lst (ys.map V.int)) = H7 at *
       have s7 := s6.trans sml2
       have hT7 := ((hT.same sm5).same sml1).same sml2
       refine call_along hT7 (by omega) (sml2 _ _ hl1) hl2 (by rw [c2.len]; exact a2) (by rw [d2.len]; exact a2) (fun r rs' H8 sm8 nr hP => ?_)
       exact f2 r rs' ps left H8 hE h1 (s7.trans sm8) (s7.free nr) ⟨hP.ps, hP.nd, fun x hx => s7.free (hP.fr x hx)⟩
     · refine ifT (decide_eq_true (by omega)) ?_
       exact f1 ps left H5 hE h1 s5
end
/-! piece PU -/
section
local macro_rules | `(tactic| wtm_at "fo v") => `(tactic| ((with_reducible show PE _ (.Name (Str.ofString "_WIDTH") _) _); exact pe_glob (v := .int 13) (by rfl) (by assumption) ⟨_, rfl⟩))
variable {P : Program} {w : World} {K : PySem.W.Frag} {mg : Str → Option Value} {base : Heap}
/-! ### _in_a_row -/
@[irreducible] def spRow : Sp := fun vs H Q _ => ∃ (r : Addr) (ls : List Nat), vs = [.ref r] ∧ H r = some (nLst ls) ∧ ls.length ≤ 5 ∧ (∀ a ∈ ls, a < 2 ^ 13) ∧ ∀ H', Same H H' → Q (.int (packM ls : Nat)) H'
theorem call_row {r : Addr} {ls : List Nat} {H : Hp} {Q : VK} {E : XK} (hr : H r = some (nLst ls)) (hl : ls.length ≤ 5) (hs : ∀ a ∈ ls, a < 2 ^ 13)
    (fin : ∀ H', Same H H' → Q (.int (packM ls : Nat)) H') : spRow [.ref r] H Q E := by
  unfold spRow
  exact ⟨r, ls, rfl, hr, hl, hs, fin⟩
theorem pack_drop (ls : List Nat) (i : Nat) (h : i < ls.length) : packM (ls.drop (ls.length - (i + 1))) = packM (ls.drop (ls.length - i)) * 2 ^ 13 ||| ls[ls.length - 1 - i] := by
  rw [show ls.length - (i + 1) = ls.length - 1 - i by omega, List.drop_eq_getElem_cons (by omega), show ls.length - 1 - i + 1 = ls.length - i by omega]
  rfl
set_option maxHeartbeats 4000000 in
theorem ok_row {f : Addr} {fd : FuncData} (F : Fun K "_in_a_row" "_in_a_row" s_in_a_row f fd) (mr : mg "reversed" = none) {tk : Tok} (mw : mg "_WIDTH" = some (.int 13 tk)) :
    FnOk P w K mg base CX0 1 f fd ["lots"] spRow := by
  refine F.ok sc_in_a_row (fun vs H Q E h => ?_) (fun cdv A outer s H vs Q E hr h => ?_)
  · unfold spRow at h
    obtain ⟨r, ls, rfl, _⟩ := h
    rfl
  · have nd := sc_in_a_row.nd
    have hS := sc_in_a_row
    have hKM : KMark K := ⟨⟩
    refine' mk_body ?body ?rd
    case body =>
      show PSs _ [_, _, _] _
      wtm_at "fo ss"
    case rd =>
     unfold spRow at h
     obtain ⟨r, ls, rfl, hr0, hl, hs, fin⟩ := h
     refine ⟨_, rfl, r, _, rfl, SqL.of hr0, ?_⟩
     refine for_rev (K := K) (xs := ls.map fun (a : Nat) => V.int a) (fun i σ H3 => ∃ (y : Option V), σ = [some (.ref r), some (.int (packM (ls.drop (ls.length - i)) : Nat)), y] ∧ Same H H3) ?_ ?_ ?_ ?_
     · refine ⟨none, ?_, Same.refl _⟩
       rw [Nat.sub_zero, List.drop_length]
       rfl
     · rintro i σ H3 _ ⟨y, rfl, sm⟩
       exact SqL.of (sm _ _ hr0)
     · rintro i x σ H3 hi hx ⟨y, rfl, sm⟩
       rw [List.length_map] at hi hx
       have hge : ls[ls.length - 1 - i]? = some (ls[ls.length - 1 - i]'(by omega)) := List.getElem?_eq_getElem _
       rw [List.getElem?_map, hge] at hx
       cases hx
       have hd := pack_drop ls i hi
       have hlt := packM_lt (ls.drop (ls.length - i)) fun a ha => hs a (List.mem_of_mem_drop ha)
       rw [List.length_drop] at hlt
       have h52 : packM (ls.drop (ls.length - i)) < 2 ^ 52 := Nat.lt_of_lt_of_le hlt (Nat.pow_le_pow_right (by decide) (by omega))
       generalize packM (ls.drop (ls.length - i)) = u at *
       refine ⟨_, rfl, _, _, rfl, rfl, ⟨by decide, by decide, by omega⟩, ?_⟩
       refine ⟨_, rfl, _, _, rfl, rfl, ?_⟩
       refine ⟨some (.int (ls[ls.length - 1 - i]'(by omega) : Nat)), ?_, sm⟩
       rw [hd]
       have e : Builtin.bitOr ((u : Int) * 2 ^ (13 : Int).toNat) ((ls[ls.length - 1 - i]'(by omega) : Nat) : Int) = ((u * 2 ^ 13 ||| (ls[ls.length - 1 - i]'(by omega)) : Nat) : Int) := by
         rw [← bOr]
         rfl
       rw [← e]
       rfl
     · rintro σ H3 ⟨y, rfl, sm⟩
       rw [List.length_map, Nat.sub_self, List.drop_zero]
       exact ⟨_, rfl, fin H3 sm⟩
/-! ### _rows_behind -/
@[irreducible] def spRows : Sp := fun vs H Q _ => ∃ (r1 r2 : Addr) (m n k : Nat) (fs es : List Edge), vs = [.ref r1, .ref r2, .int ((k + 1 : Nat) : Int)] ∧ m ≤ 5 ∧ n ≤ 12 ∧ k < m ∧ Simp m fs ∧ Simp n es ∧ H r1 = some (nLst (nearB m fs)) ∧ H r2 = some (nLst (nearB n es)) ∧
  ∀ r H', Same H H' → H r = none → H' r = some (nLst ((nearB n es).map (rowOf m n k fs))) → Q (.ref r) H'
theorem call_rows {r1 r2 : Addr} {m n k : Nat} {fs es : List Edge} {H : Hp} {Q : VK} {E : XK} (hm : m ≤ 5) (hn : n ≤ 12) (hk : k < m) (hSf : Simp m fs) (hS : Simp n es) (h1 : H r1 = some (nLst (nearB m fs))) (h2 : H r2 = some (nLst (nearB n es)))
    (fin : ∀ r H', Same H H' → H r = none → H' r = some (nLst ((nearB n es).map (rowOf m n k fs))) → Q (.ref r) H') : spRows [.ref r1, .ref r2, .int ((k + 1 : Nat) : Int)] H Q E := by
  unfold spRows
  exact ⟨r1, r2, m, n, k, fs, es, rfl, hm, hn, hk, hSf, hS, h1, h2, fin⟩
set_option maxHeartbeats 4000000 in
theorem ok_rows {f : Addr} {fd : FuncData} (F : Fun K "_rows_behind" "_rows_behind" s_rows_behind f fd) (mr : mg "range" = none) (mn : mg "len" = none) (C : Cal P w K mg base "whole_lot" 1 ["near"] spWhole) (C2 : Cal P w K mg base "_in_a_row" 1 ["lots"] spRow) :
    FnOk P w K mg base CX0 2 f fd ["knows", "near", "person"] spRows := by
  refine F.ok sc_rows_behind (fun vs H Q E h => ?_) (fun cdv A outer s H vs Q E hr h => ?_)
  · unfold spRows at h
    obtain ⟨r1, r2, m, n, k, fs, es, rfl, _⟩ := h
    rfl
  · have nd := sc_rows_behind.nd
    have hS := sc_rows_behind
    have hKM : KMark K := ⟨⟩
    refine' mk_body ?body ?rd
    case body =>
      show PSs _ [_, _] _
      wtm_at "fo ss"
    case rd =>
     unfold spRows at h
     obtain ⟨r1, r2, m, n, k, fs, es, rfl, hm, hn, hk, hSf, hS', h1, h2, fin⟩ := h
     have hrl : ((nearB n es).map fun (v : Nat) => V.int v).length = n + 1 := by rw [List.length_map, nearB_length]
     have hkl : ((nearB m fs).map fun (v : Nat) => V.int v).length = m + 1 := by rw [List.length_map, nearB_length]
     refine ⟨_, rfl, ?_⟩
     refine call_whole h2 hrl (by omega) ?_
     refine ⟨_, rfl, r2, rfl, ⟨_, SqL.of h2⟩, fun D nD => ?_⟩
     refine lc_vals (K := K) (xs := nearB n es) (inj := fun (v : Nat) => V.int v) (fun (lot : Nat) => V.int (rowOf m n k fs lot : Nat)) (SqL.of h2) nD (by rw [nearB_length]; omega) (fun _ => rfl) ?_ ?_
     · intro lot hlot H3 sm3 R hR
       obtain ⟨u, hu, hub, hul⟩ := near_lot hSf (p := k + 1) (by omega) (by omega)
       refine ⟨_, rfl, Or.inl ⟨_, _, rfl, rfl, _, rfl, r1, _, rfl, Or.inl (SqL.of (sm3 _ _ h1)), _, _, rfl, ⟨by omega, by omega, by rw [hkl]; omega, by rw [hkl]; omega⟩, fun D2 nD2 => ?_⟩⟩
       rw [hkl]
       have hN : (((m + 1 : Nat) : Int) - (((k + 1 : Nat) : Int) + 1)).toNat = m - (k + 1) := by omega
       have hsz : ∀ j, ((List.range j).map fun j => if ((nearB m fs).getD (k + 1) 0).testBit (k + 2 + j) = true then lot else 2 ^ (n + 1) - 2).length = j := fun j => by rw [List.length_map, List.length_range]
       have hu0 : (nearB m fs).getD (k + 1) 0 = u := by rw [List.getD_eq_getElem?_getD, hu]; rfl
       refine lc_range (lo := ((k + 1 : Nat) : Int) + 1) (n := (((m + 1 : Nat) : Int) - (((k + 1 : Nat) : Int) + 1)).toNat) (fun j H4 => Same H3 H4 ∧ H4 D2 = some (nLst ((List.range j).map fun j => if ((nearB m fs).getD (k + 1) 0).testBit (k + 2 + j) = true then lot else 2 ^ (n + 1) - 2))) ?_ ?_ ?_
       · exact ⟨same_upd (Same.refl _) nD2, upd_same⟩
       · rintro j H4 hj ⟨sm4, hD2⟩
         rw [hN] at hj
         have h14 := sm4 _ _ (sm3 _ _ h1)
         refine ⟨rfl, _, rfl, _, rfl, Or.inl ⟨r1, _, ((k + 1 : Nat) : Int), .int u, rfl, rfl, SqL.of h14, at_of (j := k + 1) rfl (get_nb hu), ?_⟩⟩
         refine ⟨_, rfl, _, _, rfl, rfl, by omega, _, _, rfl, rfl, _, rfl, ?_⟩
         have hlen := hsz j
         rw [show ((((k + 1 : Nat) : Int) + 1 + (j : Int))).toNat = k + 2 + j by omega, bit_test]
         have hsn : (List.range (j + 1)).map (fun j => if ((nearB m fs).getD (k + 1) 0).testBit (k + 2 + j) = true then lot else 2 ^ (n + 1) - 2) = (List.range j).map (fun j => if ((nearB m fs).getD (k + 1) 0).testBit (k + 2 + j) = true then lot else 2 ^ (n + 1) - 2) ++ [if u.testBit (k + 2 + j) = true then lot else 2 ^ (n + 1) - 2] := by
           rw [List.range_succ, List.map_append, List.map_singleton, hu0]
         rw [hsn]
         generalize (List.range j).map (fun j => if ((nearB m fs).getD (k + 1) 0).testBit (k + 2 + j) = true then lot else 2 ^ (n + 1) - 2) = ls at *
         refine ite2 (fun hc => ?_) (fun hc => ?_)
         · rw [if_pos hc]
           refine ⟨_, rfl, _, hD2, ?_, same_upd sm4 nD2, ?_⟩
           · rw [List.length_map]
             exact Nat.lt_of_le_of_lt (m := 60000) (by omega) (by decide)
           · rw [upd_same]
             unfold nLst
             rw [List.map_append]
             rfl
         · rw [if_neg hc]
           refine ⟨_, rfl, _, hD2, ?_, same_upd sm4 nD2, ?_⟩
           · rw [List.length_map]
             exact Nat.lt_of_le_of_lt (m := 60000) (by omega) (by decide)
           · rw [upd_same]
             unfold nLst
             rw [List.map_append]
             rfl
       · rintro H4 ⟨sm4, hD2⟩
         rw [hN] at hD2
         refine call_row hD2 (by rw [hsz]; omega) ?_ (fun H5 sm5 => hR H5 (sm4.trans sm5))
         intro a ha
         obtain ⟨j, _, rfl⟩ := List.mem_map.mp ha
         split
         · obtain ⟨p, hp⟩ := List.getElem?_of_mem hlot
           exact Nat.lt_of_lt_of_le (nearB_small hS' hp) (Nat.pow_le_pow_right (by decide) (by omega))
         · exact whole_lt hn
     · intro H3 sm3 hD3
       refine fin D H3 sm3 nD ?_
       rw [hD3]
       unfold nLst
       rw [List.map_map]
       rfl
end
/-! piece PV -/
section
local macro_rules | `(tactic| wtm_at "fo v") => `(tactic| ((with_reducible show PE _ (.Name (Str.ofString "_WIDTH") _) _); exact pe_glob (v := .int 13) (by rfl) (by assumption) ⟨_, rfl⟩))
local macro_rules | `(tactic| wtm_at "fo e") => `(tactic| ((with_reducible show PE _ (.Dict [] [] _) _); exact pe_dnewK))
local macro_rules | `(tactic| wtm_at "fo meth") => `(tactic| ((with_reducible show PE _ (.Call (.Attribute _ (Str.ofString "get") _) [_, _] [] _) _); refine' pe_dget2 (hu_of (by assumption)) ?ka ?kb ?kc ⟨by rfl, by rfl, by rfl, by rfl⟩; (case ka => wtm_at "fo e"); (case kb => wtm_at "fo e"); (case kc => wtm_at "fo e")))
local macro_rules | `(tactic| wtm_at "fo s") => `(tactic| ((with_reducible show PS _ (.Assign [.Subscript (.Name (Str.ofString "longer") _) _ _] _ _) _); refine' ps_dput (hu_of (by assumption)) ?ka ?kb ?kc (by rfl); (case ka => wtm_at "fo e"); (case kb => wtm_at "fo e"); (case kc => wtm_at "fo e")))
local macro_rules | `(tactic| wtm_at "fo s") => `(tactic| ((with_reducible show PS _ (.For _ (.Call (.Attribute _ (Str.ofString "items") _) [] [] _) _ _ _) _); refine' ps_lock (ps_for PassesOwn.never rfl (pi_items ?ki) ?kg ?kb); (case ki => wtm_at "fo e"); (case kg => wtm_at "fo g"); (case kb => wtm_at "fo ss")))
theorem for_items {d : Addr} {o : Obj} {kvs : List (Key × V)} {g : TG} {tb : TS} {D : Ends} {σ : Sl} {H : Hp} (Pv : Nat → Sl → Hp → Prop) (h0 : Pv 0 σ H) (hl : ∀ i σ H, i ≤ kvs.length → Pv i σ H → H d = some (.frz o (.dK kvs)))
    (hs : ∀ (i : Nat) k v T σ H, kvs[i]? = some (k, v) → Pv i σ H → H T = none → g (.ref T) σ (upd H T (.tup [kV k, v])) fun σ2 H2 => tb { D with nx := Pv (i + 1), ct := Pv (i + 1), bk := D.nx } σ2 H2)
    (hd : ∀ σ H, Pv kvs.length σ H → D.nx σ H) :
    ∃ W : Nat → Nat → Sl → Hp → Prop, (∃ m, W 0 m σ H) ∧ ∀ i m σ H, W i m σ H →
      ((Iti d o kvs).stop i H ∧ D.nx σ H) ∨ ((Iti d o kvs).go i H ∧ ∃ N : Sl → Hp → Prop, (∀ σ' H', N σ' H' → ∃ m', m' < m ∧ W (i + 1) m' σ' H') ∧
        ∀ x H', (Iti d o kvs).yld i H x H' → g x σ H' fun σ2 H2 => tb { D with nx := N, ct := N, bk := D.nx } σ2 H2) := by
  refine ⟨fun i m σ H => m = kvs.length - i ∧ i ≤ kvs.length ∧ Pv i σ H, ⟨kvs.length, by simp, Nat.zero_le _, h0⟩, ?_⟩
  rintro i m σ H ⟨rfl, hi, p⟩
  have q := hl i σ H hi p
  by_cases hlt : i < kvs.length
  · refine Or.inr ⟨⟨q, hlt⟩, Pv (i + 1), fun σ' H' p' => ⟨kvs.length - (i + 1), by omega, rfl, hlt, p'⟩, ?_⟩
    rintro x H' ⟨T, k, v, hx, rfl, nT, rfl⟩
    exact hs i k v T σ H hx p nT
  · obtain rfl : i = kvs.length := by omega
    exact Or.inl ⟨⟨q, Nat.le_refl _⟩, hd σ H p⟩
variable {P : Program} {w : World} {K : PySem.W.Frag} {mg : Str → Option Value} {base : Heap}
/-! ### _with_one_more -/
@[irreducible] def spMore : Sp := fun vs H Q _ => ∃ (d rr : Addr) (m n k r : Nat) (fs es : List Edge) (ps : List (Nat × Nat)), vs = [.ref d, .ref rr] ∧ m ≤ 5 ∧ n ≤ 12 ∧ k + 1 + r = m ∧ Simp m fs ∧ Simp n es ∧ H d = some (.dK (kvC ps)) ∧ (ps.map (·.1)).Nodup ∧ (∀ p ∈ ps, RowB n p.1) ∧ ps.length ≤ 100000 ∧ H rr = some (nLst ((nearB n es).map (rowOf m n k fs))) ∧
  ∀ d' ps' H', Same H H' → H d' = none → H' d' = some (.dK (kvC ps')) → (ps'.map (·.1)).Nodup → (∀ p ∈ ps', RowB n p.1) → ps'.length ≤ 12 * ps.length → totC (waysR (rowR m n fs es) n (k + 1) r) ps' = totC (waysR (rowR m n fs es) n k (r + 1)) ps → Q (.ref d') H'
theorem call_more {d rr : Addr} {m n k r : Nat} {fs es : List Edge} {ps : List (Nat × Nat)} {H : Hp} {Q : VK} {E : XK} (hm : m ≤ 5) (hn : n ≤ 12) (hk : k + 1 + r = m) (hSf : Simp m fs) (hS : Simp n es) (hd : H d = some (.dK (kvC ps))) (hnd : (ps.map (·.1)).Nodup) (hB : ∀ p ∈ ps, RowB n p.1) (hl : ps.length ≤ 100000) (hrr : H rr = some (nLst ((nearB n es).map (rowOf m n k fs))))
    (fin : ∀ d' ps' H', Same H H' → H d' = none → H' d' = some (.dK (kvC ps')) → (ps'.map (·.1)).Nodup → (∀ p ∈ ps', RowB n p.1) → ps'.length ≤ 12 * ps.length → totC (waysR (rowR m n fs es) n (k + 1) r) ps' = totC (waysR (rowR m n fs es) n k (r + 1)) ps → Q (.ref d') H') : spMore [.ref d, .ref rr] H Q E := by
  unfold spMore
  exact ⟨d, rr, m, n, k, r, fs, es, ps, rfl, hm, hn, hk, hSf, hS, hd, hnd, hB, hl, hrr, fin⟩
theorem SameBut.upd_lock {d : Addr} {u : HO} {H H' : Hp} (s : SameBut d H H') (h : H d = some u) : Same H (upd H' d u) := fun b o e => by
  by_cases hb : b = d
  · subst hb
    rw [h] at e
    cases e
    exact upd_same
  · rw [upd_ne hb]
    exact s b o hb e
set_option maxHeartbeats 8000000 in
theorem ok_more {f : Addr} {fd : FuncData} (F : Fun K "_with_one_more" "_with_one_more" s_with_one_more f fd) {tk : Tok} (mw : mg "_WIDTH" = some (.int 13 tk)) (C : Cal P w K mg base "members" 1 ["lot"] spMembers) :
    FnOk P w K mg base CX0 2 f fd ["counts", "rows"] spMore := by
  refine F.ok sc_with_one_more (fun vs H Q E h => ?_) (fun cdv A outer s H vs Q E hr h => ?_)
  · unfold spMore at h
    obtain ⟨d, rr, m, n, k, r, fs, es, ps, rfl, _⟩ := h
    rfl
  · have nd := sc_with_one_more.nd
    have hS := sc_with_one_more
    have hKM : KMark K := ⟨⟩
    refine' mk_body ?body ?rd
    case body =>
      show PSs _ [_, _, _, _] _
      wtm_at "fo ss"
    case rd =>
     unfold spMore at h
     obtain ⟨d, rr, m, n, k, r, fs, es, ps, rfl, hm, hn, hk, hSf, hSe, hd, hnd, hB, hl, hrr, fin⟩ := h
     intro L nL
     have smL : Same H (upd H L (.dK [])) := same_upd (Same.refl _) nL
     have hL0 : (upd H L (.dK [])) L = some (.dK (kvC [])) := upd_same
     have hdL : d ≠ L := ne_of_none hd nL
     have hd1 := smL _ _ hd
     have hrr1 := smL _ _ hrr
     generalize upd H L (.dK []) = H1 at *
     refine ⟨_, _, rfl, rfl, ⟨by decide, by decide, by decide⟩, _, _, rfl, rfl, ?_⟩
     have e1 : (1 : Int) * 2 ^ (13 : Int).toNat - 1 = ((2 ^ 13 - 1 : Nat) : Int) := by decide
     show tNext _ [some (.ref d), some (.ref rr), some (.ref L), some (.int ((1 : Int) * 2 ^ (13 : Int).toNat - 1)), none, none, none, none] H1
     rw [e1]
     refine ⟨d, _, hd1, trivial, fun od => ?_⟩
     have sbl : SameBut d H1 (upd H1 d (.frz od (.dK (kvC ps)))) := fun b o hb e => by rw [upd_ne hb]; exact e
     have hdf : (upd H1 d (.frz od (.dK (kvC ps)))) d = some (.frz od (.dK (kvC ps))) := upd_same
     generalize upd H1 d (.frz od (.dK (kvC ps))) = H2 at *
     have hLd : L ≠ d := hdL.symm
     refine ⟨_, rfl, d, od, kvC ps, rfl, hdf, ?_⟩
     refine for_items (d := d) (o := od) (kvs := kvC ps) (fun i σ H3 => ∃ (y4 y5 y6 y7 : Option V) (qs : List (Nat × Nat)), σ = [some (.ref d), some (.ref rr), some (.ref L), some (.int ((2 ^ 13 - 1 : Nat) : Int)), y4, y5, y6, y7] ∧ SameBut d H H3 ∧ H3 d = some (.frz od (.dK (kvC ps))) ∧ H3 L = some (.dK (kvC qs)) ∧ (qs.map (·.1)).Nodup ∧ (∀ p ∈ qs, RowB n p.1) ∧ qs.length ≤ 12 * i ∧
       totC (waysR (rowR m n fs es) n (k + 1) r) qs = totC (waysR (rowR m n fs es) n k (r + 1)) (ps.take i)) ?_ ?_ ?_ ?_
     · refine ⟨none, none, none, none, [], rfl, fun b o hb e => sbl b o hb (smL _ _ e), hdf, sbl _ _ hLd hL0, List.nodup_nil, (fun p h => nomatch h), Nat.le_refl _, rfl⟩
     · rintro i σ H3 _ ⟨y4, y5, y6, y7, qs, rfl, sb3, hd3, _⟩
       exact hd3
     · rintro i kk v T σ H3 hx ⟨y4, y5, y6, y7, qs, rfl, sb3, hd3, hL3, hnq, hBq, hlq, htq⟩ nT
       unfold kvC at hx
       rw [List.getElem?_map] at hx
       cases hpi : ps[i]? with
       | none => rw [hpi] at hx; cases hx
       | some pc =>
       rw [hpi] at hx
       obtain ⟨row, c⟩ := pc
       obtain ⟨rfl, rfl⟩ : kk = Sum.inl (row : Int) ∧ v = V.int (c : Nat) := by
         have := Option.some.inj hx
         exact ⟨(congrArg Prod.fst this).symm, (congrArg Prod.snd this).symm⟩
       have hil : i < ps.length := (List.getElem?_eq_some_iff.mp hpi).1
       have hBr := hB _ (List.mem_of_getElem? hpi)
       have htk : ps.take (i + 1) = ps.take i ++ [(row, c)] := by rw [List.take_add_one, hpi]; rfl
       have smT : Same H3 (upd H3 T (.tup [kV (Sum.inl (row : Int)), .int (c : Nat)])) := same_upd (Same.refl _) nT
       refine Or.inl ⟨T, [.int (row : Nat), .int (c : Nat)], rfl, SqT.of upd_same, rfl, .int (row : Nat), [.int (c : Nat)], rfl, .int (c : Nat), [], rfl, rfl, ?_⟩
       have sb4 : SameBut d H (upd H3 T (.tup [kV (Sum.inl (row : Int)), .int (c : Nat)])) := sb3.trans (Same.but d smT)
       have hd4 := smT _ _ hd3
       have hL4 := smT _ _ hL3
       generalize upd H3 T (.tup [kV (Sum.inl (row : Int)), .int (c : Nat)]) = H4 at *
       refine ⟨_, rfl, _, rfl, _, _, rfl, rfl, ?_⟩
       have hmm : ∀ Q E, spMembers [.int ((row &&& (2 ^ 13 - 1) : Nat) : Int)] H4 Q E → spMembers [.int (Builtin.bitAnd (row : Int) ((2 ^ 13 - 1 : Nat) : Int))] H4 Q E := fun _ _ hx => by rw [bAnd]; exact hx
       refine hmm _ _ ?_
       refine call_members (Nat.lt_of_lt_of_le (Nat.and_lt_two_pow _ (by decide : 2 ^ 13 - 1 < 2 ^ 13)) (Nat.pow_le_pow_right (by decide) (by decide))) (fun p6 H6 sm6 np6 hp6 => ?_)
       rw [row_members hn hBr] at hp6
       have sb6 : SameBut d H H6 := sb4.trans (Same.but d sm6)
       have hd6 := sm6 _ _ hd4
       have hL6 := sm6 _ _ hL4
       have hp6L : p6 ≠ L := (ne_of_none hL4 np6).symm
       have hp6d : p6 ≠ d := (ne_of_none hd4 np6).symm
       have hws := ways_succ (rowR m n fs es) n k r row
       have hzl : ((allM n).filter fun z => row.testBit z.toNat).length ≤ 12 := Nat.le_trans (List.length_filter_le ..) (by rw [all_len]; exact hn)
       have hzr : ∀ z ∈ (allM n).filter fun z => row.testBit z.toNat, 1 ≤ z ∧ z ≤ n := fun z hz => allM_mem.mp (List.mem_filter.mp hz).1
       generalize ((allM n).filter fun z => row.testBit z.toNat) = zs at *
       refine ⟨p6, rfl, ⟨_, SqL.of hp6⟩, ?_⟩
       refine for_list (K := K) (xs := zs.map V.int) (fun j σ H7 => ∃ (y6 y7 : Option V) (qs7 : List (Nat × Nat)), σ = [some (.ref d), some (.ref rr), some (.ref L), some (.int ((2 ^ 13 - 1 : Nat) : Int)), some (.int (row : Nat)), some (.int (c : Nat)), y6, y7] ∧ SameBut d H H7 ∧ H7 d = some (.frz od (.dK (kvC ps))) ∧ H7 p6 = some (iL zs) ∧ H7 L = some (.dK (kvC qs7)) ∧ (qs7.map (·.1)).Nodup ∧ (∀ p ∈ qs7, RowB n p.1) ∧ qs7.length ≤ 12 * i + j ∧
         totC (waysR (rowR m n fs es) n (k + 1) r) qs7 = totC (waysR (rowR m n fs es) n k (r + 1)) (ps.take i) + c * ((zs.take j).map fun z => waysR (rowR m n fs es) n (k + 1) r (row / 2 ^ 13 &&& rowR m n fs es k z)).sum) ?_ ?_ ?_ ?_
       · exact ⟨_, _, qs, rfl, sb6, hd6, hp6, hL6, hnq, hBq, hlq, by rw [htq]; rfl⟩
       · rintro j σ H7 _ ⟨y6, y7, qs7, rfl, sb7, hd7, hp7, _⟩
         exact SqL.of hp7
       · rintro j x σ H7 hx2 ⟨y6, y7, qs7, rfl, sb7, hd7, hp7, hL7, hnq7, hBq7, hlq7, htq7⟩
         obtain ⟨z, hz, rfl⟩ := int_at hx2
         have hzz := hzr z (List.mem_of_getElem? hz)
         have hjl : j < zs.length := (List.getElem?_eq_some_iff.mp hz).1
         have hztk : zs.take (j + 1) = zs.take j ++ [z] := by rw [List.take_add_one, hz]; rfl
         have hrr7 := sb7 _ _ (fun e => by rw [e, hd] at hrr; cases hrr) hrr
         have hrg : ((nearB n es).map (rowOf m n k fs))[z.toNat]? = some (rowR m n fs es k z) := by
           obtain ⟨u, hu, _⟩ := near_lot hSe (p := z.toNat) (by omega) (by omega)
           rw [List.getElem?_map, hu]
           unfold rowR
           rw [List.getD_eq_getElem?_getD, hu]
           rfl
         refine ⟨_, rfl, _, _, rfl, rfl, (by decide : (0 : Int) ≤ 13), _, rfl, _, rfl, Or.inl ⟨rr, _, z, .int (rowR m n fs es k z : Nat), rfl, rfl, SqL.of hrr7, at_of (j := z.toNat) (by omega) (by rw [List.getElem?_map, hrg]; rfl), ?_⟩⟩
         refine ⟨_, _, rfl, rfl, ?_⟩
         have e2 : Builtin.bitAnd ((row : Int) / 2 ^ (13 : Int).toNat) ((rowR m n fs es k z : Nat) : Int) = ((row / 2 ^ 13 &&& rowR m n fs es k z : Nat) : Int) := by
           rw [← bAnd]
           rfl
         show tNext _ [some (.ref d), some (.ref rr), some (.ref L), some (.int ((2 ^ 13 - 1 : Nat) : Int)), some (.int (row : Nat)), some (.int (c : Nat)), some (.int z), some (.int (Builtin.bitAnd ((row : Int) / 2 ^ (13 : Int).toNat) ((rowR m n fs es k z : Nat) : Int)))] H7
         rw [e2]
         have hBn := hBr.next (rowR m n fs es k z)
         generalize hrest : row / 2 ^ 13 &&& rowR m n fs es k z = rest at *
         obtain ⟨v, hv, hp⟩ := putK_add hnq7 rest c
         refine ⟨_, rfl, L, rfl, .inl ⟨_, .inl hL7⟩, _, rfl, _, DGet.k (k := Sum.inl (rest : Int)) hL7, ?_⟩
         rw [hv]
         refine ⟨_, rfl, Or.inl ⟨_, _, rfl, rfl, ?_⟩⟩
         refine ⟨_, rfl, _, rfl, L, _, rfl, DPut.k (k := Sum.inl (rest : Int)) hL7 ?_, ?_⟩
         · unfold kvC
           rw [List.length_map]
           exact Nat.lt_of_le_of_lt (m := 2000000) (by omega) (by decide)
         rw [hp]
         refine ⟨_, _, addC qs7 rest c, rfl, fun b o hb e => ?_, ?_, ?_, upd_same, addC_nodup hnq7 rest c, addC_rows hBq7 hBn, ?_, ?_⟩
         · rw [upd_ne (ne_of_none e (by assumption))]
           exact sb7 b o hb e
         · rw [upd_ne hdL]; exact hd7
         · rw [upd_ne hp6L]; exact hp7
         · have := addC_len qs7 rest c
           omega
         · rw [totC_add _ hnq7, htq7, hztk, List.map_append, List.sum_append, Nat.mul_add, hrest.symm]
           simp [Nat.add_assoc]
       · rintro σ H7 ⟨y6, y7, qs7, rfl, sb7, hd7, hp7, hL7, hnq7, hBq7, hlq7, htq7⟩
         rw [List.length_map] at hlq7 htq7
         rw [List.take_length, ← hws] at htq7
         refine ⟨_, _, _, _, qs7, rfl, sb7, hd7, hL7, hnq7, hBq7, by omega, ?_⟩
         rw [htq7, htk]
         unfold totC
         rw [List.map_append, List.sum_append]
         simp
     · rintro σ H3 ⟨y4, y5, y6, y7, qs, rfl, sb3, hd3, hL3, hnq, hBq, hlq, htq⟩
       have hkl : (kvC ps).length = ps.length := by unfold kvC; rw [List.length_map]
       rw [hkl] at hlq htq
       rw [List.take_length] at htq
       refine ⟨hd3, ?_⟩
       refine ⟨_, rfl, ?_⟩
       exact fin L qs _ (sb3.upd_lock hd) (by assumption) (by rw [upd_ne hLd]; exact hL3) hnq hBq hlq htq
end
/-! piece PW -/
section
local macro_rules | `(tactic| wtm_at "fo e") => `(tactic| ((with_reducible show PE _ (.Dict [some _] [_] _) _); refine' pe_disp (pps_cons ?ka ?kb pps_nil) (by rfl) (by rfl) (fun z => by cases z) (by decide); (case ka => wtm_at "fo e"); (case kb => wtm_at "fo e")))
local macro_rules | `(tactic| wtm_at "fo e") => `(tactic| ((with_reducible show PE _ (.Call (.Name (Str.ofString "sum") _) [.Call (.Attribute _ (Str.ofString "values") _) [] [] _] [] _) _); refine' pe_sumVals (by rfl) (by rfl) (by assumption) ?ka; (case ka => wtm_at "fo e")))
variable {P : Program} {w : World} {K : PySem.W.Frag} {mg : Str → Option Value} {base : Heap}
/-! ### count_standings -/
@[irreducible] def spCount : Sp := fun vs H Q _ => ∃ (q q2 : Addr) (m n : Nat) (fs es : List Edge), vs = [.int m, .ref q, .int n, .ref q2] ∧ 1 ≤ m ∧ m ≤ 5 ∧ Pairs H q fs ∧ Simp m fs ∧ fs.length ≤ 200 ∧ 1 ≤ n ∧ n ≤ 12 ∧ Pairs H q2 es ∧ Simp n es ∧ es.length ≤ 200 ∧
  ∀ H', Same H H' → Q (.int (countSt n m es fs : Nat)) H'
theorem call_count {q q2 : Addr} {m n : Nat} {fs es : List Edge} {H : Hp} {Q : VK} {E : XK} (a1 : 1 ≤ m) (a2 : m ≤ 5) (a3 : Pairs H q fs) (a4 : Simp m fs) (a5 : fs.length ≤ 200) (b1 : 1 ≤ n) (b2 : n ≤ 12) (b3 : Pairs H q2 es) (b4 : Simp n es) (b5 : es.length ≤ 200)
    (fin : ∀ H', Same H H' → Q (.int (countSt n m es fs : Nat)) H') : spCount [.int m, .ref q, .int n, .ref q2] H Q E := by
  unfold spCount
  exact ⟨q, q2, m, n, fs, es, rfl, a1, a2, a3, a4, a5, b1, b2, b3, b4, b5, fin⟩
theorem sum_cast : ∀ ps : List (Nat × Nat), (ps.map fun p => ((p.2 : Nat) : Int)).sum = (((ps.map (·.2)).sum : Nat) : Int)
  | [] => rfl
  | p :: ps => by rw [List.map_cons, List.sum_cons, sum_cast ps, List.map_cons, List.sum_cons]; omega
set_option maxHeartbeats 4000000 in
theorem ok_count {f : Addr} {fd : FuncData} (F : Fun K "count_standings" "count_standings" s_count_standings f fd) (mr : mg "range" = none) (ms : mg "sum" = none) (C : Cal P w K mg base "_read_nets" 3 ["people", "ties", "places", "lines"] spNets) (C2 : Cal P w K mg base "whole_lot" 1 ["near"] spWhole)
    (C3 : Cal P w K mg base "_in_a_row" 1 ["lots"] spRow) (C4 : Cal P w K mg base "_with_one_more" 2 ["counts", "rows"] spMore) (C5 : Cal P w K mg base "_rows_behind" 2 ["knows", "near", "person"] spRows) :
    FnOk P w K mg base CX0 4 f fd ["people", "ties", "places", "lines"] spCount := by
  refine F.ok sc_count_standings (fun vs H Q E h => ?_) (fun cdv A outer s H vs Q E hr h => ?_)
  · unfold spCount at h
    obtain ⟨q, q2, m, n, fs, es, rfl, _⟩ := h
    rfl
  · have nd := sc_count_standings.nd
    have hS := sc_count_standings
    have hKM : KMark K := ⟨⟩
    refine' mk_body ?body ?rd
    case body =>
      show PSs _ [_, _, _, _] _
      wtm_at "fo ss"
    case rd =>
     unfold spCount at h
     obtain ⟨q, q2, m, n, fs, es, rfl, a1, a2, a3, a4, a5, b1, b2, b3, b4, b5, fin⟩ := h
     wtm_at "fo r"
     refine call_nets a1 (by omega) a3 a4 a5 b1 b2 b3 b4 b5 (fun p r1 r2 H1 sm1 np hp hr1 hr2 => ?_)
     refine Or.inl ⟨p, [.ref r1, .ref r2], rfl, SqT.of hp, rfl, .ref r1, [.ref r2], rfl, .ref r2, [], rfl, rfl, ?_⟩
     intro d nd0
     have smd : Same H1 (upd H1 d (.dK [])) := same_upd (Same.refl _) nd0
     have hd1 : (upd H1 d (.dK [])) d = some (.dK []) := upd_same
     have hr11 := smd _ _ hr1
     have hr21 := smd _ _ hr2
     have s2 := sm1.trans smd
     generalize upd H1 d (.dK []) = H2 at *
     refine ⟨_, rfl, ?_⟩
     refine call_whole hr21 (by rw [List.length_map, nearB_length]) (by omega) ?_
     refine ⟨(Nat.le_of_ble_eq_true rfl : _ ≤ sizeLine), fun c nc => ?_⟩
     have smc : Same H2 (upd H2 c (.lst [.int ((2 ^ (n + 1) - 2 : Nat) : Int)])) := same_upd (Same.refl _) nc
     have hc1 : (upd H2 c (.lst [.int ((2 ^ (n + 1) - 2 : Nat) : Int)])) c = some (.lst [.int ((2 ^ (n + 1) - 2 : Nat) : Int)]) := upd_same
     generalize upd H2 c (.lst [.int ((2 ^ (n + 1) - 2 : Nat) : Int)]) = H3 at *
     refine ⟨_, rfl, Or.inr ⟨c, _, _, rfl, rfl, hc1, by omega, by omega, ?_, fun c2 nc2 => ?_⟩⟩
     · rw [Int.toNat_natCast]
       exact Nat.le_trans (m := 12) (by show 1 * m ≤ 12; omega) (by decide)
     rw [Int.toNat_natCast, rep_flat]
     have e0 : (List.replicate m ((2 ^ (n + 1) - 2 : Nat) : Int)).map V.int = (List.replicate m (2 ^ (n + 1) - 2 : Nat)).map fun (v : Nat) => V.int v := by
       rw [List.map_replicate, List.map_replicate]
     rw [e0]
     have smc2 : Same H3 (upd H3 c2 (.lst ((List.replicate m (2 ^ (n + 1) - 2 : Nat)).map fun (v : Nat) => V.int v))) := same_upd (Same.refl _) nc2
     have hc2 : (upd H3 c2 (.lst ((List.replicate m (2 ^ (n + 1) - 2 : Nat)).map fun (v : Nat) => V.int v))) c2 = some (nLst (List.replicate m (2 ^ (n + 1) - 2 : Nat))) := upd_same
     generalize upd H3 c2 (.lst ((List.replicate m (2 ^ (n + 1) - 2 : Nat)).map fun (v : Nat) => V.int v)) = H4 at *
     refine call_row hc2 (by rw [List.length_replicate]; exact a2) (fun a ha => by rw [(List.mem_replicate.mp ha).2]; exact whole_lt b2) (fun H5 sm5 => ?_)
     have s24 := (smc.trans smc2).trans sm5
     have s5 := s2.trans s24
     have hd5 := s24 _ _ hd1
     have h15 := s24 _ _ hr11
     have h25 := s24 _ _ hr21
     have hdn : H d = none := sm1.free nd0
     have hB0 := row0_B (m := m) b2
     have hwa := ways_all b4 a4 b2
     generalize packM (List.replicate m (2 ^ (n + 1) - 2)) = row0 at *
     refine ⟨hd5, [(Sum.inl (row0 : Int), .int 1)], rfl, (by decide : 1 ≤ 15), ?_⟩
     have hdd : (upd H5 d (.dK (mergeK [] [(Sum.inl (row0 : Int), .int 1)]))) d = some (.dK (kvC [(row0, 1)])) := upd_same
     have s6 : Same H (upd H5 d (.dK (mergeK [] [(Sum.inl (row0 : Int), .int 1)]))) := same_upd s5 hdn
     have h16 : (upd H5 d (.dK (mergeK [] [(Sum.inl (row0 : Int), .int 1)]))) r1 = some (nLst (nearB m fs)) := by
       rw [upd_ne (fun e => by rw [e, hd5] at h15; cases h15)]
       exact h15
     have h26 : (upd H5 d (.dK (mergeK [] [(Sum.inl (row0 : Int), .int 1)]))) r2 = some (nLst (nearB n es)) := by
       rw [upd_ne (fun e => by rw [e, hd5] at h25; cases h25)]
       exact h25
     generalize upd H5 d (.dK (mergeK [] [(Sum.inl (row0 : Int), .int 1)])) = H6 at *
     refine ⟨_, rfl, Or.inl ⟨_, _, rfl, rfl, _, _, rfl, ⟨by decide, by decide, by omega, by omega⟩, ?_⟩⟩
     have hN : ((m : Int) + 1 - 1).toNat = m := by omega
     refine for_range (lo := 1) (n := ((m : Int) + 1 - 1).toNat) (fun i σ H7 => ∃ (d7 : Addr) (y7 : Option V) (ps : List (Nat × Nat)), σ = [some (.int m), some (.ref q), some (.int n), some (.ref q2), some (.ref r1), some (.ref r2), some (.ref d7), y7] ∧ Same H6 H7 ∧ H7 d7 = some (.dK (kvC ps)) ∧ (ps.map (·.1)).Nodup ∧ (∀ p ∈ ps, RowB n p.1) ∧ ps.length ≤ 12 ^ i ∧
       totC (waysR (rowR m n fs es) n i (m - i)) ps = countSt n m es fs) ?_ ?_ ?_
     · refine ⟨d, none, [(row0, 1)], rfl, Same.refl _, hdd, by simp, fun p hp => ?_, Nat.le_refl _, ?_⟩
       · rw [List.mem_singleton.mp hp]; exact hB0
       · rw [← hwa]
         unfold totC
         simp
     · rintro i σ H7 hi ⟨d7, y7, ps, rfl, sm7, hd7, hnd, hB, hl, htot⟩
       rw [hN] at hi
       have hl5 : ps.length ≤ 100000 := Nat.le_trans hl (Nat.le_trans (Nat.pow_le_pow_right (by decide) (by omega : i ≤ 4)) (by decide))
       refine ⟨_, rfl, _, rfl, _, rfl, _, rfl, ?_⟩
       have hcall : ∀ Q E, spRows [.ref r1, .ref r2, .int ((i + 1 : Nat) : Int)] H7 Q E → spRows [.ref r1, .ref r2, .int (1 + (i : Int))] H7 Q E := fun _ _ hx => by rw [show 1 + (i : Int) = ((i + 1 : Nat) : Int) by omega]; exact hx
       refine hcall _ _ (call_rows a2 b2 hi a4 b4 (sm7 _ _ h16) (sm7 _ _ h26) (fun rr H8 sm8 nrr hrr => ?_))
       refine call_more (r := m - (i + 1)) a2 b2 (by omega) a4 b4 (sm8 _ _ hd7) hnd hB hl5 hrr (fun d9 ps9 H9 sm9 nd9 hd9 hnd9 hB9 hl9 htot9 => ?_)
       refine ⟨d9, _, ps9, rfl, (sm7.trans sm8).trans sm9, hd9, hnd9, hB9, ?_, ?_⟩
       · rw [Nat.pow_succ]
         omega
       · rw [htot9, show m - (i + 1) + 1 = m - i by omega]
         exact htot
     · rintro σ H7 ⟨d7, y7, ps, rfl, sm7, hd7, hnd, hB, hl, htot⟩
       rw [hN, Nat.sub_self] at htot
       refine ⟨_, rfl, d7, kvC ps, ps.map fun p => ((p.2 : Nat) : Int), rfl, hd7, ?_, ?_⟩
       · unfold kvC
         rw [List.map_map, List.map_map]
         rfl
       · have e1 : totC (waysR (rowR m n fs es) n m 0) ps = totC (fun _ => 1) ps := rfl
         rw [sum_cast, ← totC_one, ← e1, htot]
         exact fin H7 (s6.trans sm7)
end
/-! piece TN -/
section
variable {P : Program} {w : World} {K : PySem.W.Frag} {mg : Str → Option Value} {base : Heap}
set_option maxHeartbeats 4000000 in
theorem ok_near {f : Addr} {fd : FuncData} (F : Fun K "_law_near" "_law_near" s_law_near f fd) (mr : mg "range" = none) :
    FnOk P w K mg base CX0 1 f fd ["_law_size", "_law_sides"] spNear := by
  refine F.ok sc_law_near (fun vs H Q E h => ?_) (fun cdv A outer s H vs Q E hr h => ?_)
  · unfold spNear at h
    obtain ⟨n, q, es, rfl, _⟩ := h
    rfl
  · have nd := sc_law_near.nd
    have hS := sc_law_near
    have hKM : KMark K := ⟨⟩
    refine' mk_body ?body ?rd
    case body =>
      show PSs _ [_, _, _] _
      wtm_at "fo ss"
    case rd =>
     unfold spNear at h
     obtain ⟨n, q, es, rfl, hn, hq, hl, he, fin⟩ := h
     refine ⟨_, rfl, Or.inl ⟨_, _, rfl, rfl, (n : Int) + 1, rfl, by omega, by omega, fun D nD => ?_⟩⟩
     have hN : ((n : Int) + 1).toNat = n + 1 := by omega
     refine lc_range (lo := 0) (fun i H1 => i ≤ n + 1 ∧ Same H H1 ∧ ∃ rs, LsAt H H1 D rs ((List.range i).map fun (i : Nat) => [(i : Int)])) ?_ ?_ ?_
     · exact ⟨Nat.zero_le _, same_upd (Same.refl H) nD, [], LsAt.nil upd_same⟩
     · rintro i H1 hi ⟨hin, sm, rs, L⟩
       rw [hN] at hi
       refine ⟨rfl, ?_⟩
       wtm_at "fo r"
       rename_i r nr
       have nr0 : H r = none := sm.free nr
       have L2 := L.push (t := [(i : Int)]) nr nr0
       refine ⟨rs.map V.ref, ?_, ?_, by omega, same_upd (same_upd sm nr0) nD, rs ++ [r], ?_⟩
       · rw [upd_ne (ne_of_none L.hD nr)]
         exact L.hD
       · rw [List.length_map, L.len, List.length_map, List.length_range]
         exact Nat.lt_of_le_of_lt (m := 100) (by omega) (by decide)
       · rw [List.range_succ, List.map_append]
         rw [show (0 : Int) + (i : Int) = (i : Int) by omega]
         exact L2
     · rintro H2 ⟨hin, sm2, ps, L0⟩
       rw [hN] at L0
       have L0 : LsAt H H2 D ps (near0 n) := L0
       obtain ⟨qs, hq1, hq2, hq3⟩ := hq
       have hq' : H2 q = some (.lst (qs.map V.ref)) := sm2 _ _ hq1
       refine ⟨_, rfl, q, rfl, ⟨_, SqL.of hq'⟩, ?_⟩
       refine for_list (K := K) (xs := qs.map V.ref) (fun i σ H3 => ∃ y4 y5, σ = [some (.int n), some (.ref q), some (.ref D), none, y4, y5] ∧ Same H H3 ∧ LsAt H H3 D ps ((es.take i).foldl addE (near0 n)))
         ⟨none, none, rfl, sm2, L0⟩ ?_ ?_ ?_
       · rintro i σ H3 hi ⟨y4, y5, rfl, sm3, L3⟩
         exact SqL.of (sm3 _ _ hq1)
       · rintro i x σ H3 hx ⟨y4, y5, rfl, sm3, L3⟩
         obtain ⟨r, hr, rfl⟩ : ∃ r, qs[i]? = some r ∧ x = V.ref r := by
           rw [List.getElem?_map] at hx
           cases hq : qs[i]? with
           | none => rw [hq] at hx; cases hx
           | some r => rw [hq] at hx; exact ⟨r, rfl, (Option.some.inj hx).symm⟩
         have hi : i < es.length := by rw [← hq2]; exact (List.getElem?_eq_some_iff.mp hr).1
         have hes : es[i]? = some es[i] := List.getElem?_eq_getElem hi
         have htk : (es.take (i + 1)).foldl addE (near0 n) = addE ((es.take i).foldl addE (near0 n)) es[i] := by
           rw [List.take_add_one, hes, List.foldl_append]
           rfl
         have hb := foldl_addE_bound (es.take i) (near0 n) 1 (near0_bound n)
         have hlt : ((es.take i).foldl addE (near0 n)).length = n + 1 := by rw [foldl_addE_length, near0_length]
         have htl : (es.take i).length ≤ 200 := Nat.le_trans (List.length_take_le ..) (by omega)
         generalize (es.take i).foldl addE (near0 n) = ts at *
         obtain ⟨h1, h2, h3, h4⟩ := he es[i] (List.getElem_mem hi)
         have hre := sm3 _ _ (hq3 i r es[i] hr hes)
         generalize es[i] = e at *
         obtain ⟨ea, eb⟩ := e
         simp only at h1 h2 h3 h4 hre
         have hpl : ps.length = n + 1 := by rw [L3.len, hlt]
         have g1 : ea.toNat < ps.length := by omega
         have g2 : eb.toNat < ps.length := by omega
         have k1 : ps[ea.toNat]? = some ps[ea.toNat] := List.getElem?_eq_getElem g1
         have k2 : ps[eb.toNat]? = some ps[eb.toNat] := List.getElem?_eq_getElem g2
         have u1 : ts[ea.toNat]? = some ts[ea.toNat] := List.getElem?_eq_getElem (by omega)
         have hA := L3.at_ _ _ _ k1 u1
         have b1 := hb _ (List.getElem_mem (show ea.toNat < ts.length by omega))
         have L4 := L3.modify (v := eb) k1 u1
         have sm4 : Same H (upd H3 ps[ea.toNat] (.lst (ts[ea.toNat].map V.int ++ [V.int eb]))) := same_upd sm3 (L3.fr _ (List.mem_of_getElem? k1))
         refine Or.inr ⟨r, [.int ea, .int eb], rfl, SqL.of hre, rfl, .int ea, [.int eb], rfl, .int eb, [], rfl, rfl, ?_⟩
         wtm_at "fo r"
         refine Or.inl ⟨D, ps.map V.ref, ea, .ref ps[ea.toNat], rfl, rfl, SqL.of L3.hD, at_of (j := ea.toNat) (by omega) (by rw [List.getElem?_map, k1]; rfl), ?_⟩
         refine ⟨.inl ⟨rfl, _, SqL.of hA⟩, _, rfl, _, _, _, rfl, rfl, hA, ?_, ?_⟩
         · rw [List.length_map]
           exact Nat.lt_of_le_of_lt (m := 1000) (by omega) (by decide)
         wtm_at "fo r"
         have hlt2 : (ts.modify ea.toNat (· ++ [eb])).length = n + 1 := by rw [List.length_modify, hlt]
         have u2 : (ts.modify ea.toNat (· ++ [eb]))[eb.toNat]? = some (ts.modify ea.toNat (· ++ [eb]))[eb.toNat] := List.getElem?_eq_getElem (by omega)
         have hB := L4.at_ _ _ _ k2 u2
         have b2 : ((ts.modify ea.toNat (· ++ [eb]))[eb.toNat]).length ≤ 500 := by
           rcases mem_modify (List.mem_of_getElem? u2) with hu | ⟨v, hv, e⟩
           · exact Nat.le_trans (hb _ hu) (by omega)
           · have := hb _ hv
             rw [e]
             simp; omega
         have L5 := L4.modify (v := ea) k2 u2
         refine Or.inl ⟨D, ps.map V.ref, eb, .ref ps[eb.toNat], rfl, rfl, SqL.of L4.hD, at_of (j := eb.toNat) (by omega) (by rw [List.getElem?_map, k2]; rfl), ?_⟩
         refine ⟨.inl ⟨rfl, _, SqL.of hB⟩, _, rfl, _, _, _, rfl, rfl, hB, ?_, ?_⟩
         · rw [List.length_map]
           exact Nat.lt_of_le_of_lt (m := 1000) (by omega) (by decide)
         refine ⟨_, _, rfl, same_upd sm4 (L3.fr _ (List.mem_of_getElem? k2)), ?_⟩
         rw [htk]
         exact L5
       · rintro σ H3 ⟨y4, y5, rfl, sm3, L3⟩
         rw [List.length_map, hq2, List.take_length] at L3
         wtm_at "fo r"
         exact fin D H3 sm3 nD ⟨ps, L3.hD, L3.nd, L3.len, L3.at_⟩
end
/-! tactics TAC5 -/
local macro_rules | `(tactic| wtm_at "fo slice") => `(tactic| ((with_reducible show PE _ (.Subscript _ (.Slice none none (some _) _) _) _); refine' pe_stepK2 (by assumption) (by exact rfl) ?ka ?kb; (case ka => wtm_at "fo e"); (case kb => wtm_at "fo e")))
/-! piece TUd -/
section
local macro_rules | `(tactic| wtm_at "fo a") => `(tactic| first
  | exact pa_nil
  | (refine' pa_cons ?k1 ?k2; (case k1 => wtm_at "fo e"); (case k2 => wtm_at "fo a"))
  | fail "no")
local macro_rules | `(tactic| wtm_at "fo v") => `(tactic| first
  | exact pv 0
  | exact pv 1
  | exact pv 2
  | exact pv 3
  | exact pv 4
  | exact pv 5
  | exact pv 6
  | exact pv 7
  | exact pv 8
  | exact pv 9
  | exact pv 10
  | exact pv 11
  | exact pv 12
  | exact pv 13
  | exact pv 14
  | exact pv 15
  | fail "no")
local macro_rules | `(tactic| wtm_at "fo e") => `(tactic| first
  | with_reducible exact pe_int
  | with_reducible exact pe_bl
  | with_reducible exact pe_non
  | with_reducible exact pe_str
  | ((with_reducible show PE _ (.Name _ _) _); wtm_at "fo v")
  | ((with_reducible show PE _ (.BinOp _ .Add _ _) _); apply pe_op opAddB <;> wtm_at "fo e")
  | ((with_reducible show PE _ (.BinOp _ .Sub _ _) _); apply pe_op op_sub <;> wtm_at "fo e")
  | ((with_reducible show PE _ (.BinOp _ .Mult _ _) _); apply pe_op op_mul <;> wtm_at "fo e")
  | ((with_reducible show PE _ (.BinOp _ .Mod _ _) _); apply pe_op op_mod <;> wtm_at "fo e")
  | ((with_reducible show PE _ (.BinOp _ .FloorDiv _ _) _); apply pe_op op_fdiv <;> wtm_at "fo e")
  | ((with_reducible show PE _ (.BinOp _ .Pow _ _) _); apply pe_op op_powW <;> wtm_at "fo e")
  | ((with_reducible show PE _ (.BinOp _ .LShift _ _) _); apply pe_op op_shl <;> wtm_at "fo e")
  | ((with_reducible show PE _ (.BinOp _ .RShift _ _) _); apply pe_op op_shr <;> wtm_at "fo e")
  | ((with_reducible show PE _ (.BinOp _ .BitAnd _ _) _); apply pe_op op_and <;> wtm_at "fo e")
  | ((with_reducible show PE _ (.List _ _) _); apply pe_lst; wtm_at "fo a")
  | ((with_reducible show PE _ (.Tuple _ _ _) _); apply pe_tup; wtm_at "fo a")
  | ((with_reducible show PE _ (.ListComp _ [_] _ _) _); wtm_at "fo lc")
  | ((with_reducible show PE _ (.IfExp _ _ _ _) _); apply pe_ifExp; (· wtm_at "fo t"); (· wtm_at "fo e"); (· wtm_at "fo e"))
  | ((with_reducible show PE _ (.UnaryOp .USub _ _) _); apply pe_un un_neg; wtm_at "fo e")
  | ((with_reducible show PE _ (.Call (.Name _ _) [] (_ :: _) _) _); wtm_at "fo kcall")
  | ((with_reducible show PE _ (.Call (.Name _ _) _ _ _) _); wtm_at "fo call")
  | ((with_reducible show PE _ (.Call (.Attribute _ _ _) _ _ _) _); wtm_at "fo meth")
  | ((with_reducible show PE _ (.Compare _ _ _ _) _); wtm_at "fo cmp")
  | ((with_reducible show PE _ (.Subscript _ (.Slice _ _ _ _) _) _); wtm_at "fo slice")
  | ((with_reducible show PE _ (.Subscript _ _ _) _); refine' pe_ix (ix_seqK (by assumption) (by exact rfl)) ?ka ?kb (fun _ _ => rfl); (case ka => wtm_at "fo e"); (case kb => wtm_at "fo e"))
  | fail "no")
local macro_rules | `(tactic| wtm_at "fo own") => `(tactic| first
  | ((show _ = [0]); kernel_rfl!)
  | ((show _ = [1]); kernel_rfl!)
  | ((show _ = [2]); kernel_rfl!)
  | ((show _ = [3]); kernel_rfl!)
  | ((show _ = [4]); kernel_rfl!)
  | ((show _ = [5]); kernel_rfl!)
  | ((show _ = [6]); kernel_rfl!)
  | ((show _ = [7]); kernel_rfl!)
  | ((show _ = [8]); kernel_rfl!)
  | ((show _ = [9]); kernel_rfl!)
  | ((show _ = [10]); kernel_rfl!)
  | ((show _ = [11]); kernel_rfl!)
  | ((show _ = [12]); kernel_rfl!)
  | ((show _ = [13]); kernel_rfl!)
  | ((show _ = [14]); kernel_rfl!)
  | ((show _ = [15]); kernel_rfl!)
  | ((show _ = [0, 1]); kernel_rfl!)
  | ((show _ = [1, 2]); kernel_rfl!)
  | ((show _ = [2, 3]); kernel_rfl!)
  | ((show _ = [3, 4]); kernel_rfl!)
  | ((show _ = [4, 5]); kernel_rfl!)
  | ((show _ = [5, 6]); kernel_rfl!)
  | ((show _ = [6, 7]); kernel_rfl!)
  | ((show _ = [7, 8]); kernel_rfl!)
  | ((show _ = [8, 9]); kernel_rfl!)
  | ((show _ = [9, 10]); kernel_rfl!)
  | ((show _ = [10, 11]); kernel_rfl!)
  | ((show _ = [11, 12]); kernel_rfl!)
  | ((show _ = [12, 13]); kernel_rfl!)
  | ((show _ = [13, 14]); kernel_rfl!)
  | ((show _ = [14, 15]); kernel_rfl!)
  | fail "no")
local macro_rules | `(tactic| wtm_at "fo ts") => `(tactic| first
  | exact pts_nil
  | (apply pts_one; wtm_at "fo t")
  | fail "no")
local macro_rules | `(tactic| wtm_at "fo lc") => `(tactic| first
  | (refine' pe_lcO (by assumption) (by exact rfl) (by exact rfl) (by wtm_at "fo own") (by decide +kernel) rfl ?ki ?kg ?kt ?ke; (case ki => wtm_at "fo i"); (case kg => (intro _ _ _ _ _; wtm_at "fo g")); (case kt => (intro _ _ _ _ _; wtm_at "fo ts")); (case ke => (intro _ _ _ _ _; wtm_at "fo e")))
  | fail "no")
local macro_rules | `(tactic| wtm_at "fo part") => `(tactic| first
  | exact po_none
  | (apply po_some; wtm_at "fo e")
  | fail "no")
local macro_rules | `(tactic| wtm_at "fo slice") => `(tactic| first
  | ((with_reducible show PE _ (.Subscript _ (.Slice _ _ none _) _) _); refine' pe_slice (sl_listK (by assumption) (by exact rfl)) ?ka ?kb ?kc; (case ka => wtm_at "fo e"); (case kb => wtm_at "fo part"); (case kc => wtm_at "fo part"))
  | ((with_reducible show PE _ (.Subscript _ (.Slice none none (some _) _) _) _); refine' pe_stepK (by assumption) (by exact rfl) ?ka ?kb; (case ka => wtm_at "fo e"); (case kb => wtm_at "fo e"))
  | fail "no")
local macro_rules | `(tactic| wtm_at "fo cmp") => `(tactic| first
  | ((with_reducible show PE _ (.Compare _ [.Lt] _ _) _); refine' pe_cmpR op_lt ?ka ?kb (nomark _); (case ka => wtm_at "fo e"); (case kb => wtm_at "fo e"))
  | ((with_reducible show PE _ (.Compare _ [.LtE] _ _) _); refine' pe_cmpR op_le ?ka ?kb (nomark _); (case ka => wtm_at "fo e"); (case kb => wtm_at "fo e"))
  | ((with_reducible show PE _ (.Compare _ [.Gt] _ _) _); refine' pe_cmpR op_gt ?ka ?kb (nomark _); (case ka => wtm_at "fo e"); (case kb => wtm_at "fo e"))
  | ((with_reducible show PE _ (.Compare _ [.GtE] _ _) _); refine' pe_cmpR op_ge ?ka ?kb (nomark _); (case ka => wtm_at "fo e"); (case kb => wtm_at "fo e"))
  | ((with_reducible show PE _ (.Compare _ [.Eq] _ _) _); refine' pe_cmpR (op_eqK (by assumption) (by exact rfl) (Room.units (by assumption))) ?ka ?kb (nomark _); (case ka => wtm_at "fo e"); (case kb => wtm_at "fo e"))
  | ((with_reducible show PE _ (.Compare _ [.NotEq] _ _) _); refine' pe_cmpR (op_neK (by assumption) (by exact rfl) (Room.units (by assumption))) ?ka ?kb (nomark _); (case ka => wtm_at "fo e"); (case kb => wtm_at "fo e"))
  | fail "no")
local macro_rules | `(tactic| wtm_at "fo tcmp") => `(tactic| first
  | ((with_reducible show PT _ (.Compare _ [.Lt] _ _) _); refine' pt_cmpR op_lt ?ka ?kb (nomark _); (case ka => wtm_at "fo e"); (case kb => wtm_at "fo e"))
  | ((with_reducible show PT _ (.Compare _ [.LtE] _ _) _); refine' pt_cmpR op_le ?ka ?kb (nomark _); (case ka => wtm_at "fo e"); (case kb => wtm_at "fo e"))
  | ((with_reducible show PT _ (.Compare _ [.Gt] _ _) _); refine' pt_cmpR op_gt ?ka ?kb (nomark _); (case ka => wtm_at "fo e"); (case kb => wtm_at "fo e"))
  | ((with_reducible show PT _ (.Compare _ [.GtE] _ _) _); refine' pt_cmpR op_ge ?ka ?kb (nomark _); (case ka => wtm_at "fo e"); (case kb => wtm_at "fo e"))
  | ((with_reducible show PT _ (.Compare _ [.Eq] _ _) _); refine' pt_cmpR (op_eqK (by assumption) (by exact rfl) (Room.units (by assumption))) ?ka ?kb (nomark _); (case ka => wtm_at "fo e"); (case kb => wtm_at "fo e"))
  | ((with_reducible show PT _ (.Compare _ [.NotEq] _ _) _); refine' pt_cmpR (op_neK (by assumption) (by exact rfl) (Room.units (by assumption))) ?ka ?kb (nomark _); (case ka => wtm_at "fo e"); (case kb => wtm_at "fo e"))
  | ((with_reducible show PT _ (.Compare _ [.In] _ _) _); refine' pt_cmpR (op_inK (by assumption) (by exact rfl)) ?ka ?kb rfl; (case ka => wtm_at "fo e"); (case kb => wtm_at "fo e"))
  | ((with_reducible show PT _ (.Compare _ [.NotIn] _ _) _); refine' pt_cmpR (op_notInK (by assumption) (by exact rfl)) ?ka ?kb rfl; (case ka => wtm_at "fo e"); (case kb => wtm_at "fo e"))
  | fail "no")
local macro_rules | `(tactic| wtm_at "fo w") => `(tactic| first
  | ((with_reducible show PW _ (.BoolOp .And [_] _) _); apply pw_and1; wtm_at "fo t")
  | ((with_reducible show PW _ (.BoolOp .And _ _) _); apply pw_and; (· wtm_at "fo t"); (· wtm_at "fo w"))
  | ((with_reducible show PW _ (.BoolOp .Or [_] _) _); apply pw_or1; wtm_at "fo t")
  | ((with_reducible show PW _ (.BoolOp .Or _ _) _); apply pw_or; (· wtm_at "fo t"); (· wtm_at "fo w"))
  | fail "no")
local macro_rules | `(tactic| wtm_at "fo meth") => `(tactic| first
  | ((with_reducible show PE _ (.Call (.Attribute _ (Str.ofString "append") _) _ _ _) _); refine' pe_bm PySem.F.plainAttrs_list PySem.F.slot_list_append PySem.F.type_list_append mt_append ?ka ?kb; (case ka => wtm_at "fo e"); (case kb => wtm_at "fo a"))
  | ((with_reducible show PE _ (.Call (.Attribute _ (Str.ofString "pop") _) [_] _ _) _); refine' pe_bm PySem.F.plainAttrs_list PySem.F.slot_list_pop PySem.F.type_list_pop mt_popAt ?ka ?kb; (case ka => wtm_at "fo e"); (case kb => wtm_at "fo a"))
  | ((with_reducible show PE _ (.Call (.Attribute _ (Str.ofString "pop") _) [] _ _) _); refine' pe_bm0 PySem.F.plainAttrs_list PySem.F.slot_list_pop PySem.F.type_list_pop mt_pop ?ka; (case ka => wtm_at "fo e"))
  | fail "no")
local macro_rules | `(tactic| wtm_at "fo k") => `(tactic| first
  | exact pk_nil
  | (refine' pk_cons ?k1 ?k2; (case k1 => wtm_at "fo e"); (case k2 => wtm_at "fo k"))
  | fail "no")
local macro_rules | `(tactic| wtm_at "fo kcall") => `(tactic| first
  | (refine' pe_kcal (by assumption) (by assumption) (by decide) (by rfl) ?ka; (case ka => wtm_at "fo k"))
  | fail "no")
local macro_rules | `(tactic| wtm_at "fo call") => `(tactic| first
  | ((with_reducible show PE _ (.Call (.Name (Str.ofString "int") _) _ _ _) _); refine' pe_callTy call_intB (by rfl) (by assumption) (by decide +kernel) ?ka; (case ka => wtm_at "fo a"))
  | ((with_reducible show PE _ (.Call (.Name (Str.ofString "len") _) _ _ _) _); refine' pe_callB (call_lenK (by assumption) (by exact rfl)) (by rfl) (by assumption) PySem.boot_len ?ka; (case ka => wtm_at "fo a"))
  | ((with_reducible show PE _ (.Call (.Name (Str.ofString "list") _) [.Call (.Name (Str.ofString "range") _) [_, _] _ _] _ _) _); refine' pe_listRg rfl (by rfl) (by assumption) (prg_2 (by rfl) (by assumption) ?ka ?kb); (case ka => wtm_at "fo e"); (case kb => wtm_at "fo e"))
  | ((with_reducible show PE _ (.Call (.Name (Str.ofString "list") _) _ _ _) _); refine' pe_callTy (call_listK (by assumption) (by exact rfl)) (by rfl) (by assumption) (by decide +kernel) ?ka; (case ka => wtm_at "fo a"))
  | ((with_reducible show PE _ (.Call (.Name (Str.ofString "min") _) [_, _] _ _) _); refine' pe_callB (call_min2 rfl) (by rfl) (by assumption) (by decide +kernel) ?ka; (case ka => wtm_at "fo a"))
  | ((with_reducible show PE _ (.Call (.Name (Str.ofString "sorted") _) [_] _ _) _); refine' pe_callB (cr_sortedK (by assumption) (by exact rfl)) (by rfl) (by assumption) (by decide +kernel) ?ka; (case ka => wtm_at "fo a"))
  | ((with_reducible show PE _ (.Call (.Name (Str.ofString "repr") _) [_] _ _) _); refine' pe_callB (call_reprK (by assumption) (by exact rfl) (by assumption) (Room.units (by assumption))) (by rfl) (by assumption) (by decide +kernel) ?ka; (case ka => wtm_at "fo a"))
  | (refine' pe_cal (by assumption) (by assumption) (by decide) (by rfl) ?ka; (case ka => wtm_at "fo a"))
  | fail "no")
local macro_rules | `(tactic| wtm_at "fo setlc") => `(tactic| first
  | (refine' ps_setLcO (i := 0) (by assumption) (by exact rfl) (by exact rfl) (by wtm_at "fo own") (by decide +kernel) rfl rfl rfl (sw_true rfl rfl rfl (by decide +kernel)) ?ki ?kg ?kt ?ke; (case ki => wtm_at "fo i"); (case kg => (intro _ _ _ _ _; wtm_at "fo g")); (case kt => (intro _ _ _ _ _; wtm_at "fo ts")); (case ke => (intro _ _ _ _ _; wtm_at "fo e")))
  | (refine' ps_setLcO (i := 1) (by assumption) (by exact rfl) (by exact rfl) (by wtm_at "fo own") (by decide +kernel) rfl rfl rfl (sw_true rfl rfl rfl (by decide +kernel)) ?ki ?kg ?kt ?ke; (case ki => wtm_at "fo i"); (case kg => (intro _ _ _ _ _; wtm_at "fo g")); (case kt => (intro _ _ _ _ _; wtm_at "fo ts")); (case ke => (intro _ _ _ _ _; wtm_at "fo e")))
  | (refine' ps_setLcO (i := 2) (by assumption) (by exact rfl) (by exact rfl) (by wtm_at "fo own") (by decide +kernel) rfl rfl rfl (sw_true rfl rfl rfl (by decide +kernel)) ?ki ?kg ?kt ?ke; (case ki => wtm_at "fo i"); (case kg => (intro _ _ _ _ _; wtm_at "fo g")); (case kt => (intro _ _ _ _ _; wtm_at "fo ts")); (case ke => (intro _ _ _ _ _; wtm_at "fo e")))
  | (refine' ps_setLcO (i := 3) (by assumption) (by exact rfl) (by exact rfl) (by wtm_at "fo own") (by decide +kernel) rfl rfl rfl (sw_true rfl rfl rfl (by decide +kernel)) ?ki ?kg ?kt ?ke; (case ki => wtm_at "fo i"); (case kg => (intro _ _ _ _ _; wtm_at "fo g")); (case kt => (intro _ _ _ _ _; wtm_at "fo ts")); (case ke => (intro _ _ _ _ _; wtm_at "fo e")))
  | (refine' ps_setLcO (i := 4) (by assumption) (by exact rfl) (by exact rfl) (by wtm_at "fo own") (by decide +kernel) rfl rfl rfl (sw_true rfl rfl rfl (by decide +kernel)) ?ki ?kg ?kt ?ke; (case ki => wtm_at "fo i"); (case kg => (intro _ _ _ _ _; wtm_at "fo g")); (case kt => (intro _ _ _ _ _; wtm_at "fo ts")); (case ke => (intro _ _ _ _ _; wtm_at "fo e")))
  | (refine' ps_setLcO (i := 5) (by assumption) (by exact rfl) (by exact rfl) (by wtm_at "fo own") (by decide +kernel) rfl rfl rfl (sw_true rfl rfl rfl (by decide +kernel)) ?ki ?kg ?kt ?ke; (case ki => wtm_at "fo i"); (case kg => (intro _ _ _ _ _; wtm_at "fo g")); (case kt => (intro _ _ _ _ _; wtm_at "fo ts")); (case ke => (intro _ _ _ _ _; wtm_at "fo e")))
  | (refine' ps_setLcO (i := 6) (by assumption) (by exact rfl) (by exact rfl) (by wtm_at "fo own") (by decide +kernel) rfl rfl rfl (sw_true rfl rfl rfl (by decide +kernel)) ?ki ?kg ?kt ?ke; (case ki => wtm_at "fo i"); (case kg => (intro _ _ _ _ _; wtm_at "fo g")); (case kt => (intro _ _ _ _ _; wtm_at "fo ts")); (case ke => (intro _ _ _ _ _; wtm_at "fo e")))
  | (refine' ps_setLcO (i := 7) (by assumption) (by exact rfl) (by exact rfl) (by wtm_at "fo own") (by decide +kernel) rfl rfl rfl (sw_true rfl rfl rfl (by decide +kernel)) ?ki ?kg ?kt ?ke; (case ki => wtm_at "fo i"); (case kg => (intro _ _ _ _ _; wtm_at "fo g")); (case kt => (intro _ _ _ _ _; wtm_at "fo ts")); (case ke => (intro _ _ _ _ _; wtm_at "fo e")))
  | (refine' ps_setLcO (i := 8) (by assumption) (by exact rfl) (by exact rfl) (by wtm_at "fo own") (by decide +kernel) rfl rfl rfl (sw_true rfl rfl rfl (by decide +kernel)) ?ki ?kg ?kt ?ke; (case ki => wtm_at "fo i"); (case kg => (intro _ _ _ _ _; wtm_at "fo g")); (case kt => (intro _ _ _ _ _; wtm_at "fo ts")); (case ke => (intro _ _ _ _ _; wtm_at "fo e")))
  | (refine' ps_setLcO (i := 9) (by assumption) (by exact rfl) (by exact rfl) (by wtm_at "fo own") (by decide +kernel) rfl rfl rfl (sw_true rfl rfl rfl (by decide +kernel)) ?ki ?kg ?kt ?ke; (case ki => wtm_at "fo i"); (case kg => (intro _ _ _ _ _; wtm_at "fo g")); (case kt => (intro _ _ _ _ _; wtm_at "fo ts")); (case ke => (intro _ _ _ _ _; wtm_at "fo e")))
  | (refine' ps_setLcO (i := 10) (by assumption) (by exact rfl) (by exact rfl) (by wtm_at "fo own") (by decide +kernel) rfl rfl rfl (sw_true rfl rfl rfl (by decide +kernel)) ?ki ?kg ?kt ?ke; (case ki => wtm_at "fo i"); (case kg => (intro _ _ _ _ _; wtm_at "fo g")); (case kt => (intro _ _ _ _ _; wtm_at "fo ts")); (case ke => (intro _ _ _ _ _; wtm_at "fo e")))
  | (refine' ps_setLcO (i := 11) (by assumption) (by exact rfl) (by exact rfl) (by wtm_at "fo own") (by decide +kernel) rfl rfl rfl (sw_true rfl rfl rfl (by decide +kernel)) ?ki ?kg ?kt ?ke; (case ki => wtm_at "fo i"); (case kg => (intro _ _ _ _ _; wtm_at "fo g")); (case kt => (intro _ _ _ _ _; wtm_at "fo ts")); (case ke => (intro _ _ _ _ _; wtm_at "fo e")))
  | (refine' ps_setLcO (i := 12) (by assumption) (by exact rfl) (by exact rfl) (by wtm_at "fo own") (by decide +kernel) rfl rfl rfl (sw_true rfl rfl rfl (by decide +kernel)) ?ki ?kg ?kt ?ke; (case ki => wtm_at "fo i"); (case kg => (intro _ _ _ _ _; wtm_at "fo g")); (case kt => (intro _ _ _ _ _; wtm_at "fo ts")); (case ke => (intro _ _ _ _ _; wtm_at "fo e")))
  | (refine' ps_setLcO (i := 13) (by assumption) (by exact rfl) (by exact rfl) (by wtm_at "fo own") (by decide +kernel) rfl rfl rfl (sw_true rfl rfl rfl (by decide +kernel)) ?ki ?kg ?kt ?ke; (case ki => wtm_at "fo i"); (case kg => (intro _ _ _ _ _; wtm_at "fo g")); (case kt => (intro _ _ _ _ _; wtm_at "fo ts")); (case ke => (intro _ _ _ _ _; wtm_at "fo e")))
  | (refine' ps_setLcO (i := 14) (by assumption) (by exact rfl) (by exact rfl) (by wtm_at "fo own") (by decide +kernel) rfl rfl rfl (sw_true rfl rfl rfl (by decide +kernel)) ?ki ?kg ?kt ?ke; (case ki => wtm_at "fo i"); (case kg => (intro _ _ _ _ _; wtm_at "fo g")); (case kt => (intro _ _ _ _ _; wtm_at "fo ts")); (case ke => (intro _ _ _ _ _; wtm_at "fo e")))
  | (refine' ps_setLcO (i := 15) (by assumption) (by exact rfl) (by exact rfl) (by wtm_at "fo own") (by decide +kernel) rfl rfl rfl (sw_true rfl rfl rfl (by decide +kernel)) ?ki ?kg ?kt ?ke; (case ki => wtm_at "fo i"); (case kg => (intro _ _ _ _ _; wtm_at "fo g")); (case kt => (intro _ _ _ _ _; wtm_at "fo ts")); (case ke => (intro _ _ _ _ _; wtm_at "fo e")))
  | fail "no")
local macro_rules | `(tactic| wtm_at "fo set") => `(tactic| first
  | (refine' ps_set (i := 0) (by assumption) rfl (by first | exact Or.inl rfl | exact Or.inr rfl) ?ka; (case ka => wtm_at "fo e"))
  | (refine' ps_set (i := 1) (by assumption) rfl (by first | exact Or.inl rfl | exact Or.inr rfl) ?ka; (case ka => wtm_at "fo e"))
  | (refine' ps_set (i := 2) (by assumption) rfl (by first | exact Or.inl rfl | exact Or.inr rfl) ?ka; (case ka => wtm_at "fo e"))
  | (refine' ps_set (i := 3) (by assumption) rfl (by first | exact Or.inl rfl | exact Or.inr rfl) ?ka; (case ka => wtm_at "fo e"))
  | (refine' ps_set (i := 4) (by assumption) rfl (by first | exact Or.inl rfl | exact Or.inr rfl) ?ka; (case ka => wtm_at "fo e"))
  | (refine' ps_set (i := 5) (by assumption) rfl (by first | exact Or.inl rfl | exact Or.inr rfl) ?ka; (case ka => wtm_at "fo e"))
  | (refine' ps_set (i := 6) (by assumption) rfl (by first | exact Or.inl rfl | exact Or.inr rfl) ?ka; (case ka => wtm_at "fo e"))
  | (refine' ps_set (i := 7) (by assumption) rfl (by first | exact Or.inl rfl | exact Or.inr rfl) ?ka; (case ka => wtm_at "fo e"))
  | (refine' ps_set (i := 8) (by assumption) rfl (by first | exact Or.inl rfl | exact Or.inr rfl) ?ka; (case ka => wtm_at "fo e"))
  | (refine' ps_set (i := 9) (by assumption) rfl (by first | exact Or.inl rfl | exact Or.inr rfl) ?ka; (case ka => wtm_at "fo e"))
  | (refine' ps_set (i := 10) (by assumption) rfl (by first | exact Or.inl rfl | exact Or.inr rfl) ?ka; (case ka => wtm_at "fo e"))
  | (refine' ps_set (i := 11) (by assumption) rfl (by first | exact Or.inl rfl | exact Or.inr rfl) ?ka; (case ka => wtm_at "fo e"))
  | (refine' ps_set (i := 12) (by assumption) rfl (by first | exact Or.inl rfl | exact Or.inr rfl) ?ka; (case ka => wtm_at "fo e"))
  | (refine' ps_set (i := 13) (by assumption) rfl (by first | exact Or.inl rfl | exact Or.inr rfl) ?ka; (case ka => wtm_at "fo e"))
  | fail "no")
local macro_rules | `(tactic| wtm_at "fo t") => `(tactic| first
  | ((with_reducible show PT _ (.BoolOp _ _ _) _); apply PW.pt; wtm_at "fo w")
  | ((with_reducible show PT _ (.UnaryOp .Not _ _) _); apply pt_not; wtm_at "fo t")
  | ((with_reducible show PT _ (.Compare _ _ _ _) _); wtm_at "fo tcmp")
  | (refine' pt_truthK (by assumption) (by exact rfl) ?ka (by intro _; rfl); (case ka => wtm_at "fo e"))
  | fail "no")
local macro_rules | `(tactic| wtm_at "fo gn") => `(tactic| first
  | exact pg_name (i := 0) (by assumption) rfl (by first | exact Or.inl rfl | exact Or.inr rfl)
  | exact pg_name (i := 1) (by assumption) rfl (by first | exact Or.inl rfl | exact Or.inr rfl)
  | exact pg_name (i := 2) (by assumption) rfl (by first | exact Or.inl rfl | exact Or.inr rfl)
  | exact pg_name (i := 3) (by assumption) rfl (by first | exact Or.inl rfl | exact Or.inr rfl)
  | exact pg_name (i := 4) (by assumption) rfl (by first | exact Or.inl rfl | exact Or.inr rfl)
  | exact pg_name (i := 5) (by assumption) rfl (by first | exact Or.inl rfl | exact Or.inr rfl)
  | exact pg_name (i := 6) (by assumption) rfl (by first | exact Or.inl rfl | exact Or.inr rfl)
  | exact pg_name (i := 7) (by assumption) rfl (by first | exact Or.inl rfl | exact Or.inr rfl)
  | exact pg_name (i := 8) (by assumption) rfl (by first | exact Or.inl rfl | exact Or.inr rfl)
  | exact pg_name (i := 9) (by assumption) rfl (by first | exact Or.inl rfl | exact Or.inr rfl)
  | exact pg_name (i := 10) (by assumption) rfl (by first | exact Or.inl rfl | exact Or.inr rfl)
  | exact pg_name (i := 11) (by assumption) rfl (by first | exact Or.inl rfl | exact Or.inr rfl)
  | exact pg_name (i := 12) (by assumption) rfl (by first | exact Or.inl rfl | exact Or.inr rfl)
  | exact pg_name (i := 13) (by assumption) rfl (by first | exact Or.inl rfl | exact Or.inr rfl)
  | exact pg_name (i := 14) (by assumption) rfl (by first | exact Or.inl rfl | exact Or.inr rfl)
  | exact pg_name (i := 15) (by assumption) rfl (by first | exact Or.inl rfl | exact Or.inr rfl)
  | fail "no")
local macro_rules | `(tactic| wtm_at "fo par") => `(tactic| first
  | (refine' ps_par (i := 0) (j := 1) rfl (by assumption) rfl rfl (by decide) rfl rfl ?ka (by rfl); (case ka => wtm_at "fo a"))
  | (refine' ps_par (i := 1) (j := 2) rfl (by assumption) rfl rfl (by decide) rfl rfl ?ka (by rfl); (case ka => wtm_at "fo a"))
  | (refine' ps_par (i := 2) (j := 3) rfl (by assumption) rfl rfl (by decide) rfl rfl ?ka (by rfl); (case ka => wtm_at "fo a"))
  | (refine' ps_par (i := 3) (j := 4) rfl (by assumption) rfl rfl (by decide) rfl rfl ?ka (by rfl); (case ka => wtm_at "fo a"))
  | (refine' ps_par (i := 4) (j := 5) rfl (by assumption) rfl rfl (by decide) rfl rfl ?ka (by rfl); (case ka => wtm_at "fo a"))
  | (refine' ps_par (i := 5) (j := 6) rfl (by assumption) rfl rfl (by decide) rfl rfl ?ka (by rfl); (case ka => wtm_at "fo a"))
  | (refine' ps_par (i := 6) (j := 7) rfl (by assumption) rfl rfl (by decide) rfl rfl ?ka (by rfl); (case ka => wtm_at "fo a"))
  | (refine' ps_par (i := 7) (j := 8) rfl (by assumption) rfl rfl (by decide) rfl rfl ?ka (by rfl); (case ka => wtm_at "fo a"))
  | (refine' ps_par (i := 8) (j := 9) rfl (by assumption) rfl rfl (by decide) rfl rfl ?ka (by rfl); (case ka => wtm_at "fo a"))
  | (refine' ps_par (i := 9) (j := 10) rfl (by assumption) rfl rfl (by decide) rfl rfl ?ka (by rfl); (case ka => wtm_at "fo a"))
  | (refine' ps_par (i := 10) (j := 11) rfl (by assumption) rfl rfl (by decide) rfl rfl ?ka (by rfl); (case ka => wtm_at "fo a"))
  | (refine' ps_par (i := 11) (j := 12) rfl (by assumption) rfl rfl (by decide) rfl rfl ?ka (by rfl); (case ka => wtm_at "fo a"))
  | (refine' ps_par (i := 12) (j := 13) rfl (by assumption) rfl rfl (by decide) rfl rfl ?ka (by rfl); (case ka => wtm_at "fo a"))
  | (refine' ps_par (i := 13) (j := 14) rfl (by assumption) rfl rfl (by decide) rfl rfl ?ka (by rfl); (case ka => wtm_at "fo a"))
  | (refine' ps_par (i := 14) (j := 15) rfl (by assumption) rfl rfl (by decide) rfl rfl ?ka (by rfl); (case ka => wtm_at "fo a"))
  | fail "no")
local macro_rules | `(tactic| wtm_at "fo g") => `(tactic| first
  | ((with_reducible show PG _ (.Name _ _) _); wtm_at "fo gn")
  | ((with_reducible show PG _ (.Tuple _ _ _) _); apply PG_or; (· refine' pg_tup2 (by assumption) (by exact rfl) rfl ?kg; (case kg => wtm_at "fo gs")); (· refine' pg_unl2 (by assumption) (by exact rfl) rfl ?kg; (case kg => wtm_at "fo gs")))
  | fail "no")
local macro_rules | `(tactic| wtm_at "fo gs") => `(tactic| first
  | exact pgs_nil
  | (refine' pgs_cons ?k1 ?k2; (case k1 => wtm_at "fo g"); (case k2 => wtm_at "fo gs"))
  | fail "no")
local macro_rules | `(tactic| wtm_at "fo i") => `(tactic| first
  | ((with_reducible show PI _ _ (.Call (.Name (Str.ofString "range") _) [_] _ _) _); refine' pi_range1 (by rfl) (by assumption) ?ka; (case ka => wtm_at "fo a"))
  | ((with_reducible show PI _ _ (.Call (.Name (Str.ofString "range") _) [_, _] _ _) _); refine' pi_range2 (by rfl) (by assumption) ?ka; (case ka => wtm_at "fo a"))
  | ((with_reducible show PI _ _ (.Call (.Name (Str.ofString "enumerate") _) [_] _ _) _); refine' pi_enum (by rfl) (by assumption) ?ka; (case ka => wtm_at "fo a"))
  | (refine' pi_listK (by assumption) (by exact rfl) ?ka; (case ka => wtm_at "fo e"))
  | fail "no")
local macro_rules | `(tactic| wtm_at "fo s") => `(tactic| first
  | ((with_reducible show PS _ (.While _ _ _ _) _); refine' ps_while PassesOwn.never ?kt ?kb; (case kt => wtm_at "fo t"); (case kb => wtm_at "fo ss"))
  | ((with_reducible show PS _ (.For _ _ _ _ _) _); refine' ps_for PassesOwn.never rfl ?ki ?kg ?kb; (case ki => wtm_at "fo i"); (case kg => wtm_at "fo g"); (case kb => wtm_at "fo ss"))
  | ((with_reducible show PS _ (.Assign [.Name _ _] (.ListComp _ [_] _ _) _) _); wtm_at "fo setlc")
  | ((with_reducible show PS _ (.Assign [.Name _ _] _ _) _); wtm_at "fo set")
  | ((with_reducible show PS _ (.Assign [.Tuple [.Name _ _, .Name _ _] _ _] (.Tuple [_, _] _ _) _) _); wtm_at "fo par")
  | ((with_reducible show PS _ (.Assign [.Subscript _ _ _] _ _) _); refine' ps_asg ?ka (pg_sub ?kb ?kc set_list); (case ka => wtm_at "fo e"); (case kb => wtm_at "fo e"); (case kc => wtm_at "fo e"))
  | ((with_reducible show PS _ (.Return (some _) _) _); apply ps_ret; wtm_at "fo e")
  | ((with_reducible show PS _ (.Expr _ _) _); refine' ps_expr ?ka; (case ka => wtm_at "fo e"))
  | ((with_reducible show PS _ (.If _ _ _ _) _); apply ps_if; (· wtm_at "fo t"); (· wtm_at "fo ss"); (· wtm_at "fo ss"))
  | fail "no")
local macro_rules | `(tactic| wtm_at "fo ss") => `(tactic| first
  | with_reducible exact pss_nil
  | ((with_reducible show PSs _ [_] _); apply pss_one; wtm_at "fo s")
  | (apply pss_cons; (· wtm_at "fo s"); (· wtm_at "fo ss"))
  | fail "no")
local macro_rules | `(tactic| wtm_at "fo hp") => `(tactic| first
  | assumption
  | exact upd_same
  | (refine (upd_ne ?ne).trans ?hp; (case ne => wtm_at "fo ne"); (case hp => wtm_at "fo hp"))
  | fail "no")
local macro_rules | `(tactic| wtm_at "fo ne") => `(tactic| first
  | assumption
  | (apply Ne.symm; assumption)
  | exact ne_of_none (by assumption) (by assumption)
  | exact Ne.symm (ne_of_none (by assumption) (by assumption))
  | fail "no")
local macro_rules | `(tactic| wtm_at "fo sz") => `(tactic| first
  | exact (Nat.le_of_ble_eq_true rfl : _ ≤ sizeLine)
  | exact (Nat.le_of_ble_eq_true rfl : _ < sizeLine)
  | exact Nat.lt_of_le_of_lt (m := 100000) (by first | assumption | omega | (simp; omega)) (by decide)
  | exact Nat.le_trans (m := 100000) (by first | assumption | omega | (simp; omega)) (by decide)
  | fail "no")
local macro_rules | `(tactic| wtm_at "fo r1") => `(tactic| first
  | refine ⟨(Nat.le_of_ble_eq_true rfl : _ ≤ sizeLine), fun p np => ?_⟩
  | (refine' ⟨_, _, rfl, Or.inl (SqL.of ?h), ?_⟩; (case h => wtm_at "fo hp"))
  | refine ⟨_, rfl, ?_⟩
  | refine ⟨_, _, rfl, rfl, ?_⟩
  | refine ⟨_, _, rfl, ⟨by omega, by omega, by omega, by omega⟩, ?_⟩
  | refine ⟨_, rfl, by omega, by omega, ?_⟩
  | refine Or.inl ⟨_, rfl, ?_⟩
  | refine Or.inl ⟨rfl, ?_⟩
  | refine Or.inl ⟨_, _, rfl, rfl, ?_⟩
  | (refine' Or.inl ⟨_, _, _, _, rfl, rfl, SqL.of ?h, ?a, ?_⟩; (case h => wtm_at "fo hp"); (case a => rfl))
  | (refine' ⟨_, _, _, _, rfl, rfl, ?h, ?a, ?_⟩; (case h => wtm_at "fo hp"); (case a => rfl))
  | (refine' ⟨.inl ⟨rfl, _, SqL.of ?h⟩, ?_⟩; (case h => wtm_at "fo hp"))
  | (refine' ⟨_, _, _, rfl, rfl, ?h, ?z, ?_⟩; (case h => wtm_at "fo hp"); (case z => wtm_at "fo sz"))
  | (refine' ⟨_, rfl, ⟨_, SqL.of ?h⟩, ?_⟩; (case h => wtm_at "fo hp"))
  | fail "no")
local macro_rules | `(tactic| wtm_at "fo side") => `(tactic| ((try dsimp only [CMul, CDiv]); first
  | assumption
  | decide
  | omega
  | exact ⟨by decide, by decide⟩
  | exact ⟨by omega, by omega⟩
  | decide +kernel
  | fail "no"))
local macro_rules | `(tactic| wtm_at "fo r2") => `(tactic| first
  | wtm_at "fo r1"
  | refine And.intro (by wtm_at "fo side") ?_
  | fail "no")
local macro_rules | `(tactic| wtm_at "fo r") => `(tactic| repeat wtm_at "fo r2")
local macro_rules | `(tactic| wtm_at "fo v") => `(tactic| first
  | ((with_reducible show PE _ (.Name (Str.ofString "int") _) _); exact pe_bltn (v := .ty "int") (by rfl) (by assumption) (by decide +kernel) rfl)
  | ((with_reducible show PE _ (.Name (Str.ofString "list") _) _); exact pe_bltn (v := .ty "list") (by rfl) (by assumption) (by decide +kernel) rfl)
  | ((with_reducible show PE _ (.Name (Str.ofString "MOST_PLACES") _) _); exact pe_glob (v := .int 12) (by rfl) (by assumption) ⟨_, rfl⟩)
  | fail "no")
local macro_rules | `(tactic| wtm_at "fo e") => `(tactic| first
  | ((with_reducible show PE _ (.BoolOp .And [_] _) _); apply pe_one; wtm_at "fo e")
  | ((with_reducible show PE _ (.BoolOp .And _ _) _); apply pe_and; (· wtm_at "fo e"); (· wtm_at "fo e"))
  | ((with_reducible show PE _ (.Compare _ [.IsNot] [.Constant (.bool true) _ _] _) _); refine' pe_cmpR op_notT ?ka ?kb (nomark _); (case ka => wtm_at "fo e"); (case kb => wtm_at "fo e"))
  | ((with_reducible show PE _ (.Compare _ [.LtE, .LtE] _ _) _); refine' pe_chain op_le op_le ?ka ?kb ?kc; (case ka => wtm_at "fo e"); (case kb => wtm_at "fo e"); (case kc => wtm_at "fo e"))
  | ((with_reducible show PE _ (.Call (.Name (Str.ofString "isinstance") _) _ _ _) _); refine' pe_callB (call_isiK' (by assumption) (by exact rfl)) (by rfl) (by assumption) (by decide +kernel) ?ka; (case ka => wtm_at "fo a"))
  | ((with_reducible show PE _ (.Call (.Attribute _ (Str.ofString "bit_length") _) [] [] _) _); refine' pe_bits ?ka; (case ka => wtm_at "fo e"))
  | fail "no")
local macro_rules | `(tactic| wtm_at "fo t") => `(tactic| first
  | ((with_reducible show PT _ (.Compare _ [.IsNot] [.Constant (.bool true) _ _] _) _); refine' pt_cmpR op_notT ?ka ?kb (nomark _); (case ka => wtm_at "fo e"); (case kb => wtm_at "fo e"))
  | ((with_reducible show PT _ (.Compare _ [.Lt, .Lt, .LtE] _ _) _); refine' pt_chain3 op_lt op_lt op_le ?ka ?kb ?kc ?kd; (case ka => wtm_at "fo e"); (case kb => wtm_at "fo e"); (case kc => wtm_at "fo e"); (case kd => wtm_at "fo e"))
  | fail "no")
local macro_rules | `(tactic| wtm_at "fo s") => `(tactic| first
  | ((with_reducible show PS _ (.Raise _ _ _) _); exact ps_never)
  | ((with_reducible show PS _ (.Continue _) _); exact ps_continue)
  | ((with_reducible show PS _ (.AugAssign (.Subscript _ _ _) .BitOr _ _) _); refine' ps_augS ?ka ?kb get_list ?kc ip_or set_list; (case ka => wtm_at "fo e"); (case kb => wtm_at "fo e"); (case kc => wtm_at "fo e"))
  | ((with_reducible show PS _ (.Assign [.Tuple _ _ _] (.Name _ _) _) _); refine' ps_asg ?ka ?kb; (case ka => wtm_at "fo e"); (case kb => wtm_at "fo g"))
  | fail "no")
local macro_rules | `(tactic| wtm_at "fo lc") => `(tactic| (refine' pe_lcN (by assumption) (by exact rfl) (by exact rfl) (by wtm_at "fo own") (by kernel_rfl!) rfl ?ki ?kg ?kt ?ke; (case ki => wtm_at "fo i"); (case kg => (intro _ _ _ _ _; wtm_at "fo g")); (case kt => (intro _ _ _ _ _; wtm_at "fo ts")); (case ke => (intro _ _ _ _ _; wtm_at "fo e"))))
local macro_rules | `(tactic| wtm_at "fo s") => `(tactic| ((with_reducible show PS _ (.Assign [.Tuple _ _ _] (.Call _ _ _ _) _) _); refine' ps_asg ?ka ?kb; (case ka => wtm_at "fo e"); (case kb => wtm_at "fo g")))
local macro_rules | `(tactic| wtm_at "fo cmp") => `(tactic| ((with_reducible show PE _ (.Compare _ [.In] _ _) _); refine' pe_cmpR (op_inK (by assumption) (by exact rfl)) ?ka ?kb rfl; (case ka => wtm_at "fo e"); (case kb => wtm_at "fo e")))
local macro_rules | `(tactic| wtm_at "fo call") => `(tactic| ((with_reducible show PE _ (.Call (.Name (Str.ofString "list") _) [.Call (.Name (Str.ofString "range") _) [_] _ _] _ _) _); refine' pe_listRg rfl (by rfl) (by assumption) (prg_1 (by rfl) (by assumption) ?ka); (case ka => wtm_at "fo e")))
local macro_rules | `(tactic| wtm_at "fo call") => `(tactic| ((with_reducible show PE _ (.Call (.Name (Str.ofString "min") _) [_] _ _) _); refine' pe_callB (call_minK (by assumption) (by exact rfl) rfl) (by rfl) (by assumption) (by decide +kernel) ?ka; (case ka => wtm_at "fo a")))
local macro_rules | `(tactic| wtm_at "fo i") => `(tactic| ((with_reducible show PI _ _ (.Call (.Name (Str.ofString "reversed") _) [_] _ _) _); refine' pi_reversed (by rfl) (by assumption) ?ka; (case ka => wtm_at "fo a")))
local macro_rules | `(tactic| wtm_at "fo s") => `(tactic| ((with_reducible show PS _ (.AugAssign (.Name _ _) .BitXor _ _) _); first | (refine' ps_aug (i := 2) (by assumption) rfl (by first | exact Or.inl rfl | exact Or.inr rfl) ?ka ip_xor; (case ka => wtm_at "fo e")) | fail "no"))
local macro_rules | `(tactic| wtm_at "fo call") => `(tactic| (refine' pe_calG (by assumption) (by assumption) (by decide) (by assumption) (by rfl) ?ka; (case ka => wtm_at "fo a")))
local macro_rules | `(tactic| wtm_at "fo meth") => `(tactic| ((with_reducible show PE _ (.Call (.Attribute _ (Str.ofString "count") _) _ _ _) _); refine' pe_cntK (by assumption) (by exact rfl) ?ka ?kb; (case ka => wtm_at "fo e"); (case kb => wtm_at "fo a")))
local macro_rules | `(tactic| wtm_at "fo call") => `(tactic| ((with_reducible show PE _ (.Call (.Name (Str.ofString "sorted") _) [_] _ _) _); refine' pe_callB (cr_sortedB (by assumption) (by exact rfl) (Room.units (by assumption))) (by rfl) (by assumption) (by decide +kernel) ?ka; (case ka => wtm_at "fo a")))
local macro_rules | `(tactic| wtm_at "fo v") => `(tactic| first
  | exact pv 16
  | exact pv 17
  | exact pv 18
  | exact pv 19
  | fail "no")
local macro_rules | `(tactic| wtm_at "fo own") => `(tactic| first
  | ((show _ = [16]); kernel_rfl!)
  | ((show _ = [17]); kernel_rfl!)
  | ((show _ = [18]); kernel_rfl!)
  | ((show _ = [19]); kernel_rfl!)
  | ((show _ = [15, 16]); kernel_rfl!)
  | ((show _ = [16, 17]); kernel_rfl!)
  | ((show _ = [17, 18]); kernel_rfl!)
  | ((show _ = [18, 19]); kernel_rfl!)
  | fail "no")
local macro_rules | `(tactic| wtm_at "fo set") => `(tactic| first
  | (refine' ps_set (i := 14) (by assumption) rfl (by first | exact Or.inl rfl | exact Or.inr rfl) ?ka; (case ka => wtm_at "fo e"))
  | (refine' ps_set (i := 15) (by assumption) rfl (by first | exact Or.inl rfl | exact Or.inr rfl) ?ka; (case ka => wtm_at "fo e"))
  | (refine' ps_set (i := 16) (by assumption) rfl (by first | exact Or.inl rfl | exact Or.inr rfl) ?ka; (case ka => wtm_at "fo e"))
  | (refine' ps_set (i := 17) (by assumption) rfl (by first | exact Or.inl rfl | exact Or.inr rfl) ?ka; (case ka => wtm_at "fo e"))
  | (refine' ps_set (i := 18) (by assumption) rfl (by first | exact Or.inl rfl | exact Or.inr rfl) ?ka; (case ka => wtm_at "fo e"))
  | (refine' ps_set (i := 19) (by assumption) rfl (by first | exact Or.inl rfl | exact Or.inr rfl) ?ka; (case ka => wtm_at "fo e"))
  | fail "no")
local macro_rules | `(tactic| wtm_at "fo setlc") => `(tactic| first
  | (refine' ps_setLcO (i := 16) (by assumption) (by exact rfl) (by exact rfl) (by wtm_at "fo own") (by decide +kernel) rfl rfl rfl (sw_true rfl rfl rfl (by decide +kernel)) ?ki ?kg ?kt ?ke; (case ki => wtm_at "fo i"); (case kg => (intro _ _ _ _ _; wtm_at "fo g")); (case kt => (intro _ _ _ _ _; wtm_at "fo ts")); (case ke => (intro _ _ _ _ _; wtm_at "fo e")))
  | (refine' ps_setLcO (i := 17) (by assumption) (by exact rfl) (by exact rfl) (by wtm_at "fo own") (by decide +kernel) rfl rfl rfl (sw_true rfl rfl rfl (by decide +kernel)) ?ki ?kg ?kt ?ke; (case ki => wtm_at "fo i"); (case kg => (intro _ _ _ _ _; wtm_at "fo g")); (case kt => (intro _ _ _ _ _; wtm_at "fo ts")); (case ke => (intro _ _ _ _ _; wtm_at "fo e")))
  | (refine' ps_setLcO (i := 18) (by assumption) (by exact rfl) (by exact rfl) (by wtm_at "fo own") (by decide +kernel) rfl rfl rfl (sw_true rfl rfl rfl (by decide +kernel)) ?ki ?kg ?kt ?ke; (case ki => wtm_at "fo i"); (case kg => (intro _ _ _ _ _; wtm_at "fo g")); (case kt => (intro _ _ _ _ _; wtm_at "fo ts")); (case ke => (intro _ _ _ _ _; wtm_at "fo e")))
  | (refine' ps_setLcO (i := 19) (by assumption) (by exact rfl) (by exact rfl) (by wtm_at "fo own") (by decide +kernel) rfl rfl rfl (sw_true rfl rfl rfl (by decide +kernel)) ?ki ?kg ?kt ?ke; (case ki => wtm_at "fo i"); (case kg => (intro _ _ _ _ _; wtm_at "fo g")); (case kt => (intro _ _ _ _ _; wtm_at "fo ts")); (case ke => (intro _ _ _ _ _; wtm_at "fo e")))
  | fail "no")
local macro_rules | `(tactic| wtm_at "fo gn") => `(tactic| first
  | exact pg_name (i := 16) (by assumption) rfl (by first | exact Or.inl rfl | exact Or.inr rfl)
  | exact pg_name (i := 17) (by assumption) rfl (by first | exact Or.inl rfl | exact Or.inr rfl)
  | exact pg_name (i := 18) (by assumption) rfl (by first | exact Or.inl rfl | exact Or.inr rfl)
  | exact pg_name (i := 19) (by assumption) rfl (by first | exact Or.inl rfl | exact Or.inr rfl)
  | fail "no")
local macro_rules | `(tactic| wtm_at "fo s") => `(tactic| ((with_reducible show PS _ (.Assign [.Tuple _ _ _] (.Tuple _ _ _) _) _); refine' ps_asg ?ka ?kb; (case ka => wtm_at "fo e"); (case kb => wtm_at "fo g")))
local macro_rules | `(tactic| wtm_at "fo e") => `(tactic| first
  | ((with_reducible show PE _ (.UnaryOp .Invert _ _) _); apply pe_un un_inv; wtm_at "fo e")
  | ((with_reducible show PE _ (.BoolOp .Or [_] _) _); apply pe_one; wtm_at "fo e")
  | ((with_reducible show PE _ (.BoolOp .Or _ _) _); apply pe_or; (· wtm_at "fo e"); (· wtm_at "fo e"))
  | ((with_reducible show PE _ (.BinOp _ .Mult _ _) _); apply pe_op opMulB <;> wtm_at "fo e")
  | ((with_reducible show PE _ (.BinOp _ .BitOr _ _) _); apply pe_op op_or <;> wtm_at "fo e")
  | ((with_reducible show PE _ (.Compare _ [.Is] [.Constant .none _ _] _) _); refine' pe_cmpR op_isN ?ka ?kb (nomark _); (case ka => wtm_at "fo e"); (case kb => wtm_at "fo e"))
  | fail "no")
local macro_rules | `(tactic| wtm_at "fo t") => `(tactic| first
  | ((with_reducible show PT _ (.Compare _ [.Is] [.Constant .none _ _] _) _); refine' pt_cmpR op_isN ?ka ?kb (nomark _); (case ka => wtm_at "fo e"); (case kb => wtm_at "fo e"))
  | ((with_reducible show PT _ (.Compare _ [.IsNot] [.Constant .none _ _] _) _); refine' pt_cmpR op_notN ?ka ?kb (nomark _); (case ka => wtm_at "fo e"); (case kb => wtm_at "fo e"))
  | fail "no")
local macro_rules | `(tactic| wtm_at "fo i") => `(tactic| first
  | ((with_reducible show PI _ _ (.Call (.Name (Str.ofString "enumerate") _) [_, _] [] _) _); refine' pi_enumC (by assumption) (by exact rfl) (by rfl) (by assumption) ?ka; (case ka => wtm_at "fo a"))
  | ((with_reducible show PI _ _ (.Call (.Name (Str.ofString "enumerate") _) [_] [_] _) _); refine' pi_enumS (by assumption) (by exact rfl) (by rfl) (by assumption) ?ka ?kb; (case ka => wtm_at "fo a"); (case kb => wtm_at "fo k"))
  | fail "no")
local macro_rules | `(tactic| wtm_at "fo own") => `(tactic| first
  | ((show _ = [2, 4]); kernel_rfl!)
  | ((show _ = [4, 2]); kernel_rfl!)
  | fail "no")
local macro_rules | `(tactic| wtm_at "fo v") => `(tactic| ((with_reducible show PE _ (.Name (Str.ofString "tuple") _) _); exact pe_bltn (v := .ty "tuple") (by rfl) (by assumption) (by decide +kernel) rfl))
local macro_rules | `(tactic| wtm_at "fo slice") => `(tactic| ((with_reducible show PE _ (.Subscript _ (.Slice none none (some _) _) _) _); refine' pe_stepK2 (by assumption) (by exact rfl) ?ka ?kb; (case ka => wtm_at "fo e"); (case kb => wtm_at "fo e")))
def g5 {α : Type} : List α → List α → List α := fun us ws => match us, ws with
  | [], [a, b, c, d, e] => [e, d, c, b, a]
  | _, _ => []
variable {P : Program} {w : World} {K : PySem.W.Frag} {mg : Str → Option Value} {base : Heap}
/-! ### looks_right -/
@[irreducible] def spLooks : Sp := fun vs H Q _ => ∃ (d q2 q s : Addr) (k : Int) (m n : Nat) (fs es : List Edge) (xs : List Int), vs = [.ref d, .int n, .ref q2, .int m, .ref q, .ref s] ∧ Dr H d k ∧ k ≤ 800000 ∧ 1 ≤ m ∧ m ≤ 12 ∧ Pairs H q fs ∧ Simp m fs ∧ fs.length ≤ 200 ∧ 1 ≤ n ∧ n ≤ 12 ∧ Pairs H q2 es ∧ Simp n es ∧ es.length ≤ 200 ∧ H s = some (iL xs) ∧ Stds m n xs ∧ StandOk es fs xs ∧
  ∀ H' k', SameBut d H H' → Dr H' d k' → k' ≤ k + 100 → Q (.bl true) H'
theorem call_looks {d q2 q s : Addr} {k : Int} {m n : Nat} {fs es : List Edge} {xs : List Int} {H : Hp} {Q : VK} {E : XK} (hd : Dr H d k) (hk : k ≤ 800000) (a1 : 1 ≤ m) (a2 : m ≤ 12) (a3 : Pairs H q fs) (a4 : Simp m fs) (a5 : fs.length ≤ 200) (b1 : 1 ≤ n) (b2 : n ≤ 12) (b3 : Pairs H q2 es) (b4 : Simp n es) (b5 : es.length ≤ 200) (c1 : H s = some (iL xs)) (c2 : Stds m n xs) (c3 : StandOk es fs xs)
    (fin : ∀ H' k', SameBut d H H' → Dr H' d k' → k' ≤ k + 100 → Q (.bl true) H') : spLooks [.ref d, .int n, .ref q2, .int m, .ref q, .ref s] H Q E := by
  unfold spLooks
  exact ⟨d, q2, q, s, k, m, n, fs, es, xs, rfl, hd, hk, a1, a2, a3, a4, a5, b1, b2, b3, b4, b5, c1, c2, c3, fin⟩
set_option maxHeartbeats 16000000 in
noncomputable def derLooks (f : Addr) (cdv : Value) (A : Around) (outer : List Env) (s0 : Shared) (H : Hp) (E : XK) (hr : Room 4 (A.deeper (envOfC "_law_looks_right" (defScope s_law_looks_right) s0.heap.objs.size f cdv))) (hgd : A.guards = some []) (mp : mg "repr" = none) (mr : mg "range" = none) (mi : mg "int" = none) (ml : mg "list" = none)
    (C0 : Cal P w K mg base "_law_near" 1 ["_law_size", "_law_sides"] spNear) (C1 : Cal P w K mg base "_law_may" 2 ["_law_near_here", "_law_knots", "_law_spots"] spLMay)
    (C2 : Cal P w K mg base "may_go" 4 ["people", "ties", "places", "lines", "standing"] spMayGo) (C3 : KCal P w K mg base "may_go" 4 ["people", "ties", "places", "lines", "standing"] ["standing", "lines", "places", "ties", "people"] g5 g5 spMayGo)
    (C4 : Cal P w K mg base "_law_next" 1 ["_law_draws_here"] spNext) (C5 : Cal P w K mg base "_law_fits" 1 ["_law_near_here", "_law_knots", "_law_spots"] spFits)
    (C6 : Cal P w K mg base "is_standing" 4 ["people", "ties", "places", "lines", "standing"] spIsStand) (C7 : KCal P w K mg base "is_standing" 4 ["people", "ties", "places", "lines", "standing"] ["standing", "lines", "places", "ties", "people"] g5 g5 spIsStand) :
    PSigma fun t => PSs (cxOf CX0 P w K mg base ["_law_draws_here", "_law_size", "_law_sides", "_law_crowd", "_law_knots", "_law_spots", "_law_near_here", "_law_before", "_law_due", "_law_told", "_law_step", "_law_bent", "_law_turn", "_law_good", "_law_both"] "_law_looks_right" (defScope s_law_looks_right) f cdv A outer s0 H E).nox (defBody s_law_looks_right) t := by
  have nd := sc_law_looks_right.nd
  have hS := sc_law_looks_right
  have hKM : KMark K := ⟨⟩
  refine' mkSig ?h
  case h =>
    show PSs _ [_, _, _, _, _, _, _, _, _, _, _, _, _, _, _, _, _, _] _
    wtm_at "fo ss"
end
/-! piece TU -/
section
variable {P : Program} {w : World} {K : PySem.W.Frag} {mg : Str → Option Value} {base : Heap}
@[irreducible] def befD (es fs : List Edge) (xs : List Int) : PyData := .list [dE es, dE fs, dI xs]
theorem dok_bef {m n : Nat} {es fs : List Edge} {xs : List Int} (hS : Simp n es) (hSf : Simp m fs) (hn : n ≤ 12) (hm : m ≤ 12) (l1 : es.length ≤ 200) (l2 : fs.length ≤ 200) (st : Stds m n xs) : DOk 3 20000 (befD es fs xs) := by
  unfold befD
  refine (dok_list (n := 2) (b := 4500) (xs := [dE es, dE fs, dI xs]) fun x hx => ?_).mono (Nat.le_refl _) (by simp)
  simp only [List.mem_cons, List.not_mem_nil, or_false] at hx
  rcases hx with rfl | rfl | rfl
  · exact (dok_dE (hS.small (by omega))).mono (Nat.le_refl _) (by omega)
  · exact (dok_dE (hSf.small (by omega))).mono (Nat.le_refl _) (by omega)
  · exact (dok_dI fun x hx => by have := st.rng x hx; omega).mono (by decide) (by rw [st.len]; omega)
theorem dp_bef {K : PySem.W.Frag} {H : Hp} {p a b c : Addr} {es fs : List Edge} {xs : List Int} (hp : H p = some (.lst [.ref a, .ref b, .ref c])) (ha : Pairs H a es) (hb : Pairs H b fs) (hc : H c = some (iL xs)) : Dp K H (.ref p) (befD es fs xs) := by
  unfold befD
  exact .lst (SqL.of hp) (.cons (dp_dE ha) (.cons (dp_dE hb) (.cons (dp_dI (SqL.of hc)) .nil)))
theorem may_small {n m : Nat} {es fs : List Edge} {xs : List Int} (hn : n ≤ 12) (hm : m ≤ 12) : ∀ e ∈ mayM n es fs xs m, e.1.natAbs < 1000 ∧ e.2.natAbs < 1000 := fun e he => by
  obtain ⟨h1, h2⟩ := mayM_mem.mp he
  have := besideM_rng (List.mem_filter.mp h2).1
  omega
theorem neFT (a : V) : (!decide (a = a)) = false := by simp
set_option maxHeartbeats 16000000 in
theorem ok_looks {f : Addr} {fd : FuncData} (F : Fun K "_law_looks_right" "_law_looks_right" s_law_looks_right f fd) (mp : mg "repr" = none) (mr : mg "range" = none) (mi : mg "int" = none) (ml : mg "list" = none)
    (C0 : Cal P w K mg base "_law_near" 1 ["_law_size", "_law_sides"] spNear) (C1 : Cal P w K mg base "_law_may" 2 ["_law_near_here", "_law_knots", "_law_spots"] spLMay)
    (C2 : Cal P w K mg base "may_go" 4 ["people", "ties", "places", "lines", "standing"] spMayGo) (C3 : KCal P w K mg base "may_go" 4 ["people", "ties", "places", "lines", "standing"] ["standing", "lines", "places", "ties", "people"] g5 g5 spMayGo)
    (C4 : Cal P w K mg base "_law_next" 1 ["_law_draws_here"] spNext) (C5 : Cal P w K mg base "_law_fits" 1 ["_law_near_here", "_law_knots", "_law_spots"] spFits)
    (C6 : Cal P w K mg base "is_standing" 4 ["people", "ties", "places", "lines", "standing"] spIsStand) (C7 : KCal P w K mg base "is_standing" 4 ["people", "ties", "places", "lines", "standing"] ["standing", "lines", "places", "ties", "people"] g5 g5 spIsStand) :
    FnG P w K mg base CX0 5 f fd ["_law_draws_here", "_law_size", "_law_sides", "_law_crowd", "_law_knots", "_law_spots"] spLooks := by
  refine okG F sc_law_looks_right (fun vs H Q E h => ?_) (fun cdv A outer s0 H vs Q E hr hgd h => ?_)
  · unfold spLooks at h
    obtain ⟨d, q2, q, s, k, m, n, fs, es, xs, rfl, _⟩ := h
    rfl
  · have nd := sc_law_looks_right.nd
    have hS := sc_law_looks_right
    have hKM : KMark K := ⟨⟩
    refine ⟨_, (derLooks (P := P) (w := w) (K := K) (mg := mg) (base := base) f cdv A outer s0 H E hr hgd mp mr mi ml C0 C1 C2 C3 C4 C5 C6 C7).2, ?_⟩
    unfold derLooks mkSig
    dsimp only
    next =>
     unfold spLooks at h
     obtain ⟨d, q2, q, s, k, m, n, fs, es, xs, rfl, hd, hk, a1, a2, a3, a4, a5, b1, b2, b3, b4, b5, c1, c2, c3, fin⟩ := h
     wtm_at "fo r"
     refine call_near b2 b3 b5 (fun e he => by have := b4.rng e he; omega) (fun qn H1 sm1 nq hq => ?_)
     have okB := dok_bef b4 a4 b2 a2 b5 a5 c2
     have szB : (befD es fs xs).shown.length ≤ sizeLine := Nat.le_trans okB.len (by decide)
     refine ⟨_, rfl, _, rfl, _, rfl, (Nat.le_of_ble_eq_true rfl : _ ≤ sizeLine), fun t nt => ?_⟩
     have smt : Same H1 (upd H1 t (.lst [.ref q2, .ref q, .ref s])) := same_upd (Same.refl _) nt
     have ht : (upd H1 t (.lst [.ref q2, .ref q, .ref s])) t = some (.lst [.ref q2, .ref q, .ref s]) := upd_same
     generalize upd H1 t (.lst [.ref q2, .ref q, .ref s]) = H2 at *
     have s2 := sm1.trans smt
     have hT2 : Tab H2 qn n (nearM n es) := ⟨Lists.same hq smt, nearM_len n es⟩
     refine ⟨t, befD es fs xs, rfl, dp_bef ht (b3.same s2) (a3.same s2) (s2 _ _ c1), okB.sh, okB.nd, Nat.le_trans okB.dep (by decide), szB, ?_⟩
     refine ⟨_, rfl, _, rfl, _, rfl, ?_⟩
     refine call_lmay a2 b2 hT2 (near_tabR b4) (a3.same s2) a5 (fun e he => by have := a4.rng e he; omega) (s2 _ _ c1) c2 (fun p8 rs8 out H3 sm3 np8 hP8 hpw hom hol => ?_)
     obtain rfl := may_is b4 a4 c2 c3 hpw hom
     have s3 := s2.trans sm3
     show tNext _ [some (.ref d), some (.int n), some (.ref q2), some (.int m), some (.ref q), some (.ref s), some (.ref qn), some (.str (befD es fs xs).shown), some (.ref p8), none, none, none, none, none, none] H3
     refine ⟨_, rfl, _, rfl, _, rfl, _, rfl, _, rfl, ?_⟩
     refine call_maygo a1 a2 (a3.same s3) a4 a5 b1 b2 (b3.same s3) b4 b5 (s3 _ _ c1) c2 c3 (fun p1 rs1 H4 sm4 np1 hP1 => ?_)
     refine ⟨(Nat.le_of_ble_eq_true rfl : _ ≤ sizeLine), fun L nL => ?_⟩
     have smL : Same H4 (upd H4 L (.lst [.ref p1])) := same_upd (Same.refl _) nL
     have hL4 : (upd H4 L (.lst [.ref p1])) L = some (.lst [.ref p1]) := upd_same
     generalize upd H4 L (.lst [.ref p1]) = H5 at *
     have s45 := sm4.trans smL
     have s5 := s3.trans s45
     refine ⟨_, rfl, .inl ⟨rfl, _, SqL.of hL4⟩, ?_⟩
     refine ⟨_, rfl, _, rfl, _, rfl, _, rfl, _, rfl, ?_⟩
     refine call_maygo a1 a2 (a3.same s5) a4 a5 b1 b2 (b3.same s5) b4 b5 (s5 _ _ c1) c2 c3 (fun p2 rs2 H6 sm6 np2 hP2 => ?_)
     have nL3 : H3 L = none := sm4.free nL
     have hL6 := sm6 _ _ hL4
     have s36 := s45.trans sm6
     refine ⟨L, _, .ref p2, rfl, rfl, hL6, (by decide : 1 < sizeLine), ?_⟩
     have s37 : Same H3 (upd H6 L (.lst ([.ref p1] ++ [.ref p2]))) := same_upd s36 nL3
     have hL7 : (upd H6 L (.lst ([.ref p1] ++ [.ref p2]))) L = some (.lst [.ref p1, .ref p2]) := upd_same
     have hP17 : PsF H3 (upd H6 L (.lst ([.ref p1] ++ [.ref p2]))) p1 rs1 (mayM n es fs xs m) := ⟨(hP1.ps.same (smL.trans sm6)).upd2 (ne_of_none hP1.ps.hD nL) (fun r hr => by
       obtain ⟨x, hx⟩ := hP1.ps.has2 hr
       exact ne_of_none hx nL), hP1.nd, hP1.fr⟩
     have hP27 : PsAt (upd H6 L (.lst ([.ref p1] ++ [.ref p2]))) p2 rs2 (mayM n es fs xs m) := hP2.ps.upd2 (fun e => by rw [← e, np2] at hL4; cases hL4) (fun r hr e => by
       have := hP2.fr r hr
       rw [e, hL4] at this
       cases this)
     generalize upd H6 L (.lst ([.ref p1] ++ [.ref p2])) = H7 at *
     have okM := dok_dE (may_small (es := es) (fs := fs) (xs := xs) b2 a2)
     have okMM := dok_two okM
     have szMM : (PyData.list [dE (mayM n es fs xs m), dE (mayM n es fs xs m)]).shown.length ≤ sizeLine := Nat.le_trans okMM.len (Nat.le_trans (m := 20000) (by omega) (by decide))
     have szM : (dE (mayM n es fs xs m)).shown.length ≤ sizeLine := Nat.le_trans okM.len (Nat.le_trans (m := 20000) (by omega) (by decide))
     have np1L : p1 ≠ L := ne_of_none hP1.ps.hD nL
     show tNext _ [some (.ref d), some (.int n), some (.ref q2), some (.int m), some (.ref q), some (.ref s), some (.ref qn), some (.str (befD es fs xs).shown), some (.ref p8), some (.ref L), none, none, none, none, none] H7
     -- the two tests
     refine ⟨_, rfl, L, _, rfl, .lst (SqL.of hL7) (.cons (dp_dE hP17.ps.pairs) (.cons (dp_dE hP27.pairs) .nil)), okMM.sh, okMM.nd, Nat.le_trans okMM.dep (by decide), szMM, ?_⟩
     refine ⟨_, rfl, _, rfl, (Nat.le_of_ble_eq_true rfl : _ ≤ sizeLine), fun t2 nt2 => ?_⟩
     have sm8 : Same H7 (upd H7 t2 (.lst [.ref p8, .ref p8])) := same_upd (Same.refl _) nt2
     have ht8 : (upd H7 t2 (.lst [.ref p8, .ref p8])) t2 = some (.lst [.ref p8, .ref p8]) := upd_same
     generalize upd H7 t2 (.lst [.ref p8, .ref p8]) = H8 at *
     have s38 := s37.trans sm8
     have hP88 := hP8.ps.pairs.same s38
     refine ⟨t2, _, rfl, .lst (SqL.of ht8) (.cons (dp_dE hP88) (.cons (dp_dE hP88) .nil)), okMM.sh, okMM.nd, Nat.le_trans okMM.dep (by decide), szMM, ?_⟩
     refine Or.inl ⟨rfl, _, rfl, ?_⟩
     refine ifF (neFT _) ?_
     refine ⟨_, rfl, _, rfl, _, rfl, (Nat.le_of_ble_eq_true rfl : _ ≤ sizeLine), fun t3 nt3 => ?_⟩
     have sm9 : Same H8 (upd H8 t3 (.lst [.ref q2, .ref q, .ref s])) := same_upd (Same.refl _) nt3
     have ht9 : (upd H8 t3 (.lst [.ref q2, .ref q, .ref s])) t3 = some (.lst [.ref q2, .ref q, .ref s]) := upd_same
     generalize upd H8 t3 (.lst [.ref q2, .ref q, .ref s]) = H9 at *
     have s39 := s38.trans sm9
     have s9 := s3.trans s39
     refine ⟨t3, befD es fs xs, rfl, dp_bef ht9 (b3.same s9) (a3.same s9) (s9 _ _ c1), okB.sh, okB.nd, Nat.le_trans okB.dep (by decide), szB, ?_⟩
     refine ⟨_, rfl, Or.inl ⟨rfl, _, rfl, ?_⟩⟩
     refine ifF (neFT _) ?_
     have hL9 := sm9 _ _ (sm8 _ _ hL7)
     have hP19 : PsF H3 H9 p1 rs1 (mayM n es fs xs m) := ⟨hP17.ps.same (sm8.trans sm9), hP17.nd, hP17.fr⟩
     have hd3 := hd.same s3
     clear hP17 hP27 hP2 hP1 hL7 hL6 hL4 smL nL sm6 np2 s36 s37 sm8 ht8 nt2 s38 hP88 sm9 ht9 nt3 s45 s5 sm4 nt smt ht
     have off_t : L ∉ rs1 := fun h => by
       obtain ⟨e, _, he⟩ := hP19.ps.mem h
       rw [hL9] at he
       cases he
     have off_l : p1 ∉ rs1 := fun h => hP19.ps.ne h rfl
     show tNext _ [some (.ref d), some (.int n), some (.ref q2), some (.int m), some (.ref q), some (.ref s), some (.ref qn), some (.str (befD es fs xs).shown), some (.ref p8), some (.ref L), none, none, none, none, none] H9
     refine ⟨_, rfl, Or.inl ⟨L, _, 0, .ref p1, rfl, rfl, SqL.of hL9, rfl, p1, rfl, ⟨_, SqL.of hP19.ps.hD⟩, ?_⟩⟩
     refine for_list (K := K) (xs := rs1.map V.ref) (fun i σ G => ∃ y10, σ = [some (.ref d), some (.int n), some (.ref q2), some (.int m), some (.ref q), some (.ref s), some (.ref qn), some (.str (befD es fs xs).shown), some (.ref p8), some (.ref L), y10, none, none, none, none] ∧
       (∀ b o, b ∉ rs1 → H9 b = some o → G b = some o) ∧ Same H3 G ∧
       ∀ (jj : Nat) (r : Addr) (e : Edge), rs1[jj]? = some r → (mayM n es fs xs m)[jj]? = some e → G r = some (.lst (if jj < i then [.int e.1, .int e.2, .non] else [.int e.1, .int e.2]))) ?_ ?_ ?_ ?_
     · exact ⟨_, rfl, fun b o _ h => h, s39, fun jj r e hr he => by rw [if_neg (Nat.not_lt_zero jj)]; exact hP19.ps.at_ jj r e hr he⟩
     · rintro i σ G _ ⟨y10, rfl, off, smG, cont⟩
       exact SqL.of (off _ _ off_l hP19.ps.hD)
     · rintro i x σ G hx ⟨y10, rfl, off, smG, cont⟩
       obtain ⟨r, hr, rfl⟩ := ref_at hx
       have hi : i < (mayM n es fs xs m).length := by rw [← hP19.ps.len]; exact (List.getElem?_eq_some_iff.mp hr).1
       have hpi : (mayM n es fs xs m)[i]? = some (mayM n es fs xs m)[i] := List.getElem?_eq_getElem hi
       have hrG := cont i r _ hr hpi
       rw [if_neg (Nat.lt_irrefl i)] at hrG
       refine ⟨_, rfl, .inl ⟨rfl, _, SqL.of hrG⟩, r, _, .non, rfl, rfl, hrG, Nat.lt_of_le_of_lt (m := 2) (Nat.le_refl _) (by decide), ?_⟩
       have hrm := List.mem_of_getElem? hr
       refine ⟨_, rfl, fun b o hb h => ?_, same_upd smG (hP19.fr r hrm), fun jj r2 e hr2 he => ?_⟩
       · rw [upd_ne (fun e => hb (by rw [e]; exact hrm))]
         exact off b o hb h
       · by_cases hji : jj = i
         · subst hji
           rw [hr] at hr2
           cases hr2
           rw [hpi] at he
           cases he
           rw [upd_same, if_pos (Nat.lt_succ_self jj)]
           rfl
         · have hne : r2 ≠ r := fun e => by
             subst e
             exact hji (nd_ix hP19.nd hr2 hr)
           rw [upd_ne hne, cont jj r2 e hr2 he]
           by_cases hlt : jj < i
           · rw [if_pos hlt, if_pos (by omega)]
           · rw [if_neg hlt, if_neg (by omega)]
     rintro σ G ⟨y10, rfl, off, smG, cont⟩
     rw [List.length_map] at cont
     have hLG := off _ _ off_t hL9
     have hP1G := off _ _ off_l hP19.ps.hD
     refine ⟨_, rfl, Or.inl ⟨L, _, 0, .ref p1, rfl, rfl, SqL.of hLG, rfl, p1, rfl, ⟨_, SqL.of hP1G⟩, fun D nD => ?_⟩⟩
     refine lc_list (K := K) (xs := rs1.map V.ref) (fun i G2 => G2 = upd G D (.lst [])) rfl ?_ ?_ ?_
     · rintro i G2 _ rfl
       exact SqL.of (by rw [upd_ne (ne_of_none hP1G nD)]; exact hP1G)
     · rintro i x G2 hx rfl
       obtain ⟨r, hr, rfl⟩ := ref_at hx
       have hi : i < rs1.length := (List.getElem?_eq_some_iff.mp hr).1
       have hpi : (mayM n es fs xs m)[i]? = some ((mayM n es fs xs m)[i]'(by rw [← hP19.ps.len]; exact hi)) := List.getElem?_eq_getElem _
       have hrG := cont i r _ hr hpi
       rw [if_pos hi] at hrG
       have hr9 : (upd G D (.lst [])) r = _ := (upd_ne (ne_of_none hrG nD)).trans hrG
       refine ⟨rfl, _, rfl, .inl ⟨rfl, _, SqL.of hr9⟩, r, _, .non, rfl, rfl, SqL.of hr9, rfl, rfl, ?_⟩
       refine Or.inl ⟨rfl, _, rfl, ?_⟩
       exact ifF (by rfl) rfl
     rintro G2 rfl
     refine ⟨(Nat.le_of_ble_eq_true rfl : _ ≤ sizeLine), fun e0 ne0 => ?_⟩
     have hDe : D ≠ e0 := ne_of_none upd_same ne0
     refine Or.inr ⟨.list [], .list [], .lst (SqL.of (by rw [upd_ne hDe]; exact upd_same)) .nil, .lst (SqL.of upd_same) .nil, rfl, rfl, _, rfl, ?_⟩
     refine ifF (by rw [eqv_list_nil]; rfl) ?_
     have smE : Same G (upd (upd G D (.lst [])) e0 (.lst [])) := same_upd (same_upd (Same.refl _) nD) ((same_upd (Same.refl G) nD : Same G (upd G D (.lst []))).free ne0)
     have hLE := smE _ _ hLG
     have hP1E := smE _ _ hP1G
     show tNext _ [some (.ref d), some (.int n), some (.ref q2), some (.int m), some (.ref q), some (.ref s), some (.ref qn), some (.str (befD es fs xs).shown), some (.ref p8), some (.ref L), y10, none, none, none, none] _
     refine ⟨_, rfl, Or.inl ⟨L, _, 0, .ref p1, rfl, rfl, SqL.of hLE, rfl, ?_⟩⟩
     refine ⟨.inl ⟨rfl, _, SqL.of hP1E⟩, p1, _, .non, rfl, rfl, hP1E, ?_, ?_⟩
     · rw [List.length_map, hP19.ps.len]
       exact Nat.lt_of_le_of_lt hol (by decide)
     have s3F : Same H3 (upd (upd (upd G D (.lst [])) e0 (.lst [])) p1 (.lst (rs1.map V.ref ++ [V.non]))) := same_upd (smG.trans smE) np1
     generalize upd (upd (upd G D (.lst [])) e0 (.lst [])) p1 (.lst (rs1.map V.ref ++ [V.non])) = HF at *
     clear cont off smG hLG hP1G hLE hP1E smE hP19 hL9 s39 off_t off_l s9
     have sF := s3.trans s3F
     have hdF := hd3.same s3F
     -- the bent standing
     refine ⟨_, rfl, s, _, rfl, .inl (SqL.of (sF _ _ c1)), fun bl nbl => ?_⟩
     have smb : Same HF (upd HF bl (.lst (xs.map V.int))) := same_upd (Same.refl _) nbl
     have hbl : (upd HF bl (.lst (xs.map V.int))) bl = some (iL xs) := upd_same
     generalize upd HF bl (.lst (xs.map V.int)) = HG at *
     have hdG := hdF.same smb
     show tNext _ [some (.ref d), some (.int n), some (.ref q2), some (.int m), some (.ref q), some (.ref s), some (.ref qn), some (.str (befD es fs xs).shown), some (.ref p8), some (.ref L), y10, some (.ref bl), none, none, none] HG
     wtm_at "fo r"
     refine call_next hdG (by omega) (fun z HA hz sbA hdA => ?_)
     wtm_at "fo r"
     have m1' := Int.emod_nonneg z (show (3 : Int) ≠ 0 by decide)
     have m2' := Int.emod_lt_of_pos z (show (0 : Int) < 3 by decide)
     generalize z % 3 = zz at *
     have hblA := sbA _ _ (hdG.ne_ints hbl) hbl
     have sbFA : SameBut d HF HA := (Same.but d smb).trans sbA
     refine for_range (fun i σ G => ∃ (ys : List Int) (y12 : Option V) (k3 : Int), σ = [some (.ref d), some (.int n), some (.ref q2), some (.int m), some (.ref q), some (.ref s), some (.ref qn), some (.str (befD es fs xs).shown), some (.ref p8), some (.ref L), y10, some (.ref bl), y12, none, none] ∧ SameBut d HF G ∧ G bl = some (iL ys) ∧ Stds m n ys ∧ Dr G d k3 ∧ k3 ≤ k + 1 + 2 * i) ?_ ?_ ?_
     · exact ⟨xs, none, k + 1, rfl, sbFA, hblA, c2, hdA, by omega⟩
     · rintro i σ G hi ⟨ys, y12, k3, rfl, sbG, hblG, hst, hdG3, hk3⟩
       have hi3 : i < 3 := by
         have : i < (zz - 0).toNat ∨ i < zz.toNat := by first | exact .inr hi | exact .inl hi
         omega
       wtm_at "fo r"
       refine call_next hdG3 (by omega) (fun z1 G1 hz1 sb1 hd1 => ?_)
       wtm_at "fo r"
       have g1 := Int.emod_nonneg z1 (show (n : Int) ≠ 0 by omega)
       have g2 := Int.emod_lt_of_pos z1 (show (0 : Int) < n by omega)
       generalize z1 % (n : Int) = v1 at *
       refine call_next hd1 (by omega) (fun z2 G2 hz2 sb2 hd2 => ?_)
       have g3 := Int.emod_nonneg z2 (show (m : Int) ≠ 0 by omega)
       have g4 := Int.emod_lt_of_pos z2 (show (0 : Int) < m by omega)
       have hblG2 := sb2 _ _ (hd1.ne_ints (sb1 _ _ (hdG3.ne_ints hblG) hblG)) (sb1 _ _ (hdG3.ne_ints hblG) hblG)
       have hblne : bl ≠ d := hd2.ne_ints hblG2
       wtm_at "fo r"
       obtain ⟨jj, hjj⟩ : ∃ j : Nat, z2 % (m : Int) = (j : Int) := ⟨(z2 % (m : Int)).toNat, by omega⟩
       refine ⟨bl, _, z2 % (m : Int), jj, rfl, rfl, hblG2, by rw [hjj, List.length_map]; exact ix_nE (by rw [hst.len]; omega), ?_⟩
       refine ⟨ys.set jj (1 + v1), _, k3 + 1 + 1, rfl, fun b o hb e => ?_, ?_, ⟨by rw [List.length_set]; exact hst.len, fun x hx => ?_⟩, ?_, by omega⟩
       · rw [upd_ne (ne_of_none e nbl)]
         exact (sbG.trans sb1).trans sb2 b o hb e
       · rw [upd_same]
         unfold iL
         rw [List.map_set]
       · rcases List.mem_or_eq_of_mem_set hx with hx | hx
         · exact hst.rng x hx
         · rw [hx]; omega
       · obtain ⟨x1, x2, e, h0⟩ := hd2
         exact ⟨x1, x2, by rw [upd_ne hblne.symm]; exact e, h0⟩
     · rintro σ G ⟨ys, y12, k3, rfl, sbG, hblG, hst, hdG3, hk3⟩
       have hzn : (zz - 0).toNat ≤ 3 ∧ zz.toNat ≤ 3 := ⟨by omega, by omega⟩
       have hk9 : k3 ≤ k + 100 := by omega
       have sbH : SameBut d H G := (Same.but d sF).trans sbG
       have hqG : Tab G qn n (nearM n es) := ((hT2.same (sm3.trans s3F)).but sbG hdF)
       have hFG := a3.but sbH hd
       have hEG := b3.but sbH hd
       have hcG := sbH _ _ (hd.ne_ints c1) c1
       have hP8G : Pairs G p8 (mayM n es fs xs m) := (hP8.ps.pairs.same s3F).but sbG hdF
       clear hP8 hT2 sbA hdA hblA hbl smb hdG nbl sbFA
       refine ⟨_, rfl, _, rfl, _, rfl, ?_⟩
       refine call_fits a2 hqG hFG a5 (fun e he => by have := a4.rng e he; omega) hblG hst (fun I1 sm1 => ?_)
       rw [show decide (FitsT (nearM n es) fs ys) = decide (StandOk es fs ys) from decide_eq_decide.mpr (fits_near b4 a4 hst)]
       have hdI := hdG3.same sm1
       refine ⟨_, rfl, _, rfl, _, rfl, _, rfl, _, rfl, ?_⟩
       refine call_isstand a1 a2 (hFG.same sm1) a4 a5 b1 b2 (hEG.same sm1) b4 b5 (sm1 _ _ hblG) hst (fun I2 sm2 => ?_)
       generalize hb : decide (StandOk es fs ys) = b at *
       refine ⟨(Nat.le_of_ble_eq_true rfl : _ ≤ sizeLine), fun L2 nL2 => ?_⟩
       have sm3 : Same I2 (upd I2 L2 (.lst [.bl b])) := same_upd (Same.refl _) nL2
       have hL2 : (upd I2 L2 (.lst [.bl b])) L2 = some (.lst [.bl b]) := upd_same
       generalize upd I2 L2 (.lst [.bl b]) = I3 at *
       have s13 := (sm1.trans sm2).trans sm3
       refine ⟨_, rfl, .inl ⟨rfl, _, SqL.of hL2⟩, ?_⟩
       refine ⟨_, rfl, _, rfl, _, rfl, _, rfl, _, rfl, ?_⟩
       refine call_isstand a1 a2 (hFG.same s13) a4 a5 b1 b2 (hEG.same s13) b4 b5 (s13 _ _ hblG) hst (fun I4 sm4 => ?_)
       rw [hb]
       have nL2G : G L2 = none := (sm1.trans sm2).free nL2
       refine ⟨L2, _, .bl b, rfl, rfl, sm4 _ _ hL2, (by decide : 1 < sizeLine), ?_⟩
       have s15 : Same G (upd I4 L2 (.lst ([.bl b] ++ [.bl b]))) := same_upd (s13.trans sm4) nL2G
       have hL25 : (upd I4 L2 (.lst ([.bl b] ++ [.bl b]))) L2 = some (.lst [.bl b, .bl b]) := upd_same
       generalize upd I4 L2 (.lst ([.bl b] ++ [.bl b])) = I5 at *
       show tNext _ [some (.ref d), some (.int n), some (.ref q2), some (.int m), some (.ref q), some (.ref s), some (.ref qn), some (.str (befD es fs xs).shown), some (.ref p8), some (.ref L), y10, some (.ref bl), y12, some (.bl b), some (.ref L2)] I5
       have shB : (PyData.list [.bool b, .bool b]).showable = true := by cases b <;> rfl
       have ndB : (PyData.list [.bool b, .bool b]).hasDict = false := by cases b <;> rfl
       have dpB : (PyData.list [.bool b, .bool b]).depth ≤ 60 := by cases b <;> decide
       have szBB : (PyData.list [.bool b, .bool b]).shown.length ≤ sizeLine := Nat.le_trans (m := 100) (by cases b <;> decide) (by decide)
       refine ⟨_, rfl, L2, _, rfl, .lst (SqL.of hL25) (.cons (.bl b) (.cons (.bl b) .nil)), shB, ndB, dpB, szBB, ?_⟩
       refine ⟨_, rfl, _, rfl, (Nat.le_of_ble_eq_true rfl : _ ≤ sizeLine), fun t4 nt4 => ?_⟩
       have sm6 : Same I5 (upd I5 t4 (.lst [.bl b, .bl b])) := same_upd (Same.refl _) nt4
       have ht6 : (upd I5 t4 (.lst [.bl b, .bl b])) t4 = some (.lst [.bl b, .bl b]) := upd_same
       generalize upd I5 t4 (.lst [.bl b, .bl b]) = I6 at *
       refine ⟨t4, _, rfl, .lst (SqL.of ht6) (.cons (.bl b) (.cons (.bl b) .nil)), shB, ndB, dpB, szBB, ?_⟩
       refine Or.inl ⟨rfl, _, rfl, ?_⟩
       refine ifF (neFT _) ?_
       have s16 := s15.trans sm6
       refine ⟨_, rfl, _, rfl, _, rfl, _, rfl, _, rfl, ?_⟩
       refine call_isstand a1 a2 (hFG.same s16) a4 a5 b1 b2 (hEG.same s16) b4 b5 (s16 _ _ hcG) c2 (fun I7 sm7 => ?_)
       rw [decide_eq_true c3]
       refine ⟨true, rfl, ifF rfl ?_⟩
       have s17 := s16.trans sm7
       refine ⟨_, rfl, _, rfl, _, rfl, _, rfl, _, rfl, ?_⟩
       refine call_maygo a1 a2 (hFG.same s17) a4 a5 b1 b2 (hEG.same s17) b4 b5 (s17 _ _ hcG) c2 c3 (fun p9 rs9 I8 sm8 np9 hP9 => ?_)
       have s18 := s17.trans sm8
       refine ⟨p9, _, rfl, dp_dE hP9.ps.pairs, okM.sh, okM.nd, Nat.le_trans okM.dep (by decide), szM, ?_⟩
       refine ⟨_, rfl, p8, _, rfl, dp_dE (hP8G.same s18), okM.sh, okM.nd, Nat.le_trans okM.dep (by decide), szM, ?_⟩
       refine Or.inl ⟨rfl, _, rfl, ?_⟩
       refine ifF (neFT _) ?_
       refine ⟨_, rfl, _, rfl, _, rfl, (Nat.le_of_ble_eq_true rfl : _ ≤ sizeLine), fun t5 nt5 => ?_⟩
       have sm9 : Same I8 (upd I8 t5 (.lst [.ref q2, .ref q, .ref s])) := same_upd (Same.refl _) nt5
       have ht9 : (upd I8 t5 (.lst [.ref q2, .ref q, .ref s])) t5 = some (.lst [.ref q2, .ref q, .ref s]) := upd_same
       generalize upd I8 t5 (.lst [.ref q2, .ref q, .ref s]) = I9 at *
       have s19 := s18.trans sm9
       refine ⟨t5, befD es fs xs, rfl, dp_bef ht9 (hEG.same s19) (hFG.same s19) (s19 _ _ hcG), okB.sh, okB.nd, Nat.le_trans okB.dep (by decide), szB, ?_⟩
       refine ⟨_, rfl, Or.inl ⟨rfl, ?_⟩⟩
       rw [decide_eq_true rfl]
       exact fin I9 k3 (sbH.trans (Same.but d s19)) (hdG3.same s19) hk9
end
/-! piece TXd -/
section
local macro_rules | `(tactic| wtm_at "fo a") => `(tactic| first
  | exact pa_nil
  | (refine' pa_cons ?k1 ?k2; (case k1 => wtm_at "fo e"); (case k2 => wtm_at "fo a"))
  | fail "no")
local macro_rules | `(tactic| wtm_at "fo v") => `(tactic| first
  | exact pv 0
  | exact pv 1
  | exact pv 2
  | exact pv 3
  | exact pv 4
  | exact pv 5
  | exact pv 6
  | exact pv 7
  | exact pv 8
  | exact pv 9
  | exact pv 10
  | exact pv 11
  | exact pv 12
  | exact pv 13
  | exact pv 14
  | exact pv 15
  | fail "no")
local macro_rules | `(tactic| wtm_at "fo e") => `(tactic| first
  | with_reducible exact pe_int
  | with_reducible exact pe_bl
  | with_reducible exact pe_non
  | with_reducible exact pe_str
  | ((with_reducible show PE _ (.Name _ _) _); wtm_at "fo v")
  | ((with_reducible show PE _ (.BinOp _ .Add _ _) _); apply pe_op opAddB <;> wtm_at "fo e")
  | ((with_reducible show PE _ (.BinOp _ .Sub _ _) _); apply pe_op op_sub <;> wtm_at "fo e")
  | ((with_reducible show PE _ (.BinOp _ .Mult _ _) _); apply pe_op op_mul <;> wtm_at "fo e")
  | ((with_reducible show PE _ (.BinOp _ .Mod _ _) _); apply pe_op op_mod <;> wtm_at "fo e")
  | ((with_reducible show PE _ (.BinOp _ .FloorDiv _ _) _); apply pe_op op_fdiv <;> wtm_at "fo e")
  | ((with_reducible show PE _ (.BinOp _ .Pow _ _) _); apply pe_op op_powW <;> wtm_at "fo e")
  | ((with_reducible show PE _ (.BinOp _ .LShift _ _) _); apply pe_op op_shl <;> wtm_at "fo e")
  | ((with_reducible show PE _ (.BinOp _ .RShift _ _) _); apply pe_op op_shr <;> wtm_at "fo e")
  | ((with_reducible show PE _ (.BinOp _ .BitAnd _ _) _); apply pe_op op_and <;> wtm_at "fo e")
  | ((with_reducible show PE _ (.List _ _) _); apply pe_lst; wtm_at "fo a")
  | ((with_reducible show PE _ (.Tuple _ _ _) _); apply pe_tup; wtm_at "fo a")
  | ((with_reducible show PE _ (.ListComp _ [_] _ _) _); wtm_at "fo lc")
  | ((with_reducible show PE _ (.IfExp _ _ _ _) _); apply pe_ifExp; (· wtm_at "fo t"); (· wtm_at "fo e"); (· wtm_at "fo e"))
  | ((with_reducible show PE _ (.UnaryOp .USub _ _) _); apply pe_un un_neg; wtm_at "fo e")
  | ((with_reducible show PE _ (.Call (.Name _ _) [] (_ :: _) _) _); wtm_at "fo kcall")
  | ((with_reducible show PE _ (.Call (.Name _ _) _ _ _) _); wtm_at "fo call")
  | ((with_reducible show PE _ (.Call (.Attribute _ _ _) _ _ _) _); wtm_at "fo meth")
  | ((with_reducible show PE _ (.Compare _ _ _ _) _); wtm_at "fo cmp")
  | ((with_reducible show PE _ (.Subscript _ (.Slice _ _ _ _) _) _); wtm_at "fo slice")
  | ((with_reducible show PE _ (.Subscript _ _ _) _); refine' pe_ix (ix_seqK (by assumption) (by exact rfl)) ?ka ?kb (fun _ _ => rfl); (case ka => wtm_at "fo e"); (case kb => wtm_at "fo e"))
  | fail "no")
local macro_rules | `(tactic| wtm_at "fo own") => `(tactic| first
  | ((show _ = [0]); kernel_rfl!)
  | ((show _ = [1]); kernel_rfl!)
  | ((show _ = [2]); kernel_rfl!)
  | ((show _ = [3]); kernel_rfl!)
  | ((show _ = [4]); kernel_rfl!)
  | ((show _ = [5]); kernel_rfl!)
  | ((show _ = [6]); kernel_rfl!)
  | ((show _ = [7]); kernel_rfl!)
  | ((show _ = [8]); kernel_rfl!)
  | ((show _ = [9]); kernel_rfl!)
  | ((show _ = [10]); kernel_rfl!)
  | ((show _ = [11]); kernel_rfl!)
  | ((show _ = [12]); kernel_rfl!)
  | ((show _ = [13]); kernel_rfl!)
  | ((show _ = [14]); kernel_rfl!)
  | ((show _ = [15]); kernel_rfl!)
  | ((show _ = [0, 1]); kernel_rfl!)
  | ((show _ = [1, 2]); kernel_rfl!)
  | ((show _ = [2, 3]); kernel_rfl!)
  | ((show _ = [3, 4]); kernel_rfl!)
  | ((show _ = [4, 5]); kernel_rfl!)
  | ((show _ = [5, 6]); kernel_rfl!)
  | ((show _ = [6, 7]); kernel_rfl!)
  | ((show _ = [7, 8]); kernel_rfl!)
  | ((show _ = [8, 9]); kernel_rfl!)
  | ((show _ = [9, 10]); kernel_rfl!)
  | ((show _ = [10, 11]); kernel_rfl!)
  | ((show _ = [11, 12]); kernel_rfl!)
  | ((show _ = [12, 13]); kernel_rfl!)
  | ((show _ = [13, 14]); kernel_rfl!)
  | ((show _ = [14, 15]); kernel_rfl!)
  | fail "no")
local macro_rules | `(tactic| wtm_at "fo ts") => `(tactic| first
  | exact pts_nil
  | (apply pts_one; wtm_at "fo t")
  | fail "no")
local macro_rules | `(tactic| wtm_at "fo lc") => `(tactic| first
  | (refine' pe_lcO (by assumption) (by exact rfl) (by exact rfl) (by wtm_at "fo own") (by decide +kernel) rfl ?ki ?kg ?kt ?ke; (case ki => wtm_at "fo i"); (case kg => (intro _ _ _ _ _; wtm_at "fo g")); (case kt => (intro _ _ _ _ _; wtm_at "fo ts")); (case ke => (intro _ _ _ _ _; wtm_at "fo e")))
  | fail "no")
local macro_rules | `(tactic| wtm_at "fo part") => `(tactic| first
  | exact po_none
  | (apply po_some; wtm_at "fo e")
  | fail "no")
local macro_rules | `(tactic| wtm_at "fo slice") => `(tactic| first
  | ((with_reducible show PE _ (.Subscript _ (.Slice _ _ none _) _) _); refine' pe_slice (sl_listK (by assumption) (by exact rfl)) ?ka ?kb ?kc; (case ka => wtm_at "fo e"); (case kb => wtm_at "fo part"); (case kc => wtm_at "fo part"))
  | ((with_reducible show PE _ (.Subscript _ (.Slice none none (some _) _) _) _); refine' pe_stepK (by assumption) (by exact rfl) ?ka ?kb; (case ka => wtm_at "fo e"); (case kb => wtm_at "fo e"))
  | fail "no")
local macro_rules | `(tactic| wtm_at "fo cmp") => `(tactic| first
  | ((with_reducible show PE _ (.Compare _ [.Lt] _ _) _); refine' pe_cmpR op_lt ?ka ?kb (nomark _); (case ka => wtm_at "fo e"); (case kb => wtm_at "fo e"))
  | ((with_reducible show PE _ (.Compare _ [.LtE] _ _) _); refine' pe_cmpR op_le ?ka ?kb (nomark _); (case ka => wtm_at "fo e"); (case kb => wtm_at "fo e"))
  | ((with_reducible show PE _ (.Compare _ [.Gt] _ _) _); refine' pe_cmpR op_gt ?ka ?kb (nomark _); (case ka => wtm_at "fo e"); (case kb => wtm_at "fo e"))
  | ((with_reducible show PE _ (.Compare _ [.GtE] _ _) _); refine' pe_cmpR op_ge ?ka ?kb (nomark _); (case ka => wtm_at "fo e"); (case kb => wtm_at "fo e"))
  | ((with_reducible show PE _ (.Compare _ [.Eq] _ _) _); refine' pe_cmpR (op_eqK (by assumption) (by exact rfl) (Room.units (by assumption))) ?ka ?kb (nomark _); (case ka => wtm_at "fo e"); (case kb => wtm_at "fo e"))
  | ((with_reducible show PE _ (.Compare _ [.NotEq] _ _) _); refine' pe_cmpR (op_neK (by assumption) (by exact rfl) (Room.units (by assumption))) ?ka ?kb (nomark _); (case ka => wtm_at "fo e"); (case kb => wtm_at "fo e"))
  | fail "no")
local macro_rules | `(tactic| wtm_at "fo tcmp") => `(tactic| first
  | ((with_reducible show PT _ (.Compare _ [.Lt] _ _) _); refine' pt_cmpR op_lt ?ka ?kb (nomark _); (case ka => wtm_at "fo e"); (case kb => wtm_at "fo e"))
  | ((with_reducible show PT _ (.Compare _ [.LtE] _ _) _); refine' pt_cmpR op_le ?ka ?kb (nomark _); (case ka => wtm_at "fo e"); (case kb => wtm_at "fo e"))
  | ((with_reducible show PT _ (.Compare _ [.Gt] _ _) _); refine' pt_cmpR op_gt ?ka ?kb (nomark _); (case ka => wtm_at "fo e"); (case kb => wtm_at "fo e"))
  | ((with_reducible show PT _ (.Compare _ [.GtE] _ _) _); refine' pt_cmpR op_ge ?ka ?kb (nomark _); (case ka => wtm_at "fo e"); (case kb => wtm_at "fo e"))
  | ((with_reducible show PT _ (.Compare _ [.Eq] _ _) _); refine' pt_cmpR (op_eqK (by assumption) (by exact rfl) (Room.units (by assumption))) ?ka ?kb (nomark _); (case ka => wtm_at "fo e"); (case kb => wtm_at "fo e"))
  | ((with_reducible show PT _ (.Compare _ [.NotEq] _ _) _); refine' pt_cmpR (op_neK (by assumption) (by exact rfl) (Room.units (by assumption))) ?ka ?kb (nomark _); (case ka => wtm_at "fo e"); (case kb => wtm_at "fo e"))
  | ((with_reducible show PT _ (.Compare _ [.In] _ _) _); refine' pt_cmpR (op_inK (by assumption) (by exact rfl)) ?ka ?kb rfl; (case ka => wtm_at "fo e"); (case kb => wtm_at "fo e"))
  | ((with_reducible show PT _ (.Compare _ [.NotIn] _ _) _); refine' pt_cmpR (op_notInK (by assumption) (by exact rfl)) ?ka ?kb rfl; (case ka => wtm_at "fo e"); (case kb => wtm_at "fo e"))
  | fail "no")
local macro_rules | `(tactic| wtm_at "fo w") => `(tactic| first
  | ((with_reducible show PW _ (.BoolOp .And [_] _) _); apply pw_and1; wtm_at "fo t")
  | ((with_reducible show PW _ (.BoolOp .And _ _) _); apply pw_and; (· wtm_at "fo t"); (· wtm_at "fo w"))
  | ((with_reducible show PW _ (.BoolOp .Or [_] _) _); apply pw_or1; wtm_at "fo t")
  | ((with_reducible show PW _ (.BoolOp .Or _ _) _); apply pw_or; (· wtm_at "fo t"); (· wtm_at "fo w"))
  | fail "no")
local macro_rules | `(tactic| wtm_at "fo meth") => `(tactic| first
  | ((with_reducible show PE _ (.Call (.Attribute _ (Str.ofString "append") _) _ _ _) _); refine' pe_bm PySem.F.plainAttrs_list PySem.F.slot_list_append PySem.F.type_list_append mt_append ?ka ?kb; (case ka => wtm_at "fo e"); (case kb => wtm_at "fo a"))
  | ((with_reducible show PE _ (.Call (.Attribute _ (Str.ofString "pop") _) [_] _ _) _); refine' pe_bm PySem.F.plainAttrs_list PySem.F.slot_list_pop PySem.F.type_list_pop mt_popAt ?ka ?kb; (case ka => wtm_at "fo e"); (case kb => wtm_at "fo a"))
  | ((with_reducible show PE _ (.Call (.Attribute _ (Str.ofString "pop") _) [] _ _) _); refine' pe_bm0 PySem.F.plainAttrs_list PySem.F.slot_list_pop PySem.F.type_list_pop mt_pop ?ka; (case ka => wtm_at "fo e"))
  | fail "no")
local macro_rules | `(tactic| wtm_at "fo k") => `(tactic| first
  | exact pk_nil
  | (refine' pk_cons ?k1 ?k2; (case k1 => wtm_at "fo e"); (case k2 => wtm_at "fo k"))
  | fail "no")
local macro_rules | `(tactic| wtm_at "fo kcall") => `(tactic| first
  | (refine' pe_kcal (by assumption) (by assumption) (by decide) (by rfl) ?ka; (case ka => wtm_at "fo k"))
  | fail "no")
local macro_rules | `(tactic| wtm_at "fo call") => `(tactic| first
  | ((with_reducible show PE _ (.Call (.Name (Str.ofString "int") _) _ _ _) _); refine' pe_callTy call_intB (by rfl) (by assumption) (by decide +kernel) ?ka; (case ka => wtm_at "fo a"))
  | ((with_reducible show PE _ (.Call (.Name (Str.ofString "len") _) _ _ _) _); refine' pe_callB (call_lenK (by assumption) (by exact rfl)) (by rfl) (by assumption) PySem.boot_len ?ka; (case ka => wtm_at "fo a"))
  | ((with_reducible show PE _ (.Call (.Name (Str.ofString "list") _) [.Call (.Name (Str.ofString "range") _) [_, _] _ _] _ _) _); refine' pe_listRg rfl (by rfl) (by assumption) (prg_2 (by rfl) (by assumption) ?ka ?kb); (case ka => wtm_at "fo e"); (case kb => wtm_at "fo e"))
  | ((with_reducible show PE _ (.Call (.Name (Str.ofString "list") _) _ _ _) _); refine' pe_callTy (call_listK (by assumption) (by exact rfl)) (by rfl) (by assumption) (by decide +kernel) ?ka; (case ka => wtm_at "fo a"))
  | ((with_reducible show PE _ (.Call (.Name (Str.ofString "min") _) [_, _] _ _) _); refine' pe_callB (call_min2 rfl) (by rfl) (by assumption) (by decide +kernel) ?ka; (case ka => wtm_at "fo a"))
  | ((with_reducible show PE _ (.Call (.Name (Str.ofString "sorted") _) [_] _ _) _); refine' pe_callB (cr_sortedK (by assumption) (by exact rfl)) (by rfl) (by assumption) (by decide +kernel) ?ka; (case ka => wtm_at "fo a"))
  | ((with_reducible show PE _ (.Call (.Name (Str.ofString "repr") _) [_] _ _) _); refine' pe_callB (call_reprK (by assumption) (by exact rfl) (by assumption) (Room.units (by assumption))) (by rfl) (by assumption) (by decide +kernel) ?ka; (case ka => wtm_at "fo a"))
  | (refine' pe_cal (by assumption) (by assumption) (by decide) (by rfl) ?ka; (case ka => wtm_at "fo a"))
  | fail "no")
local macro_rules | `(tactic| wtm_at "fo setlc") => `(tactic| first
  | (refine' ps_setLcO (i := 0) (by assumption) (by exact rfl) (by exact rfl) (by wtm_at "fo own") (by decide +kernel) rfl rfl rfl (sw_true rfl rfl rfl (by decide +kernel)) ?ki ?kg ?kt ?ke; (case ki => wtm_at "fo i"); (case kg => (intro _ _ _ _ _; wtm_at "fo g")); (case kt => (intro _ _ _ _ _; wtm_at "fo ts")); (case ke => (intro _ _ _ _ _; wtm_at "fo e")))
  | (refine' ps_setLcO (i := 1) (by assumption) (by exact rfl) (by exact rfl) (by wtm_at "fo own") (by decide +kernel) rfl rfl rfl (sw_true rfl rfl rfl (by decide +kernel)) ?ki ?kg ?kt ?ke; (case ki => wtm_at "fo i"); (case kg => (intro _ _ _ _ _; wtm_at "fo g")); (case kt => (intro _ _ _ _ _; wtm_at "fo ts")); (case ke => (intro _ _ _ _ _; wtm_at "fo e")))
  | (refine' ps_setLcO (i := 2) (by assumption) (by exact rfl) (by exact rfl) (by wtm_at "fo own") (by decide +kernel) rfl rfl rfl (sw_true rfl rfl rfl (by decide +kernel)) ?ki ?kg ?kt ?ke; (case ki => wtm_at "fo i"); (case kg => (intro _ _ _ _ _; wtm_at "fo g")); (case kt => (intro _ _ _ _ _; wtm_at "fo ts")); (case ke => (intro _ _ _ _ _; wtm_at "fo e")))
  | (refine' ps_setLcO (i := 3) (by assumption) (by exact rfl) (by exact rfl) (by wtm_at "fo own") (by decide +kernel) rfl rfl rfl (sw_true rfl rfl rfl (by decide +kernel)) ?ki ?kg ?kt ?ke; (case ki => wtm_at "fo i"); (case kg => (intro _ _ _ _ _; wtm_at "fo g")); (case kt => (intro _ _ _ _ _; wtm_at "fo ts")); (case ke => (intro _ _ _ _ _; wtm_at "fo e")))
  | (refine' ps_setLcO (i := 4) (by assumption) (by exact rfl) (by exact rfl) (by wtm_at "fo own") (by decide +kernel) rfl rfl rfl (sw_true rfl rfl rfl (by decide +kernel)) ?ki ?kg ?kt ?ke; (case ki => wtm_at "fo i"); (case kg => (intro _ _ _ _ _; wtm_at "fo g")); (case kt => (intro _ _ _ _ _; wtm_at "fo ts")); (case ke => (intro _ _ _ _ _; wtm_at "fo e")))
  | (refine' ps_setLcO (i := 5) (by assumption) (by exact rfl) (by exact rfl) (by wtm_at "fo own") (by decide +kernel) rfl rfl rfl (sw_true rfl rfl rfl (by decide +kernel)) ?ki ?kg ?kt ?ke; (case ki => wtm_at "fo i"); (case kg => (intro _ _ _ _ _; wtm_at "fo g")); (case kt => (intro _ _ _ _ _; wtm_at "fo ts")); (case ke => (intro _ _ _ _ _; wtm_at "fo e")))
  | (refine' ps_setLcO (i := 6) (by assumption) (by exact rfl) (by exact rfl) (by wtm_at "fo own") (by decide +kernel) rfl rfl rfl (sw_true rfl rfl rfl (by decide +kernel)) ?ki ?kg ?kt ?ke; (case ki => wtm_at "fo i"); (case kg => (intro _ _ _ _ _; wtm_at "fo g")); (case kt => (intro _ _ _ _ _; wtm_at "fo ts")); (case ke => (intro _ _ _ _ _; wtm_at "fo e")))
  | (refine' ps_setLcO (i := 7) (by assumption) (by exact rfl) (by exact rfl) (by wtm_at "fo own") (by decide +kernel) rfl rfl rfl (sw_true rfl rfl rfl (by decide +kernel)) ?ki ?kg ?kt ?ke; (case ki => wtm_at "fo i"); (case kg => (intro _ _ _ _ _; wtm_at "fo g")); (case kt => (intro _ _ _ _ _; wtm_at "fo ts")); (case ke => (intro _ _ _ _ _; wtm_at "fo e")))
  | (refine' ps_setLcO (i := 8) (by assumption) (by exact rfl) (by exact rfl) (by wtm_at "fo own") (by decide +kernel) rfl rfl rfl (sw_true rfl rfl rfl (by decide +kernel)) ?ki ?kg ?kt ?ke; (case ki => wtm_at "fo i"); (case kg => (intro _ _ _ _ _; wtm_at "fo g")); (case kt => (intro _ _ _ _ _; wtm_at "fo ts")); (case ke => (intro _ _ _ _ _; wtm_at "fo e")))
  | (refine' ps_setLcO (i := 9) (by assumption) (by exact rfl) (by exact rfl) (by wtm_at "fo own") (by decide +kernel) rfl rfl rfl (sw_true rfl rfl rfl (by decide +kernel)) ?ki ?kg ?kt ?ke; (case ki => wtm_at "fo i"); (case kg => (intro _ _ _ _ _; wtm_at "fo g")); (case kt => (intro _ _ _ _ _; wtm_at "fo ts")); (case ke => (intro _ _ _ _ _; wtm_at "fo e")))
  | (refine' ps_setLcO (i := 10) (by assumption) (by exact rfl) (by exact rfl) (by wtm_at "fo own") (by decide +kernel) rfl rfl rfl (sw_true rfl rfl rfl (by decide +kernel)) ?ki ?kg ?kt ?ke; (case ki => wtm_at "fo i"); (case kg => (intro _ _ _ _ _; wtm_at "fo g")); (case kt => (intro _ _ _ _ _; wtm_at "fo ts")); (case ke => (intro _ _ _ _ _; wtm_at "fo e")))
  | (refine' ps_setLcO (i := 11) (by assumption) (by exact rfl) (by exact rfl) (by wtm_at "fo own") (by decide +kernel) rfl rfl rfl (sw_true rfl rfl rfl (by decide +kernel)) ?ki ?kg ?kt ?ke; (case ki => wtm_at "fo i"); (case kg => (intro _ _ _ _ _; wtm_at "fo g")); (case kt => (intro _ _ _ _ _; wtm_at "fo ts")); (case ke => (intro _ _ _ _ _; wtm_at "fo e")))
  | (refine' ps_setLcO (i := 12) (by assumption) (by exact rfl) (by exact rfl) (by wtm_at "fo own") (by decide +kernel) rfl rfl rfl (sw_true rfl rfl rfl (by decide +kernel)) ?ki ?kg ?kt ?ke; (case ki => wtm_at "fo i"); (case kg => (intro _ _ _ _ _; wtm_at "fo g")); (case kt => (intro _ _ _ _ _; wtm_at "fo ts")); (case ke => (intro _ _ _ _ _; wtm_at "fo e")))
  | (refine' ps_setLcO (i := 13) (by assumption) (by exact rfl) (by exact rfl) (by wtm_at "fo own") (by decide +kernel) rfl rfl rfl (sw_true rfl rfl rfl (by decide +kernel)) ?ki ?kg ?kt ?ke; (case ki => wtm_at "fo i"); (case kg => (intro _ _ _ _ _; wtm_at "fo g")); (case kt => (intro _ _ _ _ _; wtm_at "fo ts")); (case ke => (intro _ _ _ _ _; wtm_at "fo e")))
  | (refine' ps_setLcO (i := 14) (by assumption) (by exact rfl) (by exact rfl) (by wtm_at "fo own") (by decide +kernel) rfl rfl rfl (sw_true rfl rfl rfl (by decide +kernel)) ?ki ?kg ?kt ?ke; (case ki => wtm_at "fo i"); (case kg => (intro _ _ _ _ _; wtm_at "fo g")); (case kt => (intro _ _ _ _ _; wtm_at "fo ts")); (case ke => (intro _ _ _ _ _; wtm_at "fo e")))
  | (refine' ps_setLcO (i := 15) (by assumption) (by exact rfl) (by exact rfl) (by wtm_at "fo own") (by decide +kernel) rfl rfl rfl (sw_true rfl rfl rfl (by decide +kernel)) ?ki ?kg ?kt ?ke; (case ki => wtm_at "fo i"); (case kg => (intro _ _ _ _ _; wtm_at "fo g")); (case kt => (intro _ _ _ _ _; wtm_at "fo ts")); (case ke => (intro _ _ _ _ _; wtm_at "fo e")))
  | fail "no")
local macro_rules | `(tactic| wtm_at "fo set") => `(tactic| first
  | (refine' ps_set (i := 0) (by assumption) rfl (by first | exact Or.inl rfl | exact Or.inr rfl) ?ka; (case ka => wtm_at "fo e"))
  | (refine' ps_set (i := 1) (by assumption) rfl (by first | exact Or.inl rfl | exact Or.inr rfl) ?ka; (case ka => wtm_at "fo e"))
  | (refine' ps_set (i := 2) (by assumption) rfl (by first | exact Or.inl rfl | exact Or.inr rfl) ?ka; (case ka => wtm_at "fo e"))
  | (refine' ps_set (i := 3) (by assumption) rfl (by first | exact Or.inl rfl | exact Or.inr rfl) ?ka; (case ka => wtm_at "fo e"))
  | (refine' ps_set (i := 4) (by assumption) rfl (by first | exact Or.inl rfl | exact Or.inr rfl) ?ka; (case ka => wtm_at "fo e"))
  | (refine' ps_set (i := 5) (by assumption) rfl (by first | exact Or.inl rfl | exact Or.inr rfl) ?ka; (case ka => wtm_at "fo e"))
  | (refine' ps_set (i := 6) (by assumption) rfl (by first | exact Or.inl rfl | exact Or.inr rfl) ?ka; (case ka => wtm_at "fo e"))
  | (refine' ps_set (i := 7) (by assumption) rfl (by first | exact Or.inl rfl | exact Or.inr rfl) ?ka; (case ka => wtm_at "fo e"))
  | (refine' ps_set (i := 8) (by assumption) rfl (by first | exact Or.inl rfl | exact Or.inr rfl) ?ka; (case ka => wtm_at "fo e"))
  | (refine' ps_set (i := 9) (by assumption) rfl (by first | exact Or.inl rfl | exact Or.inr rfl) ?ka; (case ka => wtm_at "fo e"))
  | (refine' ps_set (i := 10) (by assumption) rfl (by first | exact Or.inl rfl | exact Or.inr rfl) ?ka; (case ka => wtm_at "fo e"))
  | (refine' ps_set (i := 11) (by assumption) rfl (by first | exact Or.inl rfl | exact Or.inr rfl) ?ka; (case ka => wtm_at "fo e"))
  | (refine' ps_set (i := 12) (by assumption) rfl (by first | exact Or.inl rfl | exact Or.inr rfl) ?ka; (case ka => wtm_at "fo e"))
  | (refine' ps_set (i := 13) (by assumption) rfl (by first | exact Or.inl rfl | exact Or.inr rfl) ?ka; (case ka => wtm_at "fo e"))
  | fail "no")
local macro_rules | `(tactic| wtm_at "fo t") => `(tactic| first
  | ((with_reducible show PT _ (.BoolOp _ _ _) _); apply PW.pt; wtm_at "fo w")
  | ((with_reducible show PT _ (.UnaryOp .Not _ _) _); apply pt_not; wtm_at "fo t")
  | ((with_reducible show PT _ (.Compare _ _ _ _) _); wtm_at "fo tcmp")
  | (refine' pt_truthK (by assumption) (by exact rfl) ?ka (by intro _; rfl); (case ka => wtm_at "fo e"))
  | fail "no")
local macro_rules | `(tactic| wtm_at "fo gn") => `(tactic| first
  | exact pg_name (i := 0) (by assumption) rfl (by first | exact Or.inl rfl | exact Or.inr rfl)
  | exact pg_name (i := 1) (by assumption) rfl (by first | exact Or.inl rfl | exact Or.inr rfl)
  | exact pg_name (i := 2) (by assumption) rfl (by first | exact Or.inl rfl | exact Or.inr rfl)
  | exact pg_name (i := 3) (by assumption) rfl (by first | exact Or.inl rfl | exact Or.inr rfl)
  | exact pg_name (i := 4) (by assumption) rfl (by first | exact Or.inl rfl | exact Or.inr rfl)
  | exact pg_name (i := 5) (by assumption) rfl (by first | exact Or.inl rfl | exact Or.inr rfl)
  | exact pg_name (i := 6) (by assumption) rfl (by first | exact Or.inl rfl | exact Or.inr rfl)
  | exact pg_name (i := 7) (by assumption) rfl (by first | exact Or.inl rfl | exact Or.inr rfl)
  | exact pg_name (i := 8) (by assumption) rfl (by first | exact Or.inl rfl | exact Or.inr rfl)
  | exact pg_name (i := 9) (by assumption) rfl (by first | exact Or.inl rfl | exact Or.inr rfl)
  | exact pg_name (i := 10) (by assumption) rfl (by first | exact Or.inl rfl | exact Or.inr rfl)
  | exact pg_name (i := 11) (by assumption) rfl (by first | exact Or.inl rfl | exact Or.inr rfl)
  | exact pg_name (i := 12) (by assumption) rfl (by first | exact Or.inl rfl | exact Or.inr rfl)
  | exact pg_name (i := 13) (by assumption) rfl (by first | exact Or.inl rfl | exact Or.inr rfl)
  | exact pg_name (i := 14) (by assumption) rfl (by first | exact Or.inl rfl | exact Or.inr rfl)
  | exact pg_name (i := 15) (by assumption) rfl (by first | exact Or.inl rfl | exact Or.inr rfl)
  | fail "no")
local macro_rules | `(tactic| wtm_at "fo par") => `(tactic| first
  | (refine' ps_par (i := 0) (j := 1) rfl (by assumption) rfl rfl (by decide) rfl rfl ?ka (by rfl); (case ka => wtm_at "fo a"))
  | (refine' ps_par (i := 1) (j := 2) rfl (by assumption) rfl rfl (by decide) rfl rfl ?ka (by rfl); (case ka => wtm_at "fo a"))
  | (refine' ps_par (i := 2) (j := 3) rfl (by assumption) rfl rfl (by decide) rfl rfl ?ka (by rfl); (case ka => wtm_at "fo a"))
  | (refine' ps_par (i := 3) (j := 4) rfl (by assumption) rfl rfl (by decide) rfl rfl ?ka (by rfl); (case ka => wtm_at "fo a"))
  | (refine' ps_par (i := 4) (j := 5) rfl (by assumption) rfl rfl (by decide) rfl rfl ?ka (by rfl); (case ka => wtm_at "fo a"))
  | (refine' ps_par (i := 5) (j := 6) rfl (by assumption) rfl rfl (by decide) rfl rfl ?ka (by rfl); (case ka => wtm_at "fo a"))
  | (refine' ps_par (i := 6) (j := 7) rfl (by assumption) rfl rfl (by decide) rfl rfl ?ka (by rfl); (case ka => wtm_at "fo a"))
  | (refine' ps_par (i := 7) (j := 8) rfl (by assumption) rfl rfl (by decide) rfl rfl ?ka (by rfl); (case ka => wtm_at "fo a"))
  | (refine' ps_par (i := 8) (j := 9) rfl (by assumption) rfl rfl (by decide) rfl rfl ?ka (by rfl); (case ka => wtm_at "fo a"))
  | (refine' ps_par (i := 9) (j := 10) rfl (by assumption) rfl rfl (by decide) rfl rfl ?ka (by rfl); (case ka => wtm_at "fo a"))
  | (refine' ps_par (i := 10) (j := 11) rfl (by assumption) rfl rfl (by decide) rfl rfl ?ka (by rfl); (case ka => wtm_at "fo a"))
  | (refine' ps_par (i := 11) (j := 12) rfl (by assumption) rfl rfl (by decide) rfl rfl ?ka (by rfl); (case ka => wtm_at "fo a"))
  | (refine' ps_par (i := 12) (j := 13) rfl (by assumption) rfl rfl (by decide) rfl rfl ?ka (by rfl); (case ka => wtm_at "fo a"))
  | (refine' ps_par (i := 13) (j := 14) rfl (by assumption) rfl rfl (by decide) rfl rfl ?ka (by rfl); (case ka => wtm_at "fo a"))
  | (refine' ps_par (i := 14) (j := 15) rfl (by assumption) rfl rfl (by decide) rfl rfl ?ka (by rfl); (case ka => wtm_at "fo a"))
  | fail "no")
local macro_rules | `(tactic| wtm_at "fo g") => `(tactic| first
  | ((with_reducible show PG _ (.Name _ _) _); wtm_at "fo gn")
  | ((with_reducible show PG _ (.Tuple _ _ _) _); apply PG_or; (· refine' pg_tup2 (by assumption) (by exact rfl) rfl ?kg; (case kg => wtm_at "fo gs")); (· refine' pg_unl2 (by assumption) (by exact rfl) rfl ?kg; (case kg => wtm_at "fo gs")))
  | fail "no")
local macro_rules | `(tactic| wtm_at "fo gs") => `(tactic| first
  | exact pgs_nil
  | (refine' pgs_cons ?k1 ?k2; (case k1 => wtm_at "fo g"); (case k2 => wtm_at "fo gs"))
  | fail "no")
local macro_rules | `(tactic| wtm_at "fo i") => `(tactic| first
  | ((with_reducible show PI _ _ (.Call (.Name (Str.ofString "range") _) [_] _ _) _); refine' pi_range1 (by rfl) (by assumption) ?ka; (case ka => wtm_at "fo a"))
  | ((with_reducible show PI _ _ (.Call (.Name (Str.ofString "range") _) [_, _] _ _) _); refine' pi_range2 (by rfl) (by assumption) ?ka; (case ka => wtm_at "fo a"))
  | ((with_reducible show PI _ _ (.Call (.Name (Str.ofString "enumerate") _) [_] _ _) _); refine' pi_enum (by rfl) (by assumption) ?ka; (case ka => wtm_at "fo a"))
  | (refine' pi_listK (by assumption) (by exact rfl) ?ka; (case ka => wtm_at "fo e"))
  | fail "no")
local macro_rules | `(tactic| wtm_at "fo s") => `(tactic| first
  | ((with_reducible show PS _ (.While _ _ _ _) _); refine' ps_while PassesOwn.never ?kt ?kb; (case kt => wtm_at "fo t"); (case kb => wtm_at "fo ss"))
  | ((with_reducible show PS _ (.For _ _ _ _ _) _); refine' ps_for PassesOwn.never rfl ?ki ?kg ?kb; (case ki => wtm_at "fo i"); (case kg => wtm_at "fo g"); (case kb => wtm_at "fo ss"))
  | ((with_reducible show PS _ (.Assign [.Name _ _] (.ListComp _ [_] _ _) _) _); wtm_at "fo setlc")
  | ((with_reducible show PS _ (.Assign [.Name _ _] _ _) _); wtm_at "fo set")
  | ((with_reducible show PS _ (.Assign [.Tuple [.Name _ _, .Name _ _] _ _] (.Tuple [_, _] _ _) _) _); wtm_at "fo par")
  | ((with_reducible show PS _ (.Assign [.Subscript _ _ _] _ _) _); refine' ps_asg ?ka (pg_sub ?kb ?kc set_list); (case ka => wtm_at "fo e"); (case kb => wtm_at "fo e"); (case kc => wtm_at "fo e"))
  | ((with_reducible show PS _ (.Return (some _) _) _); apply ps_ret; wtm_at "fo e")
  | ((with_reducible show PS _ (.Expr _ _) _); refine' ps_expr ?ka; (case ka => wtm_at "fo e"))
  | ((with_reducible show PS _ (.If _ _ _ _) _); apply ps_if; (· wtm_at "fo t"); (· wtm_at "fo ss"); (· wtm_at "fo ss"))
  | fail "no")
local macro_rules | `(tactic| wtm_at "fo ss") => `(tactic| first
  | with_reducible exact pss_nil
  | ((with_reducible show PSs _ [_] _); apply pss_one; wtm_at "fo s")
  | (apply pss_cons; (· wtm_at "fo s"); (· wtm_at "fo ss"))
  | fail "no")
local macro_rules | `(tactic| wtm_at "fo hp") => `(tactic| first
  | assumption
  | exact upd_same
  | (refine (upd_ne ?ne).trans ?hp; (case ne => wtm_at "fo ne"); (case hp => wtm_at "fo hp"))
  | fail "no")
local macro_rules | `(tactic| wtm_at "fo ne") => `(tactic| first
  | assumption
  | (apply Ne.symm; assumption)
  | exact ne_of_none (by assumption) (by assumption)
  | exact Ne.symm (ne_of_none (by assumption) (by assumption))
  | fail "no")
local macro_rules | `(tactic| wtm_at "fo sz") => `(tactic| first
  | exact (Nat.le_of_ble_eq_true rfl : _ ≤ sizeLine)
  | exact (Nat.le_of_ble_eq_true rfl : _ < sizeLine)
  | exact Nat.lt_of_le_of_lt (m := 100000) (by first | assumption | omega | (simp; omega)) (by decide)
  | exact Nat.le_trans (m := 100000) (by first | assumption | omega | (simp; omega)) (by decide)
  | fail "no")
local macro_rules | `(tactic| wtm_at "fo r1") => `(tactic| first
  | refine ⟨(Nat.le_of_ble_eq_true rfl : _ ≤ sizeLine), fun p np => ?_⟩
  | (refine' ⟨_, _, rfl, Or.inl (SqL.of ?h), ?_⟩; (case h => wtm_at "fo hp"))
  | refine ⟨_, rfl, ?_⟩
  | refine ⟨_, _, rfl, rfl, ?_⟩
  | refine ⟨_, _, rfl, ⟨by omega, by omega, by omega, by omega⟩, ?_⟩
  | refine ⟨_, rfl, by omega, by omega, ?_⟩
  | refine Or.inl ⟨_, rfl, ?_⟩
  | refine Or.inl ⟨rfl, ?_⟩
  | refine Or.inl ⟨_, _, rfl, rfl, ?_⟩
  | (refine' Or.inl ⟨_, _, _, _, rfl, rfl, SqL.of ?h, ?a, ?_⟩; (case h => wtm_at "fo hp"); (case a => rfl))
  | (refine' ⟨_, _, _, _, rfl, rfl, ?h, ?a, ?_⟩; (case h => wtm_at "fo hp"); (case a => rfl))
  | (refine' ⟨.inl ⟨rfl, _, SqL.of ?h⟩, ?_⟩; (case h => wtm_at "fo hp"))
  | (refine' ⟨_, _, _, rfl, rfl, ?h, ?z, ?_⟩; (case h => wtm_at "fo hp"); (case z => wtm_at "fo sz"))
  | (refine' ⟨_, rfl, ⟨_, SqL.of ?h⟩, ?_⟩; (case h => wtm_at "fo hp"))
  | fail "no")
local macro_rules | `(tactic| wtm_at "fo side") => `(tactic| ((try dsimp only [CMul, CDiv]); first
  | assumption
  | decide
  | omega
  | exact ⟨by decide, by decide⟩
  | exact ⟨by omega, by omega⟩
  | decide +kernel
  | fail "no"))
local macro_rules | `(tactic| wtm_at "fo r2") => `(tactic| first
  | wtm_at "fo r1"
  | refine And.intro (by wtm_at "fo side") ?_
  | fail "no")
local macro_rules | `(tactic| wtm_at "fo r") => `(tactic| repeat wtm_at "fo r2")
local macro_rules | `(tactic| wtm_at "fo v") => `(tactic| first
  | ((with_reducible show PE _ (.Name (Str.ofString "int") _) _); exact pe_bltn (v := .ty "int") (by rfl) (by assumption) (by decide +kernel) rfl)
  | ((with_reducible show PE _ (.Name (Str.ofString "list") _) _); exact pe_bltn (v := .ty "list") (by rfl) (by assumption) (by decide +kernel) rfl)
  | ((with_reducible show PE _ (.Name (Str.ofString "MOST_PLACES") _) _); exact pe_glob (v := .int 12) (by rfl) (by assumption) ⟨_, rfl⟩)
  | fail "no")
local macro_rules | `(tactic| wtm_at "fo e") => `(tactic| first
  | ((with_reducible show PE _ (.BoolOp .And [_] _) _); apply pe_one; wtm_at "fo e")
  | ((with_reducible show PE _ (.BoolOp .And _ _) _); apply pe_and; (· wtm_at "fo e"); (· wtm_at "fo e"))
  | ((with_reducible show PE _ (.Compare _ [.IsNot] [.Constant (.bool true) _ _] _) _); refine' pe_cmpR op_notT ?ka ?kb (nomark _); (case ka => wtm_at "fo e"); (case kb => wtm_at "fo e"))
  | ((with_reducible show PE _ (.Compare _ [.LtE, .LtE] _ _) _); refine' pe_chain op_le op_le ?ka ?kb ?kc; (case ka => wtm_at "fo e"); (case kb => wtm_at "fo e"); (case kc => wtm_at "fo e"))
  | ((with_reducible show PE _ (.Call (.Name (Str.ofString "isinstance") _) _ _ _) _); refine' pe_callB (call_isiK' (by assumption) (by exact rfl)) (by rfl) (by assumption) (by decide +kernel) ?ka; (case ka => wtm_at "fo a"))
  | ((with_reducible show PE _ (.Call (.Attribute _ (Str.ofString "bit_length") _) [] [] _) _); refine' pe_bits ?ka; (case ka => wtm_at "fo e"))
  | fail "no")
local macro_rules | `(tactic| wtm_at "fo t") => `(tactic| first
  | ((with_reducible show PT _ (.Compare _ [.IsNot] [.Constant (.bool true) _ _] _) _); refine' pt_cmpR op_notT ?ka ?kb (nomark _); (case ka => wtm_at "fo e"); (case kb => wtm_at "fo e"))
  | ((with_reducible show PT _ (.Compare _ [.Lt, .Lt, .LtE] _ _) _); refine' pt_chain3 op_lt op_lt op_le ?ka ?kb ?kc ?kd; (case ka => wtm_at "fo e"); (case kb => wtm_at "fo e"); (case kc => wtm_at "fo e"); (case kd => wtm_at "fo e"))
  | fail "no")
local macro_rules | `(tactic| wtm_at "fo s") => `(tactic| first
  | ((with_reducible show PS _ (.Raise _ _ _) _); exact ps_never)
  | ((with_reducible show PS _ (.Continue _) _); exact ps_continue)
  | ((with_reducible show PS _ (.AugAssign (.Subscript _ _ _) .BitOr _ _) _); refine' ps_augS ?ka ?kb get_list ?kc ip_or set_list; (case ka => wtm_at "fo e"); (case kb => wtm_at "fo e"); (case kc => wtm_at "fo e"))
  | ((with_reducible show PS _ (.Assign [.Tuple _ _ _] (.Name _ _) _) _); refine' ps_asg ?ka ?kb; (case ka => wtm_at "fo e"); (case kb => wtm_at "fo g"))
  | fail "no")
local macro_rules | `(tactic| wtm_at "fo lc") => `(tactic| (refine' pe_lcN (by assumption) (by exact rfl) (by exact rfl) (by wtm_at "fo own") (by kernel_rfl!) rfl ?ki ?kg ?kt ?ke; (case ki => wtm_at "fo i"); (case kg => (intro _ _ _ _ _; wtm_at "fo g")); (case kt => (intro _ _ _ _ _; wtm_at "fo ts")); (case ke => (intro _ _ _ _ _; wtm_at "fo e"))))
local macro_rules | `(tactic| wtm_at "fo s") => `(tactic| ((with_reducible show PS _ (.Assign [.Tuple _ _ _] (.Call _ _ _ _) _) _); refine' ps_asg ?ka ?kb; (case ka => wtm_at "fo e"); (case kb => wtm_at "fo g")))
local macro_rules | `(tactic| wtm_at "fo cmp") => `(tactic| ((with_reducible show PE _ (.Compare _ [.In] _ _) _); refine' pe_cmpR (op_inK (by assumption) (by exact rfl)) ?ka ?kb rfl; (case ka => wtm_at "fo e"); (case kb => wtm_at "fo e")))
local macro_rules | `(tactic| wtm_at "fo call") => `(tactic| ((with_reducible show PE _ (.Call (.Name (Str.ofString "list") _) [.Call (.Name (Str.ofString "range") _) [_] _ _] _ _) _); refine' pe_listRg rfl (by rfl) (by assumption) (prg_1 (by rfl) (by assumption) ?ka); (case ka => wtm_at "fo e")))
local macro_rules | `(tactic| wtm_at "fo call") => `(tactic| ((with_reducible show PE _ (.Call (.Name (Str.ofString "min") _) [_] _ _) _); refine' pe_callB (call_minK (by assumption) (by exact rfl) rfl) (by rfl) (by assumption) (by decide +kernel) ?ka; (case ka => wtm_at "fo a")))
local macro_rules | `(tactic| wtm_at "fo i") => `(tactic| ((with_reducible show PI _ _ (.Call (.Name (Str.ofString "reversed") _) [_] _ _) _); refine' pi_reversed (by rfl) (by assumption) ?ka; (case ka => wtm_at "fo a")))
local macro_rules | `(tactic| wtm_at "fo s") => `(tactic| ((with_reducible show PS _ (.AugAssign (.Name _ _) .BitXor _ _) _); first | (refine' ps_aug (i := 2) (by assumption) rfl (by first | exact Or.inl rfl | exact Or.inr rfl) ?ka ip_xor; (case ka => wtm_at "fo e")) | fail "no"))
local macro_rules | `(tactic| wtm_at "fo call") => `(tactic| (refine' pe_calG (by assumption) (by assumption) (by decide) (by assumption) (by rfl) ?ka; (case ka => wtm_at "fo a")))
local macro_rules | `(tactic| wtm_at "fo meth") => `(tactic| ((with_reducible show PE _ (.Call (.Attribute _ (Str.ofString "count") _) _ _ _) _); refine' pe_cntK (by assumption) (by exact rfl) ?ka ?kb; (case ka => wtm_at "fo e"); (case kb => wtm_at "fo a")))
local macro_rules | `(tactic| wtm_at "fo call") => `(tactic| ((with_reducible show PE _ (.Call (.Name (Str.ofString "sorted") _) [_] _ _) _); refine' pe_callB (cr_sortedB (by assumption) (by exact rfl) (Room.units (by assumption))) (by rfl) (by assumption) (by decide +kernel) ?ka; (case ka => wtm_at "fo a")))
local macro_rules | `(tactic| wtm_at "fo v") => `(tactic| first
  | exact pv 16
  | exact pv 17
  | exact pv 18
  | exact pv 19
  | fail "no")
local macro_rules | `(tactic| wtm_at "fo own") => `(tactic| first
  | ((show _ = [16]); kernel_rfl!)
  | ((show _ = [17]); kernel_rfl!)
  | ((show _ = [18]); kernel_rfl!)
  | ((show _ = [19]); kernel_rfl!)
  | ((show _ = [15, 16]); kernel_rfl!)
  | ((show _ = [16, 17]); kernel_rfl!)
  | ((show _ = [17, 18]); kernel_rfl!)
  | ((show _ = [18, 19]); kernel_rfl!)
  | fail "no")
local macro_rules | `(tactic| wtm_at "fo set") => `(tactic| first
  | (refine' ps_set (i := 14) (by assumption) rfl (by first | exact Or.inl rfl | exact Or.inr rfl) ?ka; (case ka => wtm_at "fo e"))
  | (refine' ps_set (i := 15) (by assumption) rfl (by first | exact Or.inl rfl | exact Or.inr rfl) ?ka; (case ka => wtm_at "fo e"))
  | (refine' ps_set (i := 16) (by assumption) rfl (by first | exact Or.inl rfl | exact Or.inr rfl) ?ka; (case ka => wtm_at "fo e"))
  | (refine' ps_set (i := 17) (by assumption) rfl (by first | exact Or.inl rfl | exact Or.inr rfl) ?ka; (case ka => wtm_at "fo e"))
  | (refine' ps_set (i := 18) (by assumption) rfl (by first | exact Or.inl rfl | exact Or.inr rfl) ?ka; (case ka => wtm_at "fo e"))
  | (refine' ps_set (i := 19) (by assumption) rfl (by first | exact Or.inl rfl | exact Or.inr rfl) ?ka; (case ka => wtm_at "fo e"))
  | fail "no")
local macro_rules | `(tactic| wtm_at "fo setlc") => `(tactic| first
  | (refine' ps_setLcO (i := 16) (by assumption) (by exact rfl) (by exact rfl) (by wtm_at "fo own") (by decide +kernel) rfl rfl rfl (sw_true rfl rfl rfl (by decide +kernel)) ?ki ?kg ?kt ?ke; (case ki => wtm_at "fo i"); (case kg => (intro _ _ _ _ _; wtm_at "fo g")); (case kt => (intro _ _ _ _ _; wtm_at "fo ts")); (case ke => (intro _ _ _ _ _; wtm_at "fo e")))
  | (refine' ps_setLcO (i := 17) (by assumption) (by exact rfl) (by exact rfl) (by wtm_at "fo own") (by decide +kernel) rfl rfl rfl (sw_true rfl rfl rfl (by decide +kernel)) ?ki ?kg ?kt ?ke; (case ki => wtm_at "fo i"); (case kg => (intro _ _ _ _ _; wtm_at "fo g")); (case kt => (intro _ _ _ _ _; wtm_at "fo ts")); (case ke => (intro _ _ _ _ _; wtm_at "fo e")))
  | (refine' ps_setLcO (i := 18) (by assumption) (by exact rfl) (by exact rfl) (by wtm_at "fo own") (by decide +kernel) rfl rfl rfl (sw_true rfl rfl rfl (by decide +kernel)) ?ki ?kg ?kt ?ke; (case ki => wtm_at "fo i"); (case kg => (intro _ _ _ _ _; wtm_at "fo g")); (case kt => (intro _ _ _ _ _; wtm_at "fo ts")); (case ke => (intro _ _ _ _ _; wtm_at "fo e")))
  | (refine' ps_setLcO (i := 19) (by assumption) (by exact rfl) (by exact rfl) (by wtm_at "fo own") (by decide +kernel) rfl rfl rfl (sw_true rfl rfl rfl (by decide +kernel)) ?ki ?kg ?kt ?ke; (case ki => wtm_at "fo i"); (case kg => (intro _ _ _ _ _; wtm_at "fo g")); (case kt => (intro _ _ _ _ _; wtm_at "fo ts")); (case ke => (intro _ _ _ _ _; wtm_at "fo e")))
  | fail "no")
local macro_rules | `(tactic| wtm_at "fo gn") => `(tactic| first
  | exact pg_name (i := 16) (by assumption) rfl (by first | exact Or.inl rfl | exact Or.inr rfl)
  | exact pg_name (i := 17) (by assumption) rfl (by first | exact Or.inl rfl | exact Or.inr rfl)
  | exact pg_name (i := 18) (by assumption) rfl (by first | exact Or.inl rfl | exact Or.inr rfl)
  | exact pg_name (i := 19) (by assumption) rfl (by first | exact Or.inl rfl | exact Or.inr rfl)
  | fail "no")
local macro_rules | `(tactic| wtm_at "fo s") => `(tactic| ((with_reducible show PS _ (.Assign [.Tuple _ _ _] (.Tuple _ _ _) _) _); refine' ps_asg ?ka ?kb; (case ka => wtm_at "fo e"); (case kb => wtm_at "fo g")))
local macro_rules | `(tactic| wtm_at "fo e") => `(tactic| first
  | ((with_reducible show PE _ (.UnaryOp .Invert _ _) _); apply pe_un un_inv; wtm_at "fo e")
  | ((with_reducible show PE _ (.BoolOp .Or [_] _) _); apply pe_one; wtm_at "fo e")
  | ((with_reducible show PE _ (.BoolOp .Or _ _) _); apply pe_or; (· wtm_at "fo e"); (· wtm_at "fo e"))
  | ((with_reducible show PE _ (.BinOp _ .Mult _ _) _); apply pe_op opMulB <;> wtm_at "fo e")
  | ((with_reducible show PE _ (.BinOp _ .BitOr _ _) _); apply pe_op op_or <;> wtm_at "fo e")
  | ((with_reducible show PE _ (.Compare _ [.Is] [.Constant .none _ _] _) _); refine' pe_cmpR op_isN ?ka ?kb (nomark _); (case ka => wtm_at "fo e"); (case kb => wtm_at "fo e"))
  | fail "no")
local macro_rules | `(tactic| wtm_at "fo t") => `(tactic| first
  | ((with_reducible show PT _ (.Compare _ [.Is] [.Constant .none _ _] _) _); refine' pt_cmpR op_isN ?ka ?kb (nomark _); (case ka => wtm_at "fo e"); (case kb => wtm_at "fo e"))
  | ((with_reducible show PT _ (.Compare _ [.IsNot] [.Constant .none _ _] _) _); refine' pt_cmpR op_notN ?ka ?kb (nomark _); (case ka => wtm_at "fo e"); (case kb => wtm_at "fo e"))
  | fail "no")
local macro_rules | `(tactic| wtm_at "fo i") => `(tactic| first
  | ((with_reducible show PI _ _ (.Call (.Name (Str.ofString "enumerate") _) [_, _] [] _) _); refine' pi_enumC (by assumption) (by exact rfl) (by rfl) (by assumption) ?ka; (case ka => wtm_at "fo a"))
  | ((with_reducible show PI _ _ (.Call (.Name (Str.ofString "enumerate") _) [_] [_] _) _); refine' pi_enumS (by assumption) (by exact rfl) (by rfl) (by assumption) ?ka ?kb; (case ka => wtm_at "fo a"); (case kb => wtm_at "fo k"))
  | fail "no")
local macro_rules | `(tactic| wtm_at "fo own") => `(tactic| first
  | ((show _ = [2, 4]); kernel_rfl!)
  | ((show _ = [4, 2]); kernel_rfl!)
  | fail "no")
local macro_rules | `(tactic| wtm_at "fo v") => `(tactic| ((with_reducible show PE _ (.Name (Str.ofString "tuple") _) _); exact pe_bltn (v := .ty "tuple") (by rfl) (by assumption) (by decide +kernel) rfl))
local macro_rules | `(tactic| wtm_at "fo slice") => `(tactic| ((with_reducible show PE _ (.Subscript _ (.Slice none none (some _) _) _) _); refine' pe_stepK2 (by assumption) (by exact rfl) ?ka ?kb; (case ka => wtm_at "fo e"); (case kb => wtm_at "fo e")))
local macro_rules | `(tactic| wtm_at "fo e") => `(tactic| ((with_reducible show PE _ (.Call (.Name (Str.ofString "repr") _) [_] _ _) _); refine' pe_callB (call_reprVK (by assumption) (by exact rfl) (by assumption) (Room.units (by assumption))) (by rfl) (by assumption) (by decide +kernel) ?ka; (case ka => wtm_at "fo a")))
local macro_rules | `(tactic| wtm_at "fo tcmp") => `(tactic| ((with_reducible show PT _ (.Compare _ [.NotIn] _ _) _); refine' pt_cmpR (op_notInDK (by assumption) (by exact rfl) (by assumption)) ?ka ?kb rfl; (case ka => wtm_at "fo e"); (case kb => wtm_at "fo e")))
variable {P : Program} {w : World} {K : PySem.W.Frag} {mg : Str → Option Value} {base : Heap}
/-! ### steps_right -/
@[irreducible] def spSteps : Sp := fun vs H Q _ => ∃ (d q2 q s t : Addr) (k : Int) (m n : Nat) (fs es : List Edge) (xs ys : List Int), vs = [.ref d, .int n, .ref q2, .int m, .ref q, .ref s, .ref t] ∧ Dr H d k ∧ k ≤ 800000 ∧ 1 ≤ m ∧ m ≤ 12 ∧ Pairs H q fs ∧ Simp m fs ∧ fs.length ≤ 200 ∧ 1 ≤ n ∧ n ≤ 12 ∧ Pairs H q2 es ∧ Simp n es ∧ es.length ≤ 200 ∧ H s = some (iL xs) ∧ Stds m n xs ∧ StandOk es fs xs ∧ H t = some (iL ys) ∧ Stds m n ys ∧ StandOk es fs ys ∧
  ∀ H' k', SameBut d H H' → Dr H' d k' → k' ≤ k + 100 → Q (.bl true) H'
theorem call_steps {d q2 q s t : Addr} {k : Int} {m n : Nat} {fs es : List Edge} {xs ys : List Int} {H : Hp} {Q : VK} {E : XK} (hd : Dr H d k) (hk : k ≤ 800000) (a1 : 1 ≤ m) (a2 : m ≤ 12) (a3 : Pairs H q fs) (a4 : Simp m fs) (a5 : fs.length ≤ 200) (b1 : 1 ≤ n) (b2 : n ≤ 12) (b3 : Pairs H q2 es) (b4 : Simp n es) (b5 : es.length ≤ 200) (c1 : H s = some (iL xs)) (c2 : Stds m n xs) (c3 : StandOk es fs xs) (d1 : H t = some (iL ys)) (d2 : Stds m n ys) (d3 : StandOk es fs ys)
    (fin : ∀ H' k', SameBut d H H' → Dr H' d k' → k' ≤ k + 100 → Q (.bl true) H') : spSteps [.ref d, .int n, .ref q2, .int m, .ref q, .ref s, .ref t] H Q E := by
  unfold spSteps
  exact ⟨d, q2, q, s, t, k, m, n, fs, es, xs, ys, rfl, hd, hk, a1, a2, a3, a4, a5, b1, b2, b3, b4, b5, c1, c2, c3, d1, d2, d3, fin⟩
set_option maxHeartbeats 16000000 in
noncomputable def derSteps (f : Addr) (cdv : Value) (A : Around) (outer : List Env) (s0 : Shared) (H : Hp) (E : XK) (hr : Room 6 (A.deeper (envOfC "_law_steps_right" (defScope s_law_steps_right) s0.heap.objs.size f cdv))) (hgd : A.guards = some []) (mp : mg "repr" = none) (mn : mg "len" = none)
    (C0 : Cal P w K mg base "_law_near" 1 ["_law_size", "_law_sides"] spNear) (C1 : Cal P w K mg base "_law_full" 2 ["_law_draws_here", "_law_near_here", "_law_size"] spLFull)
    (C2 : Cal P w K mg base "all_lead" 6 ["places", "lines"] spAllLead) (C3 : KCal P w K mg base "all_lead" 6 ["places", "lines"] ["lines", "places"] g2 g2 spAllLead)
    (C4 : Cal P w K mg base "steps_between" 4 ["people", "ties", "places", "lines", "standing", "goal"] spBetween) (C5 : KCal P w K mg base "steps_between" 4 ["people", "ties", "places", "lines", "standing", "goal"] ["goal", "standing", "lines", "places", "ties", "people"] g6 g6 spBetween)
    (C6 : Cal P w K mg base "_law_may" 2 ["_law_near_here", "_law_knots", "_law_spots"] spLMay) (C7 : Cal P w K mg base "_law_gone" 1 ["_law_spots", "_law_step"] spGone) :
    PSigma fun t => PSs (cxOf CX0 P w K mg base ["_law_draws_here", "_law_size", "_law_sides", "_law_crowd", "_law_knots", "_law_spots", "_law_aim", "_law_near_here", "_law_before", "_law_folds_whole", "_law_told", "_law_now", "_law_step"] "_law_steps_right" (defScope s_law_steps_right) f cdv A outer s0 H E).nox (defBody s_law_steps_right) t := by
  have nd := sc_law_steps_right.nd
  have hS := sc_law_steps_right
  have hKM : KMark K := ⟨⟩
  refine' mkSig ?h
  case h =>
    show PSs _ [_, _, _, _, _, _, _, _, _, _, _, _, _] _
    wtm_at "fo ss"
end
/-! piece TX -/
section
variable {P : Program} {w : World} {K : PySem.W.Frag} {mg : Str → Option Value} {base : Heap}
@[irreducible] def befD4 (es fs : List Edge) (xs ys : List Int) : PyData := .list [dE es, dE fs, dI xs, dI ys]
theorem dok_bef4 {m n : Nat} {es fs : List Edge} {xs ys : List Int} (hS : Simp n es) (hSf : Simp m fs) (hn : n ≤ 12) (hm : m ≤ 12) (l1 : es.length ≤ 200) (l2 : fs.length ≤ 200) (st : Stds m n xs) (st2 : Stds m n ys) : DOk 3 20000 (befD4 es fs xs ys) := by
  unfold befD4
  refine (dok_list (n := 2) (b := 4500) (xs := [dE es, dE fs, dI xs, dI ys]) fun x hx => ?_).mono (Nat.le_refl _) (by simp)
  simp only [List.mem_cons, List.not_mem_nil, or_false] at hx
  rcases hx with rfl | rfl | rfl | rfl
  · exact (dok_dE (hS.small (by omega))).mono (Nat.le_refl _) (by omega)
  · exact (dok_dE (hSf.small (by omega))).mono (Nat.le_refl _) (by omega)
  · exact (dok_dI fun x hx => by have := st.rng x hx; omega).mono (by decide) (by rw [st.len]; omega)
  · exact (dok_dI fun x hx => by have := st2.rng x hx; omega).mono (by decide) (by rw [st2.len]; omega)
theorem dp_bef4 {K : PySem.W.Frag} {H : Hp} {p a b c e : Addr} {es fs : List Edge} {xs ys : List Int} (hp : H p = some (.lst [.ref a, .ref b, .ref c, .ref e])) (ha : Pairs H a es) (hb : Pairs H b fs) (hc : H c = some (iL xs)) (he : H e = some (iL ys)) : Dp K H (.ref p) (befD4 es fs xs ys) := by
  unfold befD4
  exact .lst (SqL.of hp) (.cons (dp_dE ha) (.cons (dp_dE hb) (.cons (dp_dI (SqL.of hc)) (.cons (dp_dI (SqL.of he)) .nil))))
theorem EndOf.both {n : Nat} {es ps ps2 : List Edge} {left left2 : List Int} (h : EndOf n es ps left) (h2 : EndOf n es ps2 left2) : left = left2 ∧ ps = ps2 := by
  have e := h.is.symm.trans h2.is
  exact ⟨congrArg Prod.fst e, congrArg Prod.snd e⟩
theorem Wk.small {n m : Nat} {es fs : List Edge} (hn : n ≤ 12) (hm : m ≤ 12) {xs ys : List Int} {l : List Edge} (h : Wk n m es fs xs l ys) : ∀ e ∈ l, e.1.natAbs < 1000 ∧ e.2.natAbs < 1000 := by
  induction h with
  | nil xs => exact fun e h => nomatch h
  | cons a r ih =>
    intro e he
    rcases List.mem_cons.mp he with rfl | he
    · exact may_small hn hm _ a
    · exact ih e he
theorem bools_data (b : Bool) : (PyData.list [.bool b, .bool b]).showable = true ∧ (PyData.list [.bool b, .bool b]).hasDict = false ∧ (PyData.list [.bool b, .bool b]).depth ≤ 60 ∧ (PyData.list [.bool b, .bool b]).shown.length ≤ sizeLine := by
  refine ⟨by cases b <;> rfl, by cases b <;> rfl, by cases b <;> decide, Nat.le_trans (m := 100) (by cases b <;> decide) (by decide)⟩
set_option maxHeartbeats 16000000 in
theorem ok_steps {f : Addr} {fd : FuncData} (F : Fun K "_law_steps_right" "_law_steps_right" s_law_steps_right f fd) (mp : mg "repr" = none) (mn : mg "len" = none)
    (C0 : Cal P w K mg base "_law_near" 1 ["_law_size", "_law_sides"] spNear) (C1 : Cal P w K mg base "_law_full" 2 ["_law_draws_here", "_law_near_here", "_law_size"] spLFull)
    (C2 : Cal P w K mg base "all_lead" 6 ["places", "lines"] spAllLead) (C3 : KCal P w K mg base "all_lead" 6 ["places", "lines"] ["lines", "places"] g2 g2 spAllLead)
    (C4 : Cal P w K mg base "steps_between" 4 ["people", "ties", "places", "lines", "standing", "goal"] spBetween) (C5 : KCal P w K mg base "steps_between" 4 ["people", "ties", "places", "lines", "standing", "goal"] ["goal", "standing", "lines", "places", "ties", "people"] g6 g6 spBetween)
    (C6 : Cal P w K mg base "_law_may" 2 ["_law_near_here", "_law_knots", "_law_spots"] spLMay) (C7 : Cal P w K mg base "_law_gone" 1 ["_law_spots", "_law_step"] spGone) :
    FnG P w K mg base CX0 7 f fd ["_law_draws_here", "_law_size", "_law_sides", "_law_crowd", "_law_knots", "_law_spots", "_law_aim"] spSteps := by
  refine okG F sc_law_steps_right (fun vs H Q E h => ?_) (fun cdv A outer s0 H vs Q E hr hgd h => ?_)
  · unfold spSteps at h
    obtain ⟨d, q2, q, s, t, k, m, n, fs, es, xs, ys, rfl, _⟩ := h
    rfl
  · have nd := sc_law_steps_right.nd
    have hS := sc_law_steps_right
    have hKM : KMark K := ⟨⟩
    refine ⟨_, (derSteps (P := P) (w := w) (K := K) (mg := mg) (base := base) f cdv A outer s0 H E hr hgd mp mn C0 C1 C2 C3 C4 C5 C6 C7).2, ?_⟩
    unfold derSteps mkSig
    dsimp only
    next =>
     unfold spSteps at h
     obtain ⟨d, q2, q, s, t, k, m, n, fs, es, xs, ys, rfl, hd, hk, a1, a2, a3, a4, a5, b1, b2, b3, b4, b5, c1, c2, c3, d1, d2, d3, fin⟩ := h
     wtm_at "fo r"
     refine call_near b2 b3 b5 (fun e he => by have := b4.rng e he; omega) (fun qn H1 sm1 nq hq => ?_)
     have okB := dok_bef4 b4 a4 b2 a2 b5 a5 c2 d2
     have szB : (befD4 es fs xs ys).shown.length ≤ sizeLine := Nat.le_trans okB.len (by decide)
     refine ⟨_, rfl, _, rfl, _, rfl, _, rfl, (Nat.le_of_ble_eq_true rfl : _ ≤ sizeLine), fun t1 nt1 => ?_⟩
     have smt : Same H1 (upd H1 t1 (.lst [.ref q2, .ref q, .ref s, .ref t])) := same_upd (Same.refl _) nt1
     have ht1 : (upd H1 t1 (.lst [.ref q2, .ref q, .ref s, .ref t])) t1 = some (.lst [.ref q2, .ref q, .ref s, .ref t]) := upd_same
     generalize upd H1 t1 (.lst [.ref q2, .ref q, .ref s, .ref t]) = H2 at *
     have s2 := sm1.trans smt
     have hq2 : Lists H2 qn (nearM n es) := Lists.same hq smt
     have hd2 := hd.same s2
     refine Or.inr ⟨t1, befD4 es fs xs ys, rfl, dp_bef4 ht1 (b3.same s2) (a3.same s2) (s2 _ _ c1) (s2 _ _ d1), okB.sh, okB.nd, Nat.le_trans okB.dep (by decide), szB, ?_⟩
     refine ⟨_, rfl, _, rfl, _, rfl, ?_⟩
     refine call_lfull hd2 (by omega) b1 b2 b4 hq2 (fun p a b rs0 ps0 left H3 k3 sb3 np na nb hp hT hb hR hst hd3 hk3 => ?_)
     refine Or.inr (Or.inl ⟨p, _, 1, .ref b, rfl, rfl, SqT.of hp, rfl, b, _, rfl, Or.inl (SqL.of hb), Or.inl ⟨rfl, ?_⟩⟩)
     have hlen1 : decide (V.int ((left.map V.int).length : Nat) = V.int 1) = decide (left.length = 1) := by
       rw [List.length_map]
       by_cases h : left.length = 1
       · rw [decide_eq_true h, h]; rfl
       · rw [decide_eq_false h]
         exact decide_eq_false fun e => h (by have := V.int.inj e; omega)
     rw [hlen1]
     have sb03 : SameBut d H H3 := (Same.but d s2).trans sb3
     have hq3 : Lists H3 qn (nearM n es) := hq2.but sb3 hd2
     have e3 := b3.but sb03 hd
     have f3 := a3.but sb03 hd
     have x3 := sb03 _ _ (hd.ne_ints c1) c1
     have y3 := sb03 _ _ (hd.ne_ints d1) d1
     have hends : ∀ {ps2 left2}, EndOf n es ps2 left2 → left2.length = left.length := fun hE => (ends_eq hR hst hE.run hE.st).symm
     clear hp hT hb np na nb ht1 smt nt1 hq hq2 sm1 nq
     generalize hbb : decide (left.length = 1) = fw at *
     have bd := bools_data fw
     show tNext _ [some (.ref d), some (.int n), some (.ref q2), some (.int m), some (.ref q), some (.ref s), some (.ref t), some (.ref qn), some (.str (befD4 es fs xs ys).shown), some (.bl fw), none, none, none] H3
     refine ⟨_, rfl, _, rfl, ?_⟩
     refine call_alllead b1 b2 e3 b4 b5 (fun ps4 left4 H4 hE4 sm4 => ?_)
     rw [show decide (left4.length = 1) = fw by rw [hends hE4]; exact hbb]
     refine ⟨_, rfl, _, rfl, ?_⟩
     refine call_alllead b1 b2 (e3.same sm4) b4 b5 (fun ps5 left5 H5 hE5 sm5 => ?_)
     rw [show decide (left5.length = 1) = fw by rw [hends hE5]; exact hbb]
     refine ⟨(Nat.le_of_ble_eq_true rfl : _ ≤ sizeLine), fun t6 nt6 => ?_⟩
     have s36 := (sm4.trans sm5).trans (same_upd (o := .lst [.bl fw, .bl fw]) (Same.refl H5) nt6)
     have ht6 : (upd H5 t6 (.lst [.bl fw, .bl fw])) t6 = some (.lst [.bl fw, .bl fw]) := upd_same
     generalize upd H5 t6 (.lst [.bl fw, .bl fw]) = H6 at *
     refine Or.inr ⟨t6, _, rfl, .lst (SqL.of ht6) (.cons (.bl fw) (.cons (.bl fw) .nil)), bd.1, bd.2.1, bd.2.2.1, bd.2.2.2, ?_⟩
     refine ⟨_, rfl, (Nat.le_of_ble_eq_true rfl : _ ≤ sizeLine), fun t7 nt7 => ?_⟩
     have s37 := s36.trans (same_upd (o := .lst [.bl fw]) (Same.refl H6) nt7)
     have ht7 : (upd H6 t7 (.lst [.bl fw])) t7 = some (.lst [.bl fw]) := upd_same
     generalize upd H6 t7 (.lst [.bl fw]) = H7 at *
     refine Or.inr ⟨t7, _, _, rfl, rfl, ht7, by decide, by decide, (by decide : 1 * 2 ≤ sizeLine), fun t8 nt8 => ?_⟩
     have s38 := s37.trans (same_upd (o := .lst [.bl fw, .bl fw]) (Same.refl H7) nt8)
     have ht8 : (upd H7 t8 (.lst [.bl fw, .bl fw])) t8 = some (.lst [.bl fw, .bl fw]) := upd_same
     rw [show (List.replicate (2 : Int).toNat [V.bl fw]).flatten = [.bl fw, .bl fw] from rfl]
     generalize upd H7 t8 (.lst [.bl fw, .bl fw]) = H8 at *
     refine Or.inr ⟨t8, _, rfl, .lst (SqL.of ht8) (.cons (.bl fw) (.cons (.bl fw) .nil)), bd.1, bd.2.1, bd.2.2.1, bd.2.2.2, ?_⟩
     refine Or.inl ⟨rfl, _, rfl, ?_⟩
     refine ifF (neFT _) ?_
     have hd8 := hd3.same s38
     have e8 := e3.same s38
     have f8 := f3.same s38
     have x8 := s38 _ _ x3
     have y8 := s38 _ _ y3
     have hT8 : Tab H8 qn n (nearM n es) := ⟨Lists.same hq3 s38, nearM_len n es⟩
     have sb08 := sb03.trans (Same.but d s38)
     clear s36 ht6 nt6 s37 ht7 nt7 ht8 nt8 sm4 sm5 s38 e3 f3 x3 y3 hq3 hd3 hd2 sb3
     refine ⟨_, rfl, _, rfl, _, rfl, _, rfl, _, rfl, _, rfl, ?_⟩
     refine call_between a1 a2 f8 a4 a5 b1 b2 e8 b4 b5 x8 c2 c3 y8 d2 d3 (fun ps1 left1 G1 hE1 hl1 sm1 => ?none) (fun p1 rs1 ps1 left1 G1 hE1 hl1 sm1 np1 hP1 => ?tup)
     case none =>
       obtain rfl : fw = false := by rw [← hbb]; exact decide_eq_false (by rw [← hends hE1]; exact hl1)
       refine ⟨(Nat.le_of_ble_eq_true rfl : _ ≤ sizeLine), fun L nL => ?_⟩
       have smL : Same G1 (upd G1 L (.lst [.non])) := same_upd (Same.refl _) nL
       have hL : (upd G1 L (.lst [.non])) L = some (.lst [.non]) := upd_same
       generalize upd G1 L (.lst [.non]) = G2 at *
       have s2' := sm1.trans smL
       refine ⟨_, rfl, .inl ⟨rfl, _, SqL.of hL⟩, ?_⟩
       refine ⟨_, rfl, _, rfl, _, rfl, _, rfl, _, rfl, _, rfl, ?_⟩
       refine call_between a1 a2 (f8.same s2') a4 a5 b1 b2 (e8.same s2') b4 b5 (s2' _ _ x8) c2 c3 (s2' _ _ y8) d2 d3 (fun ps2 left2 G3 hE2 hl2 sm3 => ?_) (fun p2 rs2 ps2 left2 G3 hE2 hl2 _ _ _ => absurd hl2 (by rw [← (hE1.both hE2).1]; exact hl1))
       have nL8 : H8 L = none := sm1.free nL
       refine ⟨L, _, .non, rfl, rfl, sm3 _ _ hL, (by decide : 1 < sizeLine), ?_⟩
       have s84 : Same H8 (upd G3 L (.lst ([.non] ++ [.non]))) := same_upd (s2'.trans sm3) nL8
       have hL4 : (upd G3 L (.lst ([.non] ++ [.non]))) L = some (.lst [.non, .non]) := upd_same
       generalize upd G3 L (.lst ([.non] ++ [.non])) = G4 at *
       refine ⟨_, rfl, Or.inl ⟨L, _, 0, .non, rfl, rfl, SqL.of hL4, rfl, Or.inl ⟨rfl, ?_⟩⟩⟩
       refine ⟨_, rfl, Or.inl ⟨L, _, 1, .non, rfl, rfl, SqL.of hL4, rfl, Or.inl ⟨rfl, ?_⟩⟩⟩
       refine Or.inl ⟨rfl, _, rfl, ?_⟩
       refine ifF (neFT _) ?_
       refine ⟨_, rfl, _, rfl, _, rfl, _, rfl, (Nat.le_of_ble_eq_true rfl : _ ≤ sizeLine), fun t9 nt9 => ?_⟩
       have sm5 : Same G4 (upd G4 t9 (.lst [.ref q2, .ref q, .ref s, .ref t])) := same_upd (Same.refl _) nt9
       have ht9 : (upd G4 t9 (.lst [.ref q2, .ref q, .ref s, .ref t])) t9 = some (.lst [.ref q2, .ref q, .ref s, .ref t]) := upd_same
       have hL5 := sm5 _ _ hL4
       generalize upd G4 t9 (.lst [.ref q2, .ref q, .ref s, .ref t]) = G5 at *
       have s85 := s84.trans sm5
       refine Or.inr ⟨t9, befD4 es fs xs ys, rfl, dp_bef4 ht9 (e8.same s85) (f8.same s85) (s85 _ _ x8) (s85 _ _ y8), okB.sh, okB.nd, Nat.le_trans okB.dep (by decide), szB, _, rfl, Or.inl ⟨rfl, _, rfl, ?_⟩⟩
       refine ifF (neFT _) ?_
       refine ⟨_, rfl, false, rfl, ?_⟩
       refine ifT rfl ?_
       refine ⟨_, rfl, Or.inl ⟨L, _, 0, .non, rfl, rfl, SqL.of hL5, rfl, rfl, ?_⟩⟩
       exact fin G5 k3 (sb08.trans (Same.but d s85)) (hd8.same s85) (by omega)
     case tup =>
       obtain rfl : fw = true := by rw [← hbb]; exact decide_eq_true (by rw [← hends hE1]; exact hl1)
       obtain ⟨zmid, hw1, hw2⟩ := along_walk b4 a4 hE1.run (inNet_all n) (Nat.le_of_eq hl1) c2 d2 c3 d3 (fun x hx => allM_mem.mpr (c2.rng x hx)) (fun x hx => allM_mem.mpr (d2.rng x hx))
       have hW := hw1.append hw2
       have hWl : ((alongS ps1 xs ys).1 ++ (alongS ps1 xs ys).2.reverse).length ≤ 300 := by
         have h1 := alongS_len m ps1 xs ys c2.len d2.len
         have h2 := hE1.run.len12
         have h3 : m * ps1.length ≤ 12 * 12 := Nat.mul_le_mul a2 (by omega)
         rw [List.length_append, List.length_reverse]
         omega
       have hsame : ∀ {ps2 left2}, EndOf n es ps2 left2 → (alongS ps2 xs ys).1 ++ (alongS ps2 xs ys).2.reverse = (alongS ps1 xs ys).1 ++ (alongS ps1 xs ys).2.reverse := fun hE => by rw [(hE1.both hE).2]
       have hlone : ∀ {ps2 left2}, EndOf n es ps2 left2 → left2.length = 1 := fun hE => by rw [← (hE1.both hE).1]; exact hl1
       generalize (alongS ps1 xs ys).1 ++ (alongS ps1 xs ys).2.reverse = W at *
       have okW := dok_dE (hW.small b2 a2)
       have szW : (dE W).shown.length ≤ sizeLine := Nat.le_trans okW.len (Nat.le_trans (m := 20000) (by omega) (by decide))
       clear hw1 hw2 hE1 hE4 hE5
       refine ⟨(Nat.le_of_ble_eq_true rfl : _ ≤ sizeLine), fun L nL => ?_⟩
       have smL : Same G1 (upd G1 L (.lst [.ref p1])) := same_upd (Same.refl _) nL
       have hL : (upd G1 L (.lst [.ref p1])) L = some (.lst [.ref p1]) := upd_same
       generalize upd G1 L (.lst [.ref p1]) = G2 at *
       have s2' := sm1.trans smL
       refine ⟨_, rfl, .inl ⟨rfl, _, SqL.of hL⟩, ?_⟩
       refine ⟨_, rfl, _, rfl, _, rfl, _, rfl, _, rfl, _, rfl, ?_⟩
       refine call_between a1 a2 (f8.same s2') a4 a5 b1 b2 (e8.same s2') b4 b5 (s2' _ _ x8) c2 c3 (s2' _ _ y8) d2 d3 (fun ps2 left2 G3 hE2 hl2 sm3 => absurd (hlone hE2) hl2) (fun p2 rs2 ps2 left2 G3 hE2 hl2 sm3 np2 hP2 => ?_)
       rw [hsame hE2] at hP2
       have nL8 : H8 L = none := sm1.free nL
       have hL3 := sm3 _ _ hL
       refine ⟨L, _, .ref p2, rfl, rfl, hL3, (by decide : 1 < sizeLine), ?_⟩
       have s84 : Same H8 (upd G3 L (.lst ([.ref p1] ++ [.ref p2]))) := same_upd (s2'.trans sm3) nL8
       have hL4 : (upd G3 L (.lst ([.ref p1] ++ [.ref p2]))) L = some (.lst [.ref p1, .ref p2]) := upd_same
       have hP14 : PsF H8 (upd G3 L (.lst ([.ref p1] ++ [.ref p2]))) p1 rs1 W := ⟨(hP1.ps.same (smL.trans sm3)).upd2 (ne_of_none hP1.ps.hD nL) (fun r hr => by
         obtain ⟨x, hx⟩ := hP1.ps.has2 hr
         exact ne_of_none hx nL), hP1.nd, hP1.fr⟩
       have hP24 : PsAt (upd G3 L (.lst ([.ref p1] ++ [.ref p2]))) p2 rs2 W := hP2.ps.upd2 (fun e => by rw [← e, np2] at hL; cases hL) (fun r hr e => by
         have := hP2.fr r hr
         rw [e, hL] at this
         cases this)
       have off2 : ∀ b, b = p2 ∨ b ∈ rs2 → b ∉ rs1 := fun b hb h1 => by
         obtain ⟨x, hx⟩ := hP1.ps.has2 h1
         have hx2 := smL _ _ hx
         rcases hb with e | hb
         · rw [e, np2] at hx2; cases hx2
         · rw [hP2.fr b hb] at hx2; cases hx2
       have off3 : ∀ b, b = p2 ∨ b ∈ rs2 → b ≠ p1 := fun b hb e1 => by
         have hx2 := smL _ _ hP1.ps.hD
         rw [← e1] at hx2
         rcases hb with e | hb
         · rw [e, np2] at hx2; cases hx2
         · rw [hP2.fr b hb] at hx2; cases hx2
       have np1L : L ≠ p1 := (ne_of_none hP1.ps.hD nL).symm
       generalize upd G3 L (.lst ([.ref p1] ++ [.ref p2])) = G4 at *
       show tNext _ [some (.ref d), some (.int n), some (.ref q2), some (.int m), some (.ref q), some (.ref s), some (.ref t), some (.ref qn), some (.str (befD4 es fs xs ys).shown), some (.bl true), some (.ref L), none, none] G4
       refine ⟨_, rfl, Or.inl ⟨L, _, 0, .ref p1, rfl, rfl, SqL.of hL4, rfl, Or.inr ⟨p1, _, rfl, dp_dE hP14.ps.pairs, okW.sh, okW.nd, Nat.le_trans okW.dep (by decide), szW, ?_⟩⟩⟩
       refine ⟨_, rfl, Or.inl ⟨L, _, 1, .ref p2, rfl, rfl, SqL.of hL4, rfl, Or.inr ⟨p2, _, rfl, dp_dE hP24.pairs, okW.sh, okW.nd, Nat.le_trans okW.dep (by decide), szW, ?_⟩⟩⟩
       refine Or.inl ⟨rfl, _, rfl, ?_⟩
       refine ifF (neFT _) ?_
       refine ⟨_, rfl, _, rfl, _, rfl, _, rfl, (Nat.le_of_ble_eq_true rfl : _ ≤ sizeLine), fun t9 nt9 => ?_⟩
       have sm5 : Same G4 (upd G4 t9 (.lst [.ref q2, .ref q, .ref s, .ref t])) := same_upd (Same.refl _) nt9
       have ht9 : (upd G4 t9 (.lst [.ref q2, .ref q, .ref s, .ref t])) t9 = some (.lst [.ref q2, .ref q, .ref s, .ref t]) := upd_same
       have hL5 := sm5 _ _ hL4
       have hP15 : PsF H8 (upd G4 t9 (.lst [.ref q2, .ref q, .ref s, .ref t])) p1 rs1 W := ⟨hP14.ps.same sm5, hP14.nd, hP14.fr⟩
       have hP25 := hP24.same sm5
       generalize upd G4 t9 (.lst [.ref q2, .ref q, .ref s, .ref t]) = G5 at *
       have s85 := s84.trans sm5
       refine Or.inr ⟨t9, befD4 es fs xs ys, rfl, dp_bef4 ht9 (e8.same s85) (f8.same s85) (s85 _ _ x8) (s85 _ _ y8), okB.sh, okB.nd, Nat.le_trans okB.dep (by decide), szB, _, rfl, Or.inl ⟨rfl, _, rfl, ?_⟩⟩
       refine ifF (neFT _) ?_
       refine ⟨_, rfl, true, rfl, ?_⟩
       refine ifF rfl ?_
       clear hP14 hP24 hP1 hP2 hL hL3 hL4 smL nL sm3 np2 s2' s84 sm5 ht9 nt9 sm1
       have np1' : H8 p1 = none := np1
       have off_t : L ∉ rs1 := fun h => by
         obtain ⟨e, _, he⟩ := hP15.ps.mem h
         rw [hL5] at he
         cases he
       have off_l : p1 ∉ rs1 := fun h => hP15.ps.ne h rfl
       have off_s : s ∉ rs1 := fun h => by
         have := hP15.fr s h
         rw [x8] at this
         cases this
       show tNext _ [some (.ref d), some (.int n), some (.ref q2), some (.int m), some (.ref q), some (.ref s), some (.ref t), some (.ref qn), some (.str (befD4 es fs xs ys).shown), some (.bl true), some (.ref L), none, none] G5
       refine ⟨_, rfl, ?_⟩
       refine ⟨_, rfl, Or.inl ⟨L, _, 0, .ref p1, rfl, rfl, SqL.of hL5, rfl, p1, rfl, ⟨_, SqL.of hP15.ps.hD⟩, ?_⟩⟩
       refine for_list (K := K) (xs := rs1.map V.ref) (fun i σ G => ∃ (now : Addr) (zs : List Int) (y12 : Option V), σ = [some (.ref d), some (.int n), some (.ref q2), some (.int m), some (.ref q), some (.ref s), some (.ref t), some (.ref qn), some (.str (befD4 es fs xs ys).shown), some (.bl true), some (.ref L), some (.ref now), y12] ∧
         now ∉ rs1 ∧ G now = some (iL zs) ∧ Stds m n zs ∧ StandOk es fs zs ∧ Wk n m es fs zs (W.drop i) ys ∧
         (∀ b o, b ∉ rs1 → G5 b = some o → G b = some o) ∧ Same H8 G ∧
         ∀ (jj : Nat) (r : Addr) (e : Edge), rs1[jj]? = some r → W[jj]? = some e → G r = some (.lst (if jj < i then [.int e.1, .int e.2, .non] else [.int e.1, .int e.2]))) ?_ ?_ ?_ ?_
       · exact ⟨s, xs, _, rfl, off_s, s85 _ _ x8, c2, c3, hW, fun b o _ h => h, s85, fun jj r e hr he => by rw [if_neg (Nat.not_lt_zero jj)]; exact hP15.ps.at_ jj r e hr he⟩
       · rintro i σ G _ ⟨now, zs, y12, rfl, hnow, hz, st, ok, wk, off, smG, cont⟩
         exact SqL.of (off _ _ off_l hP15.ps.hD)
       · rintro i x σ G hx ⟨now, zs, y12, rfl, hnow, hz, st, ok, wk, off, smG, cont⟩
         obtain ⟨r, hr, rfl⟩ := ref_at hx
         have hi : i < W.length := by rw [← hP15.ps.len]; exact (List.getElem?_eq_some_iff.mp hr).1
         have hpi : W[i]? = some W[i] := List.getElem?_eq_getElem hi
         have hrG := cont i r _ hr hpi
         rw [if_neg (Nat.lt_irrefl i)] at hrG
         have hrm := List.mem_of_getElem? hr
         rw [List.drop_eq_getElem_cons hi] at wk
         generalize W[i] = e at *
         obtain ⟨hmem, wk2⟩ : e ∈ mayM n es fs zs m ∧ Wk n m es fs (putP zs e.1 e.2) (W.drop (i + 1)) ys := by
           cases wk with
           | cons h r => exact ⟨h, r⟩
         obtain ⟨g1, g2, g3, g4, g5⟩ := (may_iff b4 a4 st ok e).mp hmem
         have gr := besideM_rng (List.mem_filter.mp (mayM_mem.mp hmem).2).1
         have st2 := st.put (i := e.1) gr.1 gr.2
         rw [fits_near b4 a4 st2] at g5
         refine ⟨_, rfl, _, rfl, _, rfl, _, rfl, ?_⟩
         refine call_lmay a2 b2 (hT8.same smG) (near_tabR b4) (f8.same smG) a5 (fun e he => by have := a4.rng e he; omega) hz st (fun p8 rs8 out G6 sm6 np8 hP8 hpw hom hol => ?_)
         obtain rfl := may_is b4 a4 st ok hpw hom
         have hr6 := sm6 _ _ hrG
         have okO := dok_dE (may_small (es := es) (fs := fs) (xs := zs) b2 a2)
         refine ⟨.list [.int e.1, .int e.2], (mayM n es fs zs m).map (fun (e : Edge) => PyData.list [PyData.int e.1, PyData.int e.2]), .lst (SqL.of hr6) (.cons (.int _) (.cons (.int _) .nil)), dp_dE hP8.ps.pairs, (dok_pair (may_small b2 a2 e hmem).1 (may_small b2 a2 e hmem).2).shaped (by decide), okO.shaped (by decide), _, rfl, ?_⟩
         have hany : ((mayM n es fs zs m).map (fun (e : Edge) => PyData.list [PyData.int e.1, PyData.int e.2])).any (fun z => PyData.eqv z (.list [.int e.1, .int e.2])) = true :=
           List.any_eq_true.mpr ⟨_, List.mem_map.mpr ⟨e, hmem, rfl⟩, SeqAt.eqv_refl _ (dok_pair (may_small b2 a2 e hmem).1 (may_small b2 a2 e hmem).2).lay⟩
         refine ifF (by rw [hany]; rfl) ?_
         refine ⟨_, rfl, _, rfl, ?_⟩
         refine call_gone (sm6 _ _ hz) (by rw [st.len]; exact a2) hr6 g1 (by rw [st.len]; exact g2) (fun bs8 G7 sm7 nbs8 hbs8 => ?_)
         have hr7 := sm7 _ _ hr6
         have sm67 := sm6.trans sm7
         have hb8 : bs8 ∉ rs1 := fun hm => by
           obtain ⟨ix, hix⟩ := List.getElem?_of_mem hm
           have hlt : ix < W.length := by rw [← hP15.ps.len]; exact (List.getElem?_eq_some_iff.mp hix).1
           have := sm6 _ _ (cont ix bs8 _ hix (List.getElem?_eq_getElem hlt))
           rw [nbs8] at this
           cases this
         refine ⟨_, rfl, .inl ⟨rfl, _, SqL.of hr7⟩, r, _, .non, rfl, rfl, hr7, Nat.lt_of_le_of_lt (m := 2) (Nat.le_refl _) (by decide), ?_⟩
         refine ⟨bs8, putP zs e.1 e.2, _, rfl, hb8, ?_, st2, g5, wk2, fun b o hb h => ?_, same_upd (smG.trans sm67) (hP15.fr r hrm), fun jj r2 e2 hr2 he => ?_⟩
         · rw [upd_ne (fun e => hb8 (by rw [e]; exact hrm))]
           exact hbs8
         · rw [upd_ne (fun e => hb (by rw [e]; exact hrm))]
           exact sm67 _ _ (off b o hb h)
         · by_cases hji : jj = i
           · subst hji
             rw [hr] at hr2
             cases hr2
             rw [hpi] at he
             cases he
             rw [upd_same, if_pos (Nat.lt_succ_self jj)]
             rfl
           · have hne : r2 ≠ r := fun e => by
               subst e
               exact hji (nd_ix hP15.nd hr2 hr)
             rw [upd_ne hne, sm67 _ _ (cont jj r2 e2 hr2 he)]
             by_cases hlt : jj < i
             · rw [if_pos hlt, if_pos (by omega)]
             · rw [if_neg hlt, if_neg (by omega)]
       rintro σ G ⟨now, zs, y12, rfl, hnow, hz, st, ok, wk, off, smG, cont⟩
       rw [List.length_map, hP15.ps.len, List.drop_length] at wk
       rw [List.length_map] at cont
       obtain rfl : zs = ys := by cases wk; rfl
       have hLG := off _ _ off_t hL5
       have hP1G := off _ _ off_l hP15.ps.hD
       have hP2G : PsAt G p2 rs2 W := ⟨off _ _ (off2 _ (.inl rfl)) hP25.hD, hP25.len, fun i r e a b => off _ _ (off2 _ (.inr (List.mem_of_getElem? a))) (hP25.at_ i r e a b)⟩
       refine ⟨_, rfl, _, rfl, Or.inr ⟨_, _, dp_dI' (SqL.of hz), dp_dI' (SqL.of (smG _ _ y8)), shaped_ints _, shaped_ints _, _, rfl, ?_⟩⟩
       refine ifF (by rw [eqv_ints]; rfl) ?_
       refine ⟨_, rfl, Or.inl ⟨L, _, 0, .ref p1, rfl, rfl, SqL.of hLG, rfl, p1, rfl, ⟨_, SqL.of hP1G⟩, fun D nD => ?_⟩⟩
       refine lc_list (K := K) (xs := rs1.map V.ref) (fun i G2 => G2 = upd G D (.lst [])) rfl ?_ ?_ ?_
       · rintro i G2 _ rfl
         exact SqL.of (by rw [upd_ne (ne_of_none hP1G nD)]; exact hP1G)
       · rintro i x G2 hx rfl
         obtain ⟨r, hr, rfl⟩ := ref_at hx
         have hi : i < rs1.length := (List.getElem?_eq_some_iff.mp hr).1
         have hpi : W[i]? = some (W[i]'(by rw [← hP15.ps.len]; exact hi)) := List.getElem?_eq_getElem _
         have hrG := cont i r _ hr hpi
         rw [if_pos hi] at hrG
         have hr9 : (upd G D (.lst [])) r = _ := (upd_ne (ne_of_none hrG nD)).trans hrG
         refine ⟨rfl, _, rfl, .inl ⟨rfl, _, SqL.of hr9⟩, r, _, .non, rfl, rfl, SqL.of hr9, rfl, rfl, ?_⟩
         refine Or.inl ⟨rfl, _, rfl, ?_⟩
         exact ifF (by rfl) rfl
       rintro G2 rfl
       refine ⟨(Nat.le_of_ble_eq_true rfl : _ ≤ sizeLine), fun e0 ne0 => ?_⟩
       have hDe : D ≠ e0 := ne_of_none upd_same ne0
       refine Or.inr ⟨.list [], .list [], .lst (SqL.of (by rw [upd_ne hDe]; exact upd_same)) .nil, .lst (SqL.of upd_same) .nil, rfl, rfl, _, rfl, ?_⟩
       refine ifF (by rw [eqv_list_nil]; rfl) ?_
       have smE : Same G (upd (upd G D (.lst [])) e0 (.lst [])) := same_upd (same_upd (Same.refl _) nD) ((same_upd (Same.refl G) nD : Same G (upd G D (.lst []))).free ne0)
       have hLE := smE _ _ hLG
       have hP1E := smE _ _ hP1G
       have hP2E := hP2G.same smE
       show tNext _ [some (.ref d), some (.int n), some (.ref q2), some (.int m), some (.ref q), some (.ref s), some (.ref t), some (.ref qn), some (.str (befD4 es fs xs zs).shown), some (.bl true), some (.ref L), some (.ref now), y12] _
       refine ⟨_, rfl, Or.inl ⟨L, _, 0, .ref p1, rfl, rfl, SqL.of hLE, rfl, ?_⟩⟩
       refine ⟨.inl ⟨rfl, _, SqL.of hP1E⟩, p1, _, .non, rfl, rfl, hP1E, ?_, ?_⟩
       · rw [List.length_map, hP15.ps.len]
         exact Nat.lt_of_le_of_lt hWl (by decide)
       have s8F : Same H8 (upd (upd (upd G D (.lst [])) e0 (.lst [])) p1 (.lst (rs1.map V.ref ++ [V.non]))) := same_upd (smG.trans smE) np1'
       have hLF : (upd (upd (upd G D (.lst [])) e0 (.lst [])) p1 (.lst (rs1.map V.ref ++ [V.non]))) L = some (.lst [.ref p1, .ref p2]) := by rw [upd_ne np1L]; exact hLE
       have hP2F : PsAt (upd (upd (upd G D (.lst [])) e0 (.lst [])) p1 (.lst (rs1.map V.ref ++ [V.non]))) p2 rs2 W := hP2E.upd2 (off3 _ (.inl rfl)) fun r hr => off3 _ (.inr hr)
       generalize upd (upd (upd G D (.lst [])) e0 (.lst [])) p1 (.lst (rs1.map V.ref ++ [V.non])) = HF at *
       refine ⟨_, rfl, _, rfl, _, rfl, _, rfl, _, rfl, _, rfl, ?_⟩
       refine call_between a1 a2 (f8.same s8F) a4 a5 b1 b2 (e8.same s8F) b4 b5 (s8F _ _ x8) c2 c3 (s8F _ _ y8) d2 d3 (fun ps9 left9 G9 hE9 hl9 sm9 => absurd (hlone hE9) hl9) (fun p9 rs9 ps9 left9 G9 hE9 hl9 sm9 np9 hP9 => ?_)
       rw [hsame hE9] at hP9
       refine Or.inr ⟨p9, _, rfl, dp_dE hP9.ps.pairs, okW.sh, okW.nd, Nat.le_trans okW.dep (by decide), szW, ?_⟩
       refine ⟨_, rfl, Or.inl ⟨L, _, 1, .ref p2, rfl, rfl, SqL.of (sm9 _ _ hLF), rfl, Or.inr ⟨p2, _, rfl, dp_dE (hP2F.same sm9).pairs, okW.sh, okW.nd, Nat.le_trans okW.dep (by decide), szW, ?_⟩⟩⟩
       refine Or.inl ⟨rfl, ?_⟩
       rw [decide_eq_true rfl]
       have s89 := s8F.trans sm9
       exact fin G9 k3 (sb08.trans (Same.but d s89)) (hd8.same s89) (by omega)
end
/-! piece TYd -/
section
local macro_rules | `(tactic| wtm_at "fo a") => `(tactic| first
  | exact pa_nil
  | (refine' pa_cons ?k1 ?k2; (case k1 => wtm_at "fo e"); (case k2 => wtm_at "fo a"))
  | fail "no")
local macro_rules | `(tactic| wtm_at "fo v") => `(tactic| first
  | exact pv 0
  | exact pv 1
  | exact pv 2
  | exact pv 3
  | exact pv 4
  | exact pv 5
  | exact pv 6
  | exact pv 7
  | exact pv 8
  | exact pv 9
  | exact pv 10
  | exact pv 11
  | exact pv 12
  | exact pv 13
  | exact pv 14
  | exact pv 15
  | fail "no")
local macro_rules | `(tactic| wtm_at "fo e") => `(tactic| first
  | with_reducible exact pe_int
  | with_reducible exact pe_bl
  | with_reducible exact pe_non
  | with_reducible exact pe_str
  | ((with_reducible show PE _ (.Name _ _) _); wtm_at "fo v")
  | ((with_reducible show PE _ (.BinOp _ .Add _ _) _); apply pe_op opAddB <;> wtm_at "fo e")
  | ((with_reducible show PE _ (.BinOp _ .Sub _ _) _); apply pe_op op_sub <;> wtm_at "fo e")
  | ((with_reducible show PE _ (.BinOp _ .Mult _ _) _); apply pe_op op_mul <;> wtm_at "fo e")
  | ((with_reducible show PE _ (.BinOp _ .Mod _ _) _); apply pe_op op_mod <;> wtm_at "fo e")
  | ((with_reducible show PE _ (.BinOp _ .FloorDiv _ _) _); apply pe_op op_fdiv <;> wtm_at "fo e")
  | ((with_reducible show PE _ (.BinOp _ .Pow _ _) _); apply pe_op op_powW <;> wtm_at "fo e")
  | ((with_reducible show PE _ (.BinOp _ .LShift _ _) _); apply pe_op op_shl <;> wtm_at "fo e")
  | ((with_reducible show PE _ (.BinOp _ .RShift _ _) _); apply pe_op op_shr <;> wtm_at "fo e")
  | ((with_reducible show PE _ (.BinOp _ .BitAnd _ _) _); apply pe_op op_and <;> wtm_at "fo e")
  | ((with_reducible show PE _ (.List _ _) _); apply pe_lst; wtm_at "fo a")
  | ((with_reducible show PE _ (.Tuple _ _ _) _); apply pe_tup; wtm_at "fo a")
  | ((with_reducible show PE _ (.ListComp _ [_] _ _) _); wtm_at "fo lc")
  | ((with_reducible show PE _ (.IfExp _ _ _ _) _); apply pe_ifExp; (· wtm_at "fo t"); (· wtm_at "fo e"); (· wtm_at "fo e"))
  | ((with_reducible show PE _ (.UnaryOp .USub _ _) _); apply pe_un un_neg; wtm_at "fo e")
  | ((with_reducible show PE _ (.Call (.Name _ _) [] (_ :: _) _) _); wtm_at "fo kcall")
  | ((with_reducible show PE _ (.Call (.Name _ _) _ _ _) _); wtm_at "fo call")
  | ((with_reducible show PE _ (.Call (.Attribute _ _ _) _ _ _) _); wtm_at "fo meth")
  | ((with_reducible show PE _ (.Compare _ _ _ _) _); wtm_at "fo cmp")
  | ((with_reducible show PE _ (.Subscript _ (.Slice _ _ _ _) _) _); wtm_at "fo slice")
  | ((with_reducible show PE _ (.Subscript _ _ _) _); refine' pe_ix (ix_seqK (by assumption) (by exact rfl)) ?ka ?kb (fun _ _ => rfl); (case ka => wtm_at "fo e"); (case kb => wtm_at "fo e"))
  | fail "no")
local macro_rules | `(tactic| wtm_at "fo own") => `(tactic| first
  | ((show _ = [0]); kernel_rfl!)
  | ((show _ = [1]); kernel_rfl!)
  | ((show _ = [2]); kernel_rfl!)
  | ((show _ = [3]); kernel_rfl!)
  | ((show _ = [4]); kernel_rfl!)
  | ((show _ = [5]); kernel_rfl!)
  | ((show _ = [6]); kernel_rfl!)
  | ((show _ = [7]); kernel_rfl!)
  | ((show _ = [8]); kernel_rfl!)
  | ((show _ = [9]); kernel_rfl!)
  | ((show _ = [10]); kernel_rfl!)
  | ((show _ = [11]); kernel_rfl!)
  | ((show _ = [12]); kernel_rfl!)
  | ((show _ = [13]); kernel_rfl!)
  | ((show _ = [14]); kernel_rfl!)
  | ((show _ = [15]); kernel_rfl!)
  | ((show _ = [0, 1]); kernel_rfl!)
  | ((show _ = [1, 2]); kernel_rfl!)
  | ((show _ = [2, 3]); kernel_rfl!)
  | ((show _ = [3, 4]); kernel_rfl!)
  | ((show _ = [4, 5]); kernel_rfl!)
  | ((show _ = [5, 6]); kernel_rfl!)
  | ((show _ = [6, 7]); kernel_rfl!)
  | ((show _ = [7, 8]); kernel_rfl!)
  | ((show _ = [8, 9]); kernel_rfl!)
  | ((show _ = [9, 10]); kernel_rfl!)
  | ((show _ = [10, 11]); kernel_rfl!)
  | ((show _ = [11, 12]); kernel_rfl!)
  | ((show _ = [12, 13]); kernel_rfl!)
  | ((show _ = [13, 14]); kernel_rfl!)
  | ((show _ = [14, 15]); kernel_rfl!)
  | fail "no")
local macro_rules | `(tactic| wtm_at "fo ts") => `(tactic| first
  | exact pts_nil
  | (apply pts_one; wtm_at "fo t")
  | fail "no")
local macro_rules | `(tactic| wtm_at "fo lc") => `(tactic| first
  | (refine' pe_lcO (by assumption) (by exact rfl) (by exact rfl) (by wtm_at "fo own") (by decide +kernel) rfl ?ki ?kg ?kt ?ke; (case ki => wtm_at "fo i"); (case kg => (intro _ _ _ _ _; wtm_at "fo g")); (case kt => (intro _ _ _ _ _; wtm_at "fo ts")); (case ke => (intro _ _ _ _ _; wtm_at "fo e")))
  | fail "no")
local macro_rules | `(tactic| wtm_at "fo part") => `(tactic| first
  | exact po_none
  | (apply po_some; wtm_at "fo e")
  | fail "no")
local macro_rules | `(tactic| wtm_at "fo slice") => `(tactic| first
  | ((with_reducible show PE _ (.Subscript _ (.Slice _ _ none _) _) _); refine' pe_slice (sl_listK (by assumption) (by exact rfl)) ?ka ?kb ?kc; (case ka => wtm_at "fo e"); (case kb => wtm_at "fo part"); (case kc => wtm_at "fo part"))
  | ((with_reducible show PE _ (.Subscript _ (.Slice none none (some _) _) _) _); refine' pe_stepK (by assumption) (by exact rfl) ?ka ?kb; (case ka => wtm_at "fo e"); (case kb => wtm_at "fo e"))
  | fail "no")
local macro_rules | `(tactic| wtm_at "fo cmp") => `(tactic| first
  | ((with_reducible show PE _ (.Compare _ [.Lt] _ _) _); refine' pe_cmpR op_lt ?ka ?kb (nomark _); (case ka => wtm_at "fo e"); (case kb => wtm_at "fo e"))
  | ((with_reducible show PE _ (.Compare _ [.LtE] _ _) _); refine' pe_cmpR op_le ?ka ?kb (nomark _); (case ka => wtm_at "fo e"); (case kb => wtm_at "fo e"))
  | ((with_reducible show PE _ (.Compare _ [.Gt] _ _) _); refine' pe_cmpR op_gt ?ka ?kb (nomark _); (case ka => wtm_at "fo e"); (case kb => wtm_at "fo e"))
  | ((with_reducible show PE _ (.Compare _ [.GtE] _ _) _); refine' pe_cmpR op_ge ?ka ?kb (nomark _); (case ka => wtm_at "fo e"); (case kb => wtm_at "fo e"))
  | ((with_reducible show PE _ (.Compare _ [.Eq] _ _) _); refine' pe_cmpR (op_eqK (by assumption) (by exact rfl) (Room.units (by assumption))) ?ka ?kb (nomark _); (case ka => wtm_at "fo e"); (case kb => wtm_at "fo e"))
  | ((with_reducible show PE _ (.Compare _ [.NotEq] _ _) _); refine' pe_cmpR (op_neK (by assumption) (by exact rfl) (Room.units (by assumption))) ?ka ?kb (nomark _); (case ka => wtm_at "fo e"); (case kb => wtm_at "fo e"))
  | fail "no")
local macro_rules | `(tactic| wtm_at "fo tcmp") => `(tactic| first
  | ((with_reducible show PT _ (.Compare _ [.Lt] _ _) _); refine' pt_cmpR op_lt ?ka ?kb (nomark _); (case ka => wtm_at "fo e"); (case kb => wtm_at "fo e"))
  | ((with_reducible show PT _ (.Compare _ [.LtE] _ _) _); refine' pt_cmpR op_le ?ka ?kb (nomark _); (case ka => wtm_at "fo e"); (case kb => wtm_at "fo e"))
  | ((with_reducible show PT _ (.Compare _ [.Gt] _ _) _); refine' pt_cmpR op_gt ?ka ?kb (nomark _); (case ka => wtm_at "fo e"); (case kb => wtm_at "fo e"))
  | ((with_reducible show PT _ (.Compare _ [.GtE] _ _) _); refine' pt_cmpR op_ge ?ka ?kb (nomark _); (case ka => wtm_at "fo e"); (case kb => wtm_at "fo e"))
  | ((with_reducible show PT _ (.Compare _ [.Eq] _ _) _); refine' pt_cmpR (op_eqK (by assumption) (by exact rfl) (Room.units (by assumption))) ?ka ?kb (nomark _); (case ka => wtm_at "fo e"); (case kb => wtm_at "fo e"))
  | ((with_reducible show PT _ (.Compare _ [.NotEq] _ _) _); refine' pt_cmpR (op_neK (by assumption) (by exact rfl) (Room.units (by assumption))) ?ka ?kb (nomark _); (case ka => wtm_at "fo e"); (case kb => wtm_at "fo e"))
  | ((with_reducible show PT _ (.Compare _ [.In] _ _) _); refine' pt_cmpR (op_inK (by assumption) (by exact rfl)) ?ka ?kb rfl; (case ka => wtm_at "fo e"); (case kb => wtm_at "fo e"))
  | ((with_reducible show PT _ (.Compare _ [.NotIn] _ _) _); refine' pt_cmpR (op_notInK (by assumption) (by exact rfl)) ?ka ?kb rfl; (case ka => wtm_at "fo e"); (case kb => wtm_at "fo e"))
  | fail "no")
local macro_rules | `(tactic| wtm_at "fo w") => `(tactic| first
  | ((with_reducible show PW _ (.BoolOp .And [_] _) _); apply pw_and1; wtm_at "fo t")
  | ((with_reducible show PW _ (.BoolOp .And _ _) _); apply pw_and; (· wtm_at "fo t"); (· wtm_at "fo w"))
  | ((with_reducible show PW _ (.BoolOp .Or [_] _) _); apply pw_or1; wtm_at "fo t")
  | ((with_reducible show PW _ (.BoolOp .Or _ _) _); apply pw_or; (· wtm_at "fo t"); (· wtm_at "fo w"))
  | fail "no")
local macro_rules | `(tactic| wtm_at "fo meth") => `(tactic| first
  | ((with_reducible show PE _ (.Call (.Attribute _ (Str.ofString "append") _) _ _ _) _); refine' pe_bm PySem.F.plainAttrs_list PySem.F.slot_list_append PySem.F.type_list_append mt_append ?ka ?kb; (case ka => wtm_at "fo e"); (case kb => wtm_at "fo a"))
  | ((with_reducible show PE _ (.Call (.Attribute _ (Str.ofString "pop") _) [_] _ _) _); refine' pe_bm PySem.F.plainAttrs_list PySem.F.slot_list_pop PySem.F.type_list_pop mt_popAt ?ka ?kb; (case ka => wtm_at "fo e"); (case kb => wtm_at "fo a"))
  | ((with_reducible show PE _ (.Call (.Attribute _ (Str.ofString "pop") _) [] _ _) _); refine' pe_bm0 PySem.F.plainAttrs_list PySem.F.slot_list_pop PySem.F.type_list_pop mt_pop ?ka; (case ka => wtm_at "fo e"))
  | fail "no")
local macro_rules | `(tactic| wtm_at "fo k") => `(tactic| first
  | exact pk_nil
  | (refine' pk_cons ?k1 ?k2; (case k1 => wtm_at "fo e"); (case k2 => wtm_at "fo k"))
  | fail "no")
local macro_rules | `(tactic| wtm_at "fo kcall") => `(tactic| first
  | (refine' pe_kcal (by assumption) (by assumption) (by decide) (by rfl) ?ka; (case ka => wtm_at "fo k"))
  | fail "no")
local macro_rules | `(tactic| wtm_at "fo call") => `(tactic| first
  | ((with_reducible show PE _ (.Call (.Name (Str.ofString "int") _) _ _ _) _); refine' pe_callTy call_intB (by rfl) (by assumption) (by decide +kernel) ?ka; (case ka => wtm_at "fo a"))
  | ((with_reducible show PE _ (.Call (.Name (Str.ofString "len") _) _ _ _) _); refine' pe_callB (call_lenK (by assumption) (by exact rfl)) (by rfl) (by assumption) PySem.boot_len ?ka; (case ka => wtm_at "fo a"))
  | ((with_reducible show PE _ (.Call (.Name (Str.ofString "list") _) [.Call (.Name (Str.ofString "range") _) [_, _] _ _] _ _) _); refine' pe_listRg rfl (by rfl) (by assumption) (prg_2 (by rfl) (by assumption) ?ka ?kb); (case ka => wtm_at "fo e"); (case kb => wtm_at "fo e"))
  | ((with_reducible show PE _ (.Call (.Name (Str.ofString "list") _) _ _ _) _); refine' pe_callTy (call_listK (by assumption) (by exact rfl)) (by rfl) (by assumption) (by decide +kernel) ?ka; (case ka => wtm_at "fo a"))
  | ((with_reducible show PE _ (.Call (.Name (Str.ofString "min") _) [_, _] _ _) _); refine' pe_callB (call_min2 rfl) (by rfl) (by assumption) (by decide +kernel) ?ka; (case ka => wtm_at "fo a"))
  | ((with_reducible show PE _ (.Call (.Name (Str.ofString "sorted") _) [_] _ _) _); refine' pe_callB (cr_sortedK (by assumption) (by exact rfl)) (by rfl) (by assumption) (by decide +kernel) ?ka; (case ka => wtm_at "fo a"))
  | ((with_reducible show PE _ (.Call (.Name (Str.ofString "repr") _) [_] _ _) _); refine' pe_callB (call_reprK (by assumption) (by exact rfl) (by assumption) (Room.units (by assumption))) (by rfl) (by assumption) (by decide +kernel) ?ka; (case ka => wtm_at "fo a"))
  | (refine' pe_cal (by assumption) (by assumption) (by decide) (by rfl) ?ka; (case ka => wtm_at "fo a"))
  | fail "no")
local macro_rules | `(tactic| wtm_at "fo setlc") => `(tactic| first
  | (refine' ps_setLcO (i := 0) (by assumption) (by exact rfl) (by exact rfl) (by wtm_at "fo own") (by decide +kernel) rfl rfl rfl (sw_true rfl rfl rfl (by decide +kernel)) ?ki ?kg ?kt ?ke; (case ki => wtm_at "fo i"); (case kg => (intro _ _ _ _ _; wtm_at "fo g")); (case kt => (intro _ _ _ _ _; wtm_at "fo ts")); (case ke => (intro _ _ _ _ _; wtm_at "fo e")))
  | (refine' ps_setLcO (i := 1) (by assumption) (by exact rfl) (by exact rfl) (by wtm_at "fo own") (by decide +kernel) rfl rfl rfl (sw_true rfl rfl rfl (by decide +kernel)) ?ki ?kg ?kt ?ke; (case ki => wtm_at "fo i"); (case kg => (intro _ _ _ _ _; wtm_at "fo g")); (case kt => (intro _ _ _ _ _; wtm_at "fo ts")); (case ke => (intro _ _ _ _ _; wtm_at "fo e")))
  | (refine' ps_setLcO (i := 2) (by assumption) (by exact rfl) (by exact rfl) (by wtm_at "fo own") (by decide +kernel) rfl rfl rfl (sw_true rfl rfl rfl (by decide +kernel)) ?ki ?kg ?kt ?ke; (case ki => wtm_at "fo i"); (case kg => (intro _ _ _ _ _; wtm_at "fo g")); (case kt => (intro _ _ _ _ _; wtm_at "fo ts")); (case ke => (intro _ _ _ _ _; wtm_at "fo e")))
  | (refine' ps_setLcO (i := 3) (by assumption) (by exact rfl) (by exact rfl) (by wtm_at "fo own") (by decide +kernel) rfl rfl rfl (sw_true rfl rfl rfl (by decide +kernel)) ?ki ?kg ?kt ?ke; (case ki => wtm_at "fo i"); (case kg => (intro _ _ _ _ _; wtm_at "fo g")); (case kt => (intro _ _ _ _ _; wtm_at "fo ts")); (case ke => (intro _ _ _ _ _; wtm_at "fo e")))
  | (refine' ps_setLcO (i := 4) (by assumption) (by exact rfl) (by exact rfl) (by wtm_at "fo own") (by decide +kernel) rfl rfl rfl (sw_true rfl rfl rfl (by decide +kernel)) ?ki ?kg ?kt ?ke; (case ki => wtm_at "fo i"); (case kg => (intro _ _ _ _ _; wtm_at "fo g")); (case kt => (intro _ _ _ _ _; wtm_at "fo ts")); (case ke => (intro _ _ _ _ _; wtm_at "fo e")))
  | (refine' ps_setLcO (i := 5) (by assumption) (by exact rfl) (by exact rfl) (by wtm_at "fo own") (by decide +kernel) rfl rfl rfl (sw_true rfl rfl rfl (by decide +kernel)) ?ki ?kg ?kt ?ke; (case ki => wtm_at "fo i"); (case kg => (intro _ _ _ _ _; wtm_at "fo g")); (case kt => (intro _ _ _ _ _; wtm_at "fo ts")); (case ke => (intro _ _ _ _ _; wtm_at "fo e")))
  | (refine' ps_setLcO (i := 6) (by assumption) (by exact rfl) (by exact rfl) (by wtm_at "fo own") (by decide +kernel) rfl rfl rfl (sw_true rfl rfl rfl (by decide +kernel)) ?ki ?kg ?kt ?ke; (case ki => wtm_at "fo i"); (case kg => (intro _ _ _ _ _; wtm_at "fo g")); (case kt => (intro _ _ _ _ _; wtm_at "fo ts")); (case ke => (intro _ _ _ _ _; wtm_at "fo e")))
  | (refine' ps_setLcO (i := 7) (by assumption) (by exact rfl) (by exact rfl) (by wtm_at "fo own") (by decide +kernel) rfl rfl rfl (sw_true rfl rfl rfl (by decide +kernel)) ?ki ?kg ?kt ?ke; (case ki => wtm_at "fo i"); (case kg => (intro _ _ _ _ _; wtm_at "fo g")); (case kt => (intro _ _ _ _ _; wtm_at "fo ts")); (case ke => (intro _ _ _ _ _; wtm_at "fo e")))
  | (refine' ps_setLcO (i := 8) (by assumption) (by exact rfl) (by exact rfl) (by wtm_at "fo own") (by decide +kernel) rfl rfl rfl (sw_true rfl rfl rfl (by decide +kernel)) ?ki ?kg ?kt ?ke; (case ki => wtm_at "fo i"); (case kg => (intro _ _ _ _ _; wtm_at "fo g")); (case kt => (intro _ _ _ _ _; wtm_at "fo ts")); (case ke => (intro _ _ _ _ _; wtm_at "fo e")))
  | (refine' ps_setLcO (i := 9) (by assumption) (by exact rfl) (by exact rfl) (by wtm_at "fo own") (by decide +kernel) rfl rfl rfl (sw_true rfl rfl rfl (by decide +kernel)) ?ki ?kg ?kt ?ke; (case ki => wtm_at "fo i"); (case kg => (intro _ _ _ _ _; wtm_at "fo g")); (case kt => (intro _ _ _ _ _; wtm_at "fo ts")); (case ke => (intro _ _ _ _ _; wtm_at "fo e")))
  | (refine' ps_setLcO (i := 10) (by assumption) (by exact rfl) (by exact rfl) (by wtm_at "fo own") (by decide +kernel) rfl rfl rfl (sw_true rfl rfl rfl (by decide +kernel)) ?ki ?kg ?kt ?ke; (case ki => wtm_at "fo i"); (case kg => (intro _ _ _ _ _; wtm_at "fo g")); (case kt => (intro _ _ _ _ _; wtm_at "fo ts")); (case ke => (intro _ _ _ _ _; wtm_at "fo e")))
  | (refine' ps_setLcO (i := 11) (by assumption) (by exact rfl) (by exact rfl) (by wtm_at "fo own") (by decide +kernel) rfl rfl rfl (sw_true rfl rfl rfl (by decide +kernel)) ?ki ?kg ?kt ?ke; (case ki => wtm_at "fo i"); (case kg => (intro _ _ _ _ _; wtm_at "fo g")); (case kt => (intro _ _ _ _ _; wtm_at "fo ts")); (case ke => (intro _ _ _ _ _; wtm_at "fo e")))
  | (refine' ps_setLcO (i := 12) (by assumption) (by exact rfl) (by exact rfl) (by wtm_at "fo own") (by decide +kernel) rfl rfl rfl (sw_true rfl rfl rfl (by decide +kernel)) ?ki ?kg ?kt ?ke; (case ki => wtm_at "fo i"); (case kg => (intro _ _ _ _ _; wtm_at "fo g")); (case kt => (intro _ _ _ _ _; wtm_at "fo ts")); (case ke => (intro _ _ _ _ _; wtm_at "fo e")))
  | (refine' ps_setLcO (i := 13) (by assumption) (by exact rfl) (by exact rfl) (by wtm_at "fo own") (by decide +kernel) rfl rfl rfl (sw_true rfl rfl rfl (by decide +kernel)) ?ki ?kg ?kt ?ke; (case ki => wtm_at "fo i"); (case kg => (intro _ _ _ _ _; wtm_at "fo g")); (case kt => (intro _ _ _ _ _; wtm_at "fo ts")); (case ke => (intro _ _ _ _ _; wtm_at "fo e")))
  | (refine' ps_setLcO (i := 14) (by assumption) (by exact rfl) (by exact rfl) (by wtm_at "fo own") (by decide +kernel) rfl rfl rfl (sw_true rfl rfl rfl (by decide +kernel)) ?ki ?kg ?kt ?ke; (case ki => wtm_at "fo i"); (case kg => (intro _ _ _ _ _; wtm_at "fo g")); (case kt => (intro _ _ _ _ _; wtm_at "fo ts")); (case ke => (intro _ _ _ _ _; wtm_at "fo e")))
  | (refine' ps_setLcO (i := 15) (by assumption) (by exact rfl) (by exact rfl) (by wtm_at "fo own") (by decide +kernel) rfl rfl rfl (sw_true rfl rfl rfl (by decide +kernel)) ?ki ?kg ?kt ?ke; (case ki => wtm_at "fo i"); (case kg => (intro _ _ _ _ _; wtm_at "fo g")); (case kt => (intro _ _ _ _ _; wtm_at "fo ts")); (case ke => (intro _ _ _ _ _; wtm_at "fo e")))
  | fail "no")
local macro_rules | `(tactic| wtm_at "fo set") => `(tactic| first
  | (refine' ps_set (i := 0) (by assumption) rfl (by first | exact Or.inl rfl | exact Or.inr rfl) ?ka; (case ka => wtm_at "fo e"))
  | (refine' ps_set (i := 1) (by assumption) rfl (by first | exact Or.inl rfl | exact Or.inr rfl) ?ka; (case ka => wtm_at "fo e"))
  | (refine' ps_set (i := 2) (by assumption) rfl (by first | exact Or.inl rfl | exact Or.inr rfl) ?ka; (case ka => wtm_at "fo e"))
  | (refine' ps_set (i := 3) (by assumption) rfl (by first | exact Or.inl rfl | exact Or.inr rfl) ?ka; (case ka => wtm_at "fo e"))
  | (refine' ps_set (i := 4) (by assumption) rfl (by first | exact Or.inl rfl | exact Or.inr rfl) ?ka; (case ka => wtm_at "fo e"))
  | (refine' ps_set (i := 5) (by assumption) rfl (by first | exact Or.inl rfl | exact Or.inr rfl) ?ka; (case ka => wtm_at "fo e"))
  | (refine' ps_set (i := 6) (by assumption) rfl (by first | exact Or.inl rfl | exact Or.inr rfl) ?ka; (case ka => wtm_at "fo e"))
  | (refine' ps_set (i := 7) (by assumption) rfl (by first | exact Or.inl rfl | exact Or.inr rfl) ?ka; (case ka => wtm_at "fo e"))
  | (refine' ps_set (i := 8) (by assumption) rfl (by first | exact Or.inl rfl | exact Or.inr rfl) ?ka; (case ka => wtm_at "fo e"))
  | (refine' ps_set (i := 9) (by assumption) rfl (by first | exact Or.inl rfl | exact Or.inr rfl) ?ka; (case ka => wtm_at "fo e"))
  | (refine' ps_set (i := 10) (by assumption) rfl (by first | exact Or.inl rfl | exact Or.inr rfl) ?ka; (case ka => wtm_at "fo e"))
  | (refine' ps_set (i := 11) (by assumption) rfl (by first | exact Or.inl rfl | exact Or.inr rfl) ?ka; (case ka => wtm_at "fo e"))
  | (refine' ps_set (i := 12) (by assumption) rfl (by first | exact Or.inl rfl | exact Or.inr rfl) ?ka; (case ka => wtm_at "fo e"))
  | (refine' ps_set (i := 13) (by assumption) rfl (by first | exact Or.inl rfl | exact Or.inr rfl) ?ka; (case ka => wtm_at "fo e"))
  | fail "no")
local macro_rules | `(tactic| wtm_at "fo t") => `(tactic| first
  | ((with_reducible show PT _ (.BoolOp _ _ _) _); apply PW.pt; wtm_at "fo w")
  | ((with_reducible show PT _ (.UnaryOp .Not _ _) _); apply pt_not; wtm_at "fo t")
  | ((with_reducible show PT _ (.Compare _ _ _ _) _); wtm_at "fo tcmp")
  | (refine' pt_truthK (by assumption) (by exact rfl) ?ka (by intro _; rfl); (case ka => wtm_at "fo e"))
  | fail "no")
local macro_rules | `(tactic| wtm_at "fo gn") => `(tactic| first
  | exact pg_name (i := 0) (by assumption) rfl (by first | exact Or.inl rfl | exact Or.inr rfl)
  | exact pg_name (i := 1) (by assumption) rfl (by first | exact Or.inl rfl | exact Or.inr rfl)
  | exact pg_name (i := 2) (by assumption) rfl (by first | exact Or.inl rfl | exact Or.inr rfl)
  | exact pg_name (i := 3) (by assumption) rfl (by first | exact Or.inl rfl | exact Or.inr rfl)
  | exact pg_name (i := 4) (by assumption) rfl (by first | exact Or.inl rfl | exact Or.inr rfl)
  | exact pg_name (i := 5) (by assumption) rfl (by first | exact Or.inl rfl | exact Or.inr rfl)
  | exact pg_name (i := 6) (by assumption) rfl (by first | exact Or.inl rfl | exact Or.inr rfl)
  | exact pg_name (i := 7) (by assumption) rfl (by first | exact Or.inl rfl | exact Or.inr rfl)
  | exact pg_name (i := 8) (by assumption) rfl (by first | exact Or.inl rfl | exact Or.inr rfl)
  | exact pg_name (i := 9) (by assumption) rfl (by first | exact Or.inl rfl | exact Or.inr rfl)
  | exact pg_name (i := 10) (by assumption) rfl (by first | exact Or.inl rfl | exact Or.inr rfl)
  | exact pg_name (i := 11) (by assumption) rfl (by first | exact Or.inl rfl | exact Or.inr rfl)
  | exact pg_name (i := 12) (by assumption) rfl (by first | exact Or.inl rfl | exact Or.inr rfl)
  | exact pg_name (i := 13) (by assumption) rfl (by first | exact Or.inl rfl | exact Or.inr rfl)
  | exact pg_name (i := 14) (by assumption) rfl (by first | exact Or.inl rfl | exact Or.inr rfl)
  | exact pg_name (i := 15) (by assumption) rfl (by first | exact Or.inl rfl | exact Or.inr rfl)
  | fail "no")
local macro_rules | `(tactic| wtm_at "fo par") => `(tactic| first
  | (refine' ps_par (i := 0) (j := 1) rfl (by assumption) rfl rfl (by decide) rfl rfl ?ka (by rfl); (case ka => wtm_at "fo a"))
  | (refine' ps_par (i := 1) (j := 2) rfl (by assumption) rfl rfl (by decide) rfl rfl ?ka (by rfl); (case ka => wtm_at "fo a"))
  | (refine' ps_par (i := 2) (j := 3) rfl (by assumption) rfl rfl (by decide) rfl rfl ?ka (by rfl); (case ka => wtm_at "fo a"))
  | (refine' ps_par (i := 3) (j := 4) rfl (by assumption) rfl rfl (by decide) rfl rfl ?ka (by rfl); (case ka => wtm_at "fo a"))
  | (refine' ps_par (i := 4) (j := 5) rfl (by assumption) rfl rfl (by decide) rfl rfl ?ka (by rfl); (case ka => wtm_at "fo a"))
  | (refine' ps_par (i := 5) (j := 6) rfl (by assumption) rfl rfl (by decide) rfl rfl ?ka (by rfl); (case ka => wtm_at "fo a"))
  | (refine' ps_par (i := 6) (j := 7) rfl (by assumption) rfl rfl (by decide) rfl rfl ?ka (by rfl); (case ka => wtm_at "fo a"))
  | (refine' ps_par (i := 7) (j := 8) rfl (by assumption) rfl rfl (by decide) rfl rfl ?ka (by rfl); (case ka => wtm_at "fo a"))
  | (refine' ps_par (i := 8) (j := 9) rfl (by assumption) rfl rfl (by decide) rfl rfl ?ka (by rfl); (case ka => wtm_at "fo a"))
  | (refine' ps_par (i := 9) (j := 10) rfl (by assumption) rfl rfl (by decide) rfl rfl ?ka (by rfl); (case ka => wtm_at "fo a"))
  | (refine' ps_par (i := 10) (j := 11) rfl (by assumption) rfl rfl (by decide) rfl rfl ?ka (by rfl); (case ka => wtm_at "fo a"))
  | (refine' ps_par (i := 11) (j := 12) rfl (by assumption) rfl rfl (by decide) rfl rfl ?ka (by rfl); (case ka => wtm_at "fo a"))
  | (refine' ps_par (i := 12) (j := 13) rfl (by assumption) rfl rfl (by decide) rfl rfl ?ka (by rfl); (case ka => wtm_at "fo a"))
  | (refine' ps_par (i := 13) (j := 14) rfl (by assumption) rfl rfl (by decide) rfl rfl ?ka (by rfl); (case ka => wtm_at "fo a"))
  | (refine' ps_par (i := 14) (j := 15) rfl (by assumption) rfl rfl (by decide) rfl rfl ?ka (by rfl); (case ka => wtm_at "fo a"))
  | fail "no")
local macro_rules | `(tactic| wtm_at "fo g") => `(tactic| first
  | ((with_reducible show PG _ (.Name _ _) _); wtm_at "fo gn")
  | ((with_reducible show PG _ (.Tuple _ _ _) _); apply PG_or; (· refine' pg_tup2 (by assumption) (by exact rfl) rfl ?kg; (case kg => wtm_at "fo gs")); (· refine' pg_unl2 (by assumption) (by exact rfl) rfl ?kg; (case kg => wtm_at "fo gs")))
  | fail "no")
local macro_rules | `(tactic| wtm_at "fo gs") => `(tactic| first
  | exact pgs_nil
  | (refine' pgs_cons ?k1 ?k2; (case k1 => wtm_at "fo g"); (case k2 => wtm_at "fo gs"))
  | fail "no")
local macro_rules | `(tactic| wtm_at "fo i") => `(tactic| first
  | ((with_reducible show PI _ _ (.Call (.Name (Str.ofString "range") _) [_] _ _) _); refine' pi_range1 (by rfl) (by assumption) ?ka; (case ka => wtm_at "fo a"))
  | ((with_reducible show PI _ _ (.Call (.Name (Str.ofString "range") _) [_, _] _ _) _); refine' pi_range2 (by rfl) (by assumption) ?ka; (case ka => wtm_at "fo a"))
  | ((with_reducible show PI _ _ (.Call (.Name (Str.ofString "enumerate") _) [_] _ _) _); refine' pi_enum (by rfl) (by assumption) ?ka; (case ka => wtm_at "fo a"))
  | (refine' pi_listK (by assumption) (by exact rfl) ?ka; (case ka => wtm_at "fo e"))
  | fail "no")
local macro_rules | `(tactic| wtm_at "fo s") => `(tactic| first
  | ((with_reducible show PS _ (.While _ _ _ _) _); refine' ps_while PassesOwn.never ?kt ?kb; (case kt => wtm_at "fo t"); (case kb => wtm_at "fo ss"))
  | ((with_reducible show PS _ (.For _ _ _ _ _) _); refine' ps_for PassesOwn.never rfl ?ki ?kg ?kb; (case ki => wtm_at "fo i"); (case kg => wtm_at "fo g"); (case kb => wtm_at "fo ss"))
  | ((with_reducible show PS _ (.Assign [.Name _ _] (.ListComp _ [_] _ _) _) _); wtm_at "fo setlc")
  | ((with_reducible show PS _ (.Assign [.Name _ _] _ _) _); wtm_at "fo set")
  | ((with_reducible show PS _ (.Assign [.Tuple [.Name _ _, .Name _ _] _ _] (.Tuple [_, _] _ _) _) _); wtm_at "fo par")
  | ((with_reducible show PS _ (.Assign [.Subscript _ _ _] _ _) _); refine' ps_asg ?ka (pg_sub ?kb ?kc set_list); (case ka => wtm_at "fo e"); (case kb => wtm_at "fo e"); (case kc => wtm_at "fo e"))
  | ((with_reducible show PS _ (.Return (some _) _) _); apply ps_ret; wtm_at "fo e")
  | ((with_reducible show PS _ (.Expr _ _) _); refine' ps_expr ?ka; (case ka => wtm_at "fo e"))
  | ((with_reducible show PS _ (.If _ _ _ _) _); apply ps_if; (· wtm_at "fo t"); (· wtm_at "fo ss"); (· wtm_at "fo ss"))
  | fail "no")
local macro_rules | `(tactic| wtm_at "fo ss") => `(tactic| first
  | with_reducible exact pss_nil
  | ((with_reducible show PSs _ [_] _); apply pss_one; wtm_at "fo s")
  | (apply pss_cons; (· wtm_at "fo s"); (· wtm_at "fo ss"))
  | fail "no")
local macro_rules | `(tactic| wtm_at "fo hp") => `(tactic| first
  | assumption
  | exact upd_same
  | (refine (upd_ne ?ne).trans ?hp; (case ne => wtm_at "fo ne"); (case hp => wtm_at "fo hp"))
  | fail "no")
local macro_rules | `(tactic| wtm_at "fo ne") => `(tactic| first
  | assumption
  | (apply Ne.symm; assumption)
  | exact ne_of_none (by assumption) (by assumption)
  | exact Ne.symm (ne_of_none (by assumption) (by assumption))
  | fail "no")
local macro_rules | `(tactic| wtm_at "fo sz") => `(tactic| first
  | exact (Nat.le_of_ble_eq_true rfl : _ ≤ sizeLine)
  | exact (Nat.le_of_ble_eq_true rfl : _ < sizeLine)
  | exact Nat.lt_of_le_of_lt (m := 100000) (by first | assumption | omega | (simp; omega)) (by decide)
  | exact Nat.le_trans (m := 100000) (by first | assumption | omega | (simp; omega)) (by decide)
  | fail "no")
local macro_rules | `(tactic| wtm_at "fo r1") => `(tactic| first
  | refine ⟨(Nat.le_of_ble_eq_true rfl : _ ≤ sizeLine), fun p np => ?_⟩
  | (refine' ⟨_, _, rfl, Or.inl (SqL.of ?h), ?_⟩; (case h => wtm_at "fo hp"))
  | refine ⟨_, rfl, ?_⟩
  | refine ⟨_, _, rfl, rfl, ?_⟩
  | refine ⟨_, _, rfl, ⟨by omega, by omega, by omega, by omega⟩, ?_⟩
  | refine ⟨_, rfl, by omega, by omega, ?_⟩
  | refine Or.inl ⟨_, rfl, ?_⟩
  | refine Or.inl ⟨rfl, ?_⟩
  | refine Or.inl ⟨_, _, rfl, rfl, ?_⟩
  | (refine' Or.inl ⟨_, _, _, _, rfl, rfl, SqL.of ?h, ?a, ?_⟩; (case h => wtm_at "fo hp"); (case a => rfl))
  | (refine' ⟨_, _, _, _, rfl, rfl, ?h, ?a, ?_⟩; (case h => wtm_at "fo hp"); (case a => rfl))
  | (refine' ⟨.inl ⟨rfl, _, SqL.of ?h⟩, ?_⟩; (case h => wtm_at "fo hp"))
  | (refine' ⟨_, _, _, rfl, rfl, ?h, ?z, ?_⟩; (case h => wtm_at "fo hp"); (case z => wtm_at "fo sz"))
  | (refine' ⟨_, rfl, ⟨_, SqL.of ?h⟩, ?_⟩; (case h => wtm_at "fo hp"))
  | fail "no")
local macro_rules | `(tactic| wtm_at "fo side") => `(tactic| ((try dsimp only [CMul, CDiv]); first
  | assumption
  | decide
  | omega
  | exact ⟨by decide, by decide⟩
  | exact ⟨by omega, by omega⟩
  | decide +kernel
  | fail "no"))
local macro_rules | `(tactic| wtm_at "fo r2") => `(tactic| first
  | wtm_at "fo r1"
  | refine And.intro (by wtm_at "fo side") ?_
  | fail "no")
local macro_rules | `(tactic| wtm_at "fo r") => `(tactic| repeat wtm_at "fo r2")
local macro_rules | `(tactic| wtm_at "fo v") => `(tactic| first
  | ((with_reducible show PE _ (.Name (Str.ofString "int") _) _); exact pe_bltn (v := .ty "int") (by rfl) (by assumption) (by decide +kernel) rfl)
  | ((with_reducible show PE _ (.Name (Str.ofString "list") _) _); exact pe_bltn (v := .ty "list") (by rfl) (by assumption) (by decide +kernel) rfl)
  | ((with_reducible show PE _ (.Name (Str.ofString "MOST_PLACES") _) _); exact pe_glob (v := .int 12) (by rfl) (by assumption) ⟨_, rfl⟩)
  | fail "no")
local macro_rules | `(tactic| wtm_at "fo e") => `(tactic| first
  | ((with_reducible show PE _ (.BoolOp .And [_] _) _); apply pe_one; wtm_at "fo e")
  | ((with_reducible show PE _ (.BoolOp .And _ _) _); apply pe_and; (· wtm_at "fo e"); (· wtm_at "fo e"))
  | ((with_reducible show PE _ (.Compare _ [.IsNot] [.Constant (.bool true) _ _] _) _); refine' pe_cmpR op_notT ?ka ?kb (nomark _); (case ka => wtm_at "fo e"); (case kb => wtm_at "fo e"))
  | ((with_reducible show PE _ (.Compare _ [.LtE, .LtE] _ _) _); refine' pe_chain op_le op_le ?ka ?kb ?kc; (case ka => wtm_at "fo e"); (case kb => wtm_at "fo e"); (case kc => wtm_at "fo e"))
  | ((with_reducible show PE _ (.Call (.Name (Str.ofString "isinstance") _) _ _ _) _); refine' pe_callB (call_isiK' (by assumption) (by exact rfl)) (by rfl) (by assumption) (by decide +kernel) ?ka; (case ka => wtm_at "fo a"))
  | ((with_reducible show PE _ (.Call (.Attribute _ (Str.ofString "bit_length") _) [] [] _) _); refine' pe_bits ?ka; (case ka => wtm_at "fo e"))
  | fail "no")
local macro_rules | `(tactic| wtm_at "fo t") => `(tactic| first
  | ((with_reducible show PT _ (.Compare _ [.IsNot] [.Constant (.bool true) _ _] _) _); refine' pt_cmpR op_notT ?ka ?kb (nomark _); (case ka => wtm_at "fo e"); (case kb => wtm_at "fo e"))
  | ((with_reducible show PT _ (.Compare _ [.Lt, .Lt, .LtE] _ _) _); refine' pt_chain3 op_lt op_lt op_le ?ka ?kb ?kc ?kd; (case ka => wtm_at "fo e"); (case kb => wtm_at "fo e"); (case kc => wtm_at "fo e"); (case kd => wtm_at "fo e"))
  | fail "no")
local macro_rules | `(tactic| wtm_at "fo s") => `(tactic| first
  | ((with_reducible show PS _ (.Raise _ _ _) _); exact ps_never)
  | ((with_reducible show PS _ (.Continue _) _); exact ps_continue)
  | ((with_reducible show PS _ (.AugAssign (.Subscript _ _ _) .BitOr _ _) _); refine' ps_augS ?ka ?kb get_list ?kc ip_or set_list; (case ka => wtm_at "fo e"); (case kb => wtm_at "fo e"); (case kc => wtm_at "fo e"))
  | ((with_reducible show PS _ (.Assign [.Tuple _ _ _] (.Name _ _) _) _); refine' ps_asg ?ka ?kb; (case ka => wtm_at "fo e"); (case kb => wtm_at "fo g"))
  | fail "no")
local macro_rules | `(tactic| wtm_at "fo lc") => `(tactic| (refine' pe_lcN (by assumption) (by exact rfl) (by exact rfl) (by wtm_at "fo own") (by kernel_rfl!) rfl ?ki ?kg ?kt ?ke; (case ki => wtm_at "fo i"); (case kg => (intro _ _ _ _ _; wtm_at "fo g")); (case kt => (intro _ _ _ _ _; wtm_at "fo ts")); (case ke => (intro _ _ _ _ _; wtm_at "fo e"))))
local macro_rules | `(tactic| wtm_at "fo s") => `(tactic| ((with_reducible show PS _ (.Assign [.Tuple _ _ _] (.Call _ _ _ _) _) _); refine' ps_asg ?ka ?kb; (case ka => wtm_at "fo e"); (case kb => wtm_at "fo g")))
local macro_rules | `(tactic| wtm_at "fo cmp") => `(tactic| ((with_reducible show PE _ (.Compare _ [.In] _ _) _); refine' pe_cmpR (op_inK (by assumption) (by exact rfl)) ?ka ?kb rfl; (case ka => wtm_at "fo e"); (case kb => wtm_at "fo e")))
local macro_rules | `(tactic| wtm_at "fo call") => `(tactic| ((with_reducible show PE _ (.Call (.Name (Str.ofString "list") _) [.Call (.Name (Str.ofString "range") _) [_] _ _] _ _) _); refine' pe_listRg rfl (by rfl) (by assumption) (prg_1 (by rfl) (by assumption) ?ka); (case ka => wtm_at "fo e")))
local macro_rules | `(tactic| wtm_at "fo call") => `(tactic| ((with_reducible show PE _ (.Call (.Name (Str.ofString "min") _) [_] _ _) _); refine' pe_callB (call_minK (by assumption) (by exact rfl) rfl) (by rfl) (by assumption) (by decide +kernel) ?ka; (case ka => wtm_at "fo a")))
local macro_rules | `(tactic| wtm_at "fo i") => `(tactic| ((with_reducible show PI _ _ (.Call (.Name (Str.ofString "reversed") _) [_] _ _) _); refine' pi_reversed (by rfl) (by assumption) ?ka; (case ka => wtm_at "fo a")))
local macro_rules | `(tactic| wtm_at "fo s") => `(tactic| ((with_reducible show PS _ (.AugAssign (.Name _ _) .BitXor _ _) _); first | (refine' ps_aug (i := 2) (by assumption) rfl (by first | exact Or.inl rfl | exact Or.inr rfl) ?ka ip_xor; (case ka => wtm_at "fo e")) | fail "no"))
local macro_rules | `(tactic| wtm_at "fo call") => `(tactic| (refine' pe_calG (by assumption) (by assumption) (by decide) (by assumption) (by rfl) ?ka; (case ka => wtm_at "fo a")))
local macro_rules | `(tactic| wtm_at "fo meth") => `(tactic| ((with_reducible show PE _ (.Call (.Attribute _ (Str.ofString "count") _) _ _ _) _); refine' pe_cntK (by assumption) (by exact rfl) ?ka ?kb; (case ka => wtm_at "fo e"); (case kb => wtm_at "fo a")))
local macro_rules | `(tactic| wtm_at "fo call") => `(tactic| ((with_reducible show PE _ (.Call (.Name (Str.ofString "sorted") _) [_] _ _) _); refine' pe_callB (cr_sortedB (by assumption) (by exact rfl) (Room.units (by assumption))) (by rfl) (by assumption) (by decide +kernel) ?ka; (case ka => wtm_at "fo a")))
local macro_rules | `(tactic| wtm_at "fo v") => `(tactic| first
  | exact pv 16
  | exact pv 17
  | exact pv 18
  | exact pv 19
  | fail "no")
local macro_rules | `(tactic| wtm_at "fo own") => `(tactic| first
  | ((show _ = [16]); kernel_rfl!)
  | ((show _ = [17]); kernel_rfl!)
  | ((show _ = [18]); kernel_rfl!)
  | ((show _ = [19]); kernel_rfl!)
  | ((show _ = [15, 16]); kernel_rfl!)
  | ((show _ = [16, 17]); kernel_rfl!)
  | ((show _ = [17, 18]); kernel_rfl!)
  | ((show _ = [18, 19]); kernel_rfl!)
  | fail "no")
local macro_rules | `(tactic| wtm_at "fo set") => `(tactic| first
  | (refine' ps_set (i := 14) (by assumption) rfl (by first | exact Or.inl rfl | exact Or.inr rfl) ?ka; (case ka => wtm_at "fo e"))
  | (refine' ps_set (i := 15) (by assumption) rfl (by first | exact Or.inl rfl | exact Or.inr rfl) ?ka; (case ka => wtm_at "fo e"))
  | (refine' ps_set (i := 16) (by assumption) rfl (by first | exact Or.inl rfl | exact Or.inr rfl) ?ka; (case ka => wtm_at "fo e"))
  | (refine' ps_set (i := 17) (by assumption) rfl (by first | exact Or.inl rfl | exact Or.inr rfl) ?ka; (case ka => wtm_at "fo e"))
  | (refine' ps_set (i := 18) (by assumption) rfl (by first | exact Or.inl rfl | exact Or.inr rfl) ?ka; (case ka => wtm_at "fo e"))
  | (refine' ps_set (i := 19) (by assumption) rfl (by first | exact Or.inl rfl | exact Or.inr rfl) ?ka; (case ka => wtm_at "fo e"))
  | fail "no")
local macro_rules | `(tactic| wtm_at "fo setlc") => `(tactic| first
  | (refine' ps_setLcO (i := 16) (by assumption) (by exact rfl) (by exact rfl) (by wtm_at "fo own") (by decide +kernel) rfl rfl rfl (sw_true rfl rfl rfl (by decide +kernel)) ?ki ?kg ?kt ?ke; (case ki => wtm_at "fo i"); (case kg => (intro _ _ _ _ _; wtm_at "fo g")); (case kt => (intro _ _ _ _ _; wtm_at "fo ts")); (case ke => (intro _ _ _ _ _; wtm_at "fo e")))
  | (refine' ps_setLcO (i := 17) (by assumption) (by exact rfl) (by exact rfl) (by wtm_at "fo own") (by decide +kernel) rfl rfl rfl (sw_true rfl rfl rfl (by decide +kernel)) ?ki ?kg ?kt ?ke; (case ki => wtm_at "fo i"); (case kg => (intro _ _ _ _ _; wtm_at "fo g")); (case kt => (intro _ _ _ _ _; wtm_at "fo ts")); (case ke => (intro _ _ _ _ _; wtm_at "fo e")))
  | (refine' ps_setLcO (i := 18) (by assumption) (by exact rfl) (by exact rfl) (by wtm_at "fo own") (by decide +kernel) rfl rfl rfl (sw_true rfl rfl rfl (by decide +kernel)) ?ki ?kg ?kt ?ke; (case ki => wtm_at "fo i"); (case kg => (intro _ _ _ _ _; wtm_at "fo g")); (case kt => (intro _ _ _ _ _; wtm_at "fo ts")); (case ke => (intro _ _ _ _ _; wtm_at "fo e")))
  | (refine' ps_setLcO (i := 19) (by assumption) (by exact rfl) (by exact rfl) (by wtm_at "fo own") (by decide +kernel) rfl rfl rfl (sw_true rfl rfl rfl (by decide +kernel)) ?ki ?kg ?kt ?ke; (case ki => wtm_at "fo i"); (case kg => (intro _ _ _ _ _; wtm_at "fo g")); (case kt => (intro _ _ _ _ _; wtm_at "fo ts")); (case ke => (intro _ _ _ _ _; wtm_at "fo e")))
  | fail "no")
local macro_rules | `(tactic| wtm_at "fo gn") => `(tactic| first
  | exact pg_name (i := 16) (by assumption) rfl (by first | exact Or.inl rfl | exact Or.inr rfl)
  | exact pg_name (i := 17) (by assumption) rfl (by first | exact Or.inl rfl | exact Or.inr rfl)
  | exact pg_name (i := 18) (by assumption) rfl (by first | exact Or.inl rfl | exact Or.inr rfl)
  | exact pg_name (i := 19) (by assumption) rfl (by first | exact Or.inl rfl | exact Or.inr rfl)
  | fail "no")
local macro_rules | `(tactic| wtm_at "fo s") => `(tactic| ((with_reducible show PS _ (.Assign [.Tuple _ _ _] (.Tuple _ _ _) _) _); refine' ps_asg ?ka ?kb; (case ka => wtm_at "fo e"); (case kb => wtm_at "fo g")))
local macro_rules | `(tactic| wtm_at "fo e") => `(tactic| first
  | ((with_reducible show PE _ (.UnaryOp .Invert _ _) _); apply pe_un un_inv; wtm_at "fo e")
  | ((with_reducible show PE _ (.BoolOp .Or [_] _) _); apply pe_one; wtm_at "fo e")
  | ((with_reducible show PE _ (.BoolOp .Or _ _) _); apply pe_or; (· wtm_at "fo e"); (· wtm_at "fo e"))
  | ((with_reducible show PE _ (.BinOp _ .Mult _ _) _); apply pe_op opMulB <;> wtm_at "fo e")
  | ((with_reducible show PE _ (.BinOp _ .BitOr _ _) _); apply pe_op op_or <;> wtm_at "fo e")
  | ((with_reducible show PE _ (.Compare _ [.Is] [.Constant .none _ _] _) _); refine' pe_cmpR op_isN ?ka ?kb (nomark _); (case ka => wtm_at "fo e"); (case kb => wtm_at "fo e"))
  | fail "no")
local macro_rules | `(tactic| wtm_at "fo t") => `(tactic| first
  | ((with_reducible show PT _ (.Compare _ [.Is] [.Constant .none _ _] _) _); refine' pt_cmpR op_isN ?ka ?kb (nomark _); (case ka => wtm_at "fo e"); (case kb => wtm_at "fo e"))
  | ((with_reducible show PT _ (.Compare _ [.IsNot] [.Constant .none _ _] _) _); refine' pt_cmpR op_notN ?ka ?kb (nomark _); (case ka => wtm_at "fo e"); (case kb => wtm_at "fo e"))
  | fail "no")
local macro_rules | `(tactic| wtm_at "fo i") => `(tactic| first
  | ((with_reducible show PI _ _ (.Call (.Name (Str.ofString "enumerate") _) [_, _] [] _) _); refine' pi_enumC (by assumption) (by exact rfl) (by rfl) (by assumption) ?ka; (case ka => wtm_at "fo a"))
  | ((with_reducible show PI _ _ (.Call (.Name (Str.ofString "enumerate") _) [_] [_] _) _); refine' pi_enumS (by assumption) (by exact rfl) (by rfl) (by assumption) ?ka ?kb; (case ka => wtm_at "fo a"); (case kb => wtm_at "fo k"))
  | fail "no")
local macro_rules | `(tactic| wtm_at "fo own") => `(tactic| first
  | ((show _ = [2, 4]); kernel_rfl!)
  | ((show _ = [4, 2]); kernel_rfl!)
  | fail "no")
local macro_rules | `(tactic| wtm_at "fo v") => `(tactic| ((with_reducible show PE _ (.Name (Str.ofString "tuple") _) _); exact pe_bltn (v := .ty "tuple") (by rfl) (by assumption) (by decide +kernel) rfl))
local macro_rules | `(tactic| wtm_at "fo slice") => `(tactic| ((with_reducible show PE _ (.Subscript _ (.Slice none none (some _) _) _) _); refine' pe_stepK2 (by assumption) (by exact rfl) ?ka ?kb; (case ka => wtm_at "fo e"); (case kb => wtm_at "fo e")))
local macro_rules | `(tactic| wtm_at "fo slice") => `(tactic| ((with_reducible show PE _ (.Subscript _ (.Slice none none (some _) _) _) _); refine' pe_someK7 (by assumption) (by exact rfl) ?ka ?kb; (case ka => wtm_at "fo e"); (case kb => wtm_at "fo e")))
local macro_rules | `(tactic| wtm_at "fo cmp") => `(tactic| ((with_reducible show PE _ (.Compare _ [.In] _ _) _); refine' pe_cmpR (op_inDK (by assumption) (by exact rfl) (by assumption)) ?ka ?kb rfl; (case ka => wtm_at "fo e"); (case kb => wtm_at "fo e")))
variable {P : Program} {w : World} {K : PySem.W.Frag} {mg : Str → Option Value} {base : Heap}
/-! ### all_right -/
@[irreducible] def spAll : Sp := fun vs H Q _ => ∃ (q2 q : Addr) (m n : Nat) (fs es : List Edge), vs = [.int n, .ref q2, .int m, .ref q] ∧ 1 ≤ m ∧ m ≤ 4 ∧ Pairs H q fs ∧ Simp m fs ∧ fs.length ≤ 200 ∧ 1 ≤ n ∧ n ≤ 5 ∧ Pairs H q2 es ∧ Simp n es ∧ es.length ≤ 200 ∧
  ∀ H', Same H H' → Q (.bl true) H'
theorem call_allr {q2 q : Addr} {m n : Nat} {fs es : List Edge} {H : Hp} {Q : VK} {E : XK} (a1 : 1 ≤ m) (a2 : m ≤ 4) (a3 : Pairs H q fs) (a4 : Simp m fs) (a5 : fs.length ≤ 200) (b1 : 1 ≤ n) (b2 : n ≤ 5) (b3 : Pairs H q2 es) (b4 : Simp n es) (b5 : es.length ≤ 200)
    (fin : ∀ H', Same H H' → Q (.bl true) H') : spAll [.int n, .ref q2, .int m, .ref q] H Q E := by
  unfold spAll
  exact ⟨q2, q, m, n, fs, es, rfl, a1, a2, a3, a4, a5, b1, b2, b3, b4, b5, fin⟩
set_option maxHeartbeats 16000000 in
noncomputable def derAll (f : Addr) (cdv : Value) (A : Around) (outer : List Env) (s0 : Shared) (H : Hp) (E : XK) (hr : Room 4 (A.deeper (envOfC "_law_all_right" (defScope s_law_all_right) s0.heap.objs.size f cdv))) (hgd : A.guards = some []) (mp : mg "repr" = none) (mr : mg "range" = none) (mn : mg "len" = none)
    (C0 : Cal P w K mg base "_law_near" 1 ["_law_size", "_law_sides"] spNear) (C1 : Cal P w K mg base "_law_fits" 1 ["_law_near_here", "_law_knots", "_law_spots"] spFits)
    (C2 : Cal P w K mg base "count_standings" 4 ["people", "ties", "places", "lines"] spCount) (C3 : KCal P w K mg base "count_standings" 4 ["people", "ties", "places", "lines"] ["lines", "places", "ties", "people"] g4k g4k spCount)
    (C4 : Cal P w K mg base "is_standing" 4 ["people", "ties", "places", "lines", "standing"] spIsStand) :
    PSigma fun t => PSs (cxOf CX0 P w K mg base ["_law_size", "_law_sides", "_law_crowd", "_law_knots", "_law_near_here", "_law_rows", "_law_person", "_law_more", "_law_row", "_law_spot", "_law_good", "_law_told"] "_law_all_right" (defScope s_law_all_right) f cdv A outer s0 H E).nox (defBody s_law_all_right) t := by
  have nd := sc_law_all_right.nd
  have hS := sc_law_all_right
  have hKM : KMark K := ⟨⟩
  refine' mkSig ?h
  case h =>
    show PSs _ [_, _, _, _, _, _, _, _] _
    wtm_at "fo ss"
end
/-! piece TY -/
section
variable {P : Program} {w : World} {K : PySem.W.Frag} {mg : Str → Option Value} {base : Heap}
theorem RwAt.cat {H : Hp} {D D2 p : Addr} {rs rs2 : List Addr} {ts ts2 : List (List Int)} (h : RwAt H D rs ts) (h2 : RwAt H D2 rs2 ts2) (np : H p = none) :
    RwAt (upd H p (.lst (rs.map V.ref ++ rs2.map V.ref))) p (rs ++ rs2) (ts ++ ts2) := by
  refine ⟨by rw [upd_same, List.map_append], by rw [List.length_append, List.length_append, h.len, h2.len], ?_⟩
  intro i a u ha hu
  by_cases hi : i < rs.length
  · rw [List.getElem?_append_left hi] at ha
    rw [List.getElem?_append_left (by rw [← h.len]; exact hi)] at hu
    rw [upd_ne (ne_of_none (h.at_ i a u ha hu) np)]
    exact h.at_ i a u ha hu
  · rw [List.getElem?_append_right (by omega)] at ha
    rw [List.getElem?_append_right (by rw [← h.len]; omega), ← h.len] at hu
    rw [upd_ne (ne_of_none (h2.at_ _ a u ha hu) np)]
    exact h2.at_ _ a u ha hu
theorem zip_rw {H : Hp} {D : Addr} {rs : List Addr} {ts : List (List Int)} (h : RwAt H D rs ts) : (∀ x ∈ rs.zip ts, H x.1 = some (iL x.2) ∧ x.2 ∈ ts) ∧ (rs.zip ts).map (fun x => V.ref x.1) = rs.map V.ref ∧ (rs.zip ts).map (fun x => x.2) = ts := by
  refine ⟨fun x hx => ?_, ?_, ?_⟩
  · obtain ⟨i, hi⟩ := List.getElem?_of_mem hx
    rw [List.getElem?_zip_eq_some] at hi
    exact ⟨h.at_ i _ _ hi.1 hi.2, List.mem_of_getElem? hi.2⟩
  · rw [show (fun x : Addr × List Int => V.ref x.1) = V.ref ∘ Prod.fst from rfl, ← List.map_map, List.map_fst_zip (by rw [h.len]; exact Nat.le_refl _)]
  · exact List.map_snd_zip (by rw [h.len]; exact Nat.le_refl _)
theorem dok_rows {k : Nat} {ts : List (List Int)} (h : ∀ t ∈ ts, t.length ≤ 5 ∧ ∀ x ∈ t, x.natAbs < 1000) : SeqAt.shaped (.list (ts.map dI)) = true := by
  have := dok_list (n := 1) (b := 50) (xs := ts.map dI) (fun d hd => by
    obtain ⟨t, ht, rfl⟩ := List.mem_map.mp hd
    exact (dok_dI (h t ht).2).mono (Nat.le_refl _) (by have := (h t ht).1; omega))
  exact this.shaped (by decide)
theorem any_rows (ts : List (List Int)) (t : List Int) : (ts.map dI).any (fun z => PyData.eqv z (dI t)) = decide (t ∈ ts) := by
  rw [List.any_map]
  induction ts with
  | nil => simp
  | cons a l ih =>
    rw [List.any_cons, ih]
    show (PyData.eqv (dI a) (dI t) || _) = _
    have e := eqv_ints_dec a t
    rw [show PyData.eqv (dI a) (dI t) = decide (a = t) from e, ← Bool.decide_or]
    apply decide_eq_decide.mpr
    rw [List.mem_cons]
    constructor
    · rintro (h | h)
      · exact .inl h.symm
      · exact .inr h
    · rintro (h | h)
      · exact .inl h.symm
      · exact .inr h
set_option maxHeartbeats 16000000 in
theorem ok_allr {f : Addr} {fd : FuncData} (F : Fun K "_law_all_right" "_law_all_right" s_law_all_right f fd) (mp : mg "repr" = none) (mr : mg "range" = none) (mn : mg "len" = none)
    (C0 : Cal P w K mg base "_law_near" 1 ["_law_size", "_law_sides"] spNear) (C1 : Cal P w K mg base "_law_fits" 1 ["_law_near_here", "_law_knots", "_law_spots"] spFits)
    (C2 : Cal P w K mg base "count_standings" 4 ["people", "ties", "places", "lines"] spCount) (C3 : KCal P w K mg base "count_standings" 4 ["people", "ties", "places", "lines"] ["lines", "places", "ties", "people"] g4k g4k spCount)
    (C4 : Cal P w K mg base "is_standing" 4 ["people", "ties", "places", "lines", "standing"] spIsStand) :
    FnG P w K mg base CX0 5 f fd ["_law_size", "_law_sides", "_law_crowd", "_law_knots"] spAll := by
  refine okG F sc_law_all_right (fun vs H Q E h => ?_) (fun cdv A outer s0 H vs Q E hr hgd h => ?_)
  · unfold spAll at h
    obtain ⟨q2, q, m, n, fs, es, rfl, _⟩ := h
    rfl
  · have nd := sc_law_all_right.nd
    have hS := sc_law_all_right
    have hKM : KMark K := ⟨⟩
    refine ⟨_, (derAll (P := P) (w := w) (K := K) (mg := mg) (base := base) f cdv A outer s0 H E hr hgd mp mr mn C0 C1 C2 C3 C4).2, ?_⟩
    unfold derAll mkSig
    dsimp only
    next =>
     unfold spAll at h
     obtain ⟨q2, q, m, n, fs, es, rfl, a1, a2, a3, a4, a5, b1, b2, b3, b4, b5, fin⟩ := h
     wtm_at "fo r"
     refine call_near (by omega) b3 b5 (fun e he => by have := b4.rng e he; omega) (fun qn H1 sm1 nq hq => ?_)
     have hT1 : Tab H1 qn n (nearM n es) := ⟨hq, nearM_len n es⟩
     refine ⟨(Nat.le_of_ble_eq_true rfl : _ ≤ sizeLine), fun e0 ne0 => ?_⟩
     have sme : Same H1 (upd H1 e0 (.lst [])) := same_upd (Same.refl _) ne0
     have he0 : (upd H1 e0 (.lst [])) e0 = some (.lst []) := upd_same
     generalize upd H1 e0 (.lst []) = H2 at *
     refine ⟨(Nat.le_of_ble_eq_true rfl : _ ≤ sizeLine), fun R0 nR0 => ?_⟩
     have smr : Same H2 (upd H2 R0 (.lst [.ref e0])) := same_upd (Same.refl _) nR0
     have hR0 : RwAt (upd H2 R0 (.lst [.ref e0])) R0 [e0] (allZ n 0) := ⟨upd_same, rfl, fun i r t hr ht => by
       cases i with
       | zero =>
         cases hr
         cases ht
         exact smr _ _ he0
       | succ i => cases hr⟩
     have s13 := sme.trans smr
     generalize upd H2 R0 (.lst [.ref e0]) = H3 at *
     show tNext _ [some (.int n), some (.ref q2), some (.int m), some (.ref q), some (.ref qn), some (.ref R0), none, none, none, none, none, none] H3
     have hpow : ∀ i, i ≤ 4 → n ^ i ≤ 625 := fun i hi => Nat.le_trans (Nat.pow_le_pow_left b2 i) (Nat.le_trans (Nat.pow_le_pow_right (by decide) hi) (by decide))
     refine ⟨_, rfl, _, rfl, by omega, by omega, ?_⟩
     have hm' : ((m : Int)).toNat = m := by omega
     refine for_range (lo := 0) (n := ((m : Int)).toNat) (fun i σ G => ∃ (R : Addr) (y6 y7 y8 : Option V) (rs : List Addr), σ = [some (.int n), some (.ref q2), some (.int m), some (.ref q), some (.ref qn), some (.ref R), y6, y7, y8, none, none, none] ∧ Same H3 G ∧ RwAt G R rs (allZ n i)) ?_ ?_ ?_
     · exact ⟨R0, none, none, none, [e0], rfl, Same.refl _, hR0⟩
     · rintro i σ G hi ⟨R, y6, y7, y8, rs, rfl, smG, hRw⟩
       rw [hm'] at hi
       have hzl : (allZ n i).length ≤ 625 := by rw [allZ_len]; exact hpow i (by omega)
       refine ⟨(Nat.le_of_ble_eq_true rfl : _ ≤ sizeLine), fun M0 nM0 => ?_⟩
       have smM : Same G (upd G M0 (.lst [])) := same_upd (Same.refl _) nM0
       have hM0 : RwAt (upd G M0 (.lst [])) M0 [] [] := RwAt.nil upd_same
       generalize upd G M0 (.lst []) = G1 at *
       have hRw1 := hRw.same smM
       refine ⟨_, rfl, R, rfl, ⟨_, SqL.of hRw1.hD⟩, ?_⟩
       refine for_list (K := K) (xs := rs.map V.ref) (fun j σ I => ∃ (M : Addr) (y8 : Option V) (rsM : List Addr), σ = [some (.int n), some (.ref q2), some (.int m), some (.ref q), some (.ref qn), some (.ref R), some (.int (0 + (i : Nat))), some (.ref M), y8, none, none, none] ∧ Same G1 I ∧ RwAt I M rsM (((allZ n i).take j).flatMap fun r => (allM n).map fun x => r ++ [x])) ?_ ?_ ?_ ?_
       · exact ⟨M0, _, [], rfl, Same.refl _, hM0⟩
       · rintro j σ I _ ⟨M, y8, rsM, rfl, smI, hMw⟩
         exact SqL.of (smI _ _ hRw1.hD)
       · rintro j x σ I hx ⟨M, y8, rsM, rfl, smI, hMw⟩
         obtain ⟨r, hr, rfl⟩ := ref_at hx
         have hjl : j < (allZ n i).length := by rw [← hRw1.len]; exact (List.getElem?_eq_some_iff.mp hr).1
         have hzj : (allZ n i)[j]? = some (allZ n i)[j] := List.getElem?_eq_getElem hjl
         have hrI := smI _ _ (hRw1.at_ j r _ hr hzj)
         have hst := allZ_mem.mp (List.getElem_mem hjl)
         have htk : ((allZ n i).take (j + 1)).flatMap (fun r => (allM n).map fun x => r ++ [x]) = ((allZ n i).take j).flatMap (fun r => (allM n).map fun x => r ++ [x]) ++ (allM n).map fun x => (allZ n i)[j] ++ [x] := by
           rw [List.take_add_one, hzj, List.flatMap_append]
           simp
         have hlM : (((allZ n i).take j).flatMap fun r => (allM n).map fun x => r ++ [x]).length ≤ 625 * 5 := by
           have h : ∀ l : List (List Int), (l.flatMap fun r => (allM n).map fun x => r ++ [x]).length = l.length * n := fun l => by
             induction l with
             | nil => simp
             | cons a l ih => rw [List.flatMap_cons, List.length_append, ih, List.length_map, all_len, List.length_cons, Nat.succ_mul, Nat.add_comm]
           rw [h, List.length_take]
           exact Nat.mul_le_mul (by omega) b2
         rw [htk]
         generalize (allZ n i)[j] = row at *
         generalize ((allZ n i).take j).flatMap (fun r => (allM n).map fun x => r ++ [x]) = acc at *
         refine ⟨_, rfl, _, rfl, Or.inl ⟨_, _, rfl, rfl, _, _, rfl, ⟨by decide, by decide, by omega, by omega⟩, fun D nD => ?_⟩⟩
         have hN : ((n : Int) + 1 - 1).toNat = n := by omega
         refine lc_range (lo := 1) (n := ((n : Int) + 1 - 1).toNat) (fun jj I2 => Same I I2 ∧ ∃ rsD, RwAt I2 D rsD ((List.range jj).map fun (x : Nat) => row ++ [(x : Int) + 1]) ∧ D ∉ rsD) ?_ ?_ ?_
         · exact ⟨same_upd (Same.refl _) nD, [], RwAt.nil upd_same, by simp⟩
         · rintro jj I2 hjj ⟨sm2, rsD, hDw, hDn⟩
           rw [hN] at hjj
           have hr2 := sm2 _ _ hrI
           refine ⟨rfl, _, rfl, _, rfl, (Nat.le_of_ble_eq_true rfl : _ ≤ sizeLine), fun c nc => ?_⟩
           have smc : Same I2 (upd I2 c (.lst [.int (1 + (jj : Int))])) := same_upd (Same.refl _) nc
           have hc : (upd I2 c (.lst [.int (1 + (jj : Int))])) c = some (.lst [.int (1 + (jj : Int))]) := upd_same
           generalize upd I2 c (.lst [.int (1 + (jj : Int))]) = I3 at *
           have hDw3 := hDw.same smc
           refine Or.inr ⟨r, c, _, _, rfl, rfl, smc _ _ hr2, hc, ?_, fun c2 nc2 => ?_⟩
           · rw [List.length_map, hst.len]
             exact Nat.le_trans (m := 100) (by show i + 1 ≤ 100; omega) (by decide)
           have smc2 : Same I3 (upd I3 c2 (.lst (row.map V.int ++ [.int (1 + (jj : Int))]))) := same_upd (Same.refl _) nc2
           have hc2 : (upd I3 c2 (.lst (row.map V.int ++ [.int (1 + (jj : Int))]))) c2 = some (iL (row ++ [(jj : Int) + 1])) := by
             rw [upd_same]
             unfold iL
             rw [List.map_append, show (jj : Int) + 1 = 1 + (jj : Int) by omega]
             rfl
           have hDw4 := hDw3.same smc2
           have hDc2 : c2 ≠ D := (ne_of_none hDw3.hD nc2).symm
           generalize upd I3 c2 (.lst (row.map V.int ++ [.int (1 + (jj : Int))])) = I4 at *
           refine ⟨_, hDw4.hD, ?_, same_upd ((sm2.trans smc).trans smc2) nD, rsD ++ [c2], ?_, ?_⟩
           · rw [List.length_map, hDw4.len, List.length_map, List.length_range]
             exact Nat.lt_of_le_of_lt (m := 100) (by omega) (by decide)
           · rw [List.range_succ, List.map_append]
             exact hDw4.push hc2 hDc2 hDn
           · intro h
             rcases List.mem_append.mp h with h | h
             · exact hDn h
             · exact hDc2 (List.mem_singleton.mp h).symm
         · rintro I2 ⟨sm2, rsD, hDw, hDn⟩
           rw [hN] at hDw
           have hM2 := hMw.same sm2
           refine Or.inr ⟨M, D, _, _, rfl, rfl, hM2.hD, hDw.hD, ?_, fun p np => ?_⟩
           · rw [List.length_map, List.length_map, hM2.len, hDw.len, List.length_map, List.length_range]
             exact Nat.le_trans (m := 10000) (by omega) (by decide)
           have hcat := hM2.cat hDw np
           have hall : (allM n).map (fun x => row ++ [x]) = (List.range n).map fun (x : Nat) => row ++ [(x : Int) + 1] := by
             unfold allM
             rw [List.map_map]
             rfl
           rw [← hall] at hcat
           exact ⟨p, _, _, rfl, (smI.trans sm2).trans (same_upd (Same.refl _) np), hcat⟩
       · rintro σ I ⟨M, y8, rsM, rfl, smI, hMw⟩
         rw [List.length_map, hRw1.len, List.take_length, ← allZ_snoc] at hMw
         refine ⟨_, rfl, M, _, _, _, rsM, rfl, smG.trans (smM.trans smI), hMw⟩
     · rintro σ G ⟨R, y6, y7, y8, rs, rfl, smG, hRw⟩
       rw [hm'] at hRw
       have s1G := s13.trans smG
       have sHG := sm1.trans s1G
       have hT2 := hT1.same s1G
       have f2 := a3.same sHG
       have e2 := b3.same sHG
       obtain ⟨hz1, hz2, hz3⟩ := zip_rw hRw
       have hzl : (allZ n m).length ≤ 625 := by rw [allZ_len]; exact hpow m a2
       have hstz : ∀ x ∈ rs.zip (allZ n m), Stds m n x.2 := fun x hx => allZ_mem.mp (hz1 x hx).2
       have hfr := a4.rng
       clear s13 smG hT1 hq sm1 hR0 ne0 nR0 nq
       refine ⟨_, rfl, R, rfl, ⟨_, SqL.of hRw.hD⟩, fun GD nGD => ?_⟩
       refine lc_gen (K := K) (xs := rs.zip (allZ n m)) (inj := fun x => V.ref x.1) (fun x => decide (StandOk es fs x.2)) (fun x => V.ref x.1) (by rw [hz2]; exact SqL.of hRw.hD) nGD (by rw [List.length_zip]; omega) (fun _ => rfl) ?_ ?_ ?_
       · intro x hx H4 sm4 Rr hRr
         have st := hstz x hx
         refine ⟨_, rfl, _, rfl, _, rfl, ?_⟩
         refine call_fits (by omega) (hT2.same sm4) (f2.same sm4) a5 (fun e he => by have := hfr e he; omega) (sm4 _ _ (hz1 x hx).1) st (fun H5 sm5 => ?_)
         rw [show decide (FitsT (nearM n es) fs x.2) = decide (StandOk es fs x.2) from decide_eq_decide.mpr (fits_near b4 a4 st)]
         exact ⟨_, rfl, hRr H5 sm5⟩
       · intro x hx _ H4 sm4 Rr hRr
         exact ⟨_, rfl, hRr H4 (Same.refl _)⟩
       intro H4 sm4 hGD
       generalize hgz : (rs.zip (allZ n m)).filter (fun x => decide (StandOk es fs x.2)) = gz at *
       have hgm : ∀ x ∈ gz, H4 x.1 = some (iL x.2) ∧ Stds m n x.2 := fun x hx => by
         rw [← hgz] at hx
         have hx2 := (List.mem_filter.mp hx).1
         exact ⟨sm4 _ _ (hz1 x hx2).1, hstz x hx2⟩
       have hgs : gz.map (fun x => x.2) = (allZ n m).filter fun t => decide (StandOk es fs t) := by
         rw [← hgz]
         conv => rhs; rw [← hz3]
         rw [List.filter_map]
         rfl
       have hcnt : (gz.map fun x => V.ref x.1).length = countSt n m es fs := by
         unfold countSt
         rw [← hgs, List.length_map, List.length_map]
       have hcl : countSt n m es fs ≤ 625 := by
         unfold countSt
         exact Nat.le_trans (List.length_filter_le ..) hzl
       generalize hcc : countSt n m es fs = cn at *
       have okC : DOk 1 100 (dI [(cn : Int), (cn : Int)]) := (dok_dI fun x hx => by
         simp only [List.mem_cons, List.not_mem_nil, or_false] at hx
         rcases hx with rfl | rfl <;> omega).mono (Nat.le_refl _) (by simp)
       have szC : (dI [(cn : Int), (cn : Int)]).shown.length ≤ sizeLine := Nat.le_trans okC.len (by decide)
       show tNext _ [some (.int n), some (.ref q2), some (.int m), some (.ref q), some (.ref qn), some (.ref R), y6, y7, y8, none, some (.ref GD), none] H4
       refine ⟨_, rfl, _, rfl, _, rfl, _, rfl, ?_⟩
       refine call_count a1 (by omega) (f2.same sm4) a4 a5 b1 (by omega) (e2.same sm4) b4 b5 (fun H5 sm5 => ?_)
       rw [hcc]
       refine ⟨(Nat.le_of_ble_eq_true rfl : _ ≤ sizeLine), fun L nL => ?_⟩
       have smL : Same H5 (upd H5 L (.lst [.int cn])) := same_upd (Same.refl _) nL
       have hL : (upd H5 L (.lst [.int cn])) L = some (.lst [.int cn]) := upd_same
       generalize upd H5 L (.lst [.int cn]) = H6 at *
       have s46 := sm5.trans smL
       have sG6 := sm4.trans s46
       refine ⟨_, rfl, .inl ⟨rfl, _, SqL.of hL⟩, ?_⟩
       refine ⟨_, rfl, _, rfl, _, rfl, _, rfl, ?_⟩
       refine call_count a1 (by omega) (f2.same sG6) a4 a5 b1 (by omega) (e2.same sG6) b4 b5 (fun H7 sm7 => ?_)
       rw [hcc]
       have nL4 : H4 L = none := sm5.free nL
       refine ⟨L, _, .int cn, rfl, rfl, sm7 _ _ hL, (by decide : 1 < sizeLine), ?_⟩
       have s48 : Same H4 (upd H7 L (.lst ([.int cn] ++ [.int cn]))) := same_upd (s46.trans sm7) nL4
       have hL8 : (upd H7 L (.lst ([.int cn] ++ [.int cn]))) L = some (.lst [.int cn, .int cn]) := upd_same
       generalize upd H7 L (.lst ([.int cn] ++ [.int cn])) = H8 at *
       show tNext _ [some (.int n), some (.ref q2), some (.int m), some (.ref q), some (.ref qn), some (.ref R), y6, y7, y8, none, some (.ref GD), some (.ref L)] H8
       refine ⟨_, rfl, L, dI [(cn : Int), (cn : Int)], rfl, dp_dI (SqL.of hL8), okC.sh, okC.nd, Nat.le_trans okC.dep (by decide), szC, ?_⟩
       refine ⟨_, rfl, GD, _, rfl, Or.inl (SqL.of (s48 _ _ hGD)), ?_⟩
       rw [hcnt]
       refine ⟨(Nat.le_of_ble_eq_true rfl : _ ≤ sizeLine), fun t7 nt7 => ?_⟩
       have s49 := s48.trans (same_upd (o := .lst [.int cn]) (Same.refl H8) nt7)
       have ht7 : (upd H8 t7 (.lst [.int cn])) t7 = some (.lst [.int cn]) := upd_same
       generalize upd H8 t7 (.lst [.int cn]) = H9 at *
       refine Or.inr ⟨t7, _, _, rfl, rfl, ht7, by decide, by decide, (by decide : 1 * 2 ≤ sizeLine), fun t8 nt8 => ?_⟩
       rw [show (List.replicate (2 : Int).toNat [V.int (cn : Nat)]).flatten = [.int cn, .int cn] from rfl]
       have s410 := s49.trans (same_upd (o := .lst [.int cn, .int cn]) (Same.refl H9) nt8)
       have ht8 : (upd H9 t8 (.lst [.int cn, .int cn])) t8 = some (.lst [.int cn, .int cn]) := upd_same
       generalize upd H9 t8 (.lst [.int cn, .int cn]) = H10 at *
       refine ⟨t8, dI [(cn : Int), (cn : Int)], rfl, dp_dI (SqL.of ht8), okC.sh, okC.nd, Nat.le_trans okC.dep (by decide), szC, ?_⟩
       refine Or.inl ⟨rfl, _, rfl, ?_⟩
       refine ifF (neFT _) ?_
       have sG10 := sm4.trans s410
       have hRw10 := hRw.same sG10
       have hGD10 := s410 _ _ hGD
       refine ⟨_, rfl, _, rfl, R, _, rfl, (by decide : some (7 : Int) ≠ some 0), SqL.of hRw10.hD, fun ysl hys hyl p np => ?_⟩
       have smp : Same H10 (upd H10 p (.lst ysl)) := same_upd (Same.refl _) np
       have hp : (upd H10 p (.lst ysl)) p = some (.lst ysl) := upd_same
       generalize upd H10 p (.lst ysl) = H11 at *
       have sG11 := sG10.trans smp
       refine ⟨p, rfl, ⟨_, SqL.of hp⟩, fun D nD => ?_⟩
       refine lc_list (K := K) (xs := ysl) (fun i J => Same H11 J ∧ J D = some (.lst [])) ?_ ?_ ?_ ?_
       · exact ⟨same_upd (Same.refl _) nD, upd_same⟩
       · rintro i J _ ⟨smJ, _⟩
         exact SqL.of (smJ _ _ hp)
       · rintro i x J hx ⟨smJ, hDJ⟩
         obtain ⟨r, hr, rfl⟩ := List.mem_map.mp (hys x (List.mem_of_getElem? hx))
         have sGJ := sG11.trans smJ
         obtain ⟨t, ht, hrt⟩ := (hRw.same sGJ).mem hr
         have st := allZ_mem.mp ht
         refine ⟨rfl, _, rfl, _, rfl, _, rfl, _, rfl, _, rfl, ?_⟩
         refine call_isstand a1 (by omega) (f2.same sGJ) a4 a5 b1 (by omega) (e2.same sGJ) b4 b5 hrt st (fun J2 sm2 => ?_)
         have s4J2 := ((s410.trans smp).trans smJ).trans sm2
         have hsmall : ∀ y ∈ t, y.natAbs < 1000 := fun y hy => by have := st.rng y hy; omega
         refine ⟨_, rfl, _, rfl, dI t, gz.map (fun x => dI x.2), dp_dI (SqL.of (sm2 _ _ hrt)), .lst (SqL.of (s4J2 _ _ hGD)) (dpAll_map (fun x => V.ref x.1) (fun x => dI x.2) fun x hx => dp_dI (SqL.of (s4J2 _ _ (hgm x hx).1))), (dok_dI hsmall).shaped (by decide), ?_, ?_⟩
         · have h := dok_rows (k := 0) (ts := gz.map (fun x => x.2)) fun t2 ht2 => by
             obtain ⟨x, hx, rfl⟩ := List.mem_map.mp ht2
             have st2 := (hgm x hx).2
             exact ⟨by rw [st2.len]; omega, fun y hy => by have := st2.rng y hy; omega⟩
           rw [List.map_map] at h
           exact h
         · have hany : (gz.map (fun x => dI x.2)).any (fun z => PyData.eqv z (dI t)) = decide (StandOk es fs t) := by
             have h := any_rows (gz.map (fun x => x.2)) t
             rw [List.map_map] at h
             refine Eq.trans h (decide_eq_decide.mpr ?_)
             rw [hgs, List.mem_filter, decide_eq_true_eq]
             exact ⟨fun h => h.2, fun h => ⟨ht, h⟩⟩
           rw [hany]
           refine Or.inl ⟨rfl, _, rfl, ?_⟩
           refine ifF (neFT _) ?_
           exact ⟨smJ.trans sm2, sm2 _ _ hDJ⟩
       · rintro J ⟨smJ, hDJ⟩
         refine ⟨(Nat.le_of_ble_eq_true rfl : _ ≤ sizeLine), fun e1 ne1 => ?_⟩
         have hDe : D ≠ e1 := ne_of_none hDJ ne1
         refine Or.inr ⟨.list [], .list [], .lst (SqL.of (by rw [upd_ne hDe]; exact hDJ)) .nil, .lst (SqL.of upd_same) .nil, rfl, rfl, ?_⟩
         rw [show PyData.eqv (.list []) (.list []) = true by rw [eqv_list_nil]; rfl]
         exact fin _ (sHG.trans ((sG11.trans smJ).trans (same_upd (Same.refl _) ne1)))
end
/-! piece TKd -/
section
local macro_rules | `(tactic| wtm_at "fo s") => `(tactic| ((with_reducible show PS _ (.If (.BoolOp .And [_, _, _, _] _) _ _ _) _); refine' ps_mono ?h (more_mono _ _); (case h => (apply ps_if; (· wtm_at "fo t"); (· wtm_at "fo ss"); (· wtm_at "fo ss")))))
local macro_rules | `(tactic| wtm_at "fo e") => `(tactic| first
  | ((with_reducible show PE _ (.BoolOp .Or [.Compare (.List _ _) _ _ _, _] _) _); refine' pe_mono ?h (known_mono _); (case h => (apply pe_or; (· wtm_at "fo e"); (· apply pe_one; wtm_at "fo e"))))
  | ((with_reducible show PE _ (.BoolOp .Or [.Compare (.Name _ _) _ _ _, _] _) _); refine' pe_mono ?h (maybe_mono _); (case h => (apply pe_or; (· wtm_at "fo e"); (· apply pe_one; wtm_at "fo e"))))
  | fail "no")
local macro_rules | `(tactic| wtm_at "fo cmp") => `(tactic| ((with_reducible show PE _ (.Compare (.List _ _) [.In] _ _) _); refine' pe_cmpR (op_inDK (by assumption) (by exact rfl) (by assumption)) ?ka ?kb rfl; (case ka => wtm_at "fo e"); (case kb => wtm_at "fo e")))
local macro_rules | `(tactic| wtm_at "fo tcmp") => `(tactic| ((with_reducible show PT _ (.Compare (.List _ _) [.NotIn] _ _) _); refine' pt_cmpR (op_notInDK (by assumption) (by exact rfl) (by assumption)) ?ka ?kb rfl; (case ka => wtm_at "fo e"); (case kb => wtm_at "fo e")))
variable {P : Program} {w : World} {K : PySem.W.Frag} {mg : Str → Option Value} {base : Heap}
/-! ### drawn nets -/
@[irreducible] def spNet : Sp := fun vs H Q _ => ∃ (d : Addr) (k : Int) (most : Nat), vs = [.ref d, .int most] ∧ Dr H d k ∧ k ≤ 700000 ∧ 1 ≤ most ∧ most ≤ 12 ∧
  ∀ p q n es H' k', SameBut d H H' → H p = none → H q = none → H' p = some (.tup [.int (n : Nat), .ref q]) → 1 ≤ n → n ≤ most → Pairs H' q es → Simp n es → es.length ≤ 200 → Dr H' d k' → k' ≤ k + 1000 → Q (.ref p) H'
theorem call_net {d : Addr} {k : Int} {most : Nat} {H : Hp} {Q : VK} {E : XK} (hd : Dr H d k) (hk : k ≤ 700000) (h1 : 1 ≤ most) (h2 : most ≤ 12)
    (fin : ∀ p q n es H' k', SameBut d H H' → H p = none → H q = none → H' p = some (.tup [.int (n : Nat), .ref q]) → 1 ≤ n → n ≤ most → Pairs H' q es → Simp n es → es.length ≤ 200 → Dr H' d k' → k' ≤ k + 1000 → Q (.ref p) H') : spNet [.ref d, .int most] H Q E := by
  unfold spNet
  exact ⟨d, k, most, rfl, hd, hk, h1, h2, fin⟩
set_option maxHeartbeats 16000000 in
noncomputable def derNet (f : Addr) (cdv : Value) (A : Around) (outer : List Env) (s0 : Shared) (H : Hp) (E : XK) (hr : Room 2 (A.deeper (envOfC "_law_net" (defScope s_law_net) s0.heap.objs.size f cdv))) (mr : mg "range" = none) (mi : mg "int" = none) (ml : mg "list" = none)
    (C1 : Cal P w K mg base "_law_next" 1 ["_law_draws_here"] spNext) (C2 : Cal P w K mg base "_law_mixed" 2 ["_law_draws_here", "_law_things"] spShuf) :
    PSigma fun t => PSs (cxOf CX0 P w K mg base ["_law_draws_here", "_law_most", "_law_size", "_law_kind", "_law_pairs", "_law_spot", "_law_mate", "_law_one", "_law_pick", "_law_known", "_law_names", "_law_told", "_law_low", "_law_high"] "_law_net" (defScope s_law_net) f cdv A outer s0 H E).nox (defBody s_law_net) t := by
  have nd := sc_law_net.nd
  have hS := sc_law_net
  have hKM : KMark K := ⟨⟩
  refine' mkSig ?h
  case h =>
    show PSs _ [_, _, _, _, _, _, _, _, _] _
    wtm_at "fo ss"
end
/-! piece TK -/
section
variable {P : Program} {w : World} {K : PySem.W.Frag} {mg : Str → Option Value} {base : Heap}
theorem PsAt.updT {H : Hp} {D T : Addr} {rs : List Addr} {es : List Edge} {o : HO} (h : PsAt H D rs es) (hD : D ≠ T) (hr : ∀ r ∈ rs, r ≠ T) : PsAt (upd H T o) D rs es :=
  ⟨(upd_ne hD).trans h.hD, h.len, fun i r e a b => (upd_ne (hr r (List.mem_of_getElem? a))).trans (h.at_ i r e a b)⟩
set_option maxHeartbeats 16000000 in
theorem ok_net {f : Addr} {fd : FuncData} (F : Fun K "_law_net" "_law_net" s_law_net f fd) (mr : mg "range" = none) (mi : mg "int" = none) (ml : mg "list" = none)
    (C1 : Cal P w K mg base "_law_next" 1 ["_law_draws_here"] spNext) (C2 : Cal P w K mg base "_law_mixed" 2 ["_law_draws_here", "_law_things"] spShuf) :
    FnOk P w K mg base CX0 3 f fd ["_law_draws_here", "_law_most"] spNet := by
  refine F.ok sc_law_net (fun vs H Q E h => ?_) (fun cdv A outer s H vs Q E hr h => ?_)
  · unfold spNet at h
    obtain ⟨d, k, most, rfl, _⟩ := h
    rfl
  · have nd := sc_law_net.nd
    have hS := sc_law_net
    have hKM : KMark K := ⟨⟩
    refine ⟨_, (derNet (P := P) (w := w) (K := K) (mg := mg) (base := base) f cdv A outer s H E hr mr mi ml C1 C2).2, ?_⟩
    unfold derNet mkSig
    dsimp only
    next =>
     unfold spNet at h
     obtain ⟨d, k, most, rfl, hd, hk, h1, h2, fin⟩ := h
     refine ⟨_, rfl, ?_⟩
     refine call_next hd (by omega) (fun z H1 hz sb1 hd1 => ?_)
     have hmo : (0 : Int) < (most : Int) := by omega
     wtm_at "fo r"
     have m1 := Int.emod_nonneg z (show (most : Int) ≠ 0 by omega)
     have m2 := Int.emod_lt_of_pos z hmo
     obtain ⟨n, hn⟩ : ∃ n : Nat, 1 + z % (most : Int) = (n : Int) := ⟨(1 + z % (most : Int)).toNat, by omega⟩
     dsimp only
     rw [hn]
     have hn1 : 1 ≤ n := by omega
     have hn2 : n ≤ 12 := by omega
     have hn3 : n ≤ most := by omega
     clear m1 m2 hn
     refine call_next hd1 (by omega) (fun z2 H2 hz2 sb2 hd2 => ?_)
     wtm_at "fo r"
     rename_i pp npp
     have kd1 := Int.emod_nonneg z2 (show (4 : Int) ≠ 0 by decide)
     have kd2 := Int.emod_lt_of_pos z2 (show (0 : Int) < 4 by decide)
     have sb02 := sb1.trans sb2
     have smp : Same H2 (upd H2 pp (.lst [])) := same_upd (Same.refl _) npp
     have hp3 : PsF H2 (upd H2 pp (.lst [])) pp [] [] := ⟨PsAt.nil upd_same, List.nodup_nil, fun r h => nomatch h⟩
     have hd3 := hd2.same smp
     generalize upd H2 pp (.lst []) = H3 at *
     have hNr : ((n : Int) + 1 - 2).toNat = n - 1 := by omega
     have small : ∀ {es : List Edge} {b : Int}, b ≤ 100 → (∀ e ∈ es, 1 ≤ e.1 ∧ e.1 < e.2 ∧ e.2 ≤ b) → ∀ e ∈ es, e.1.natAbs < 1000 ∧ e.2.natAbs < 1000 := fun hb h e he => by
       have := h e he
       omega
     refine for_range (lo := 2) (n := ((n : Int) + 1 - 2).toNat) (fun i σ H4 => ∃ (y5 y6 y7 y8 y9 : Option V) (rs : List Addr) (es : List Edge) (k4 : Int), σ = [some (.ref d), some (.int most), some (.int n), some (.int (z2 % 4)), some (.ref pp), y5, y6, y7, y8, y9, none, none, none, none] ∧ SameBut d H2 H4 ∧ PsF H2 H4 pp rs es ∧ (∀ e ∈ es, 1 ≤ e.1 ∧ e.1 < e.2 ∧ e.2 ≤ (i : Int) + 1) ∧ es.Pairwise ltN ∧ es.length ≤ 12 * i ∧ Dr H4 d k4 ∧ k4 ≤ k + 2 + 13 * i) ?_ ?_ ?_
     · exact ⟨none, none, none, none, none, [], [], k + 1 + 1, rfl, Same.but d smp, hp3, (fun e h => nomatch h), List.Pairwise.nil, Nat.zero_le _, hd3, by omega⟩
     · rintro i σ H4 hi ⟨y5, y6, y7, y8, y9, rs, es, k4, rfl, sb4, hP4, hr4, hw4, hl4, hd4, hk4⟩
       rw [hNr] at hi
       refine ⟨_, rfl, ?_⟩
       refine call_next hd4 (by omega) (fun z3 H5 hz3 sb5 hd5 => ?_)
       have hsp : (0 : Int) < 2 + (i : Int) - 1 := by omega
       wtm_at "fo r"
       have m1 := Int.emod_nonneg z3 (show (2 + (i : Int) - 1) ≠ 0 by omega)
       have m2 := Int.emod_lt_of_pos z3 hsp
       have hP5 := hP4.but sb5 hd4
       have sb25 := sb4.trans sb5
       have hNi : (2 + (i : Int) - 1).toNat = i + 1 := by omega
       refine for_range (lo := 1) (n := (2 + (i : Int) - 1).toNat) (fun j σ H6 => ∃ (y7 y8 y9 : Option V) (rs : List Addr) (es : List Edge) (k6 : Int), σ = [some (.ref d), some (.int most), some (.int n), some (.int (z2 % 4)), some (.ref pp), some (.int (2 + (i : Int))), some (.int (1 + z3 % (2 + (i : Int) - 1))), y7, y8, y9, none, none, none, none] ∧ SameBut d H2 H6 ∧ PsF H2 H6 pp rs es ∧ (∀ e ∈ es, 1 ≤ e.1 ∧ e.1 < e.2 ∧ e.2 ≤ (i : Int) + 2 ∧ (e.2 = (i : Int) + 2 → e.1 ≤ j)) ∧ es.Pairwise ltN ∧ es.length ≤ 12 * i + j ∧ Dr H6 d k6 ∧ k6 ≤ k + 2 + 13 * i + 1 + j) ?_ ?_ ?_
       · exact ⟨y7, y8, y9, rs, es, k4 + 1, rfl, sb25, hP5, (fun e he => by have := hr4 e he; omega), hw4, hl4, hd5, by omega⟩
       · rintro j σ H6 hj ⟨y7, y8, y9, rs, es, k6, rfl, sb6, hP6, hr6, hw6, hl6, hd6, hk6⟩
         rw [hNi] at hj
         have hsm : ∀ e ∈ es, e.1.natAbs < 1000 ∧ e.2.natAbs < 1000 := fun e he => by
           have := hr6 e he
           omega
         have hmv : (1 + z3 % (2 + (i : Int) - 1)).natAbs < 1000 := by omega
         have hon : (1 + (j : Int)).natAbs < 1000 := by omega
         generalize 1 + z3 % (2 + (i : Int) - 1) = mv at *
         refine ⟨_, rfl, ?_⟩
         refine call_next hd6 (by omega) (fun z4 H7 hz4 sb7 hd7 => ?_)
         have hP7 := hP6.but sb7 hd6
         have sb27 := sb6.trans sb7
         refine Or.inl ⟨_, rfl, ?_⟩
         refine ⟨_, _, pp, es, rfl, rfl, rfl, hP7.ps.pairs, hon, hmv, hsm, fun kb H8 sm8 => ?_⟩
         have hP8 := hP7.same sm8
         have hd8 := hd7.same sm8
         have sb28 := sb27.trans (Same.but d sm8)
         refine ⟨_, rfl, _, rfl, Or.inl ⟨rfl, _, _, _, kb, rfl, rfl, rfl, rfl, fun b1 => ?_⟩⟩
         refine ⟨_, rfl, _, _, rfl, rfl, (show (0 : Int) < 2 by decide), Or.inl ⟨rfl, ?_⟩⟩
         refine ⟨_, rfl, _, _, rfl, rfl, (show (0 : Int) < 3 by decide), Or.inl ⟨rfl, ?_⟩⟩
         refine ⟨(Nat.le_of_ble_eq_true rfl : _ ≤ sizeLine), fun c4 nc4 => ?_⟩
         obtain ⟨cc, hcc⟩ := bl_at (decide (V.int (1 + (j : Int)) = V.int mv)) b1 (decide (V.int (z4 % 2) = V.int 0)) (decide (V.int (z4 % 3) = V.int 0)) kd1 kd2
         have sm9 : Same H8 (upd H8 c4 (.lst [.bl (decide (V.int (1 + (j : Int)) = V.int mv)), .bl b1, .bl (decide (V.int (z4 % 2) = V.int 0)), .bl (decide (V.int (z4 % 3) = V.int 0))])) := same_upd (Same.refl _) nc4
         refine ⟨_, rfl, Or.inl ⟨c4, _, z2 % 4, .bl cc, rfl, rfl, SqL.of upd_same, hcc, cc, rfl, ?_⟩⟩
         have hP9 := hP8.same sm9
         have hd9 := hd8.same sm9
         have sb29 := sb28.trans (Same.but d sm9)
         generalize upd H8 c4 _ = H9 at *
         cases cc with
         | false =>
           refine ifF rfl ⟨_, _, _, rs, es, k6 + 1, rfl, sb29, hP9, fun e he => ?_, hw6, by omega, hd9, by omega⟩
           have := hr6 e he
           omega
         | true =>
           refine ifT rfl ?_
           refine ⟨_, rfl, .inl ⟨rfl, _, SqL.of hP9.ps.hD⟩, ?_⟩
           refine ⟨_, rfl, _, rfl, (Nat.le_of_ble_eq_true rfl : _ ≤ sizeLine), fun c5 nc5 => ?_⟩
           have hpc : pp ≠ c5 := ne_of_none hP9.ps.hD nc5
           refine ⟨pp, _, _, rfl, rfl, (upd_ne hpc).trans hP9.ps.hD, ?_, ?_⟩
           · rw [List.length_map, hP9.ps.len]
             exact Nat.lt_of_le_of_lt (m := 1000) (by omega) (by decide)
           have hP10 := hP9.push nc5 (sb29.none hd9 nc5) (1 + (j : Int), 2 + (i : Int))
           have hppd : pp ≠ d := hd9.ne_refs hP9.ps.hD
           have hc5d : c5 ≠ d := hd9.trk nc5
           refine ⟨_, _, _, rs ++ [c5], es ++ [(1 + (j : Int), 2 + (i : Int))], k6 + 1, rfl, (sb29.new (sb29.none hd9 nc5)).new npp, hP10, fun e he => ?_, ?_, ?_, ?_, by omega⟩
           · rcases List.mem_append.mp he with he | he
             · have := hr6 e he
               omega
             · rw [List.mem_singleton.mp he]
               simp only
               omega
           · rw [List.pairwise_append]
             refine ⟨hw6, List.pairwise_singleton _ _, fun x hx y hy => ?_⟩
             rw [List.mem_singleton.mp hy]
             have := hr6 x hx
             unfold ltN
             simp only
             omega
           · rw [List.length_append, List.length_singleton]
             omega
           · obtain ⟨a, b, e, h0⟩ := hd9
             exact ⟨a, b, by rw [upd_ne hppd.symm, upd_ne hc5d.symm]; exact e, h0⟩
       · rintro σ H6 ⟨y7, y8, y9, rs, es, k6, rfl, sb6, hP6, hr6, hw6, hl6, hd6, hk6⟩
         rw [hNi] at hr6 hl6 hk6
         exact ⟨_, _, _, _, _, rs, es, k6, rfl, sb6, hP6, fun e he => by have := hr6 e he; omega, hw6, by omega, hd6, by omega⟩
     · rintro σ H4 ⟨y5, y6, y7, y8, y9, rs, es, k4, rfl, sb4, hP4, hr4, hw4, hl4, hd4, hk4⟩
       rw [hNr] at hr4 hl4 hk4
       have hS4 : Simp n es := simp_asc2 (fun e he => by have := hr4 e he; omega) hw4
       have hlt4 : ∀ e ∈ es, e.1 < e.2 := fun e he => (hr4 e he).2.1
       have sb04 := sb02.trans sb4
       have hsm : ∀ e ∈ es, e.1.natAbs < 1000 ∧ e.2.natAbs < 1000 := fun e he => by
         have := hr4 e he
         omega
       refine ⟨d, pp, n, _, k4, es, rs, H2, rfl, rfl, rfl, rfl, hP4, hS4, hlt4, hn2, by omega, sb4, npp, hd4, by omega, ?_⟩
       intro H5 rs5 es5 k5 hP5 hS5 hl5 sb5 hd5 hk5
       clear hP4 hr4 hw4 hS4 hlt4 sb04 hsm hd4 sb4 hp3 smp hd3
       wtm_at "fo r"
       intro l nl
       have hrg : rgV 1 ((n : Int) + 1) = ((List.range n).map fun (i : Nat) => (1 : Int) + i).map V.int := by
         unfold rgV
         rw [show ((n : Int) + 1 - 1).toNat = n by omega, List.map_map]
         rfl
       have sm5 : Same H5 (upd H5 l (.lst (rgV 1 ((n : Int) + 1)))) := same_upd (Same.refl _) nl
       refine call_shuf (hd5.same sm5) (by omega) upd_same ?_ ?_ ?_
       · rw [rgV_length]
         omega
       · intro x hx
         rw [hrg] at hx
         obtain ⟨z, hz, rfl⟩ := List.mem_map.mp hx
         obtain ⟨i, hi, rfl⟩ := List.mem_map.mp hz
         have := List.mem_range.mp hi
         exact .inl ⟨_, rfl, by omega⟩
       intro p2 ys H6 k6 hperm sb6 np2 hp2 hd6 hk6
       obtain ⟨zs, hz, rfl⟩ := perm_lift V.int hperm _ hrg
       have hzl : zs.length = n := by rw [hz.length_eq]; simp
       have hP6 := (hP5.same sm5).but sb6 (hd5.same sm5)
       have sb26 := (sb5.trans (Same.but d sm5)).trans sb6
       refine ⟨(Nat.le_of_ble_eq_true rfl : _ ≤ sizeLine), fun T nT => ?_⟩
       have smT : Same H6 (upd H6 T (.lst [])) := same_upd (Same.refl _) nT
       have hT7 : (upd H6 T (.lst [])) T = some (.lst []) := upd_same
       have hP7 := hP6.same smT
       have hp27 := smT _ _ hp2
       have hd7 := hd6.same smT
       have nT0 : H T = none := (sb02.trans sb26).none hd6 nT
       have hTr : T ∉ rs5 := fun h => by
         obtain ⟨e, _, he⟩ := hP6.ps.mem h
         rw [nT] at he
         cases he
       have hTd : T ≠ d := hd6.trk nT
       have hp2T : p2 ≠ T := ne_of_none hp2 nT
       generalize upd H6 T (.lst []) = H7 at *
       refine ⟨_, rfl, _, rfl, ?_⟩
       refine call_shuf hd7 (by omega) hP7.ps.hD ?_ ?_ ?_
       · rw [List.length_map, hP7.ps.len]
         omega
       · intro x hx
         obtain ⟨r, hr, rfl⟩ := List.mem_map.mp hx
         obtain ⟨e, he, hre⟩ := hP7.ps.mem hr
         have := hS5.rng e he
         exact .inr ⟨r, _, _, rfl, hre, by omega, by omega⟩
       intro p9 ys9 H9 k9 hperm9 sb9 np9 hp9 hd9 hk9
       obtain ⟨fs9, rs9, hq1, hq2⟩ := hP7.ps.perm hperm9 hp9 (fun r e hr he => sb9 r _ (hd7.ne_pair he) he)
       have hl9 : fs9.length ≤ 200 := by rw [hq1.length_eq]; omega
       have hS9 := simp_perm hS5 hq1
       have hT9 : PsAt H9 T [] [] := PsAt.nil (sb9 _ _ (hd7.ne_refs (rs := []) hT7) hT7)
       have hp29 := sb9 _ _ (hd7.ne_ints hp27) hp27
       have hTp9 : p9 ≠ T := (ne_of_none hT7 np9).symm
       have hTr9 : ∀ r ∈ rs9, r ≠ T := fun r hr => by
         obtain ⟨e, _, he⟩ := hq2.mem hr
         exact ne_of he hT9.hD (by intro q; injection q with q; simp at q)
       have sb09 := ((sb02.trans sb26).trans (Same.but d smT)).trans sb9
       clear hP5 hd5 sb5 sm5 sb6 hd6 hP6 sb26 smT hP7 hd7 hp27 hT7 sb9
       refine ⟨p9, rfl, ⟨_, SqL.of hq2.hD⟩, ?_⟩
       refine for_list (K := K) (xs := rs9.map V.ref) (fun i σ H3 => ∃ (y12 y13 : Option V) (rsT : List Addr) (fsT : List Edge) (k3 : Int), σ = [some (.ref d), some (.int most), some (.int n), some (.int (z2 % 4)), some (.ref pp), y5, y6, y7, y8, y9, some (.ref p2), some (.ref T), y12, y13] ∧ SameBut d H H3 ∧ PsAt H3 p9 rs9 fs9 ∧ H3 p2 = some (.lst (zs.map V.int)) ∧ PsAt H3 T rsT fsT ∧ Flips ((fs9.take i).map fun e => (nameOf zs e.1, nameOf zs e.2)) fsT ∧ Dr H3 d k3 ∧ k3 ≤ k9 + i) ?_ ?_ ?_ ?_
       · exact ⟨none, none, [], [], k9, rfl, sb09, hq2, hp29, hT9, trivial, hd9, by omega⟩
       · rintro i σ H3 _ ⟨y12, y13, rsT, fsT, k3, rfl, sb3, hq3, _⟩
         exact SqL.of hq3.hD
       · rintro i x σ H3 hx ⟨y12, y13, rsT, fsT, k3, rfl, sb3, hq3, hp23, hT3, hF3, hd3, hk3⟩
         obtain ⟨r, hr, rfl⟩ := ref_at hx
         have hi : i < fs9.length := by rw [← hq3.len]; exact (List.getElem?_eq_some_iff.mp hr).1
         have hes : fs9[i]? = some fs9[i] := List.getElem?_eq_getElem hi
         have hre := hq3.at_ i r _ hr hes
         have htk : (fs9.take (i + 1)).map (fun e => (nameOf zs e.1, nameOf zs e.2)) = (fs9.take i).map (fun e => (nameOf zs e.1, nameOf zs e.2)) ++ [(nameOf zs fs9[i].1, nameOf zs fs9[i].2)] := by
           rw [List.take_add_one, hes, List.map_append]
           rfl
         have hq := hS9.rng _ (List.getElem_mem hi)
         have hfl := flips_length hF3
         rw [List.length_map, List.length_take] at hfl
         rw [htk]
         generalize (fs9.take i).map (fun e => (nameOf zs e.1, nameOf zs e.2)) = es0 at *
         generalize fs9[i] = e at *
         obtain ⟨ea, eb⟩ := e
         simp only at hre hq
         have ga := name_at hz hq.1 hq.2.1
         have gb := name_at hz hq.2.2.1 hq.2.2.2.1
         generalize nameOf zs ea = na at *
         generalize nameOf zs eb = nb at *
         refine Or.inr ⟨r, [.int ea, .int eb], rfl, SqL.of hre, rfl, .int ea, [.int eb], rfl, .int eb, [], rfl, rfl, ?_⟩
         refine ⟨_, rfl, .inl ⟨rfl, _, SqL.of hT3.hD⟩, ?_⟩
         refine ⟨_, rfl, _, rfl, _, _, rfl, rfl, Or.inl ⟨p2, _, ea - 1, .int na, rfl, rfl, SqL.of hp23, at_of (j := (ea - 1).toNat) (by omega) (by rw [List.getElem?_map, ga.1]; rfl), ?_⟩⟩
         refine ⟨_, rfl, _, rfl, _, _, rfl, rfl, Or.inl ⟨p2, _, eb - 1, .int nb, rfl, rfl, SqL.of hp23, at_of (j := (eb - 1).toNat) (by omega) (by rw [List.getElem?_map, gb.1]; rfl), ?_⟩⟩
         refine ⟨(Nat.le_of_ble_eq_true rfl : _ ≤ sizeLine), fun c nc => ?_⟩
         have smc : Same H3 (upd H3 c (.lst [.int na, .int nb])) := same_upd (Same.refl _) nc
         have hc4 : (upd H3 c (.lst [.int na, .int nb])) c = some (.lst [.int na, .int nb]) := upd_same
         have hT4 := hT3.same smc
         have hq4 := hq3.same smc
         have hp24 := smc _ _ hp23
         have hd4 := hd3.same smc
         have sb4 := sb3.trans (Same.but d smc)
         generalize upd H3 c (.lst [.int na, .int nb]) = H4 at *
         refine ⟨_, rfl, (Nat.le_of_ble_eq_true rfl : _ ≤ sizeLine), fun q2 nq2 => ?_⟩
         have smq : Same H4 (upd H4 q2 (.lst [.int 1, .int (-1)])) := same_upd (Same.refl _) nq2
         have hq5 : (upd H4 q2 (.lst [.int 1, .int (-1)])) q2 = some (.lst [.int 1, .int (-1)]) := upd_same
         have hc5 := smq _ _ hc4
         have hT5 := hT4.same smq
         have hqq5 := hq4.same smq
         have hp25 := smq _ _ hp24
         have hd5 := hd4.same smq
         have sb5 := sb4.trans (Same.but d smq)
         have hqd : q2 ≠ d := hd4.trk nq2
         have hcd := hd5.ne_pair hc5
         generalize upd H4 q2 (.lst [.int 1, .int (-1)]) = H5 at *
         refine ⟨_, rfl, ?_⟩
         refine call_next hd5 (by omega) (fun n2 H6 hn2 sb6 hd6 => ?_)
         have hq6 := sb6 _ _ hqd hq5
         have hc6 := sb6 _ _ hcd hc5
         have hT6 := hT5.but sb6 hd5
         have hqq6 := hqq5.but sb6 hd5
         have hp26 := sb6 _ _ (hd5.ne_ints hp25) hp25
         have sb06 := sb5.trans sb6
         refine Or.inl ⟨_, rfl, _, _, rfl, rfl, (show (0 : Int) < 2 by decide), ?_⟩
         have fin2 : ∀ (e2 : Edge), (e2 = (na, nb) ∨ e2 = (nb, na)) → ∀ r2, H6 r2 = none →
             ∃ l xs v, V.ref T = .ref l ∧ [V.ref r2] = [v] ∧ (upd H6 r2 (.lst [.int e2.1, .int e2.2])) l = some (.lst xs) ∧ xs.length < sizeLine ∧ (∃ (y12' y13' : Option V) (rsT : List Addr) (fsT : List Edge) (k3 : Int), [some (V.ref d), some (.int most), some (.int n), some (.int (z2 % 4)), some (.ref pp), y5, y6, y7, y8, y9, some (.ref p2), some (.ref T), some (.int ea), some (.int eb)] = [some (V.ref d), some (.int most), some (.int n), some (.int (z2 % 4)), some (.ref pp), y5, y6, y7, y8, y9, some (.ref p2), some (.ref T), y12', y13'] ∧
               SameBut d H (upd (upd H6 r2 (.lst [.int e2.1, .int e2.2])) l (.lst (xs ++ [v]))) ∧ PsAt (upd (upd H6 r2 (.lst [.int e2.1, .int e2.2])) l (.lst (xs ++ [v]))) p9 rs9 fs9 ∧ (upd (upd H6 r2 (.lst [.int e2.1, .int e2.2])) l (.lst (xs ++ [v]))) p2 = some (.lst (zs.map V.int)) ∧ PsAt (upd (upd H6 r2 (.lst [.int e2.1, .int e2.2])) l (.lst (xs ++ [v]))) T rsT fsT ∧ Flips (es0 ++ [(na, nb)]) fsT ∧ Dr (upd (upd H6 r2 (.lst [.int e2.1, .int e2.2])) l (.lst (xs ++ [v]))) d k3 ∧ k3 ≤ k9 + ((i + 1 : Nat) : Int)) := by
           intro e2 he2 r2 nr2
           have hr2d : r2 ≠ d := hd6.trk nr2
           have smr : Same H6 (upd H6 r2 (.lst [.int e2.1, .int e2.2])) := same_upd (Same.refl _) nr2
           refine ⟨T, _, _, rfl, rfl, (upd_ne (ne_of_none hT6.hD nr2)).trans hT6.hD, ?_, _, _, rsT ++ [r2], fsT ++ [e2], k3 + 1, rfl, (sb06.new (sb06.none hd6 nr2)).new nT0, (hqq6.same smr).updT hTp9 hTr9, (upd_ne hp2T).trans (smr _ _ hp26), hT6.push nr2 e2, flips_snoc hF3 he2, ?_, by omega⟩
           · rw [List.length_map, hT6.len]
             exact Nat.lt_of_le_of_lt (m := 1000) (by omega) (by decide)
           · obtain ⟨a, b, e, h0⟩ := hd6
             exact ⟨a, b, by rw [upd_ne hTd.symm, upd_ne hr2d.symm]; exact e, h0⟩
         have m1' := Int.emod_nonneg n2 (show (2 : Int) ≠ 0 by decide)
         have m2' := Int.emod_lt_of_pos n2 (show (0 : Int) < 2 by decide)
         rcases (show n2 % 2 = 0 ∨ n2 % 2 = 1 by omega) with hm | hm
         · refine Or.inl ⟨q2, _, _, .int 1, rfl, rfl, SqL.of hq6, ?_, ?_⟩
           · show atI _ (n2 % 2) = _
             rw [hm]
             rfl
           refine ⟨_, rfl, c, _, rfl, Or.inl rfl, SqL.of hc6, fun r2 nr2 => ?_⟩
           exact fin2 _ (.inl rfl) r2 nr2
         · refine Or.inl ⟨q2, _, _, .int (-1), rfl, rfl, SqL.of hq6, ?_, ?_⟩
           · show atI _ (n2 % 2) = _
             rw [hm]
             rfl
           refine ⟨_, rfl, c, _, rfl, Or.inr rfl, SqL.of hc6, fun r2 nr2 => ?_⟩
           exact fin2 _ (.inr rfl) r2 nr2
       · rintro σ H3 ⟨y12, y13, rsT, fsT, k3, rfl, sb3, hq3, hp23, hT3, hF3, hd3, hk3⟩
         rw [List.length_map, hq3.len, List.take_length] at hF3
         rw [List.length_map, hq3.len] at hk3
         have hS7 : Simp n (fs9.map fun e => (nameOf zs e.1, nameOf zs e.2)) := simp_map hS9 (nameOf zs) (fun x h1 h2 => (name_at hz h1 h2).2) (fun x y h1 h2 h3 h4 e => name_inj hz h1 h2 h3 h4 e)
         have hST := simp_flips hS7 hF3
         have hlT := flips_length hF3
         rw [List.length_map] at hlT
         refine ⟨_, rfl, _, rfl, (Nat.le_of_ble_eq_true rfl : _ ≤ sizeLine), fun p np => ?_⟩
         have smp : Same H3 (upd H3 p (.tup [.int n, .ref T])) := same_upd (Same.refl _) np
         exact fin p T n fsT _ k3 (sb3.trans (Same.but d smp)) (sb3.none hd3 np) nT0 upd_same hn1 hn3 (hT3.same smp).pairs hST (by omega) (hd3.same smp) (by omega)
end
/-! piece TZd -/
section
local macro_rules | `(tactic| wtm_at "fo a") => `(tactic| first
  | exact pa_nil
  | (refine' pa_cons ?k1 ?k2; (case k1 => wtm_at "fo e"); (case k2 => wtm_at "fo a"))
  | fail "no")
local macro_rules | `(tactic| wtm_at "fo v") => `(tactic| first
  | exact pv 0
  | exact pv 1
  | exact pv 2
  | exact pv 3
  | exact pv 4
  | exact pv 5
  | exact pv 6
  | exact pv 7
  | exact pv 8
  | exact pv 9
  | exact pv 10
  | exact pv 11
  | exact pv 12
  | exact pv 13
  | exact pv 14
  | exact pv 15
  | fail "no")
local macro_rules | `(tactic| wtm_at "fo e") => `(tactic| first
  | with_reducible exact pe_int
  | with_reducible exact pe_bl
  | with_reducible exact pe_non
  | with_reducible exact pe_str
  | ((with_reducible show PE _ (.Name _ _) _); wtm_at "fo v")
  | ((with_reducible show PE _ (.BinOp _ .Add _ _) _); apply pe_op opAddB <;> wtm_at "fo e")
  | ((with_reducible show PE _ (.BinOp _ .Sub _ _) _); apply pe_op op_sub <;> wtm_at "fo e")
  | ((with_reducible show PE _ (.BinOp _ .Mult _ _) _); apply pe_op op_mul <;> wtm_at "fo e")
  | ((with_reducible show PE _ (.BinOp _ .Mod _ _) _); apply pe_op op_mod <;> wtm_at "fo e")
  | ((with_reducible show PE _ (.BinOp _ .FloorDiv _ _) _); apply pe_op op_fdiv <;> wtm_at "fo e")
  | ((with_reducible show PE _ (.BinOp _ .Pow _ _) _); apply pe_op op_powW <;> wtm_at "fo e")
  | ((with_reducible show PE _ (.BinOp _ .LShift _ _) _); apply pe_op op_shl <;> wtm_at "fo e")
  | ((with_reducible show PE _ (.BinOp _ .RShift _ _) _); apply pe_op op_shr <;> wtm_at "fo e")
  | ((with_reducible show PE _ (.BinOp _ .BitAnd _ _) _); apply pe_op op_and <;> wtm_at "fo e")
  | ((with_reducible show PE _ (.List _ _) _); apply pe_lst; wtm_at "fo a")
  | ((with_reducible show PE _ (.Tuple _ _ _) _); apply pe_tup; wtm_at "fo a")
  | ((with_reducible show PE _ (.ListComp _ [_] _ _) _); wtm_at "fo lc")
  | ((with_reducible show PE _ (.IfExp _ _ _ _) _); apply pe_ifExp; (· wtm_at "fo t"); (· wtm_at "fo e"); (· wtm_at "fo e"))
  | ((with_reducible show PE _ (.UnaryOp .USub _ _) _); apply pe_un un_neg; wtm_at "fo e")
  | ((with_reducible show PE _ (.Call (.Name _ _) [] (_ :: _) _) _); wtm_at "fo kcall")
  | ((with_reducible show PE _ (.Call (.Name _ _) _ _ _) _); wtm_at "fo call")
  | ((with_reducible show PE _ (.Call (.Attribute _ _ _) _ _ _) _); wtm_at "fo meth")
  | ((with_reducible show PE _ (.Compare _ _ _ _) _); wtm_at "fo cmp")
  | ((with_reducible show PE _ (.Subscript _ (.Slice _ _ _ _) _) _); wtm_at "fo slice")
  | ((with_reducible show PE _ (.Subscript _ _ _) _); refine' pe_ix (ix_seqK (by assumption) (by exact rfl)) ?ka ?kb (fun _ _ => rfl); (case ka => wtm_at "fo e"); (case kb => wtm_at "fo e"))
  | fail "no")
local macro_rules | `(tactic| wtm_at "fo own") => `(tactic| first
  | ((show _ = [0]); kernel_rfl!)
  | ((show _ = [1]); kernel_rfl!)
  | ((show _ = [2]); kernel_rfl!)
  | ((show _ = [3]); kernel_rfl!)
  | ((show _ = [4]); kernel_rfl!)
  | ((show _ = [5]); kernel_rfl!)
  | ((show _ = [6]); kernel_rfl!)
  | ((show _ = [7]); kernel_rfl!)
  | ((show _ = [8]); kernel_rfl!)
  | ((show _ = [9]); kernel_rfl!)
  | ((show _ = [10]); kernel_rfl!)
  | ((show _ = [11]); kernel_rfl!)
  | ((show _ = [12]); kernel_rfl!)
  | ((show _ = [13]); kernel_rfl!)
  | ((show _ = [14]); kernel_rfl!)
  | ((show _ = [15]); kernel_rfl!)
  | ((show _ = [0, 1]); kernel_rfl!)
  | ((show _ = [1, 2]); kernel_rfl!)
  | ((show _ = [2, 3]); kernel_rfl!)
  | ((show _ = [3, 4]); kernel_rfl!)
  | ((show _ = [4, 5]); kernel_rfl!)
  | ((show _ = [5, 6]); kernel_rfl!)
  | ((show _ = [6, 7]); kernel_rfl!)
  | ((show _ = [7, 8]); kernel_rfl!)
  | ((show _ = [8, 9]); kernel_rfl!)
  | ((show _ = [9, 10]); kernel_rfl!)
  | ((show _ = [10, 11]); kernel_rfl!)
  | ((show _ = [11, 12]); kernel_rfl!)
  | ((show _ = [12, 13]); kernel_rfl!)
  | ((show _ = [13, 14]); kernel_rfl!)
  | ((show _ = [14, 15]); kernel_rfl!)
  | fail "no")
local macro_rules | `(tactic| wtm_at "fo ts") => `(tactic| first
  | exact pts_nil
  | (apply pts_one; wtm_at "fo t")
  | fail "no")
local macro_rules | `(tactic| wtm_at "fo lc") => `(tactic| first
  | (refine' pe_lcO (by assumption) (by exact rfl) (by exact rfl) (by wtm_at "fo own") (by decide +kernel) rfl ?ki ?kg ?kt ?ke; (case ki => wtm_at "fo i"); (case kg => (intro _ _ _ _ _; wtm_at "fo g")); (case kt => (intro _ _ _ _ _; wtm_at "fo ts")); (case ke => (intro _ _ _ _ _; wtm_at "fo e")))
  | fail "no")
local macro_rules | `(tactic| wtm_at "fo part") => `(tactic| first
  | exact po_none
  | (apply po_some; wtm_at "fo e")
  | fail "no")
local macro_rules | `(tactic| wtm_at "fo slice") => `(tactic| first
  | ((with_reducible show PE _ (.Subscript _ (.Slice _ _ none _) _) _); refine' pe_slice (sl_listK (by assumption) (by exact rfl)) ?ka ?kb ?kc; (case ka => wtm_at "fo e"); (case kb => wtm_at "fo part"); (case kc => wtm_at "fo part"))
  | ((with_reducible show PE _ (.Subscript _ (.Slice none none (some _) _) _) _); refine' pe_stepK (by assumption) (by exact rfl) ?ka ?kb; (case ka => wtm_at "fo e"); (case kb => wtm_at "fo e"))
  | fail "no")
local macro_rules | `(tactic| wtm_at "fo cmp") => `(tactic| first
  | ((with_reducible show PE _ (.Compare _ [.Lt] _ _) _); refine' pe_cmpR op_lt ?ka ?kb (nomark _); (case ka => wtm_at "fo e"); (case kb => wtm_at "fo e"))
  | ((with_reducible show PE _ (.Compare _ [.LtE] _ _) _); refine' pe_cmpR op_le ?ka ?kb (nomark _); (case ka => wtm_at "fo e"); (case kb => wtm_at "fo e"))
  | ((with_reducible show PE _ (.Compare _ [.Gt] _ _) _); refine' pe_cmpR op_gt ?ka ?kb (nomark _); (case ka => wtm_at "fo e"); (case kb => wtm_at "fo e"))
  | ((with_reducible show PE _ (.Compare _ [.GtE] _ _) _); refine' pe_cmpR op_ge ?ka ?kb (nomark _); (case ka => wtm_at "fo e"); (case kb => wtm_at "fo e"))
  | ((with_reducible show PE _ (.Compare _ [.Eq] _ _) _); refine' pe_cmpR (op_eqK (by assumption) (by exact rfl) (Room.units (by assumption))) ?ka ?kb (nomark _); (case ka => wtm_at "fo e"); (case kb => wtm_at "fo e"))
  | ((with_reducible show PE _ (.Compare _ [.NotEq] _ _) _); refine' pe_cmpR (op_neK (by assumption) (by exact rfl) (Room.units (by assumption))) ?ka ?kb (nomark _); (case ka => wtm_at "fo e"); (case kb => wtm_at "fo e"))
  | fail "no")
local macro_rules | `(tactic| wtm_at "fo tcmp") => `(tactic| first
  | ((with_reducible show PT _ (.Compare _ [.Lt] _ _) _); refine' pt_cmpR op_lt ?ka ?kb (nomark _); (case ka => wtm_at "fo e"); (case kb => wtm_at "fo e"))
  | ((with_reducible show PT _ (.Compare _ [.LtE] _ _) _); refine' pt_cmpR op_le ?ka ?kb (nomark _); (case ka => wtm_at "fo e"); (case kb => wtm_at "fo e"))
  | ((with_reducible show PT _ (.Compare _ [.Gt] _ _) _); refine' pt_cmpR op_gt ?ka ?kb (nomark _); (case ka => wtm_at "fo e"); (case kb => wtm_at "fo e"))
  | ((with_reducible show PT _ (.Compare _ [.GtE] _ _) _); refine' pt_cmpR op_ge ?ka ?kb (nomark _); (case ka => wtm_at "fo e"); (case kb => wtm_at "fo e"))
  | ((with_reducible show PT _ (.Compare _ [.Eq] _ _) _); refine' pt_cmpR (op_eqK (by assumption) (by exact rfl) (Room.units (by assumption))) ?ka ?kb (nomark _); (case ka => wtm_at "fo e"); (case kb => wtm_at "fo e"))
  | ((with_reducible show PT _ (.Compare _ [.NotEq] _ _) _); refine' pt_cmpR (op_neK (by assumption) (by exact rfl) (Room.units (by assumption))) ?ka ?kb (nomark _); (case ka => wtm_at "fo e"); (case kb => wtm_at "fo e"))
  | ((with_reducible show PT _ (.Compare _ [.In] _ _) _); refine' pt_cmpR (op_inK (by assumption) (by exact rfl)) ?ka ?kb rfl; (case ka => wtm_at "fo e"); (case kb => wtm_at "fo e"))
  | ((with_reducible show PT _ (.Compare _ [.NotIn] _ _) _); refine' pt_cmpR (op_notInK (by assumption) (by exact rfl)) ?ka ?kb rfl; (case ka => wtm_at "fo e"); (case kb => wtm_at "fo e"))
  | fail "no")
local macro_rules | `(tactic| wtm_at "fo w") => `(tactic| first
  | ((with_reducible show PW _ (.BoolOp .And [_] _) _); apply pw_and1; wtm_at "fo t")
  | ((with_reducible show PW _ (.BoolOp .And _ _) _); apply pw_and; (· wtm_at "fo t"); (· wtm_at "fo w"))
  | ((with_reducible show PW _ (.BoolOp .Or [_] _) _); apply pw_or1; wtm_at "fo t")
  | ((with_reducible show PW _ (.BoolOp .Or _ _) _); apply pw_or; (· wtm_at "fo t"); (· wtm_at "fo w"))
  | fail "no")
local macro_rules | `(tactic| wtm_at "fo meth") => `(tactic| first
  | ((with_reducible show PE _ (.Call (.Attribute _ (Str.ofString "append") _) _ _ _) _); refine' pe_bm PySem.F.plainAttrs_list PySem.F.slot_list_append PySem.F.type_list_append mt_append ?ka ?kb; (case ka => wtm_at "fo e"); (case kb => wtm_at "fo a"))
  | ((with_reducible show PE _ (.Call (.Attribute _ (Str.ofString "pop") _) [_] _ _) _); refine' pe_bm PySem.F.plainAttrs_list PySem.F.slot_list_pop PySem.F.type_list_pop mt_popAt ?ka ?kb; (case ka => wtm_at "fo e"); (case kb => wtm_at "fo a"))
  | ((with_reducible show PE _ (.Call (.Attribute _ (Str.ofString "pop") _) [] _ _) _); refine' pe_bm0 PySem.F.plainAttrs_list PySem.F.slot_list_pop PySem.F.type_list_pop mt_pop ?ka; (case ka => wtm_at "fo e"))
  | fail "no")
local macro_rules | `(tactic| wtm_at "fo k") => `(tactic| first
  | exact pk_nil
  | (refine' pk_cons ?k1 ?k2; (case k1 => wtm_at "fo e"); (case k2 => wtm_at "fo k"))
  | fail "no")
local macro_rules | `(tactic| wtm_at "fo kcall") => `(tactic| first
  | (refine' pe_kcal (by assumption) (by assumption) (by decide) (by rfl) ?ka; (case ka => wtm_at "fo k"))
  | fail "no")
local macro_rules | `(tactic| wtm_at "fo call") => `(tactic| first
  | ((with_reducible show PE _ (.Call (.Name (Str.ofString "int") _) _ _ _) _); refine' pe_callTy call_intB (by rfl) (by assumption) (by decide +kernel) ?ka; (case ka => wtm_at "fo a"))
  | ((with_reducible show PE _ (.Call (.Name (Str.ofString "len") _) _ _ _) _); refine' pe_callB (call_lenK (by assumption) (by exact rfl)) (by rfl) (by assumption) PySem.boot_len ?ka; (case ka => wtm_at "fo a"))
  | ((with_reducible show PE _ (.Call (.Name (Str.ofString "list") _) [.Call (.Name (Str.ofString "range") _) [_, _] _ _] _ _) _); refine' pe_listRg rfl (by rfl) (by assumption) (prg_2 (by rfl) (by assumption) ?ka ?kb); (case ka => wtm_at "fo e"); (case kb => wtm_at "fo e"))
  | ((with_reducible show PE _ (.Call (.Name (Str.ofString "list") _) _ _ _) _); refine' pe_callTy (call_listK (by assumption) (by exact rfl)) (by rfl) (by assumption) (by decide +kernel) ?ka; (case ka => wtm_at "fo a"))
  | ((with_reducible show PE _ (.Call (.Name (Str.ofString "min") _) [_, _] _ _) _); refine' pe_callB (call_min2 rfl) (by rfl) (by assumption) (by decide +kernel) ?ka; (case ka => wtm_at "fo a"))
  | ((with_reducible show PE _ (.Call (.Name (Str.ofString "sorted") _) [_] _ _) _); refine' pe_callB (cr_sortedK (by assumption) (by exact rfl)) (by rfl) (by assumption) (by decide +kernel) ?ka; (case ka => wtm_at "fo a"))
  | ((with_reducible show PE _ (.Call (.Name (Str.ofString "repr") _) [_] _ _) _); refine' pe_callB (call_reprK (by assumption) (by exact rfl) (by assumption) (Room.units (by assumption))) (by rfl) (by assumption) (by decide +kernel) ?ka; (case ka => wtm_at "fo a"))
  | (refine' pe_cal (by assumption) (by assumption) (by decide) (by rfl) ?ka; (case ka => wtm_at "fo a"))
  | fail "no")
local macro_rules | `(tactic| wtm_at "fo setlc") => `(tactic| first
  | (refine' ps_setLcO (i := 0) (by assumption) (by exact rfl) (by exact rfl) (by wtm_at "fo own") (by decide +kernel) rfl rfl rfl (sw_true rfl rfl rfl (by decide +kernel)) ?ki ?kg ?kt ?ke; (case ki => wtm_at "fo i"); (case kg => (intro _ _ _ _ _; wtm_at "fo g")); (case kt => (intro _ _ _ _ _; wtm_at "fo ts")); (case ke => (intro _ _ _ _ _; wtm_at "fo e")))
  | (refine' ps_setLcO (i := 1) (by assumption) (by exact rfl) (by exact rfl) (by wtm_at "fo own") (by decide +kernel) rfl rfl rfl (sw_true rfl rfl rfl (by decide +kernel)) ?ki ?kg ?kt ?ke; (case ki => wtm_at "fo i"); (case kg => (intro _ _ _ _ _; wtm_at "fo g")); (case kt => (intro _ _ _ _ _; wtm_at "fo ts")); (case ke => (intro _ _ _ _ _; wtm_at "fo e")))
  | (refine' ps_setLcO (i := 2) (by assumption) (by exact rfl) (by exact rfl) (by wtm_at "fo own") (by decide +kernel) rfl rfl rfl (sw_true rfl rfl rfl (by decide +kernel)) ?ki ?kg ?kt ?ke; (case ki => wtm_at "fo i"); (case kg => (intro _ _ _ _ _; wtm_at "fo g")); (case kt => (intro _ _ _ _ _; wtm_at "fo ts")); (case ke => (intro _ _ _ _ _; wtm_at "fo e")))
  | (refine' ps_setLcO (i := 3) (by assumption) (by exact rfl) (by exact rfl) (by wtm_at "fo own") (by decide +kernel) rfl rfl rfl (sw_true rfl rfl rfl (by decide +kernel)) ?ki ?kg ?kt ?ke; (case ki => wtm_at "fo i"); (case kg => (intro _ _ _ _ _; wtm_at "fo g")); (case kt => (intro _ _ _ _ _; wtm_at "fo ts")); (case ke => (intro _ _ _ _ _; wtm_at "fo e")))
  | (refine' ps_setLcO (i := 4) (by assumption) (by exact rfl) (by exact rfl) (by wtm_at "fo own") (by decide +kernel) rfl rfl rfl (sw_true rfl rfl rfl (by decide +kernel)) ?ki ?kg ?kt ?ke; (case ki => wtm_at "fo i"); (case kg => (intro _ _ _ _ _; wtm_at "fo g")); (case kt => (intro _ _ _ _ _; wtm_at "fo ts")); (case ke => (intro _ _ _ _ _; wtm_at "fo e")))
  | (refine' ps_setLcO (i := 5) (by assumption) (by exact rfl) (by exact rfl) (by wtm_at "fo own") (by decide +kernel) rfl rfl rfl (sw_true rfl rfl rfl (by decide +kernel)) ?ki ?kg ?kt ?ke; (case ki => wtm_at "fo i"); (case kg => (intro _ _ _ _ _; wtm_at "fo g")); (case kt => (intro _ _ _ _ _; wtm_at "fo ts")); (case ke => (intro _ _ _ _ _; wtm_at "fo e")))
  | (refine' ps_setLcO (i := 6) (by assumption) (by exact rfl) (by exact rfl) (by wtm_at "fo own") (by decide +kernel) rfl rfl rfl (sw_true rfl rfl rfl (by decide +kernel)) ?ki ?kg ?kt ?ke; (case ki => wtm_at "fo i"); (case kg => (intro _ _ _ _ _; wtm_at "fo g")); (case kt => (intro _ _ _ _ _; wtm_at "fo ts")); (case ke => (intro _ _ _ _ _; wtm_at "fo e")))
  | (refine' ps_setLcO (i := 7) (by assumption) (by exact rfl) (by exact rfl) (by wtm_at "fo own") (by decide +kernel) rfl rfl rfl (sw_true rfl rfl rfl (by decide +kernel)) ?ki ?kg ?kt ?ke; (case ki => wtm_at "fo i"); (case kg => (intro _ _ _ _ _; wtm_at "fo g")); (case kt => (intro _ _ _ _ _; wtm_at "fo ts")); (case ke => (intro _ _ _ _ _; wtm_at "fo e")))
  | (refine' ps_setLcO (i := 8) (by assumption) (by exact rfl) (by exact rfl) (by wtm_at "fo own") (by decide +kernel) rfl rfl rfl (sw_true rfl rfl rfl (by decide +kernel)) ?ki ?kg ?kt ?ke; (case ki => wtm_at "fo i"); (case kg => (intro _ _ _ _ _; wtm_at "fo g")); (case kt => (intro _ _ _ _ _; wtm_at "fo ts")); (case ke => (intro _ _ _ _ _; wtm_at "fo e")))
  | (refine' ps_setLcO (i := 9) (by assumption) (by exact rfl) (by exact rfl) (by wtm_at "fo own") (by decide +kernel) rfl rfl rfl (sw_true rfl rfl rfl (by decide +kernel)) ?ki ?kg ?kt ?ke; (case ki => wtm_at "fo i"); (case kg => (intro _ _ _ _ _; wtm_at "fo g")); (case kt => (intro _ _ _ _ _; wtm_at "fo ts")); (case ke => (intro _ _ _ _ _; wtm_at "fo e")))
  | (refine' ps_setLcO (i := 10) (by assumption) (by exact rfl) (by exact rfl) (by wtm_at "fo own") (by decide +kernel) rfl rfl rfl (sw_true rfl rfl rfl (by decide +kernel)) ?ki ?kg ?kt ?ke; (case ki => wtm_at "fo i"); (case kg => (intro _ _ _ _ _; wtm_at "fo g")); (case kt => (intro _ _ _ _ _; wtm_at "fo ts")); (case ke => (intro _ _ _ _ _; wtm_at "fo e")))
  | (refine' ps_setLcO (i := 11) (by assumption) (by exact rfl) (by exact rfl) (by wtm_at "fo own") (by decide +kernel) rfl rfl rfl (sw_true rfl rfl rfl (by decide +kernel)) ?ki ?kg ?kt ?ke; (case ki => wtm_at "fo i"); (case kg => (intro _ _ _ _ _; wtm_at "fo g")); (case kt => (intro _ _ _ _ _; wtm_at "fo ts")); (case ke => (intro _ _ _ _ _; wtm_at "fo e")))
  | (refine' ps_setLcO (i := 12) (by assumption) (by exact rfl) (by exact rfl) (by wtm_at "fo own") (by decide +kernel) rfl rfl rfl (sw_true rfl rfl rfl (by decide +kernel)) ?ki ?kg ?kt ?ke; (case ki => wtm_at "fo i"); (case kg => (intro _ _ _ _ _; wtm_at "fo g")); (case kt => (intro _ _ _ _ _; wtm_at "fo ts")); (case ke => (intro _ _ _ _ _; wtm_at "fo e")))
  | (refine' ps_setLcO (i := 13) (by assumption) (by exact rfl) (by exact rfl) (by wtm_at "fo own") (by decide +kernel) rfl rfl rfl (sw_true rfl rfl rfl (by decide +kernel)) ?ki ?kg ?kt ?ke; (case ki => wtm_at "fo i"); (case kg => (intro _ _ _ _ _; wtm_at "fo g")); (case kt => (intro _ _ _ _ _; wtm_at "fo ts")); (case ke => (intro _ _ _ _ _; wtm_at "fo e")))
  | (refine' ps_setLcO (i := 14) (by assumption) (by exact rfl) (by exact rfl) (by wtm_at "fo own") (by decide +kernel) rfl rfl rfl (sw_true rfl rfl rfl (by decide +kernel)) ?ki ?kg ?kt ?ke; (case ki => wtm_at "fo i"); (case kg => (intro _ _ _ _ _; wtm_at "fo g")); (case kt => (intro _ _ _ _ _; wtm_at "fo ts")); (case ke => (intro _ _ _ _ _; wtm_at "fo e")))
  | (refine' ps_setLcO (i := 15) (by assumption) (by exact rfl) (by exact rfl) (by wtm_at "fo own") (by decide +kernel) rfl rfl rfl (sw_true rfl rfl rfl (by decide +kernel)) ?ki ?kg ?kt ?ke; (case ki => wtm_at "fo i"); (case kg => (intro _ _ _ _ _; wtm_at "fo g")); (case kt => (intro _ _ _ _ _; wtm_at "fo ts")); (case ke => (intro _ _ _ _ _; wtm_at "fo e")))
  | fail "no")
local macro_rules | `(tactic| wtm_at "fo set") => `(tactic| first
  | (refine' ps_set (i := 0) (by assumption) rfl (by first | exact Or.inl rfl | exact Or.inr rfl) ?ka; (case ka => wtm_at "fo e"))
  | (refine' ps_set (i := 1) (by assumption) rfl (by first | exact Or.inl rfl | exact Or.inr rfl) ?ka; (case ka => wtm_at "fo e"))
  | (refine' ps_set (i := 2) (by assumption) rfl (by first | exact Or.inl rfl | exact Or.inr rfl) ?ka; (case ka => wtm_at "fo e"))
  | (refine' ps_set (i := 3) (by assumption) rfl (by first | exact Or.inl rfl | exact Or.inr rfl) ?ka; (case ka => wtm_at "fo e"))
  | (refine' ps_set (i := 4) (by assumption) rfl (by first | exact Or.inl rfl | exact Or.inr rfl) ?ka; (case ka => wtm_at "fo e"))
  | (refine' ps_set (i := 5) (by assumption) rfl (by first | exact Or.inl rfl | exact Or.inr rfl) ?ka; (case ka => wtm_at "fo e"))
  | (refine' ps_set (i := 6) (by assumption) rfl (by first | exact Or.inl rfl | exact Or.inr rfl) ?ka; (case ka => wtm_at "fo e"))
  | (refine' ps_set (i := 7) (by assumption) rfl (by first | exact Or.inl rfl | exact Or.inr rfl) ?ka; (case ka => wtm_at "fo e"))
  | (refine' ps_set (i := 8) (by assumption) rfl (by first | exact Or.inl rfl | exact Or.inr rfl) ?ka; (case ka => wtm_at "fo e"))
  | (refine' ps_set (i := 9) (by assumption) rfl (by first | exact Or.inl rfl | exact Or.inr rfl) ?ka; (case ka => wtm_at "fo e"))
  | (refine' ps_set (i := 10) (by assumption) rfl (by first | exact Or.inl rfl | exact Or.inr rfl) ?ka; (case ka => wtm_at "fo e"))
  | (refine' ps_set (i := 11) (by assumption) rfl (by first | exact Or.inl rfl | exact Or.inr rfl) ?ka; (case ka => wtm_at "fo e"))
  | (refine' ps_set (i := 12) (by assumption) rfl (by first | exact Or.inl rfl | exact Or.inr rfl) ?ka; (case ka => wtm_at "fo e"))
  | (refine' ps_set (i := 13) (by assumption) rfl (by first | exact Or.inl rfl | exact Or.inr rfl) ?ka; (case ka => wtm_at "fo e"))
  | fail "no")
local macro_rules | `(tactic| wtm_at "fo t") => `(tactic| first
  | ((with_reducible show PT _ (.BoolOp _ _ _) _); apply PW.pt; wtm_at "fo w")
  | ((with_reducible show PT _ (.UnaryOp .Not _ _) _); apply pt_not; wtm_at "fo t")
  | ((with_reducible show PT _ (.Compare _ _ _ _) _); wtm_at "fo tcmp")
  | (refine' pt_truthK (by assumption) (by exact rfl) ?ka (by intro _; rfl); (case ka => wtm_at "fo e"))
  | fail "no")
local macro_rules | `(tactic| wtm_at "fo gn") => `(tactic| first
  | exact pg_name (i := 0) (by assumption) rfl (by first | exact Or.inl rfl | exact Or.inr rfl)
  | exact pg_name (i := 1) (by assumption) rfl (by first | exact Or.inl rfl | exact Or.inr rfl)
  | exact pg_name (i := 2) (by assumption) rfl (by first | exact Or.inl rfl | exact Or.inr rfl)
  | exact pg_name (i := 3) (by assumption) rfl (by first | exact Or.inl rfl | exact Or.inr rfl)
  | exact pg_name (i := 4) (by assumption) rfl (by first | exact Or.inl rfl | exact Or.inr rfl)
  | exact pg_name (i := 5) (by assumption) rfl (by first | exact Or.inl rfl | exact Or.inr rfl)
  | exact pg_name (i := 6) (by assumption) rfl (by first | exact Or.inl rfl | exact Or.inr rfl)
  | exact pg_name (i := 7) (by assumption) rfl (by first | exact Or.inl rfl | exact Or.inr rfl)
  | exact pg_name (i := 8) (by assumption) rfl (by first | exact Or.inl rfl | exact Or.inr rfl)
  | exact pg_name (i := 9) (by assumption) rfl (by first | exact Or.inl rfl | exact Or.inr rfl)
  | exact pg_name (i := 10) (by assumption) rfl (by first | exact Or.inl rfl | exact Or.inr rfl)
  | exact pg_name (i := 11) (by assumption) rfl (by first | exact Or.inl rfl | exact Or.inr rfl)
  | exact pg_name (i := 12) (by assumption) rfl (by first | exact Or.inl rfl | exact Or.inr rfl)
  | exact pg_name (i := 13) (by assumption) rfl (by first | exact Or.inl rfl | exact Or.inr rfl)
  | exact pg_name (i := 14) (by assumption) rfl (by first | exact Or.inl rfl | exact Or.inr rfl)
  | exact pg_name (i := 15) (by assumption) rfl (by first | exact Or.inl rfl | exact Or.inr rfl)
  | fail "no")
local macro_rules | `(tactic| wtm_at "fo par") => `(tactic| first
  | (refine' ps_par (i := 0) (j := 1) rfl (by assumption) rfl rfl (by decide) rfl rfl ?ka (by rfl); (case ka => wtm_at "fo a"))
  | (refine' ps_par (i := 1) (j := 2) rfl (by assumption) rfl rfl (by decide) rfl rfl ?ka (by rfl); (case ka => wtm_at "fo a"))
  | (refine' ps_par (i := 2) (j := 3) rfl (by assumption) rfl rfl (by decide) rfl rfl ?ka (by rfl); (case ka => wtm_at "fo a"))
  | (refine' ps_par (i := 3) (j := 4) rfl (by assumption) rfl rfl (by decide) rfl rfl ?ka (by rfl); (case ka => wtm_at "fo a"))
  | (refine' ps_par (i := 4) (j := 5) rfl (by assumption) rfl rfl (by decide) rfl rfl ?ka (by rfl); (case ka => wtm_at "fo a"))
  | (refine' ps_par (i := 5) (j := 6) rfl (by assumption) rfl rfl (by decide) rfl rfl ?ka (by rfl); (case ka => wtm_at "fo a"))
  | (refine' ps_par (i := 6) (j := 7) rfl (by assumption) rfl rfl (by decide) rfl rfl ?ka (by rfl); (case ka => wtm_at "fo a"))
  | (refine' ps_par (i := 7) (j := 8) rfl (by assumption) rfl rfl (by decide) rfl rfl ?ka (by rfl); (case ka => wtm_at "fo a"))
  | (refine' ps_par (i := 8) (j := 9) rfl (by assumption) rfl rfl (by decide) rfl rfl ?ka (by rfl); (case ka => wtm_at "fo a"))
  | (refine' ps_par (i := 9) (j := 10) rfl (by assumption) rfl rfl (by decide) rfl rfl ?ka (by rfl); (case ka => wtm_at "fo a"))
  | (refine' ps_par (i := 10) (j := 11) rfl (by assumption) rfl rfl (by decide) rfl rfl ?ka (by rfl); (case ka => wtm_at "fo a"))
  | (refine' ps_par (i := 11) (j := 12) rfl (by assumption) rfl rfl (by decide) rfl rfl ?ka (by rfl); (case ka => wtm_at "fo a"))
  | (refine' ps_par (i := 12) (j := 13) rfl (by assumption) rfl rfl (by decide) rfl rfl ?ka (by rfl); (case ka => wtm_at "fo a"))
  | (refine' ps_par (i := 13) (j := 14) rfl (by assumption) rfl rfl (by decide) rfl rfl ?ka (by rfl); (case ka => wtm_at "fo a"))
  | (refine' ps_par (i := 14) (j := 15) rfl (by assumption) rfl rfl (by decide) rfl rfl ?ka (by rfl); (case ka => wtm_at "fo a"))
  | fail "no")
local macro_rules | `(tactic| wtm_at "fo g") => `(tactic| first
  | ((with_reducible show PG _ (.Name _ _) _); wtm_at "fo gn")
  | ((with_reducible show PG _ (.Tuple _ _ _) _); apply PG_or; (· refine' pg_tup2 (by assumption) (by exact rfl) rfl ?kg; (case kg => wtm_at "fo gs")); (· refine' pg_unl2 (by assumption) (by exact rfl) rfl ?kg; (case kg => wtm_at "fo gs")))
  | fail "no")
local macro_rules | `(tactic| wtm_at "fo gs") => `(tactic| first
  | exact pgs_nil
  | (refine' pgs_cons ?k1 ?k2; (case k1 => wtm_at "fo g"); (case k2 => wtm_at "fo gs"))
  | fail "no")
local macro_rules | `(tactic| wtm_at "fo i") => `(tactic| first
  | ((with_reducible show PI _ _ (.Call (.Name (Str.ofString "range") _) [_] _ _) _); refine' pi_range1 (by rfl) (by assumption) ?ka; (case ka => wtm_at "fo a"))
  | ((with_reducible show PI _ _ (.Call (.Name (Str.ofString "range") _) [_, _] _ _) _); refine' pi_range2 (by rfl) (by assumption) ?ka; (case ka => wtm_at "fo a"))
  | ((with_reducible show PI _ _ (.Call (.Name (Str.ofString "enumerate") _) [_] _ _) _); refine' pi_enum (by rfl) (by assumption) ?ka; (case ka => wtm_at "fo a"))
  | (refine' pi_listK (by assumption) (by exact rfl) ?ka; (case ka => wtm_at "fo e"))
  | fail "no")
local macro_rules | `(tactic| wtm_at "fo s") => `(tactic| first
  | ((with_reducible show PS _ (.While _ _ _ _) _); refine' ps_while PassesOwn.never ?kt ?kb; (case kt => wtm_at "fo t"); (case kb => wtm_at "fo ss"))
  | ((with_reducible show PS _ (.For _ _ _ _ _) _); refine' ps_for PassesOwn.never rfl ?ki ?kg ?kb; (case ki => wtm_at "fo i"); (case kg => wtm_at "fo g"); (case kb => wtm_at "fo ss"))
  | ((with_reducible show PS _ (.Assign [.Name _ _] (.ListComp _ [_] _ _) _) _); wtm_at "fo setlc")
  | ((with_reducible show PS _ (.Assign [.Name _ _] _ _) _); wtm_at "fo set")
  | ((with_reducible show PS _ (.Assign [.Tuple [.Name _ _, .Name _ _] _ _] (.Tuple [_, _] _ _) _) _); wtm_at "fo par")
  | ((with_reducible show PS _ (.Assign [.Subscript _ _ _] _ _) _); refine' ps_asg ?ka (pg_sub ?kb ?kc set_list); (case ka => wtm_at "fo e"); (case kb => wtm_at "fo e"); (case kc => wtm_at "fo e"))
  | ((with_reducible show PS _ (.Return (some _) _) _); apply ps_ret; wtm_at "fo e")
  | ((with_reducible show PS _ (.Expr _ _) _); refine' ps_expr ?ka; (case ka => wtm_at "fo e"))
  | ((with_reducible show PS _ (.If _ _ _ _) _); apply ps_if; (· wtm_at "fo t"); (· wtm_at "fo ss"); (· wtm_at "fo ss"))
  | fail "no")
local macro_rules | `(tactic| wtm_at "fo ss") => `(tactic| first
  | with_reducible exact pss_nil
  | ((with_reducible show PSs _ [_] _); apply pss_one; wtm_at "fo s")
  | (apply pss_cons; (· wtm_at "fo s"); (· wtm_at "fo ss"))
  | fail "no")
local macro_rules | `(tactic| wtm_at "fo hp") => `(tactic| first
  | assumption
  | exact upd_same
  | (refine (upd_ne ?ne).trans ?hp; (case ne => wtm_at "fo ne"); (case hp => wtm_at "fo hp"))
  | fail "no")
local macro_rules | `(tactic| wtm_at "fo ne") => `(tactic| first
  | assumption
  | (apply Ne.symm; assumption)
  | exact ne_of_none (by assumption) (by assumption)
  | exact Ne.symm (ne_of_none (by assumption) (by assumption))
  | fail "no")
local macro_rules | `(tactic| wtm_at "fo sz") => `(tactic| first
  | exact (Nat.le_of_ble_eq_true rfl : _ ≤ sizeLine)
  | exact (Nat.le_of_ble_eq_true rfl : _ < sizeLine)
  | exact Nat.lt_of_le_of_lt (m := 100000) (by first | assumption | omega | (simp; omega)) (by decide)
  | exact Nat.le_trans (m := 100000) (by first | assumption | omega | (simp; omega)) (by decide)
  | fail "no")
local macro_rules | `(tactic| wtm_at "fo r1") => `(tactic| first
  | refine ⟨(Nat.le_of_ble_eq_true rfl : _ ≤ sizeLine), fun p np => ?_⟩
  | (refine' ⟨_, _, rfl, Or.inl (SqL.of ?h), ?_⟩; (case h => wtm_at "fo hp"))
  | refine ⟨_, rfl, ?_⟩
  | refine ⟨_, _, rfl, rfl, ?_⟩
  | refine ⟨_, _, rfl, ⟨by omega, by omega, by omega, by omega⟩, ?_⟩
  | refine ⟨_, rfl, by omega, by omega, ?_⟩
  | refine Or.inl ⟨_, rfl, ?_⟩
  | refine Or.inl ⟨rfl, ?_⟩
  | refine Or.inl ⟨_, _, rfl, rfl, ?_⟩
  | (refine' Or.inl ⟨_, _, _, _, rfl, rfl, SqL.of ?h, ?a, ?_⟩; (case h => wtm_at "fo hp"); (case a => rfl))
  | (refine' ⟨_, _, _, _, rfl, rfl, ?h, ?a, ?_⟩; (case h => wtm_at "fo hp"); (case a => rfl))
  | (refine' ⟨.inl ⟨rfl, _, SqL.of ?h⟩, ?_⟩; (case h => wtm_at "fo hp"))
  | (refine' ⟨_, _, _, rfl, rfl, ?h, ?z, ?_⟩; (case h => wtm_at "fo hp"); (case z => wtm_at "fo sz"))
  | (refine' ⟨_, rfl, ⟨_, SqL.of ?h⟩, ?_⟩; (case h => wtm_at "fo hp"))
  | fail "no")
local macro_rules | `(tactic| wtm_at "fo side") => `(tactic| ((try dsimp only [CMul, CDiv]); first
  | assumption
  | decide
  | omega
  | exact ⟨by decide, by decide⟩
  | exact ⟨by omega, by omega⟩
  | decide +kernel
  | fail "no"))
local macro_rules | `(tactic| wtm_at "fo r2") => `(tactic| first
  | wtm_at "fo r1"
  | refine And.intro (by wtm_at "fo side") ?_
  | fail "no")
local macro_rules | `(tactic| wtm_at "fo r") => `(tactic| repeat wtm_at "fo r2")
local macro_rules | `(tactic| wtm_at "fo v") => `(tactic| first
  | ((with_reducible show PE _ (.Name (Str.ofString "int") _) _); exact pe_bltn (v := .ty "int") (by rfl) (by assumption) (by decide +kernel) rfl)
  | ((with_reducible show PE _ (.Name (Str.ofString "list") _) _); exact pe_bltn (v := .ty "list") (by rfl) (by assumption) (by decide +kernel) rfl)
  | ((with_reducible show PE _ (.Name (Str.ofString "MOST_PLACES") _) _); exact pe_glob (v := .int 12) (by rfl) (by assumption) ⟨_, rfl⟩)
  | fail "no")
local macro_rules | `(tactic| wtm_at "fo e") => `(tactic| first
  | ((with_reducible show PE _ (.BoolOp .And [_] _) _); apply pe_one; wtm_at "fo e")
  | ((with_reducible show PE _ (.BoolOp .And _ _) _); apply pe_and; (· wtm_at "fo e"); (· wtm_at "fo e"))
  | ((with_reducible show PE _ (.Compare _ [.IsNot] [.Constant (.bool true) _ _] _) _); refine' pe_cmpR op_notT ?ka ?kb (nomark _); (case ka => wtm_at "fo e"); (case kb => wtm_at "fo e"))
  | ((with_reducible show PE _ (.Compare _ [.LtE, .LtE] _ _) _); refine' pe_chain op_le op_le ?ka ?kb ?kc; (case ka => wtm_at "fo e"); (case kb => wtm_at "fo e"); (case kc => wtm_at "fo e"))
  | ((with_reducible show PE _ (.Call (.Name (Str.ofString "isinstance") _) _ _ _) _); refine' pe_callB (call_isiK' (by assumption) (by exact rfl)) (by rfl) (by assumption) (by decide +kernel) ?ka; (case ka => wtm_at "fo a"))
  | ((with_reducible show PE _ (.Call (.Attribute _ (Str.ofString "bit_length") _) [] [] _) _); refine' pe_bits ?ka; (case ka => wtm_at "fo e"))
  | fail "no")
local macro_rules | `(tactic| wtm_at "fo t") => `(tactic| first
  | ((with_reducible show PT _ (.Compare _ [.IsNot] [.Constant (.bool true) _ _] _) _); refine' pt_cmpR op_notT ?ka ?kb (nomark _); (case ka => wtm_at "fo e"); (case kb => wtm_at "fo e"))
  | ((with_reducible show PT _ (.Compare _ [.Lt, .Lt, .LtE] _ _) _); refine' pt_chain3 op_lt op_lt op_le ?ka ?kb ?kc ?kd; (case ka => wtm_at "fo e"); (case kb => wtm_at "fo e"); (case kc => wtm_at "fo e"); (case kd => wtm_at "fo e"))
  | fail "no")
local macro_rules | `(tactic| wtm_at "fo s") => `(tactic| first
  | ((with_reducible show PS _ (.Raise _ _ _) _); exact ps_never)
  | ((with_reducible show PS _ (.Continue _) _); exact ps_continue)
  | ((with_reducible show PS _ (.AugAssign (.Subscript _ _ _) .BitOr _ _) _); refine' ps_augS ?ka ?kb get_list ?kc ip_or set_list; (case ka => wtm_at "fo e"); (case kb => wtm_at "fo e"); (case kc => wtm_at "fo e"))
  | ((with_reducible show PS _ (.Assign [.Tuple _ _ _] (.Name _ _) _) _); refine' ps_asg ?ka ?kb; (case ka => wtm_at "fo e"); (case kb => wtm_at "fo g"))
  | fail "no")
local macro_rules | `(tactic| wtm_at "fo lc") => `(tactic| (refine' pe_lcN (by assumption) (by exact rfl) (by exact rfl) (by wtm_at "fo own") (by kernel_rfl!) rfl ?ki ?kg ?kt ?ke; (case ki => wtm_at "fo i"); (case kg => (intro _ _ _ _ _; wtm_at "fo g")); (case kt => (intro _ _ _ _ _; wtm_at "fo ts")); (case ke => (intro _ _ _ _ _; wtm_at "fo e"))))
local macro_rules | `(tactic| wtm_at "fo s") => `(tactic| ((with_reducible show PS _ (.Assign [.Tuple _ _ _] (.Call _ _ _ _) _) _); refine' ps_asg ?ka ?kb; (case ka => wtm_at "fo e"); (case kb => wtm_at "fo g")))
local macro_rules | `(tactic| wtm_at "fo cmp") => `(tactic| ((with_reducible show PE _ (.Compare _ [.In] _ _) _); refine' pe_cmpR (op_inK (by assumption) (by exact rfl)) ?ka ?kb rfl; (case ka => wtm_at "fo e"); (case kb => wtm_at "fo e")))
local macro_rules | `(tactic| wtm_at "fo call") => `(tactic| ((with_reducible show PE _ (.Call (.Name (Str.ofString "list") _) [.Call (.Name (Str.ofString "range") _) [_] _ _] _ _) _); refine' pe_listRg rfl (by rfl) (by assumption) (prg_1 (by rfl) (by assumption) ?ka); (case ka => wtm_at "fo e")))
local macro_rules | `(tactic| wtm_at "fo call") => `(tactic| ((with_reducible show PE _ (.Call (.Name (Str.ofString "min") _) [_] _ _) _); refine' pe_callB (call_minK (by assumption) (by exact rfl) rfl) (by rfl) (by assumption) (by decide +kernel) ?ka; (case ka => wtm_at "fo a")))
local macro_rules | `(tactic| wtm_at "fo i") => `(tactic| ((with_reducible show PI _ _ (.Call (.Name (Str.ofString "reversed") _) [_] _ _) _); refine' pi_reversed (by rfl) (by assumption) ?ka; (case ka => wtm_at "fo a")))
local macro_rules | `(tactic| wtm_at "fo s") => `(tactic| ((with_reducible show PS _ (.AugAssign (.Name _ _) .BitXor _ _) _); first | (refine' ps_aug (i := 2) (by assumption) rfl (by first | exact Or.inl rfl | exact Or.inr rfl) ?ka ip_xor; (case ka => wtm_at "fo e")) | fail "no"))
local macro_rules | `(tactic| wtm_at "fo call") => `(tactic| (refine' pe_calG (by assumption) (by assumption) (by decide) (by assumption) (by rfl) ?ka; (case ka => wtm_at "fo a")))
local macro_rules | `(tactic| wtm_at "fo meth") => `(tactic| ((with_reducible show PE _ (.Call (.Attribute _ (Str.ofString "count") _) _ _ _) _); refine' pe_cntK (by assumption) (by exact rfl) ?ka ?kb; (case ka => wtm_at "fo e"); (case kb => wtm_at "fo a")))
local macro_rules | `(tactic| wtm_at "fo call") => `(tactic| ((with_reducible show PE _ (.Call (.Name (Str.ofString "sorted") _) [_] _ _) _); refine' pe_callB (cr_sortedB (by assumption) (by exact rfl) (Room.units (by assumption))) (by rfl) (by assumption) (by decide +kernel) ?ka; (case ka => wtm_at "fo a")))
local macro_rules | `(tactic| wtm_at "fo v") => `(tactic| first
  | exact pv 16
  | exact pv 17
  | exact pv 18
  | exact pv 19
  | fail "no")
local macro_rules | `(tactic| wtm_at "fo own") => `(tactic| first
  | ((show _ = [16]); kernel_rfl!)
  | ((show _ = [17]); kernel_rfl!)
  | ((show _ = [18]); kernel_rfl!)
  | ((show _ = [19]); kernel_rfl!)
  | ((show _ = [15, 16]); kernel_rfl!)
  | ((show _ = [16, 17]); kernel_rfl!)
  | ((show _ = [17, 18]); kernel_rfl!)
  | ((show _ = [18, 19]); kernel_rfl!)
  | fail "no")
local macro_rules | `(tactic| wtm_at "fo set") => `(tactic| first
  | (refine' ps_set (i := 14) (by assumption) rfl (by first | exact Or.inl rfl | exact Or.inr rfl) ?ka; (case ka => wtm_at "fo e"))
  | (refine' ps_set (i := 15) (by assumption) rfl (by first | exact Or.inl rfl | exact Or.inr rfl) ?ka; (case ka => wtm_at "fo e"))
  | (refine' ps_set (i := 16) (by assumption) rfl (by first | exact Or.inl rfl | exact Or.inr rfl) ?ka; (case ka => wtm_at "fo e"))
  | (refine' ps_set (i := 17) (by assumption) rfl (by first | exact Or.inl rfl | exact Or.inr rfl) ?ka; (case ka => wtm_at "fo e"))
  | (refine' ps_set (i := 18) (by assumption) rfl (by first | exact Or.inl rfl | exact Or.inr rfl) ?ka; (case ka => wtm_at "fo e"))
  | (refine' ps_set (i := 19) (by assumption) rfl (by first | exact Or.inl rfl | exact Or.inr rfl) ?ka; (case ka => wtm_at "fo e"))
  | fail "no")
local macro_rules | `(tactic| wtm_at "fo setlc") => `(tactic| first
  | (refine' ps_setLcO (i := 16) (by assumption) (by exact rfl) (by exact rfl) (by wtm_at "fo own") (by decide +kernel) rfl rfl rfl (sw_true rfl rfl rfl (by decide +kernel)) ?ki ?kg ?kt ?ke; (case ki => wtm_at "fo i"); (case kg => (intro _ _ _ _ _; wtm_at "fo g")); (case kt => (intro _ _ _ _ _; wtm_at "fo ts")); (case ke => (intro _ _ _ _ _; wtm_at "fo e")))
  | (refine' ps_setLcO (i := 17) (by assumption) (by exact rfl) (by exact rfl) (by wtm_at "fo own") (by decide +kernel) rfl rfl rfl (sw_true rfl rfl rfl (by decide +kernel)) ?ki ?kg ?kt ?ke; (case ki => wtm_at "fo i"); (case kg => (intro _ _ _ _ _; wtm_at "fo g")); (case kt => (intro _ _ _ _ _; wtm_at "fo ts")); (case ke => (intro _ _ _ _ _; wtm_at "fo e")))
  | (refine' ps_setLcO (i := 18) (by assumption) (by exact rfl) (by exact rfl) (by wtm_at "fo own") (by decide +kernel) rfl rfl rfl (sw_true rfl rfl rfl (by decide +kernel)) ?ki ?kg ?kt ?ke; (case ki => wtm_at "fo i"); (case kg => (intro _ _ _ _ _; wtm_at "fo g")); (case kt => (intro _ _ _ _ _; wtm_at "fo ts")); (case ke => (intro _ _ _ _ _; wtm_at "fo e")))
  | (refine' ps_setLcO (i := 19) (by assumption) (by exact rfl) (by exact rfl) (by wtm_at "fo own") (by decide +kernel) rfl rfl rfl (sw_true rfl rfl rfl (by decide +kernel)) ?ki ?kg ?kt ?ke; (case ki => wtm_at "fo i"); (case kg => (intro _ _ _ _ _; wtm_at "fo g")); (case kt => (intro _ _ _ _ _; wtm_at "fo ts")); (case ke => (intro _ _ _ _ _; wtm_at "fo e")))
  | fail "no")
local macro_rules | `(tactic| wtm_at "fo gn") => `(tactic| first
  | exact pg_name (i := 16) (by assumption) rfl (by first | exact Or.inl rfl | exact Or.inr rfl)
  | exact pg_name (i := 17) (by assumption) rfl (by first | exact Or.inl rfl | exact Or.inr rfl)
  | exact pg_name (i := 18) (by assumption) rfl (by first | exact Or.inl rfl | exact Or.inr rfl)
  | exact pg_name (i := 19) (by assumption) rfl (by first | exact Or.inl rfl | exact Or.inr rfl)
  | fail "no")
local macro_rules | `(tactic| wtm_at "fo s") => `(tactic| ((with_reducible show PS _ (.Assign [.Tuple _ _ _] (.Tuple _ _ _) _) _); refine' ps_asg ?ka ?kb; (case ka => wtm_at "fo e"); (case kb => wtm_at "fo g")))
local macro_rules | `(tactic| wtm_at "fo e") => `(tactic| first
  | ((with_reducible show PE _ (.UnaryOp .Invert _ _) _); apply pe_un un_inv; wtm_at "fo e")
  | ((with_reducible show PE _ (.BoolOp .Or [_] _) _); apply pe_one; wtm_at "fo e")
  | ((with_reducible show PE _ (.BoolOp .Or _ _) _); apply pe_or; (· wtm_at "fo e"); (· wtm_at "fo e"))
  | ((with_reducible show PE _ (.BinOp _ .Mult _ _) _); apply pe_op opMulB <;> wtm_at "fo e")
  | ((with_reducible show PE _ (.BinOp _ .BitOr _ _) _); apply pe_op op_or <;> wtm_at "fo e")
  | ((with_reducible show PE _ (.Compare _ [.Is] [.Constant .none _ _] _) _); refine' pe_cmpR op_isN ?ka ?kb (nomark _); (case ka => wtm_at "fo e"); (case kb => wtm_at "fo e"))
  | fail "no")
local macro_rules | `(tactic| wtm_at "fo t") => `(tactic| first
  | ((with_reducible show PT _ (.Compare _ [.Is] [.Constant .none _ _] _) _); refine' pt_cmpR op_isN ?ka ?kb (nomark _); (case ka => wtm_at "fo e"); (case kb => wtm_at "fo e"))
  | ((with_reducible show PT _ (.Compare _ [.IsNot] [.Constant .none _ _] _) _); refine' pt_cmpR op_notN ?ka ?kb (nomark _); (case ka => wtm_at "fo e"); (case kb => wtm_at "fo e"))
  | fail "no")
local macro_rules | `(tactic| wtm_at "fo i") => `(tactic| first
  | ((with_reducible show PI _ _ (.Call (.Name (Str.ofString "enumerate") _) [_, _] [] _) _); refine' pi_enumC (by assumption) (by exact rfl) (by rfl) (by assumption) ?ka; (case ka => wtm_at "fo a"))
  | ((with_reducible show PI _ _ (.Call (.Name (Str.ofString "enumerate") _) [_] [_] _) _); refine' pi_enumS (by assumption) (by exact rfl) (by rfl) (by assumption) ?ka ?kb; (case ka => wtm_at "fo a"); (case kb => wtm_at "fo k"))
  | fail "no")
local macro_rules | `(tactic| wtm_at "fo own") => `(tactic| first
  | ((show _ = [2, 4]); kernel_rfl!)
  | ((show _ = [4, 2]); kernel_rfl!)
  | fail "no")
local macro_rules | `(tactic| wtm_at "fo v") => `(tactic| ((with_reducible show PE _ (.Name (Str.ofString "tuple") _) _); exact pe_bltn (v := .ty "tuple") (by rfl) (by assumption) (by decide +kernel) rfl))
local macro_rules | `(tactic| wtm_at "fo slice") => `(tactic| ((with_reducible show PE _ (.Subscript _ (.Slice none none (some _) _) _) _); refine' pe_stepK2 (by assumption) (by exact rfl) ?ka ?kb; (case ka => wtm_at "fo e"); (case kb => wtm_at "fo e")))
local macro_rules | `(tactic| wtm_at "fo i") => `(tactic| ((with_reducible show PI _ _ (.Call (.Name (Str.ofString "zip") _) [_, _] [] _) _); refine' pi_zip (by rfl) (by assumption) ?ka; (case ka => wtm_at "fo a")))
theorem lc_zip {K : PySem.W.Frag} {a b : Addr} {xs ys : List V} {g : TG} {tt : TT} {te : TE} {vs : List Nat} {σ : Sl} {H1 : Hp} {D : Addr} {Qd : Hp → Prop} (hl : xs.length = ys.length) (Pv : Nat → Hp → Prop) (h0 : Pv 0 (upd H1 D (.lst []))) (hq : ∀ i H, Pv i H → SqL K H a xs ∧ SqL K H b ys)
    (hs : ∀ (i : Nat) (x y : V) (T : Addr) (H : Hp), xs[i]? = some x → ys[i]? = some y → Pv i H → H T = none → g (.ref T) (wipe σ vs) (upd H T (.tup [x, y])) fun σ2 H2 => wipe σ2 vs = wipe σ vs ∧ tt σ2 H2 fun b H3 =>
      if b = true then te σ2 H3 fun y H4 => ∃ acc, H4 D = some (.lst acc) ∧ acc.length < sizeLine ∧ Pv (i + 1) (upd H4 D (.lst (acc ++ [y]))) else Pv (i + 1) H3) (hd : ∀ H, Pv xs.length H → Qd H) :
    ∃ W : Nat → Nat → Hp → Prop, (∃ m, W 0 m (upd H1 D (.lst []))) ∧ ∀ i m H, W i m H →
      ((Itz K a b).stop i H ∧ Qd H) ∨ ((Itz K a b).go i H ∧ ∃ Nx : Hp → Prop, (∀ H', Nx H' → ∃ m', m' < m ∧ W (i + 1) m' H') ∧ ∀ x H', (Itz K a b).yld i H x H' → g x (wipe σ vs) H' fun σ2 H2 => wipe σ2 vs = wipe σ vs ∧ tt σ2 H2 fun b H3 =>
        if b = true then te σ2 H3 fun y H4 => ∃ acc, H4 D = some (.lst acc) ∧ acc.length < sizeLine ∧ Nx (upd H4 D (.lst (acc ++ [y]))) else Nx H3) := by
  refine ⟨fun i m H => m = xs.length - i ∧ i ≤ xs.length ∧ Pv i H, ⟨xs.length, rfl, Nat.zero_le _, h0⟩, ?_⟩
  rintro i m H ⟨rfl, hi, p⟩
  obtain ⟨qx, qy⟩ := hq i H p
  by_cases hlt : i < xs.length
  · have hx : xs[i]? = some xs[i] := List.getElem?_eq_getElem hlt
    have hlt2 : i < ys.length := by omega
    have hy : ys[i]? = some ys[i] := List.getElem?_eq_getElem hlt2
    refine .inr ⟨⟨xs, ys, _, _, qx, qy, hx, hy⟩, Pv (i + 1), fun H' p' => ⟨xs.length - (i + 1), by omega, rfl, hlt, p'⟩, fun v H' y => ?_⟩
    obtain ⟨T, x', y', rfl, hT, rfl, f1, f2⟩ := y
    exact hs i x' y' T H (f1 xs qx) (f2 ys qy) p hT
  · have e : i = xs.length := by omega
    subst e
    exact .inl ⟨⟨xs, ys, qx, qy, Or.inl (Nat.le_refl _)⟩, hd H p⟩
variable {P : Program} {w : World} {K : PySem.W.Frag} {mg : Str → Option Value} {base : Heap}
set_option maxHeartbeats 32000000 in
noncomputable def derLaw (f : Addr) (cdv : Value) (A : Around) (outer : List Env) (s0 : Shared) (H : Hp) (E : XK) (hr : Room 7 (A.deeper (envOfC "law" (defScope s_law) s0.heap.objs.size f cdv))) (hgd : A.guards = some []) (mr : mg "range" = none) (mi : mg "int" = none) (mz : mg "zip" = none)
    (C0 : Cal P w K mg base "_law_draws" 1 ["_law_cell"] spDraws) (C1 : Cal P w K mg base "_law_net" 3 ["_law_draws_here", "_law_most"] spNet)
    (C2 : Cal P w K mg base "_law_near" 1 ["_law_size", "_law_sides"] spNear) (C3 : Cal P w K mg base "_law_walked" 3 ["_law_draws_here", "_law_near_here", "_law_knots", "_law_spots", "_law_most"] spWalked)
    (C4 : Cal P w K mg base "_law_next" 1 ["_law_draws_here"] spNext)
    (C5 : CalG P w K mg base "_law_looks_right" 5 ["_law_draws_here", "_law_size", "_law_sides", "_law_crowd", "_law_knots", "_law_spots"] spLooks)
    (C6 : CalG P w K mg base "_law_steps_right" 7 ["_law_draws_here", "_law_size", "_law_sides", "_law_crowd", "_law_knots", "_law_spots", "_law_aim"] spSteps)
    (C7 : CalG P w K mg base "_law_all_right" 5 ["_law_size", "_law_sides", "_law_crowd", "_law_knots"] spAll)
    (C8 : Cal P w K mg base "is_standing" 4 ["people", "ties", "places", "lines", "standing"] spIsStand) (C9 : Cal P w K mg base "may_go" 4 ["people", "ties", "places", "lines", "standing"] spMayGo)
    (C10 : Cal P w K mg base "count_standings" 4 ["people", "ties", "places", "lines"] spCount) (C11 : Cal P w K mg base "all_lead" 6 ["places", "lines"] spAllLead)
    (C12 : Cal P w K mg base "steps_between" 4 ["people", "ties", "places", "lines", "standing", "goal"] spBetween) :
    PSigma fun t => PSs (cxOf CX0 P w K mg base ["_law_script", "_law_draws_here", "_law_cell", "_law_most", "_law_size", "_law_sides", "_law_crowd", "_law_knots", "_law_near_here", "_law_spots", "_law_aim", "_law_row", "_law_full_here", "_law_one", "_law_two", "_law_seven", "_law_spot"] "law" (defScope s_law) f cdv A outer s0 H E).nox (defBody s_law) t := by
  have nd := sc_law.nd
  have hS := sc_law
  have hKM : KMark K := ⟨⟩
  refine' mkSig ?h
  case h =>
    show PSs _ [_, _, _, _, _, _, _, _, _, _, _] _
    wtm_at "fo ss"
end
/-! piece TZ -/
section
theorem call_stepsZ {d q2 q s t : Addr} {k a b : Int} {fs es : List Edge} {xs ys : List Int} {H : Hp} {Q : VK} {E : XK} (m n : Nat) (ha : a = (n : Int)) (hb : b = (m : Int)) (hd : Dr H d k) (hk : k ≤ 800000) (a1 : 1 ≤ m) (a2 : m ≤ 12) (a3 : Pairs H q fs) (a4 : Simp m fs) (a5 : fs.length ≤ 200) (b1 : 1 ≤ n) (b2 : n ≤ 12) (b3 : Pairs H q2 es) (b4 : Simp n es) (b5 : es.length ≤ 200) (c1 : H s = some (iL xs)) (c2 : Stds m n xs) (c3 : StandOk es fs xs) (d1 : H t = some (iL ys)) (d2 : Stds m n ys) (d3 : StandOk es fs ys)
    (fin : ∀ H' k', SameBut d H H' → Dr H' d k' → k' ≤ k + 100 → Q (.bl true) H') : spSteps [.ref d, .int a, .ref q2, .int b, .ref q, .ref s, .ref t] H Q E := by
  subst ha hb
  exact call_steps hd hk a1 a2 a3 a4 a5 b1 b2 b3 b4 b5 c1 c2 c3 d1 d2 d3 fin
def row4 : List Edge := [(1, 2), (2, 3), (3, 4)]
def tie2 : List Edge := [(1, 2)]
def full6 : List Edge := [(1, 2), (1, 3), (1, 4), (2, 3), (2, 4), (3, 4)]
theorem simp_full6 : Simp ((4 : Nat) : Int) full6 := simp_of (by decide) (by decide)
def seven11 : List Edge := [(4, 5), (5, 6), (1, 4), (2, 5), (3, 6), (1, 5), (2, 6), (1, 7), (2, 7), (3, 7), (4, 7)]
theorem simp_seven : Simp ((7 : Nat) : Int) (row4 ++ seven11) := simp_of (by decide) (by decide)
theorem along_same (xs : List Int) : ∀ ps : List Edge, alongS ps xs xs = ([], [])
  | [] => rfl
  | (p, q) :: l => by unfold alongS; rw [if_pos rfl]
def path (k : Nat) : List Edge := (List.range k).map fun (i : Nat) => ((i : Int) + 1, (i : Int) + 2)
theorem simp_path : Simp ((12 : Nat) : Int) (path 11) := simp_of (by decide) (by decide)
theorem simp_tie3 : Simp ((3 : Nat) : Int) [(1, 2), (2, 3)] := simp_of (by decide) (by decide)
theorem simp_tie3b : Simp ((3 : Nat) : Int) [(1, 2), (3, 2)] := simp_of (by decide) (by decide)
theorem simp_none (n : Nat) : Simp (n : Int) [] := simp_of (fun e h => nomatch h) List.Pairwise.nil
theorem end_one : (aroundA 1 [] []).1.length = 1 := by decide +kernel
theorem simp_row4 : Simp ((4 : Nat) : Int) row4 := simp_of (by decide) (by decide)
theorem simp_tie2 : Simp ((2 : Nat) : Int) tie2 := simp_of (by decide) (by decide)
theorem may_row4 : mayM 4 row4 tie2 [2, 3] 2 = [(1, 3), (2, 2)] := by decide +kernel
theorem count_row4 : countSt 4 2 row4 tie2 = 10 := by decide +kernel
theorem end_row4 : (aroundA 4 row4 []).1.length = 1 := by decide +kernel
theorem end_ring4 : ¬ (aroundA 4 (row4 ++ [(4, 1)]) []).1.length = 1 := by decide +kernel
theorem end_is {n : Nat} {es ps : List Edge} {left : List Int} (h : EndOf n es ps left) : left = (aroundA n es []).1 := by rw [h.is]
variable {P : Program} {w : World} {K : PySem.W.Frag} {mg : Str → Option Value} {base : Heap}
set_option maxHeartbeats 16000000 in
theorem ok_law {f : Addr} {fd : FuncData} (F : Fun K "law" "law" s_law f fd) (mr : mg "range" = none) (mi : mg "int" = none) (mz : mg "zip" = none)
    (C0 : Cal P w K mg base "_law_draws" 1 ["_law_cell"] spDraws) (C1 : Cal P w K mg base "_law_net" 3 ["_law_draws_here", "_law_most"] spNet)
    (C2 : Cal P w K mg base "_law_near" 1 ["_law_size", "_law_sides"] spNear) (C3 : Cal P w K mg base "_law_walked" 3 ["_law_draws_here", "_law_near_here", "_law_knots", "_law_spots", "_law_most"] spWalked)
    (C4 : Cal P w K mg base "_law_next" 1 ["_law_draws_here"] spNext)
    (C5 : CalG P w K mg base "_law_looks_right" 5 ["_law_draws_here", "_law_size", "_law_sides", "_law_crowd", "_law_knots", "_law_spots"] spLooks)
    (C6 : CalG P w K mg base "_law_steps_right" 7 ["_law_draws_here", "_law_size", "_law_sides", "_law_crowd", "_law_knots", "_law_spots", "_law_aim"] spSteps)
    (C7 : CalG P w K mg base "_law_all_right" 5 ["_law_size", "_law_sides", "_law_crowd", "_law_knots"] spAll)
    (C8 : Cal P w K mg base "is_standing" 4 ["people", "ties", "places", "lines", "standing"] spIsStand) (C9 : Cal P w K mg base "may_go" 4 ["people", "ties", "places", "lines", "standing"] spMayGo)
    (C10 : Cal P w K mg base "count_standings" 4 ["people", "ties", "places", "lines"] spCount) (C11 : Cal P w K mg base "all_lead" 6 ["places", "lines"] spAllLead)
    (C12 : Cal P w K mg base "steps_between" 4 ["people", "ties", "places", "lines", "standing", "goal"] spBetween) :
    FnG P w K mg base CX0 8 f fd ["_law_script"] (spLaw K) := by
  refine okG F sc_law (fun vs H Q E h => ?_) (fun cdv A outer s0 H vs Q E hr hgd h => ?_)
  · unfold spLaw at h
    obtain ⟨a, ns, rfl, _⟩ := h
    rfl
  · have nd := sc_law.nd
    have hS := sc_law
    have hKM : KMark K := ⟨⟩
    refine ⟨_, (derLaw (P := P) (w := w) (K := K) (mg := mg) (base := base) f cdv A outer s0 H E hr hgd mr mi mz C0 C1 C2 C3 C4 C5 C6 C7 C8 C9 C10 C11 C12).2, ?_⟩
    unfold derLaw mkSig
    dsimp only
    next =>
     unfold spLaw at h
     obtain ⟨a, ns, rfl, hq, hl, fin⟩ := h
     wtm_at "fo r"
     refine ⟨a, _, rfl, hq, fun p1 np1 => ?_⟩
     have hc1 := cut5 ns
     have hc2 : ∀ x ∈ cutV (ns.map V.int) none (some 5), ∃ i, x = V.int i := fun x hx => cutInt hx
     generalize cutV (ns.map V.int) none (some 5) = xs at *
     wtm_at "fo r"
     rename_i p2 np2
     have h12 : p1 ≠ p2 := ne_of_none upd_same np2
     refine Or.inr ⟨p1, p2, xs, [.int 0], rfl, rfl, by rw [upd_ne h12]; exact upd_same, upd_same, ?_, fun c nc => ?_⟩
     · exact Nat.le_trans (m := 100) (by simp; omega) (by decide)
     have hxs : ∀ x ∈ xs ++ [V.int 0], ∃ i, x = V.int i := by
       intro x hx
       rcases List.mem_append.mp hx with hx | hx
       · exact hc2 x hx
       · exact ⟨0, by simpa using hx⟩
     have hlx : (xs ++ [V.int 0]).length ≤ 7 := by simp; omega
     generalize xs ++ [V.int 0] = zs at *
     generalize (upd (upd H p1 (.lst xs)) p2 (.lst [.int 0])) = H0 at *
     refine ⟨c, rfl, ⟨_, SqL.of upd_same⟩, fun D nD => ?_⟩
     have hcD : c ≠ D := ne_of_none upd_same nD
     refine lc_list (K := K) (xs := zs) (fun i H1 => H1 c = some (.lst zs) ∧ ∃ rs : List Addr, H1 D = some (.lst (rs.map V.ref)) ∧ rs.length = i ∧ rs.Nodup ∧ ∀ r ∈ rs, Dr H1 r 0) ?_ ?_ ?_ ?_
     · exact ⟨by rw [upd_ne hcD]; exact upd_same, [], upd_same, rfl, List.nodup_nil, by simp⟩
     · rintro i H1 _ ⟨hc, _⟩
       exact SqL.of hc
     · rintro i x H1 hx ⟨hc, rs, hD, hln, hnd, hdr⟩
       obtain ⟨z, rfl⟩ := hxs x (List.mem_of_getElem? hx)
       have hi : i < zs.length := (List.getElem?_eq_some_iff.mp hx).1
       refine ⟨rfl, ?_⟩
       wtm_at "fo r"
       refine call_draws (fun p ca cb np => ?_)
       have hDp : D ≠ p := ne_of_none hD np
       have hcp : c ≠ p := ne_of_none hc np
       refine ⟨rs.map V.ref, ?_, ?_, ?_, rs ++ [p], ?_, ?_, ?_, ?_⟩
       · rw [upd_ne hDp]
         exact hD
       · rw [List.length_map, hln]
         exact Nat.lt_of_lt_of_le (m := 7) (by omega) (by decide)
       · rw [upd_ne hcD, upd_ne hcp]
         exact hc
       · rw [upd_same, List.map_append]
         rfl
       · rw [List.length_append, hln]
         rfl
       · refine List.nodup_append.mpr ⟨hnd, by simp, ?_⟩
         intro x hx y hy e
         rw [List.mem_singleton.mp hy] at e
         obtain ⟨_, _, h2, _⟩ := hdr x hx
         rw [e, np] at h2
         cases h2
       · intro r hr
         rcases List.mem_append.mp hr with hr | hr
         · obtain ⟨x1, x2, h2, h3⟩ := hdr r hr
           refine ⟨x1, x2, ?_, h3⟩
           have e1 : r ≠ p := ne_of_none h2 np
           have e2 : r ≠ D := ((hdr r hr).ne_refs hD).symm
           rw [upd_ne e2, upd_ne e1]
           exact h2
         · rw [List.mem_singleton.mp hr]
           refine ⟨ca, cb, ?_, by omega⟩
           rw [upd_ne hDp.symm]
           exact upd_same
     · rintro H1 ⟨hc, rs, hD, hln, hnd, hdr⟩
       wtm_at "fo r"
       refine ⟨⟨_, SqL.of hD⟩, ?_⟩
       refine for_list (K := K) (xs := rs.map V.ref) (fun i σ H2 => ∃ y1 y3 y4 y5 y6 y7 y8 y9 y10, σ = [some (.ref a), y1, none, y3, y4, y5, y6, y7, y8, y9, y10, none, none, none, none, none, none] ∧ H2 D = some (.lst (rs.map V.ref)) ∧ ∀ j r, i ≤ j → rs[j]? = some r → Dr H2 r 0) ?_ ?_ ?_ ?_
       · exact ⟨none, none, none, none, none, none, none, none, none, rfl, hD, fun j r _ hr => hdr r (List.mem_of_getElem? hr)⟩
       · rintro i σ H2 _ ⟨y1, y3, y4, y5, y6, y7, y8, y9, y10, rfl, hD2, hdr2⟩
         exact SqL.of hD2
       · rintro i x σ H2 hx ⟨y1, y3, y4, y5, y6, y7, y8, y9, y10, rfl, hD2, hdr2⟩
         obtain ⟨d, hr, rfl⟩ := ref_at hx
         have hd2 := hdr2 i d (Nat.le_refl i) hr
         have hDd : D ≠ d := hd2.ne_refs hD2
         refine ⟨(Nat.le_of_ble_eq_true rfl : _ ≤ sizeLine), fun lk nlk => ?_⟩
         have smk : Same H2 (upd H2 lk (.lst ([12, 6].map V.int))) := same_upd (Same.refl _) nlk
         have hlk : (upd H2 lk (.lst ([12, 6].map V.int))) lk = some (.lst ([12, 6].map V.int)) := upd_same
         have hd2b := hd2.same smk
         have hlkd := hd2b.ne_ints hlk
         refine ⟨lk, rfl, ⟨_, SqL.of upd_same⟩, ?_⟩
         refine for_list (K := K) (xs := [12, 6].map V.int) (fun i4 σ H3 => ∃ y3 y4 y5 y6 y7 y8 y9 y10 k3, σ = [some (.ref a), some (.ref d), none, y3, y4, y5, y6, y7, y8, y9, y10, none, none, none, none, none, none] ∧ SameBut d (upd H2 lk (.lst ([12, 6].map V.int))) H3 ∧ Dr H3 d k3 ∧ k3 ≤ 10000 * (i4 : Int) ∧ 0 ≤ k3) ?_ ?_ ?_ ?_
         · exact ⟨y3, y4, y5, y6, y7, y8, y9, y10, 0, rfl, SameBut.refl d _, hd2b, by omega, by omega⟩
         · rintro i4 σ H3 _ ⟨y3, y4, y5, y6, y7, y8, y9, y10, k3, rfl, sb3, hd3, hk3, hk03⟩
           exact SqL.of (sb3 _ _ hlkd hlk)
         · rintro i4 x σ H3 hx4 ⟨y3, y4, y5, y6, y7, y8, y9, y10, k3, rfl, sb3, hd3, hk3, hk03⟩
           have hi4' : i4 < 2 := (List.getElem?_eq_some_iff.mp hx4).1
           obtain ⟨kd, hkd, rfl⟩ := List.mem_map.mp (List.mem_of_getElem? hx4)
           obtain ⟨most, rfl, hm1, hm2⟩ : ∃ most : Nat, kd = (most : Int) ∧ 1 ≤ most ∧ most ≤ 12 := by
             simp only [List.mem_cons, List.not_mem_nil, or_false] at hkd
             rcases hkd with rfl | rfl
             · exact ⟨12, rfl, by decide, by decide⟩
             · exact ⟨6, rfl, by decide, by decide⟩
           wtm_at "fo r"
           refine call_net hd3 (by omega) hm1 hm2 (fun p q2 n es H4 k4 sb4 np nq hp h1 hn hq2 hSe hle hd4 hk4 => ?_)
           refine Or.inl ⟨p, [.int (n : Nat), .ref q2], rfl, SqT.of hp, rfl, .int (n : Nat), [.ref q2], rfl, .ref q2, [], rfl, rfl, ?_⟩
           wtm_at "fo r"
           refine call_net hd4 (by omega) hm1 hm2 (fun p' q m fs H5 k5 sb5 np' nq' hp' a1 hm hqf hSf hlf hd5 hk5 => ?_)
           refine Or.inl ⟨p', [.int (m : Nat), .ref q], rfl, SqT.of hp', rfl, .int (m : Nat), [.ref q], rfl, .ref q, [], rfl, rfl, ?_⟩
           have hq25 := hq2.but sb5 hd4
           wtm_at "fo r"
           refine call_near (by omega) hq25 hle (fun e he => by have := hSe.rng e he; omega) (fun qn H6 sm6 nqn hqn => ?_)
           have hd6 := hd5.same sm6
           have hT6 : Tab H6 qn n (nearM n es) := ⟨hqn, nearM_len n es⟩
           show tNext _ [some (.ref a), some (.ref d), none, some (.int most), some (.int n), some (.ref q2), some (.int m), some (.ref q), some (.ref qn), y9, y10, none, none, none, none, none, none] H6
           wtm_at "fo r"
           refine call_next hd6 (by omega) (fun z H7 hz sb7 hd7 => ?_)
           have g1 := Int.emod_nonneg z (show (n : Int) ≠ 0 by omega)
           have g2 := Int.emod_lt_of_pos z (show (0 : Int) < n by omega)
           wtm_at "fo r"
           rename_i c0 nc0
           have hn12 : n ≤ 12 := by omega
           have hm12 : m ≤ 12 := by omega
           have hIS : ∀ ys, (Stds m n ys ∧ StandOk es fs ys) → Stds m n ys := fun ys h => h.1
           have hIM : ∀ ys e, (Stds m n ys ∧ StandOk es fs ys) → MayE (nearM n es) m fs ys e → (Stds m n (putP ys e.1 e.2) ∧ StandOk es fs (putP ys e.1 e.2)) := fun ys e hI he => by
             obtain ⟨j1, j2, j3, j4, j5⟩ := he
             have j6 := hI.1.plc j1 j2
             have j7 := (near_tabR hSe _ j6.1 j6.2).2 _ j3
             have j8 := hI.1.put (i := e.1) j7.1 j7.2
             exact ⟨j8, (fits_near hSe hSf j8).mp j5⟩
           have hx0 : 1 ≤ 1 + z % (n : Int) ∧ 1 + z % (n : Int) ≤ n := by omega
           have smc : Same H7 (upd H7 c0 (.lst [.int (1 + z % (n : Int))])) := same_upd (Same.refl _) nc0
           have hc0 : (upd H7 c0 (.lst [.int (1 + z % (n : Int))])) c0 = some (.lst [.int (1 + z % (n : Int))]) := upd_same
           refine Or.inr ⟨c0, _, [.int (1 + z % (n : Int))], rfl, rfl, hc0, by omega, by omega, ?_, fun c2 nc2 => ?_⟩
           · rw [Int.toNat_natCast]
             exact Nat.le_trans (m := 12) (by show 1 * m ≤ 12; omega) (by decide)
           rw [Int.toNat_natCast, rep_flat]
           have s79 : Same H7 (upd (upd H7 c0 (.lst [.int (1 + z % (n : Int))])) c2 (.lst ((List.replicate m (1 + z % (n : Int))).map V.int))) := smc.trans (same_upd (Same.refl _) nc2)
           have hc2' : (upd (upd H7 c0 (.lst [.int (1 + z % (n : Int))])) c2 (.lst ((List.replicate m (1 + z % (n : Int))).map V.int))) c2 = some (iL (List.replicate m (1 + z % (n : Int)))) := upd_same
           generalize upd (upd H7 c0 (.lst [.int (1 + z % (n : Int))])) c2 (.lst ((List.replicate m (1 + z % (n : Int))).map V.int)) = H9 at *
           have hd9 := hd7.same s79
           have sb59 : SameBut d H5 H9 := ((Same.but d sm6).trans sb7).trans (Same.but d s79)
           have hT9 : Tab H9 qn n (nearM n es) := (hT6.but sb7 hd6).same s79
           have hf9 := hqf.but sb59 hd5
           refine call_walked (m := m) (most := 40) (fun ys => Stds m n ys ∧ StandOk es fs ys) hd9 (by omega) (by decide) hm12 hn12 hT9 (near_tabR hSe) hf9 hlf (fun e he => by have := hSf.rng e he; omega) hc2' ⟨rep_stds hx0.1 hx0.2, rep_ok hSf⟩ hIS hIM (fun s1 xs1 H10 k10 sb10 hs1 hI1 hd10 hk10 => ?_)
           have hT10 := hT9.but sb10 hd9
           have sb510 := sb59.trans sb10
           clear hc2' nc2 s79 hc0 smc nc0 sm6 sb7 hd7 hd6 hT6 hqn nqn hT9 hf9 sb59 hx0 g1 g2
           show tNext _ [some (.ref a), some (.ref d), none, some (.int most), some (.int n), some (.ref q2), some (.int m), some (.ref q), some (.ref qn), some (.ref s1), y10, none, none, none, none, none, none] H10
           wtm_at "fo r"
           refine call_next hd10 (by omega) (fun z2 H11 hz2 sb11 hd11 => ?_)
           have g1 := Int.emod_nonneg z2 (show (n : Int) ≠ 0 by omega)
           have g2 := Int.emod_lt_of_pos z2 (show (0 : Int) < n by omega)
           wtm_at "fo r"
           rename_i c0 nc0
           have hx0 : 1 ≤ 1 + z2 % (n : Int) ∧ 1 + z2 % (n : Int) ≤ n := by omega
           have smc : Same H11 (upd H11 c0 (.lst [.int (1 + z2 % (n : Int))])) := same_upd (Same.refl _) nc0
           have hc0 : (upd H11 c0 (.lst [.int (1 + z2 % (n : Int))])) c0 = some (.lst [.int (1 + z2 % (n : Int))]) := upd_same
           refine Or.inr ⟨c0, _, [.int (1 + z2 % (n : Int))], rfl, rfl, hc0, by omega, by omega, ?_, fun c2 nc2 => ?_⟩
           · rw [Int.toNat_natCast]
             exact Nat.le_trans (m := 12) (by show 1 * m ≤ 12; omega) (by decide)
           rw [Int.toNat_natCast, rep_flat]
           have s79 : Same H11 (upd (upd H11 c0 (.lst [.int (1 + z2 % (n : Int))])) c2 (.lst ((List.replicate m (1 + z2 % (n : Int))).map V.int))) := smc.trans (same_upd (Same.refl _) nc2)
           have hc2' : (upd (upd H11 c0 (.lst [.int (1 + z2 % (n : Int))])) c2 (.lst ((List.replicate m (1 + z2 % (n : Int))).map V.int))) c2 = some (iL (List.replicate m (1 + z2 % (n : Int)))) := upd_same
           generalize upd (upd H11 c0 (.lst [.int (1 + z2 % (n : Int))])) c2 (.lst ((List.replicate m (1 + z2 % (n : Int))).map V.int)) = H12 at *
           have hd12 := hd11.same s79
           have sb1012 : SameBut d H10 H12 := sb11.trans (Same.but d s79)
           have sb512 := sb510.trans sb1012
           have hT12 : Tab H12 qn n (nearM n es) := hT10.but sb1012 hd10
           have hf12 := hqf.but sb512 hd5
           refine call_walked (m := m) (most := 40) (fun ys => Stds m n ys ∧ StandOk es fs ys) hd12 (by omega) (by decide) hm12 hn12 hT12 (near_tabR hSe) hf12 hlf (fun e he => by have := hSf.rng e he; omega) hc2' ⟨rep_stds hx0.1 hx0.2, rep_ok hSf⟩ hIS hIM (fun s2 xs2 H13 k13 sb13 hs2 hI2 hd13 hk13 => ?_)
           have sb1013 := sb1012.trans sb13
           have sb513 := sb512.trans sb13
           have hf13 := hqf.but sb513 hd5
           have he13 := hq25.but sb513 hd5
           have hs113 := sb1013 _ _ (hd10.ne_ints hs1) hs1
           show tNext _ [some (.ref a), some (.ref d), none, some (.int most), some (.int n), some (.ref q2), some (.int m), some (.ref q), some (.ref qn), some (.ref s1), some (.ref s2), none, none, none, none, none, none] H13
           refine ⟨_, rfl, _, rfl, _, rfl, _, rfl, _, rfl, _, rfl, ?_⟩
           refine call_looks hd13 (by omega) a1 hm12 hf13 hSf hlf h1 hn12 he13 hSe hle hs113 hI1.1 hI1.2 (fun H14 k14 sb14 hd14 hk14 => ?_)
           refine ⟨true, rfl, ifF rfl ?_⟩
           refine ⟨_, rfl, _, rfl, _, rfl, _, rfl, _, rfl, _, rfl, _, rfl, ?_⟩
           refine call_steps hd14 (by omega) a1 hm12 (hf13.but sb14 hd13) hSf hlf h1 hn12 (he13.but sb14 hd13) hSe hle (sb14 _ _ (hd13.ne_ints hs113) hs113) hI1.1 hI1.2 (sb14 _ _ (hd13.ne_ints hs2) hs2) hI2.1 hI2.2 (fun H15 k15 sb15 hd15 hk15 => ?_)
           refine ⟨true, rfl, ifF rfl ?_⟩
           exact ⟨_, _, _, _, _, _, _, _, k15, rfl, ((((sb3.trans sb4).trans sb5).trans sb513).trans sb14).trans sb15, hd15, by omega, hd15.le⟩
         · rintro σ H3 ⟨y3, y4, y5, y6, y7, y8, y9, y10, k3, rfl, sb3, hd3, hk3, hk03⟩
           have hk3 : k3 ≤ 10000 * ((2 : Nat) : Int) := hk3
           wtm_at "fo r"
           refine call_net (most := 5) hd3 (by omega) (by decide) (by decide) (fun p q2 n es H4 k4 sb4 np nq hp h1 hn hq2 hSe hle hd4 hk4 => ?_)
           refine Or.inl ⟨p, [.int (n : Nat), .ref q2], rfl, SqT.of hp, rfl, .int (n : Nat), [.ref q2], rfl, .ref q2, [], rfl, rfl, ?_⟩
           wtm_at "fo r"
           refine call_net (most := 4) hd4 (by omega) (by decide) (by decide) (fun p' q m fs H5 k5 sb5 np' nq' hp' a1 hm hqf hSf hlf hd5 hk5 => ?_)
           refine Or.inl ⟨p', [.int (m : Nat), .ref q], rfl, SqT.of hp', rfl, .int (m : Nat), [.ref q], rfl, .ref q, [], rfl, rfl, ?_⟩
           have hq25 := hq2.but sb5 hd4
           wtm_at "fo r"
           refine call_allr a1 hm hqf hSf hlf h1 hn hq25 hSe hle (fun H6 sm6 => ?_)
           refine ⟨true, rfl, ifF rfl ?_⟩
           have sb36 := ((sb3.trans sb4).trans sb5).trans (Same.but d sm6)
           refine ⟨_, _, _, _, _, _, _, _, _, rfl, sb36 D _ hDd (smk _ _ hD2), fun j r hj hr2 => ?_⟩
           have hne : r ≠ d := fun e => by
             rw [e] at hr2
             have := nd_ix hnd hr2 hr
             omega
           obtain ⟨x1, x2, h2, h3⟩ := hdr2 j r (by omega) hr2
           exact ⟨x1, x2, sb36 r _ hne (smk _ _ h2), h3⟩
       · rintro σ H2 ⟨y1, y3, y4, y5, y6, y7, y8, y9, y10, rfl, hD2, hdr2⟩
         clear hdr2 hD2
         wtm_at "fo r"
         rename_i r1 n1 r2 n2 r3 n3 qr nqr u1 nu1 t1 nt1 s1 ns1
         have hRow : PsAt (upd _ qr (.lst [.ref r1, .ref r2, .ref r3])) qr [r1, r2, r3] row4 := ((((RowAt.nil H2).snoc (a := 1) (b := 2) n1).snoc (a := 2) (b := 3) n2).snoc (a := 3) (b := 4) n3).net nqr
         generalize upd _ qr (.lst [.ref r1, .ref r2, .ref r3]) = G0 at *
         have hTie : PsAt (upd _ t1 (.lst [.ref u1])) t1 [u1] tie2 := ((RowAt.nil G0).snoc (a := 1) (b := 2) nu1).net nt1
         have ss1 := same_upd (o := .lst [.int 1, .int 3]) (Same.refl _) ns1
         have s01 := ((same_upd (o := .lst [.int 1, .int 2]) (Same.refl _) nu1).trans (same_upd (o := .lst [.ref u1]) (Same.refl _) nt1)).trans ss1
         refine call_isstand (m := 2) (fs := tie2) (n := 4) (es := row4) (xs := [1, 3]) (by decide) (by decide) (hTie.same ss1).pairs simp_tie2 (by decide) (by decide) (by decide) (hRow.same s01).pairs simp_row4 (by decide) upd_same ⟨rfl, by decide⟩ (fun G1 sm1 => ?_)
         rw [show decide (StandOk row4 tie2 [1, 3]) = false by decide]
         have hRow1 := (hRow.same s01).same sm1
         clear hRow hTie ss1 s01 sm1 ns1 nt1 nu1
         wtm_at "fo r"
         rename_i u2 nu2 t2 nt2 s2 ns2
         have hTie : PsAt (upd _ t2 (.lst [.ref u2])) t2 [u2] tie2 := ((RowAt.nil G1).snoc (a := 1) (b := 2) nu2).net nt2
         have ss2 := same_upd (o := .lst [.int 2, .int 3]) (Same.refl _) ns2
         have s12 := ((same_upd (o := .lst [.int 1, .int 2]) (Same.refl _) nu2).trans (same_upd (o := .lst [.ref u2]) (Same.refl _) nt2)).trans ss2
         refine call_maygo (m := 2) (fs := tie2) (n := 4) (es := row4) (xs := [2, 3]) (by decide) (by decide) (hTie.same ss2).pairs simp_tie2 (by decide) (by decide) (by decide) (hRow1.same s12).pairs simp_row4 (by decide) upd_same ⟨rfl, by decide⟩ (by decide) (fun p3 rs3 G2 sm2 np3 hP => ?_)
         have hP3 := hP.ps.cong may_row4
         have hRow2 := (hRow1.same s12).same sm2
         clear hP hTie ss2 s12 sm2 ns2 nt2 nu2 hRow1
         wtm_at "fo r"
         rename_i l3 nl3 v1 nv1 v2 nv2 v3 nv3 v4 nv4
         have hV : PsAt (upd _ v3 (.lst [.ref v1, .ref v2])) v3 [v1, v2] [(1, 3), (2, 2)] := (((RowAt.nil _).snoc (a := 1) (b := 3) nv1).snoc (a := 2) (b := 2) nv2).net nv3
         have sl3 := same_upd (o := .lst [.bl false, .ref p3]) (Same.refl _) nl3
         have hl3 : (upd G2 l3 (.lst [.bl false, .ref p3])) l3 = some (.lst [.bl false, .ref p3]) := upd_same
         have s34 := (((same_upd (o := .lst [.int 1, .int 3]) (Same.refl _) nv1).trans (same_upd (o := .lst [.int 2, .int 2]) (Same.refl _) nv2)).trans (same_upd (o := .lst [.ref v1, .ref v2]) (Same.refl _) nv3))
         have sv4 := same_upd (o := .lst [.bl false, .ref v3]) (Same.refl _) nv4
         have s4 := s34.trans sv4
         refine Or.inr ⟨.list [.bool false, dE [(1, 3), (2, 2)]], .list [.bool false, dE [(1, 3), (2, 2)]], .lst (SqL.of (s4 _ _ hl3)) (.cons (.bl false) (.cons (dp_dE (hP3.same (sl3.trans s4)).pairs) .nil)), .lst (SqL.of upd_same) (.cons (.bl false) (.cons (dp_dE (hV.same sv4).pairs) .nil)), rfl, rfl, _, rfl, ?_⟩
         refine ifF (by rw [SeqAt.eqv_refl _ rfl]; rfl) ?_
         have hRow3 := hRow2.same (sl3.trans s4)
         clear hV hP3 sl3 hl3 s34 sv4 s4 hRow2 np3
         generalize upd _ v4 (.lst [.bl false, .ref v3]) = G3 at *
         clear nv1 nv2 nv3 nv4 nl3
         wtm_at "fo r"
         rename_i u5 nu5 t5 nt5
         have hTie : PsAt (upd _ t5 (.lst [.ref u5])) t5 [u5] tie2 := ((RowAt.nil G3).snoc (a := 1) (b := 2) nu5).net nt5
         have s35 := (same_upd (o := .lst [.int 1, .int 2]) (Same.refl _) nu5).trans (same_upd (o := .lst [.ref u5]) (Same.refl _) nt5)
         refine call_count (m := 2) (fs := tie2) (n := 4) (es := row4) (by decide) (by decide) hTie.pairs simp_tie2 (by decide) (by decide) (by decide) (hRow3.same s35).pairs simp_row4 (by decide) (fun G4 sm4 => ?_)
         rw [count_row4]
         have hRow4 := (hRow3.same s35).same sm4
         clear hTie s35 sm4 nt5 nu5 hRow3
         wtm_at "fo r"
         refine call_alllead (n := 4) (es := row4) (by decide) (by decide) hRow4.pairs simp_row4 (by decide) (fun psA leftA G5 hEA sm5 => ?_)
         rw [show decide (leftA.length = 1) = true from decide_eq_true (by rw [end_is hEA]; exact end_row4)]
         have hRow5 := hRow4.same sm5
         wtm_at "fo r"
         rename_i w1 nw1 w2 nw2
         have hW : PsAt (upd _ w2 (.lst [.ref w1])) w2 [w1] [(4, 1)] := ((RowAt.nil G5).snoc (a := 4) (b := 1) nw1).net nw2
         have s56 := (same_upd (o := .lst [.int 4, .int 1]) (Same.refl _) nw1).trans (same_upd (o := .lst [.ref w1]) (Same.refl _) nw2)
         have hRow6 := hRow5.same s56
         refine Or.inr ⟨qr, w2, _, _, rfl, rfl, hRow6.hD, hW.hD, (by decide : 3 + 1 ≤ sizeLine), fun z1 nz1 => ?_⟩
         have hcat := hRow6.cat hW nz1
         have hring : Simp ((4 : Nat) : Int) (row4 ++ [(4, 1)]) := simp_of (by decide) (by decide)
         have hRow7 := hRow6.same (same_upd (o := .lst ([r1, r2, r3].map V.ref ++ [w1].map V.ref)) (Same.refl _) nz1)
         refine call_alllead (n := 4) (es := row4 ++ [(4, 1)]) (by decide) (by decide) hcat.pairs hring (by decide) (fun psB leftB G6 hEB sm6 => ?_)
         rw [show decide (leftB.length = 1) = false from decide_eq_false (by rw [end_is hEB]; exact end_ring4)]
         have hRow8 := hRow7.same sm6
         clear hRow4 hRow5 hRow6 hRow7 hcat hW s56 nz1 nw1 nw2 sm5 sm6 hEA hEB
         wtm_at "fo r"
         rename_i l6 nl6 l7 nl7
         have sl6 := same_upd (o := .lst [.int 10, .bl true, .bl false]) (Same.refl _) nl6
         have sl7 := same_upd (o := .lst [.int 10, .bl true, .bl false]) (Same.refl _) nl7
         refine Or.inr ⟨.list [.int 10, .bool true, .bool false], .list [.int 10, .bool true, .bool false], .lst (SqL.of (sl7 _ _ upd_same)) (.cons (.int 10) (.cons (.bl true) (.cons (.bl false) .nil))), .lst (SqL.of upd_same) (.cons (.int 10) (.cons (.bl true) (.cons (.bl false) .nil))), rfl, rfl, _, rfl, ?_⟩
         refine ifF (by rw [SeqAt.eqv_refl _ rfl]; rfl) ?_
         have hRow9 := (hRow8.same sl6).same sl7
         generalize upd _ l7 (.lst [.int 10, .bl true, .bl false]) = G7 at *
         clear hRow8 sl6 sl7 nl6 nl7
         show tNext _ [some (.ref a), y1, none, y3, y4, y5, y6, y7, y8, y9, y10, some (.ref qr), none, none, none, none, none] G7
         wtm_at "fo r"
         rename_i za nza zb nzb
         have sza : Same G7 (upd G7 za (.lst [.int 1, .int 1, .int 1, .int 2, .int 2, .int 3])) := same_upd (Same.refl _) nza
         have szb : Same (upd G7 za (.lst [.int 1, .int 1, .int 1, .int 2, .int 2, .int 3])) (upd (upd G7 za (.lst [.int 1, .int 1, .int 1, .int 2, .int 2, .int 3])) zb (.lst [.int 2, .int 3, .int 4, .int 3, .int 4, .int 4])) := same_upd (Same.refl _) nzb
         have hzb : (upd (upd G7 za (.lst [.int 1, .int 1, .int 1, .int 2, .int 2, .int 3])) zb (.lst [.int 2, .int 3, .int 4, .int 3, .int 4, .int 4])) zb = some (iL [2, 3, 4, 3, 4, 4]) := upd_same
         have hza : (upd (upd G7 za (.lst [.int 1, .int 1, .int 1, .int 2, .int 2, .int 3])) zb (.lst [.int 2, .int 3, .int 4, .int 3, .int 4, .int 4])) za = some (iL [1, 1, 1, 2, 2, 3]) := szb _ _ upd_same
         have hRow10 := (hRow9.same sza).same szb
         generalize upd (upd G7 za (.lst [.int 1, .int 1, .int 1, .int 2, .int 2, .int 3])) zb (.lst [.int 2, .int 3, .int 4, .int 3, .int 4, .int 4]) = G8 at *
         refine ⟨za, zb, _, _, rfl, SqL.of hza, SqL.of hzb, fun D2 nD2 => ?_⟩
         refine lc_zip (K := K) (xs := [1, 1, 1, 2, 2, 3].map V.int) (ys := [2, 3, 4, 3, 4, 4].map V.int) rfl (fun i I => Same G8 I ∧ ∃ rs, PsAt I D2 rs (full6.take i)) ⟨same_upd (Same.refl _) nD2, [], PsAt.nil upd_same⟩ ?_ ?_ ?_
         · rintro i I ⟨smI, _⟩
           exact ⟨SqL.of (smI _ _ hza), SqL.of (smI _ _ hzb)⟩
         · rintro i x y T I hx hy ⟨smI, rsI, hI⟩ nT
           obtain ⟨x0, hx0, rfl⟩ := int_at hx
           obtain ⟨y0, hy0, rfl⟩ := int_at hy
           have hful : full6[i]? = some (x0, y0) := by
             rw [show full6 = [1, 1, 1, 2, 2, 3].zip [2, 3, 4, 3, 4, 4] from rfl]
             exact List.getElem?_zip_eq_some.mpr ⟨hx0, hy0⟩
           have htk : full6.take (i + 1) = full6.take i ++ [(x0, y0)] := by rw [List.take_add_one, hful]; rfl
           have smT : Same I (upd I T (.tup [.int x0, .int y0])) := same_upd (Same.refl _) nT
           have hI2 := hI.same smT
           have hTT : (upd I T (.tup [.int x0, .int y0])) T = some (.tup [.int x0, .int y0]) := upd_same
           generalize upd I T (.tup [.int x0, .int y0]) = I2 at *
           refine Or.inl ⟨T, [.int x0, .int y0], rfl, SqT.of hTT, rfl, .int x0, [.int y0], rfl, .int y0, [], rfl, rfl, ?_⟩
           refine ⟨rfl, _, rfl, _, rfl, (Nat.le_of_ble_eq_true rfl : _ ≤ sizeLine), fun c5 nc5 => ?_⟩
           have hDc : D2 ≠ c5 := ne_of_none hI2.hD nc5
           refine ⟨rsI.map V.ref, by rw [upd_ne hDc]; exact hI2.hD, ?_, ?_, rsI ++ [c5], ?_⟩
           · rw [List.length_map, hI2.len, List.length_take]
             exact Nat.lt_of_le_of_lt (m := 100) (by have : full6.length = 6 := rfl; omega) (by decide)
           · exact same_upd ((smI.trans smT).trans (same_upd (Same.refl _) nc5)) nD2
           · rw [htk]
             exact hI2.push nc5 (x0, y0)
         rintro G9 ⟨sm9, rsF, hF⟩
         have hF : PsAt G9 D2 rsF full6 := hF
         have hRow11 := hRow10.same sm9
         clear hRow10 hza hzb sza szb nza nzb sm9 hRow9 nD2
         show tNext _ [some (.ref a), y1, none, y3, y4, y5, y6, y7, y8, y9, y10, some (.ref qr), some (.ref D2), none, none, none, none] G9
         wtm_at "fo r"
         refine call_draws (fun d1 ca cb nd1 => ?_)
         have hd1 : Dr (upd G9 d1 (.lst [.int ca, .int 0, .bl cb])) d1 0 := ⟨ca, cb, upd_same, Int.le_refl _⟩
         have sd1 := same_upd (o := .lst [.int ca, .int 0, .bl cb]) (Same.refl _) nd1
         wtm_at "fo r"
         rename_i x1 nx1 x2 nx2
         have sx1 := same_upd (o := .lst [.int 1, .int 2, .int 3, .int 4]) (Same.refl _) nx1
         have sx2 := same_upd (o := .lst [.int 4, .int 3, .int 2, .int 1]) (Same.refl _) nx2
         have s911 := (sd1.trans sx1).trans sx2
         refine call_steps (m := 4) (n := 4) (fs := full6) (es := full6) (xs := [1, 2, 3, 4]) (ys := [4, 3, 2, 1]) ((hd1.same sx1).same sx2) (by decide) (by decide) (by decide) (hF.same s911).pairs simp_full6 (by decide) (by decide) (by decide) (hF.same s911).pairs simp_full6 (by decide) (sx2 _ _ upd_same) ⟨rfl, by decide⟩ (by decide) upd_same ⟨rfl, by decide⟩ (by decide) (fun G10 k10 sb10 hd10 _ => ?_)
         have sG : Same G9 G10 := fun b ob e => sb10 b ob (ne_of_none e nd1) (s911 _ _ e)
         refine ⟨true, rfl, ifF rfl ?_⟩
         have hRow12 := hRow11.same sG
         clear hRow11 hF sG sb10 hd10 s911 sx1 sx2 sd1 hd1 nx1 nx2 nd1
         show tNext _ [some (.ref a), y1, none, y3, y4, y5, y6, y7, y8, y9, y10, some (.ref qr), some (.ref D2), none, none, none, none] G10
         wtm_at "fo r"
         rename_i e1 m1 e2 m2 e3 m3 e4 m4 e5 m5 e6 m6 e7 m7 e8 m8 e9 m9 e10 m10 e11 m11 eq meq
         have hSv : PsAt (upd _ eq (.lst [.ref e1, .ref e2, .ref e3, .ref e4, .ref e5, .ref e6, .ref e7, .ref e8, .ref e9, .ref e10, .ref e11])) eq [e1, e2, e3, e4, e5, e6, e7, e8, e9, e10, e11] seven11 := ((((((((((((RowAt.nil G10).snoc (a := 4) (b := 5) m1).snoc (a := 5) (b := 6) m2).snoc (a := 1) (b := 4) m3).snoc (a := 2) (b := 5) m4).snoc (a := 3) (b := 6) m5).snoc (a := 1) (b := 5) m6).snoc (a := 2) (b := 6) m7).snoc (a := 1) (b := 7) m8).snoc (a := 2) (b := 7) m9).snoc (a := 3) (b := 7) m10).snoc (a := 4) (b := 7) m11).net meq
         have sE := (((((((((((same_upd (o := .lst [.int 4, .int 5]) (Same.refl G10) m1).trans (same_upd (o := .lst [.int 5, .int 6]) (Same.refl _) m2)).trans (same_upd (o := .lst [.int 1, .int 4]) (Same.refl _) m3)).trans (same_upd (o := .lst [.int 2, .int 5]) (Same.refl _) m4)).trans (same_upd (o := .lst [.int 3, .int 6]) (Same.refl _) m5)).trans (same_upd (o := .lst [.int 1, .int 5]) (Same.refl _) m6)).trans (same_upd (o := .lst [.int 2, .int 6]) (Same.refl _) m7)).trans (same_upd (o := .lst [.int 1, .int 7]) (Same.refl _) m8)).trans (same_upd (o := .lst [.int 2, .int 7]) (Same.refl _) m9)).trans (same_upd (o := .lst [.int 3, .int 7]) (Same.refl _) m10)).trans (same_upd (o := .lst [.int 4, .int 7]) (Same.refl _) m11)).trans (same_upd (o := .lst [.ref e1, .ref e2, .ref e3, .ref e4, .ref e5, .ref e6, .ref e7, .ref e8, .ref e9, .ref e10, .ref e11]) (Same.refl _) meq)
         have hRow13 := hRow12.same sE
         generalize upd _ eq (.lst [.ref e1, .ref e2, .ref e3, .ref e4, .ref e5, .ref e6, .ref e7, .ref e8, .ref e9, .ref e10, .ref e11]) = G11 at *
         clear sE meq m1 m2 m3 m4 m5 m6 m7 m8 m9 m10 m11 hRow12
         refine Or.inr ⟨qr, eq, _, _, rfl, rfl, hRow13.hD, hSv.hD, (by decide : 3 + 11 ≤ sizeLine), fun z2 nz2 => ?_⟩
         have hcat := hRow13.cat hSv nz2
         generalize upd G11 z2 _ = G12 at *
         clear nz2 hSv hRow13
         show tNext _ [some (.ref a), y1, none, y3, y4, y5, y6, y7, y8, y9, y10, some (.ref qr), some (.ref D2), none, none, some (.ref z2), none] G12
         wtm_at "fo r"
         refine call_draws (fun d1 ca cb nd1 => ?_)
         have hd1 : Dr (upd G12 d1 (.lst [.int ca, .int 0, .bl cb])) d1 0 := ⟨ca, cb, upd_same, Int.le_refl _⟩
         have sd1 := same_upd (o := .lst [.int ca, .int 0, .bl cb]) (Same.refl _) nd1
         wtm_at "fo r"
         rename_i f1 nf1 f2 nf2 fq nfq x1 nx1 x2 nx2
         have hT3 : PsAt (upd _ fq (.lst [.ref f1, .ref f2])) fq [f1, f2] [(1, 2), (2, 3)] := (((RowAt.nil _).snoc (a := 1) (b := 2) nf1).snoc (a := 2) (b := 3) nf2).net nfq
         have sf := ((same_upd (o := .lst [.int 1, .int 2]) (Same.refl _) nf1).trans (same_upd (o := .lst [.int 2, .int 3]) (Same.refl _) nf2)).trans (same_upd (o := .lst [.ref f1, .ref f2]) (Same.refl _) nfq)
         have sx1 := same_upd (o := .lst [.int 6, .int 5, .int 4]) (Same.refl _) nx1
         have sx2 := same_upd (o := .lst [.int 7, .int 3, .int 6]) (Same.refl _) nx2
         have s12 := sx1.trans sx2
         have sall := (sd1.trans sf).trans s12
         refine call_steps (m := 3) (n := 7) (fs := [(1, 2), (2, 3)]) (es := row4 ++ seven11) (xs := [6, 5, 4]) (ys := [7, 3, 6]) ((hd1.same sf).same s12) (by decide) (by decide) (by decide) (hT3.same s12).pairs simp_tie3 (by decide) (by decide) (by decide) (hcat.same sall).pairs simp_seven (by decide) (sx2 _ _ upd_same) ⟨rfl, by decide⟩ (by decide) upd_same ⟨rfl, by decide⟩ (by decide) (fun G13 k13 sb13 hd13 _ => ?_)
         refine ⟨true, rfl, ifF rfl ?_⟩
         clear hcat hT3 sf sx1 sx2 s12 sall sd1 hd1 sb13 hd13 nf1 nf2 nfq nx1 nx2 nd1
         show tNext _ [some (.ref a), y1, none, y3, y4, y5, y6, y7, y8, y9, y10, some (.ref qr), some (.ref D2), none, none, some (.ref z2), none] G13
         wtm_at "fo r"
         rename_i a5 na5 a6 na6 a7 na7 a8 na8
         have sa5 := same_upd (o := .lst []) (Same.refl _) na5
         have sa6 := same_upd (o := .lst []) (Same.refl _) na6
         have sa7 := same_upd (o := .lst [.int 1]) (Same.refl _) na7
         have sa8 := same_upd (o := .lst [.int 1]) (Same.refl _) na8
         have hA5 : PsAt (upd G13 a5 (.lst [])) a5 [] [] := PsAt.nil upd_same
         have hA6 : PsAt (upd (upd G13 a5 (.lst [])) a6 (.lst [])) a6 [] [] := PsAt.nil upd_same
         have s78 := sa7.trans sa8
         refine call_between (m := 1) (n := 1) (fs := []) (es := []) (xs := [1]) (ys := [1]) (by decide) (by decide) (hA5.same (sa6.trans s78)).pairs (simp_none 1) (by decide) (by decide) (by decide) (hA6.same s78).pairs (simp_none 1) (by decide) (sa8 _ _ upd_same) ⟨rfl, by decide⟩ (by decide) upd_same ⟨rfl, by decide⟩ (by decide) (fun psC leftC G14 hEC hlC _ => absurd (by rw [end_is hEC]; exact end_one) hlC) (fun r9 rs9 psC leftC G14 hEC hlC sm14 nr9 hP9 => ?_)
         rw [along_same] at hP9
         have hP9 : PsAt G14 r9 rs9 [] := hP9.ps
         clear sa5 sa6 sa7 sa8 hA5 hA6 s78 na5 na6 na7 na8 sm14 nr9
         wtm_at "fo r"
         rename_i b1 nb1
         have sb1' := same_upd (o := .lst []) (Same.refl _) nb1
         refine Or.inr ⟨dE [], dE [], dp_dE (hP9.same sb1').pairs, dp_dE (PsAt.nil upd_same).pairs, rfl, rfl, _, rfl, ?_⟩
         refine ifF (by rw [SeqAt.eqv_refl _ rfl]; rfl) ?_
         clear sb1' hP9
         generalize upd _ b1 (.lst []) = G15 at *
         clear nb1
         show tNext _ [some (.ref a), y1, none, y3, y4, y5, y6, y7, y8, y9, y10, some (.ref qr), some (.ref D2), none, none, some (.ref z2), none] G15
         wtm_at "fo r"
         rename_i c5 nc5 c6 nc6
         have sc5 := same_upd (o := .lst []) (Same.refl _) nc5
         have sc6 := same_upd (o := .lst []) (Same.refl _) nc6
         have hC5 : PsAt (upd G15 c5 (.lst [])) c5 [] [] := PsAt.nil upd_same
         have hC6 : PsAt (upd (upd G15 c5 (.lst [])) c6 (.lst [])) c6 [] [] := PsAt.nil upd_same
         refine call_count (m := 5) (n := 12) (fs := []) (es := []) (by decide) (by decide) (hC5.same sc6).pairs (simp_none 5) (by decide) (by decide) (by decide) hC6.pairs (simp_none 12) (by decide) (fun G16 sm16 => ?_)
         rw [countSt_free]
         refine Or.inl ⟨rfl, _, rfl, ?_⟩
         refine ifF (by rfl) ?_
         show tNext _ [some (.ref a), y1, none, y3, y4, y5, y6, y7, y8, y9, y10, some (.ref qr), some (.ref D2), none, none, some (.ref z2), none] G16
         clear sc5 sc6 hC5 hC6 sm16 nc5 nc6
         wtm_at "fo r"
         refine call_draws (fun d1 ca cb nd1 => ?_)
         have hd1 : Dr (upd G16 d1 (.lst [.int ca, .int 0, .bl cb])) d1 0 := ⟨ca, cb, upd_same, Int.le_refl _⟩
         generalize upd G16 d1 (.lst [.int ca, .int 0, .bl cb]) = G17 at *
         wtm_at "fo r"
         intro D3 nD3
         have hdD : ∀ I, Same G17 I → Dr I d1 0 := fun I h => hd1.same h
         refine lc_range (lo := 1) (n := 11) (fun i I => Same G17 I ∧ ∃ rs, PsAt I D3 rs (path i)) ?_ ?_ ?_
         · exact ⟨same_upd (Same.refl _) nD3, [], PsAt.nil upd_same⟩
         · rintro i I hi ⟨smI, rsI, hI⟩
           refine ⟨rfl, _, rfl, _, rfl, Or.inl ⟨_, _, rfl, rfl, (Nat.le_of_ble_eq_true rfl : _ ≤ sizeLine), fun c7 nc7 => ?_⟩⟩
           have hDc : D3 ≠ c7 := ne_of_none hI.hD nc7
           refine ⟨rsI.map V.ref, by rw [upd_ne hDc]; exact hI.hD, ?_, ?_, rsI ++ [c7], ?_⟩
           · rw [List.length_map, hI.len]
             unfold path
             rw [List.length_map, List.length_range]
             exact Nat.lt_of_le_of_lt (m := 100) (by omega) (by decide)
           · exact same_upd (smI.trans (same_upd (Same.refl _) nc7)) nD3
           · have hp := hI.push nc7 ((1 : Int) + (i : Int), (1 : Int) + (i : Int) + 1)
             have e : path (i + 1) = path i ++ [((1 : Int) + (i : Int), (1 : Int) + (i : Int) + 1)] := by
               unfold path
               rw [List.range_succ, List.map_append]
               show _ ++ [((i : Int) + 1, (i : Int) + 2)] = _
               rw [show (i : Int) + 1 = 1 + (i : Int) by omega, show (i : Int) + 2 = 1 + (i : Int) + 1 by omega]
             rw [e]
             exact hp
         rintro G18 ⟨sm18, rsP, hPath⟩
         have hd18 := hd1.same sm18
         wtm_at "fo r"
         rename_i f1 nf1 f2 nf2 fq nfq x1 nx1 x2 nx2
         have hT3 : PsAt (upd _ fq (.lst [.ref f1, .ref f2])) fq [f1, f2] [(1, 2), (3, 2)] := (((RowAt.nil _).snoc (a := 1) (b := 2) nf1).snoc (a := 3) (b := 2) nf2).net nfq
         have sf := ((same_upd (o := .lst [.int 1, .int 2]) (Same.refl _) nf1).trans (same_upd (o := .lst [.int 3, .int 2]) (Same.refl _) nf2)).trans (same_upd (o := .lst [.ref f1, .ref f2]) (Same.refl _) nfq)
         have sx1 := same_upd (o := .lst [.int 1, .int 1, .int 2]) (Same.refl _) nx1
         have sx2 := same_upd (o := .lst [.int 12, .int 11, .int 12]) (Same.refl _) nx2
         have s12 := sx1.trans sx2
         have sall := sf.trans s12
         exact call_steps (m := 3) (n := 12) (fs := [(1, 2), (3, 2)]) (es := path 11) (xs := [1, 1, 2]) (ys := [12, 11, 12]) (hd18.same sall) (by decide) (by decide) (by decide) (hT3.same s12).pairs simp_tie3b (by decide) (by decide) (by decide) (hPath.same sall).pairs simp_path (by decide) (sx2 _ _ upd_same) ⟨rfl, by decide⟩ (by decide) upd_same ⟨rfl, by decide⟩ (by decide) (fun G19 k19 _ _ _ => fin G19)
end
/-! piece ZE -/
section
/-! ### what the top has written -/
def HasDef (K : PySem.W.Frag) (x : Str) (st : Stmt) (f : Addr) (fd : FuncData) : Prop := PySem.W.nsIn K mainGlobals x = some (some (.ref f)) ∧ Fun K x x st f fd
theorem hasDef_mk {K : PySem.W.Frag} {x : Str} {st : Stmt} {f : Addr} {oc : Value} {od an : Option Addr} {osl : Array (Option Value)} {kV doc pm cdv ct : Value} (a : PySem.W.nsIn K mainGlobals x = some (some (.ref f)))
    (l : K.lookup f = some ⟨oc, od, .func (PySem.W.fnOf x x (defArgs st) (defBody st) (defScope st) .none kV doc pm an cdv ct), osl⟩) (c : PySem.W.codeIn K cdv x = true) (k : PySem.W.keepIn K (.ref f) = true) :
    ∃ f fd, HasDef K x st f fd := ⟨f, _, a, fun_mk l c k⟩
theorem cal_of {P : Program} {w : World} {K : PySem.W.Frag} {mg : Str → Option Value} {base h : Heap} {x : Str} {st : Stmt} {f : Addr} {fd : FuncData} {k : Nat} {ps : List Str} {sp : Sp} (X : K.In h) (G : h.Ns mainGlobals mg) (D : HasDef K x st f fd)
    (hb : Binds K fd ps []) (F : FnOk P w K mg base CX0 k f fd ps sp) : Cal P w K mg base x k ps sp := ⟨f, fd, F, PySem.W.mg_of X G D.1, D.2.kp, hb⟩
theorem calG_of {P : Program} {w : World} {K : PySem.W.Frag} {mg : Str → Option Value} {base h : Heap} {x : Str} {st : Stmt} {f : Addr} {fd : FuncData} {k : Nat} {ps : List Str} {sp : Sp} (X : K.In h) (G : h.Ns mainGlobals mg) (D : HasDef K x st f fd)
    (hb : Binds K fd ps []) (F : FnG P w K mg base CX0 k f fd ps sp) : CalG P w K mg base x k ps sp := ⟨f, fd, F, PySem.W.mg_of X G D.1, D.2.kp, hb⟩
theorem kcal_of {P : Program} {w : World} {K : PySem.W.Frag} {mg : Str → Option Value} {base h : Heap} {x : Str} {st : Stmt} {f : Addr} {fd : FuncData} {k : Nat} {ps ks : List Str} {g : List Value → List Value → List Value} {gV : List V → List V → List V} {sp : Sp} (X : K.In h) (G : h.Ns mainGlobals mg) (D : HasDef K x st f fd)
    (hb : KBinds K fd ps ks g gV) (F : FnOk P w K mg base CX0 k f fd ps sp) : KCal P w K mg base x k ps ks g gV sp := ⟨f, fd, F, PySem.W.mg_of X G D.1, D.2.kp, hb⟩
theorem vals_g2 : ∀ {vs : List V} {us : List Value} {zs : List V} {ws : List Value}, Vals vs us → Vals zs ws → Vals (g2 vs zs) (g2 us ws)
  | _, _, _, _, .nil, .cons a (.cons b .nil) => .cons b (.cons a .nil)
  | _, _, _, _, .nil, .nil => .nil
  | _, _, _, _, .nil, .cons _ .nil => .nil
  | _, _, _, _, .nil, .cons _ (.cons _ (.cons _ _)) => .nil
  | _, _, _, _, .cons _ _, _ => .nil
theorem vals_g4k : ∀ {vs : List V} {us : List Value} {zs : List V} {ws : List Value}, Vals vs us → Vals zs ws → Vals (g4k vs zs) (g4k us ws)
  | _, _, _, _, .nil, .cons a (.cons b (.cons c (.cons d .nil))) => .cons d (.cons c (.cons b (.cons a .nil)))
  | _, _, _, _, .nil, .nil => .nil
  | _, _, _, _, .nil, .cons _ .nil => .nil
  | _, _, _, _, .nil, .cons _ (.cons _ .nil) => .nil
  | _, _, _, _, .nil, .cons _ (.cons _ (.cons _ .nil)) => .nil
  | _, _, _, _, .nil, .cons _ (.cons _ (.cons _ (.cons _ (.cons _ _)))) => .nil
  | _, _, _, _, .cons _ _, _ => .nil
theorem vals_g5 : ∀ {vs : List V} {us : List Value} {zs : List V} {ws : List Value}, Vals vs us → Vals zs ws → Vals (g5 vs zs) (g5 us ws)
  | _, _, _, _, .nil, .cons a (.cons b (.cons c (.cons d (.cons e .nil)))) => .cons e (.cons d (.cons c (.cons b (.cons a .nil))))
  | _, _, _, _, .nil, .nil => .nil
  | _, _, _, _, .nil, .cons _ .nil => .nil
  | _, _, _, _, .nil, .cons _ (.cons _ .nil) => .nil
  | _, _, _, _, .nil, .cons _ (.cons _ (.cons _ .nil)) => .nil
  | _, _, _, _, .nil, .cons _ (.cons _ (.cons _ (.cons _ .nil))) => .nil
  | _, _, _, _, .nil, .cons _ (.cons _ (.cons _ (.cons _ (.cons _ (.cons _ _))))) => .nil
  | _, _, _, _, .cons _ _, _ => .nil
theorem vals_g6 : ∀ {vs : List V} {us : List Value} {zs : List V} {ws : List Value}, Vals vs us → Vals zs ws → Vals (g6 vs zs) (g6 us ws)
  | _, _, _, _, .nil, .cons a (.cons b (.cons c (.cons d (.cons e (.cons f .nil))))) => .cons f (.cons e (.cons d (.cons c (.cons b (.cons a .nil)))))
  | _, _, _, _, .nil, .nil => .nil
  | _, _, _, _, .nil, .cons _ .nil => .nil
  | _, _, _, _, .nil, .cons _ (.cons _ .nil) => .nil
  | _, _, _, _, .nil, .cons _ (.cons _ (.cons _ .nil)) => .nil
  | _, _, _, _, .nil, .cons _ (.cons _ (.cons _ (.cons _ .nil))) => .nil
  | _, _, _, _, .nil, .cons _ (.cons _ (.cons _ (.cons _ (.cons _ .nil)))) => .nil
  | _, _, _, _, .nil, .cons _ (.cons _ (.cons _ (.cons _ (.cons _ (.cons _ (.cons _ _)))))) => .nil
  | _, _, _, _, .cons _ _, _ => .nil
theorem kb_all_lead {K : PySem.W.Frag} {f : Addr} {fd : FuncData} (F : Fun K "all_lead" "all_lead" s_all_lead f fd) : KBinds K fd ["places", "lines"] ["lines", "places"] g2 g2 := by
  obtain ⟨oc, od, kV, doc, pm, an, cdv, ct, osl, rfl, lk, hcd⟩ := F.ex
  refine ⟨fun s us ws _ hl => ?_, vals_g2⟩
  match us, ws, hl with
  | [], [a, b], _ => exact .of_eq rfl
theorem kb_is_standing {K : PySem.W.Frag} {f : Addr} {fd : FuncData} (F : Fun K "is_standing" "is_standing" s_is_standing f fd) : KBinds K fd ["people", "ties", "places", "lines", "standing"] ["standing", "lines", "places", "ties", "people"] g5 g5 := by
  obtain ⟨oc, od, kV, doc, pm, an, cdv, ct, osl, rfl, lk, hcd⟩ := F.ex
  refine ⟨fun s us ws _ hl => ?_, vals_g5⟩
  match us, ws, hl with
  | [], [a, b, c, d, e], _ => exact .of_eq rfl
theorem kb_may_go {K : PySem.W.Frag} {f : Addr} {fd : FuncData} (F : Fun K "may_go" "may_go" s_may_go f fd) : KBinds K fd ["people", "ties", "places", "lines", "standing"] ["standing", "lines", "places", "ties", "people"] g5 g5 := by
  obtain ⟨oc, od, kV, doc, pm, an, cdv, ct, osl, rfl, lk, hcd⟩ := F.ex
  refine ⟨fun s us ws _ hl => ?_, vals_g5⟩
  match us, ws, hl with
  | [], [a, b, c, d, e], _ => exact .of_eq rfl
theorem kb_steps_between {K : PySem.W.Frag} {f : Addr} {fd : FuncData} (F : Fun K "steps_between" "steps_between" s_steps_between f fd) : KBinds K fd ["people", "ties", "places", "lines", "standing", "goal"] ["goal", "standing", "lines", "places", "ties", "people"] g6 g6 := by
  obtain ⟨oc, od, kV, doc, pm, an, cdv, ct, osl, rfl, lk, hcd⟩ := F.ex
  refine ⟨fun s us ws _ hl => ?_, vals_g6⟩
  match us, ws, hl with
  | [], [a, b, c, d, e, f], _ => exact .of_eq rfl
theorem kb_count_standings {K : PySem.W.Frag} {f : Addr} {fd : FuncData} (F : Fun K "count_standings" "count_standings" s_count_standings f fd) : KBinds K fd ["people", "ties", "places", "lines"] ["lines", "places", "ties", "people"] g4k g4k := by
  obtain ⟨oc, od, kV, doc, pm, an, cdv, ct, osl, rfl, lk, hcd⟩ := F.ex
  refine ⟨fun s us ws _ hl => ?_, vals_g4k⟩
  match us, ws, hl with
  | [], [a, b, c, d], _ => exact .of_eq rfl
set_option maxHeartbeats 0 in
theorem all_mk {l : PySem.W.OpenLaw} {w : World} {K : PySem.W.Frag} {h : Heap} {mg : Str → Option Value} {fa : Addr} {tk tk2 : Tok} (X : K.In h) (G : h.Ns mainGlobals mg) (hfa : mg "law" = some (.ref fa))
    (d_is_place : ∃ f fd, HasDef K "is_place" s_is_place f fd)
    (d_read_net : ∃ f fd, HasDef K "read_net" s_read_net f fd)
    (d_whole_lot : ∃ f fd, HasDef K "whole_lot" s_whole_lot f fd)
    (d_members : ∃ f fd, HasDef K "members" s_members f fd)
    (d_first_target : ∃ f fd, HasDef K "first_target" s_first_target f fd)
    (d_fold_around : ∃ f fd, HasDef K "fold_around" s_fold_around f fd)
    (d_full_order : ∃ f fd, HasDef K "full_order" s_full_order f fd)
    (d_end_size : ∃ f fd, HasDef K "end_size" s_end_size f fd)
    (d_order_around : ∃ f fd, HasDef K "_order_around" s_order_around f fd)
    (d_is_standing : ∃ f fd, HasDef K "is_standing" s_is_standing f fd)
    (d_may_go : ∃ f fd, HasDef K "may_go" s_may_go f fd)
    (d_count_standings : ∃ f fd, HasDef K "count_standings" s_count_standings f fd)
    (d_all_lead : ∃ f fd, HasDef K "all_lead" s_all_lead f fd)
    (d_steps_between : ∃ f fd, HasDef K "steps_between" s_steps_between f fd)
    (d_read_nets : ∃ f fd, HasDef K "_read_nets" s_read_nets f fd)
    (d_check_places : ∃ f fd, HasDef K "_check_places" s_check_places f fd)
    (d_check_standing : ∃ f fd, HasDef K "_check_standing" s_check_standing f fd)
    (d_parted_pair : ∃ f fd, HasDef K "_parted_pair" s_parted_pair f fd)
    (d_in_a_row : ∃ f fd, HasDef K "_in_a_row" s_in_a_row f fd)
    (d_rows_behind : ∃ f fd, HasDef K "_rows_behind" s_rows_behind f fd)
    (d_with_one_more : ∃ f fd, HasDef K "_with_one_more" s_with_one_more f fd)
    (d_steps_along : ∃ f fd, HasDef K "_steps_along" s_steps_along f fd)
    (d_who_stand : ∃ f fd, HasDef K "_who_stand" s_who_stand f fd)
    (d_law_draws : ∃ f fd, HasDef K "_law_draws" s_law_draws f fd)
    (d_law_next : ∃ f fd, HasDef K "_law_next" s_law_next f fd)
    (d_law_mixed : ∃ f fd, HasDef K "_law_mixed" s_law_mixed f fd)
    (d_law_net : ∃ f fd, HasDef K "_law_net" s_law_net f fd)
    (d_law_near : ∃ f fd, HasDef K "_law_near" s_law_near f fd)
    (d_law_onto : ∃ f fd, HasDef K "_law_onto" s_law_onto f fd)
    (d_law_full : ∃ f fd, HasDef K "_law_full" s_law_full f fd)
    (d_law_fits : ∃ f fd, HasDef K "_law_fits" s_law_fits f fd)
    (d_law_may : ∃ f fd, HasDef K "_law_may" s_law_may f fd)
    (d_law_gone : ∃ f fd, HasDef K "_law_gone" s_law_gone f fd)
    (d_law_walked : ∃ f fd, HasDef K "_law_walked" s_law_walked f fd)
    (d_law_looks_right : ∃ f fd, HasDef K "_law_looks_right" s_law_looks_right f fd)
    (d_law_steps_right : ∃ f fd, HasDef K "_law_steps_right" s_law_steps_right f fd)
    (d_law_all_right : ∃ f fd, HasDef K "_law_all_right" s_law_all_right f fd)
    (d_law : ∃ f fd, HasDef K "law" s_law f fd)
    (z_int : PySem.W.nsIn K mainGlobals "int" = some none)
    (z_range : PySem.W.nsIn K mainGlobals "range" = some none)
    (z_list : PySem.W.nsIn K mainGlobals "list" = some none)
    (z_len : PySem.W.nsIn K mainGlobals "len" = some none)
    (z_repr : PySem.W.nsIn K mainGlobals "repr" = some none)
    (z_sorted : PySem.W.nsIn K mainGlobals "sorted" = some none)
    (z_enumerate : PySem.W.nsIn K mainGlobals "enumerate" = some none)
    (z_isinstance : PySem.W.nsIn K mainGlobals "isinstance" = some none)
    (z_reversed : PySem.W.nsIn K mainGlobals "reversed" = some none)
    (z_zip : PySem.W.nsIn K mainGlobals "zip" = some none)
    (z_sum : PySem.W.nsIn K mainGlobals "sum" = some none)
    (z_width : PySem.W.nsIn K mainGlobals "_WIDTH" = some (some (.int 13 tk2)))
    (z_most : PySem.W.nsIn K mainGlobals "MOST_PLACES" = some (some (.int 12 tk))) :
    ∃ fd : FuncData, (∀ (s : Shared) (v : Value), BindsTo s fd ⟨[v], []⟩ [("_law_script", v)]) ∧ ∀ base : Heap, K.In base → base.Ns mainGlobals mg → FnG l.prog w K mg base CX0 8 fa fd ["_law_script"] (spLaw K) := by
  obtain ⟨f_is_place, fd_is_place, e_is_place⟩ := d_is_place
  have b_is_place := e_is_place.2.binds (ps := ["place", "places"]) fun _ _ _ _ _ _ us hl => match us, hl with | [_, _], _ => rfl
  obtain ⟨f_read_net, fd_read_net, e_read_net⟩ := d_read_net
  have b_read_net := e_read_net.2.binds (ps := ["places", "lines"]) fun _ _ _ _ _ _ us hl => match us, hl with | [_, _], _ => rfl
  obtain ⟨f_whole_lot, fd_whole_lot, e_whole_lot⟩ := d_whole_lot
  have b_whole_lot := e_whole_lot.2.binds (ps := ["near"]) fun _ _ _ _ _ _ us hl => match us, hl with | [_], _ => rfl
  obtain ⟨f_members, fd_members, e_members⟩ := d_members
  have b_members := e_members.2.binds (ps := ["lot"]) fun _ _ _ _ _ _ us hl => match us, hl with | [_], _ => rfl
  obtain ⟨f_first_target, fd_first_target, e_first_target⟩ := d_first_target
  have b_first_target := e_first_target.2.binds (ps := ["near", "lot", "place"]) fun _ _ _ _ _ _ us hl => match us, hl with | [_, _, _], _ => rfl
  obtain ⟨f_fold_around, fd_fold_around, e_fold_around⟩ := d_fold_around
  have b_fold_around := e_fold_around.2.binds (ps := ["near", "held"]) fun _ _ _ _ _ _ us hl => match us, hl with | [_, _], _ => rfl
  obtain ⟨f_full_order, fd_full_order, e_full_order⟩ := d_full_order
  have b_full_order := e_full_order.2.binds (ps := ["places", "lines"]) fun _ _ _ _ _ _ us hl => match us, hl with | [_, _], _ => rfl
  obtain ⟨f_end_size, fd_end_size, e_end_size⟩ := d_end_size
  have b_end_size := e_end_size.2.binds (ps := ["places", "lines"]) fun _ _ _ _ _ _ us hl => match us, hl with | [_, _], _ => rfl
  obtain ⟨f_order_around, fd_order_around, e_order_around⟩ := d_order_around
  have b_order_around := e_order_around.2.binds (ps := ["near", "held"]) fun _ _ _ _ _ _ us hl => match us, hl with | [_, _], _ => rfl
  obtain ⟨f_is_standing, fd_is_standing, e_is_standing⟩ := d_is_standing
  have b_is_standing := e_is_standing.2.binds (ps := ["people", "ties", "places", "lines", "standing"]) fun _ _ _ _ _ _ us hl => match us, hl with | [_, _, _, _, _], _ => rfl
  obtain ⟨f_may_go, fd_may_go, e_may_go⟩ := d_may_go
  have b_may_go := e_may_go.2.binds (ps := ["people", "ties", "places", "lines", "standing"]) fun _ _ _ _ _ _ us hl => match us, hl with | [_, _, _, _, _], _ => rfl
  obtain ⟨f_count_standings, fd_count_standings, e_count_standings⟩ := d_count_standings
  have b_count_standings := e_count_standings.2.binds (ps := ["people", "ties", "places", "lines"]) fun _ _ _ _ _ _ us hl => match us, hl with | [_, _, _, _], _ => rfl
  obtain ⟨f_all_lead, fd_all_lead, e_all_lead⟩ := d_all_lead
  have b_all_lead := e_all_lead.2.binds (ps := ["places", "lines"]) fun _ _ _ _ _ _ us hl => match us, hl with | [_, _], _ => rfl
  obtain ⟨f_steps_between, fd_steps_between, e_steps_between⟩ := d_steps_between
  have b_steps_between := e_steps_between.2.binds (ps := ["people", "ties", "places", "lines", "standing", "goal"]) fun _ _ _ _ _ _ us hl => match us, hl with | [_, _, _, _, _, _], _ => rfl
  obtain ⟨f_read_nets, fd_read_nets, e_read_nets⟩ := d_read_nets
  have b_read_nets := e_read_nets.2.binds (ps := ["people", "ties", "places", "lines"]) fun _ _ _ _ _ _ us hl => match us, hl with | [_, _, _, _], _ => rfl
  obtain ⟨f_check_places, fd_check_places, e_check_places⟩ := d_check_places
  have b_check_places := e_check_places.2.binds (ps := ["knows", "near", "standing"]) fun _ _ _ _ _ _ us hl => match us, hl with | [_, _, _], _ => rfl
  obtain ⟨f_check_standing, fd_check_standing, e_check_standing⟩ := d_check_standing
  have b_check_standing := e_check_standing.2.binds (ps := ["knows", "near", "standing"]) fun _ _ _ _ _ _ us hl => match us, hl with | [_, _, _], _ => rfl
  obtain ⟨f_parted_pair, fd_parted_pair, e_parted_pair⟩ := d_parted_pair
  have b_parted_pair := e_parted_pair.2.binds (ps := ["knows", "near", "standing"]) fun _ _ _ _ _ _ us hl => match us, hl with | [_, _, _], _ => rfl
  obtain ⟨f_in_a_row, fd_in_a_row, e_in_a_row⟩ := d_in_a_row
  have b_in_a_row := e_in_a_row.2.binds (ps := ["lots"]) fun _ _ _ _ _ _ us hl => match us, hl with | [_], _ => rfl
  obtain ⟨f_rows_behind, fd_rows_behind, e_rows_behind⟩ := d_rows_behind
  have b_rows_behind := e_rows_behind.2.binds (ps := ["knows", "near", "person"]) fun _ _ _ _ _ _ us hl => match us, hl with | [_, _, _], _ => rfl
  obtain ⟨f_with_one_more, fd_with_one_more, e_with_one_more⟩ := d_with_one_more
  have b_with_one_more := e_with_one_more.2.binds (ps := ["counts", "rows"]) fun _ _ _ _ _ _ us hl => match us, hl with | [_, _], _ => rfl
  obtain ⟨f_steps_along, fd_steps_along, e_steps_along⟩ := d_steps_along
  have b_steps_along := e_steps_along.2.binds (ps := ["pairs", "here", "there"]) fun _ _ _ _ _ _ us hl => match us, hl with | [_, _, _], _ => rfl
  obtain ⟨f_who_stand, fd_who_stand, e_who_stand⟩ := d_who_stand
  have b_who_stand := e_who_stand.2.binds (ps := ["standing", "place"]) fun _ _ _ _ _ _ us hl => match us, hl with | [_, _], _ => rfl
  obtain ⟨f_law_draws, fd_law_draws, e_law_draws⟩ := d_law_draws
  have b_law_draws := e_law_draws.2.binds (ps := ["_law_cell"]) fun _ _ _ _ _ _ us hl => match us, hl with | [_], _ => rfl
  obtain ⟨f_law_next, fd_law_next, e_law_next⟩ := d_law_next
  have b_law_next := e_law_next.2.binds (ps := ["_law_draws_here"]) fun _ _ _ _ _ _ us hl => match us, hl with | [_], _ => rfl
  obtain ⟨f_law_mixed, fd_law_mixed, e_law_mixed⟩ := d_law_mixed
  have b_law_mixed := e_law_mixed.2.binds (ps := ["_law_draws_here", "_law_things"]) fun _ _ _ _ _ _ us hl => match us, hl with | [_, _], _ => rfl
  obtain ⟨f_law_net, fd_law_net, e_law_net⟩ := d_law_net
  have b_law_net := e_law_net.2.binds (ps := ["_law_draws_here", "_law_most"]) fun _ _ _ _ _ _ us hl => match us, hl with | [_, _], _ => rfl
  obtain ⟨f_law_near, fd_law_near, e_law_near⟩ := d_law_near
  have b_law_near := e_law_near.2.binds (ps := ["_law_size", "_law_sides"]) fun _ _ _ _ _ _ us hl => match us, hl with | [_, _], _ => rfl
  obtain ⟨f_law_onto, fd_law_onto, e_law_onto⟩ := d_law_onto
  have b_law_onto := e_law_onto.2.binds (ps := ["_law_near_here", "_law_stay", "_law_spot"]) fun _ _ _ _ _ _ us hl => match us, hl with | [_, _, _], _ => rfl
  obtain ⟨f_law_full, fd_law_full, e_law_full⟩ := d_law_full
  have b_law_full := e_law_full.2.binds (ps := ["_law_draws_here", "_law_near_here", "_law_size"]) fun _ _ _ _ _ _ us hl => match us, hl with | [_, _, _], _ => rfl
  obtain ⟨f_law_fits, fd_law_fits, e_law_fits⟩ := d_law_fits
  have b_law_fits := e_law_fits.2.binds (ps := ["_law_near_here", "_law_knots", "_law_spots"]) fun _ _ _ _ _ _ us hl => match us, hl with | [_, _, _], _ => rfl
  obtain ⟨f_law_may, fd_law_may, e_law_may⟩ := d_law_may
  have b_law_may := e_law_may.2.binds (ps := ["_law_near_here", "_law_knots", "_law_spots"]) fun _ _ _ _ _ _ us hl => match us, hl with | [_, _, _], _ => rfl
  obtain ⟨f_law_gone, fd_law_gone, e_law_gone⟩ := d_law_gone
  have b_law_gone := e_law_gone.2.binds (ps := ["_law_spots", "_law_step"]) fun _ _ _ _ _ _ us hl => match us, hl with | [_, _], _ => rfl
  obtain ⟨f_law_walked, fd_law_walked, e_law_walked⟩ := d_law_walked
  have b_law_walked := e_law_walked.2.binds (ps := ["_law_draws_here", "_law_near_here", "_law_knots", "_law_spots", "_law_most"]) fun _ _ _ _ _ _ us hl => match us, hl with | [_, _, _, _, _], _ => rfl
  obtain ⟨f_law_looks_right, fd_law_looks_right, e_law_looks_right⟩ := d_law_looks_right
  have b_law_looks_right := e_law_looks_right.2.binds (ps := ["_law_draws_here", "_law_size", "_law_sides", "_law_crowd", "_law_knots", "_law_spots"]) fun _ _ _ _ _ _ us hl => match us, hl with | [_, _, _, _, _, _], _ => rfl
  obtain ⟨f_law_steps_right, fd_law_steps_right, e_law_steps_right⟩ := d_law_steps_right
  have b_law_steps_right := e_law_steps_right.2.binds (ps := ["_law_draws_here", "_law_size", "_law_sides", "_law_crowd", "_law_knots", "_law_spots", "_law_aim"]) fun _ _ _ _ _ _ us hl => match us, hl with | [_, _, _, _, _, _, _], _ => rfl
  obtain ⟨f_law_all_right, fd_law_all_right, e_law_all_right⟩ := d_law_all_right
  have b_law_all_right := e_law_all_right.2.binds (ps := ["_law_size", "_law_sides", "_law_crowd", "_law_knots"]) fun _ _ _ _ _ _ us hl => match us, hl with | [_, _, _, _], _ => rfl
  obtain ⟨f_law, fd_law, e_law⟩ := d_law
  have b_law := e_law.2.binds (ps := ["_law_script"]) fun _ _ _ _ _ _ us hl => match us, hl with | [_], _ => rfl
  have m_int := PySem.W.mg_none_of X G z_int
  have m_range := PySem.W.mg_none_of X G z_range
  have m_list := PySem.W.mg_none_of X G z_list
  have m_len := PySem.W.mg_none_of X G z_len
  have m_repr := PySem.W.mg_none_of X G z_repr
  have m_sorted := PySem.W.mg_none_of X G z_sorted
  have m_enumerate := PySem.W.mg_none_of X G z_enumerate
  have m_isinstance := PySem.W.mg_none_of X G z_isinstance
  have m_reversed := PySem.W.mg_none_of X G z_reversed
  have m_zip := PySem.W.mg_none_of X G z_zip
  have m_sum := PySem.W.mg_none_of X G z_sum
  have m_most := PySem.W.mg_of X G z_most
  have m_width := PySem.W.mg_of X G z_width
  have e := hfa.symm.trans (PySem.W.mg_of X G e_law.1)
  cases e
  refine ⟨fd_law, fun s v => ?_, fun base _ _ => ?_⟩
  · obtain ⟨oc, od, kV, doc, pm, an, cdv, ct, osl, rfl, lk, hcd⟩ := e_law.2.ex
    exact .of_eq rfl
  have c_next := cal_of X G e_law_next b_law_next (ok_next (P := l.prog) (w := w) (K := K) (mg := mg) (base := base) e_law_next.2 m_int)
  have c_draws := cal_of X G e_law_draws b_law_draws (ok_draws (P := l.prog) (w := w) (K := K) (mg := mg) (base := base) e_law_draws.2 m_int)
  have c_shuf := cal_of X G e_law_mixed b_law_mixed (ok_shuf (P := l.prog) (w := w) (K := K) (mg := mg) (base := base) e_law_mixed.2 m_int m_list m_len c_next)
  have c_isp := cal_of X G e_is_place b_is_place (ok_isplace (P := l.prog) (w := w) (K := K) (mg := mg) (base := base) e_is_place.2 m_isinstance m_int)
  have c_mem := cal_of X G e_members b_members (ok_members (P := l.prog) (w := w) (K := K) (mg := mg) (base := base) e_members.2 m_range)
  have c_read := cal_of X G e_read_net b_read_net (ok_read (P := l.prog) (w := w) (K := K) (mg := mg) (base := base) e_read_net.2 m_isinstance m_int m_list m_range m_enumerate m_len m_most c_isp)
  have c_whole := cal_of X G e_whole_lot b_whole_lot (ok_whole (P := l.prog) (w := w) (K := K) (mg := mg) (base := base) e_whole_lot.2 m_len)
  have c_first := cal_of X G e_first_target b_first_target (ok_first (P := l.prog) (w := w) (K := K) (mg := mg) (base := base) e_first_target.2 m_enumerate)
  have c_around := cal_of X G e_fold_around b_fold_around (ok_around (P := l.prog) (w := w) (K := K) (mg := mg) (base := base) e_fold_around.2 c_whole c_first c_mem)
  have c_oa := cal_of X G e_order_around b_order_around (ok_oa (P := l.prog) (w := w) (K := K) (mg := mg) (base := base) e_order_around.2 c_around)
  have c_full := cal_of X G e_full_order b_full_order (ok_full (P := l.prog) (w := w) (K := K) (mg := mg) (base := base) e_full_order.2 c_read c_oa)
  have c_size := cal_of X G e_end_size b_end_size (ok_size (P := l.prog) (w := w) (K := K) (mg := mg) (base := base) e_end_size.2 m_len c_full)
  have c_alllead := cal_of X G e_all_lead b_all_lead (ok_alllead (P := l.prog) (w := w) (K := K) (mg := mg) (base := base) e_all_lead.2 c_size)
  have c_nets := cal_of X G e_read_nets b_read_nets (ok_nets (P := l.prog) (w := w) (K := K) (mg := mg) (base := base) e_read_nets.2 c_read)
  have c_checkp := cal_of X G e_check_places b_check_places (ok_checkp (P := l.prog) (w := w) (K := K) (mg := mg) (base := base) e_check_places.2 m_isinstance m_list m_len m_enumerate c_isp)
  have c_pair := cal_of X G e_parted_pair b_parted_pair (ok_pair (P := l.prog) (w := w) (K := K) (mg := mg) (base := base) e_parted_pair.2 m_enumerate c_mem)
  have c_checks := cal_of X G e_check_standing b_check_standing (ok_checks (P := l.prog) (w := w) (K := K) (mg := mg) (base := base) e_check_standing.2 c_checkp c_pair)
  have c_isst := cal_of X G e_is_standing b_is_standing (ok_isstand (P := l.prog) (w := w) (K := K) (mg := mg) (base := base) e_is_standing.2 c_nets c_checkp c_pair)
  have c_maygo := cal_of X G e_may_go b_may_go (ok_maygo (P := l.prog) (w := w) (K := K) (mg := mg) (base := base) e_may_go.2 m_enumerate c_nets c_checks c_mem)
  have c_who := cal_of X G e_who_stand b_who_stand (ok_who (P := l.prog) (w := w) (K := K) (mg := mg) (base := base) e_who_stand.2 m_enumerate)
  have c_along := cal_of X G e_steps_along b_steps_along (ok_along (P := l.prog) (w := w) (K := K) (mg := mg) (base := base) e_steps_along.2 c_who)
  have c_between := cal_of X G e_steps_between b_steps_between (ok_between (P := l.prog) (w := w) (K := K) (mg := mg) (base := base) e_steps_between.2 m_len m_list c_nets c_checks c_around c_mem c_along)
  have c_row := cal_of X G e_in_a_row b_in_a_row (ok_row (P := l.prog) (w := w) (K := K) (mg := mg) (base := base) e_in_a_row.2 m_reversed m_width)
  have c_rows := cal_of X G e_rows_behind b_rows_behind (ok_rows (P := l.prog) (w := w) (K := K) (mg := mg) (base := base) e_rows_behind.2 m_range m_len c_whole c_row)
  have c_more := cal_of X G e_with_one_more b_with_one_more (ok_more (P := l.prog) (w := w) (K := K) (mg := mg) (base := base) e_with_one_more.2 m_width c_mem)
  have c_count := cal_of X G e_count_standings b_count_standings (ok_count (P := l.prog) (w := w) (K := K) (mg := mg) (base := base) e_count_standings.2 m_range m_sum c_nets c_whole c_row c_more c_rows)
  have k_alllead := kcal_of X G e_all_lead (kb_all_lead e_all_lead.2) (ok_alllead (P := l.prog) (w := w) (K := K) (mg := mg) (base := base) e_all_lead.2 c_size)
  have k_isst := kcal_of X G e_is_standing (kb_is_standing e_is_standing.2) (ok_isstand (P := l.prog) (w := w) (K := K) (mg := mg) (base := base) e_is_standing.2 c_nets c_checkp c_pair)
  have k_maygo := kcal_of X G e_may_go (kb_may_go e_may_go.2) (ok_maygo (P := l.prog) (w := w) (K := K) (mg := mg) (base := base) e_may_go.2 m_enumerate c_nets c_checks c_mem)
  have k_between := kcal_of X G e_steps_between (kb_steps_between e_steps_between.2) (ok_between (P := l.prog) (w := w) (K := K) (mg := mg) (base := base) e_steps_between.2 m_len m_list c_nets c_checks c_around c_mem c_along)
  have k_count := kcal_of X G e_count_standings (kb_count_standings e_count_standings.2) (ok_count (P := l.prog) (w := w) (K := K) (mg := mg) (base := base) e_count_standings.2 m_range m_sum c_nets c_whole c_row c_more c_rows)
  have c_near := cal_of X G e_law_near b_law_near (ok_near (P := l.prog) (w := w) (K := K) (mg := mg) (base := base) e_law_near.2 m_range)
  have c_onto := cal_of X G e_law_onto b_law_onto (ok_onto (P := l.prog) (w := w) (K := K) (mg := mg) (base := base) e_law_onto.2 )
  have c_lfull := cal_of X G e_law_full b_law_full (ok_lfull (P := l.prog) (w := w) (K := K) (mg := mg) (base := base) e_law_full.2 m_range m_list m_int m_len c_next c_onto)
  have c_fits := cal_of X G e_law_fits b_law_fits (ok_fits (P := l.prog) (w := w) (K := K) (mg := mg) (base := base) e_law_fits.2 )
  have c_may := cal_of X G e_law_may b_law_may (ok_lmay (P := l.prog) (w := w) (K := K) (mg := mg) (base := base) e_law_may.2 m_enumerate m_sorted c_fits)
  have c_gone := cal_of X G e_law_gone b_law_gone (ok_gone (P := l.prog) (w := w) (K := K) (mg := mg) (base := base) e_law_gone.2 )
  have c_walked := cal_of X G e_law_walked b_law_walked (ok_walked (P := l.prog) (w := w) (K := K) (mg := mg) (base := base) e_law_walked.2 m_range m_int m_len c_next c_may c_gone)
  have c_net := cal_of X G e_law_net b_law_net (ok_net (P := l.prog) (w := w) (K := K) (mg := mg) (base := base) e_law_net.2 m_range m_int m_list c_next c_shuf)
  have c_looks := calG_of X G e_law_looks_right b_law_looks_right (ok_looks (P := l.prog) (w := w) (K := K) (mg := mg) (base := base) e_law_looks_right.2 m_repr m_range m_int m_list c_near c_may c_maygo k_maygo c_next c_fits c_isst k_isst)
  have c_steps := calG_of X G e_law_steps_right b_law_steps_right (ok_steps (P := l.prog) (w := w) (K := K) (mg := mg) (base := base) e_law_steps_right.2 m_repr m_len c_near c_lfull c_alllead k_alllead c_between k_between c_may c_gone)
  have c_allr := calG_of X G e_law_all_right b_law_all_right (ok_allr (P := l.prog) (w := w) (K := K) (mg := mg) (base := base) e_law_all_right.2 m_repr m_range m_len c_near c_fits c_count k_count c_isst)
  exact ok_law (P := l.prog) (w := w) (K := K) (mg := mg) (base := base) e_law.2 m_range m_int m_zip c_draws c_net c_near c_walked c_next c_looks c_steps c_allr c_isst c_maygo c_count c_alllead c_between
theorem walkL {l : PySem.W.OpenLaw} {q : Program} {loose : List Str} {XP : (Str → Option Value) → Heap → Prop} {YP : World → Heap → Prop} {d : DefRec} {K : Params → PySem.W.Frag} (hn : l.most = some 63) (hdf : d.params.defaults = [])
    (hY : ∀ (w : World) (h : Heap), YP w h → (K w.params).In h)
    (F : ∀ (w : World) (mg : Str → Option Value) (fa : Addr) (h : Heap), (K w.params).In h → h.Ns mainGlobals mg → mg d.name = some (.ref fa) →
      ∃ fd : FuncData, (∀ (s : Shared) (u : Value), BindsTo s fd ⟨[u], []⟩ [("_law_script", u)]) ∧ ∀ base : Heap, (K w.params).In base → base.Ns mainGlobals mg → FnG l.prog w (K w.params) mg base CX0 8 fa fd ["_law_script"] (spLaw (K w.params))) :
    PySem.W.WalkO q loose XP YP l.row.toRowW d [] (fun f vs => PySem.call f vs) :=
  walkG (n := 63) (k := 8) (x := "_law_script") (sp := fun w => spLaw (K w.params)) hn (by decide) hdf ⟨rfl, by decide, by decide⟩ hY F fun w H a ns hl _ hS => by
    unfold spLaw
    exact ⟨a, ns, rfl, hS, Nat.le_trans hl (by decide), fun _ => rfl⟩
end
end Fo
open PySem PySem.W PyProof.Rows
set_option maxHeartbeats 0 in
theorem PySem.Challenge.cw_foldednets_k40_whole_people_on_a_net_holds : PySem.Challenge.rw_foldednets_k40_whole_people_on_a_net.Holds := by
  w_on; o_law; k_head; (case hw => w_witness2)
  k_fill
  refine Fo.walkL (l := PySem.Challenge.rw_foldednets_k40_whole_people_on_a_net) rfl rfl (fun w h Y => PySem.W.kIn_of Y) ?F
  case F =>
    intro w mg fa h KX G hmg
    refine' Fo.all_mk KX G hmg ?d0 ?d1 ?d2 ?d3 ?d4 ?d5 ?d6 ?d7 ?d8 ?d9 ?d10 ?d11 ?d12 ?d13 ?d14 ?d15 ?d16 ?d17 ?d18 ?d19 ?d20 ?d21 ?d22 ?d23 ?d24 ?d25 ?d26 ?d27 ?d28 ?d29 ?d30 ?d31 ?d32 ?d33 ?d34 ?d35 ?d36 ?d37 ?z_int ?z_range ?z_list ?z_len ?z_repr ?z_sorted ?z_enumerate ?z_isinstance ?z_reversed ?z_zip ?z_sum ?z_width ?z_most
    (case d0 => refine' Fo.hasDef_mk ?a ?l ?c ?k; (case a => k_is); (case l => k_is); (case c => k_is); (case k => k_is))
    (case d1 => refine' Fo.hasDef_mk ?a ?l ?c ?k; (case a => k_is); (case l => k_is); (case c => k_is); (case k => k_is))
    (case d2 => refine' Fo.hasDef_mk ?a ?l ?c ?k; (case a => k_is); (case l => k_is); (case c => k_is); (case k => k_is))
    (case d3 => refine' Fo.hasDef_mk ?a ?l ?c ?k; (case a => k_is); (case l => k_is); (case c => k_is); (case k => k_is))
    (case d4 => refine' Fo.hasDef_mk ?a ?l ?c ?k; (case a => k_is); (case l => k_is); (case c => k_is); (case k => k_is))
    (case d5 => refine' Fo.hasDef_mk ?a ?l ?c ?k; (case a => k_is); (case l => k_is); (case c => k_is); (case k => k_is))
    (case d6 => refine' Fo.hasDef_mk ?a ?l ?c ?k; (case a => k_is); (case l => k_is); (case c => k_is); (case k => k_is))
    (case d7 => refine' Fo.hasDef_mk ?a ?l ?c ?k; (case a => k_is); (case l => k_is); (case c => k_is); (case k => k_is))
    (case d8 => refine' Fo.hasDef_mk ?a ?l ?c ?k; (case a => k_is); (case l => k_is); (case c => k_is); (case k => k_is))
    (case d9 => refine' Fo.hasDef_mk ?a ?l ?c ?k; (case a => k_is); (case l => k_is); (case c => k_is); (case k => k_is))
    (case d10 => refine' Fo.hasDef_mk ?a ?l ?c ?k; (case a => k_is); (case l => k_is); (case c => k_is); (case k => k_is))
    (case d11 => refine' Fo.hasDef_mk ?a ?l ?c ?k; (case a => k_is); (case l => k_is); (case c => k_is); (case k => k_is))
    (case d12 => refine' Fo.hasDef_mk ?a ?l ?c ?k; (case a => k_is); (case l => k_is); (case c => k_is); (case k => k_is))
    (case d13 => refine' Fo.hasDef_mk ?a ?l ?c ?k; (case a => k_is); (case l => k_is); (case c => k_is); (case k => k_is))
    (case d14 => refine' Fo.hasDef_mk ?a ?l ?c ?k; (case a => k_is); (case l => k_is); (case c => k_is); (case k => k_is))
    (case d15 => refine' Fo.hasDef_mk ?a ?l ?c ?k; (case a => k_is); (case l => k_is); (case c => k_is); (case k => k_is))
    (case d16 => refine' Fo.hasDef_mk ?a ?l ?c ?k; (case a => k_is); (case l => k_is); (case c => k_is); (case k => k_is))
    (case d17 => refine' Fo.hasDef_mk ?a ?l ?c ?k; (case a => k_is); (case l => k_is); (case c => k_is); (case k => k_is))
    (case d18 => refine' Fo.hasDef_mk ?a ?l ?c ?k; (case a => k_is); (case l => k_is); (case c => k_is); (case k => k_is))
    (case d19 => refine' Fo.hasDef_mk ?a ?l ?c ?k; (case a => k_is); (case l => k_is); (case c => k_is); (case k => k_is))
    (case d20 => refine' Fo.hasDef_mk ?a ?l ?c ?k; (case a => k_is); (case l => k_is); (case c => k_is); (case k => k_is))
    (case d21 => refine' Fo.hasDef_mk ?a ?l ?c ?k; (case a => k_is); (case l => k_is); (case c => k_is); (case k => k_is))
    (case d22 => refine' Fo.hasDef_mk ?a ?l ?c ?k; (case a => k_is); (case l => k_is); (case c => k_is); (case k => k_is))
    (case d23 => refine' Fo.hasDef_mk ?a ?l ?c ?k; (case a => k_is); (case l => k_is); (case c => k_is); (case k => k_is))
    (case d24 => refine' Fo.hasDef_mk ?a ?l ?c ?k; (case a => k_is); (case l => k_is); (case c => k_is); (case k => k_is))
    (case d25 => refine' Fo.hasDef_mk ?a ?l ?c ?k; (case a => k_is); (case l => k_is); (case c => k_is); (case k => k_is))
    (case d26 => refine' Fo.hasDef_mk ?a ?l ?c ?k; (case a => k_is); (case l => k_is); (case c => k_is); (case k => k_is))
    (case d27 => refine' Fo.hasDef_mk ?a ?l ?c ?k; (case a => k_is); (case l => k_is); (case c => k_is); (case k => k_is))
    (case d28 => refine' Fo.hasDef_mk ?a ?l ?c ?k; (case a => k_is); (case l => k_is); (case c => k_is); (case k => k_is))
    (case d29 => refine' Fo.hasDef_mk ?a ?l ?c ?k; (case a => k_is); (case l => k_is); (case c => k_is); (case k => k_is))
    (case d30 => refine' Fo.hasDef_mk ?a ?l ?c ?k; (case a => k_is); (case l => k_is); (case c => k_is); (case k => k_is))
    (case d31 => refine' Fo.hasDef_mk ?a ?l ?c ?k; (case a => k_is); (case l => k_is); (case c => k_is); (case k => k_is))
    (case d32 => refine' Fo.hasDef_mk ?a ?l ?c ?k; (case a => k_is); (case l => k_is); (case c => k_is); (case k => k_is))
    (case d33 => refine' Fo.hasDef_mk ?a ?l ?c ?k; (case a => k_is); (case l => k_is); (case c => k_is); (case k => k_is))
    (case d34 => refine' Fo.hasDef_mk ?a ?l ?c ?k; (case a => k_is); (case l => k_is); (case c => k_is); (case k => k_is))
    (case d35 => refine' Fo.hasDef_mk ?a ?l ?c ?k; (case a => k_is); (case l => k_is); (case c => k_is); (case k => k_is))
    (case d36 => refine' Fo.hasDef_mk ?a ?l ?c ?k; (case a => k_is); (case l => k_is); (case c => k_is); (case k => k_is))
    (case d37 => refine' Fo.hasDef_mk ?a ?l ?c ?k; (case a => k_is); (case l => k_is); (case c => k_is); (case k => k_is))
    (case z_int => k_is)
    (case z_range => k_is)
    (case z_list => k_is)
    (case z_len => k_is)
    (case z_repr => k_is)
    (case z_sorted => k_is)
    (case z_enumerate => k_is)
    (case z_isinstance => k_is)
    (case z_reversed => k_is)
    (case z_zip => k_is)
    (case z_sum => k_is)
    (case z_width => k_is)
    (case z_most => k_is)
#print axioms PySem.Challenge.cw_foldednets_k40_whole_people_on_a_net_holds
