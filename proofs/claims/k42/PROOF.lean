import PyProof.Rows.All
import Wide.All
import OpenK.AllK
import Wide.FinOn
import HandS.Base
import HandS.Call
import HandS.List
import HandS.Comp
import HandS.Ends
import HandS.Words
import HandS.WordsList
import HandS.Dict
import HandS.Iter
import PyProof.ReprRoads
import HandS.ForMost
import HandS.Wide
import HandS.DictComp
import HandS.IsInst
import HandS.NoneIn
import HandS.Conv
import HandS.SortInts
import HandS.WideBits
import HandS.Style
import KE.GoesEnumKw
import HandS.Deep
import HandS.Codes
import KE.SortData
import HandS.TupSets
import KE.KDictCopyH
import KE.KDictKeyed
import HandS.Walk
import HandS.MapSum
import KE.KDictList
import KE.KDictSum
import HandS.WordsDict
import PySem.Challenge.RW_foldednets_k42_whole_standings_by_ends
set_option Elab.async false
set_option linter.all false
set_option maxRecDepth 100000
namespace Fo
open PySem PySem.Spec PyProof.Rows L2
/-! piece Aux1 -/
section
open PySem PySem.Spec PyProof.Rows L2
abbrev Sl := L2.St

/-! ## calls while no repr is under way -/
structure FnG (P : Program) (w : World) (K : PySem.W.Frag) (mg : Str → Option Value) (base : Heap)
    (CX : CXT) (k : Nat) (f : Addr) (fd : FuncData) (ps : List Str) (sp : Sp) : Prop where
  arity : ∀ vs H Q E, sp vs H Q E → vs.length = ps.length
  go : ∀ (A : Around) (outer : List Env) (s : Shared) (H : Hp) (args : Args) (us : List Value)
      (vs : List V) (Q : VK) (E : XK), Room k A → A.guards = some [] →
      Env0 P w K mg base A outer s H → BindsTo s fd args (ps.zip us) → Vals vs us → sp vs H Q E →
      codeAny (model P w) A (.call (.ref f) args) (CR CX outer P w H s Q E) s

theorem FnG.of {P : Program} {w : World} {K : PySem.W.Frag} {mg : Str → Option Value} {base : Heap}
    {CX : CXT} {k : Nat} {f : Addr} {fd : FuncData} {ps : List Str} {sp : Sp}
    (F : FnOk P w K mg base CX k f fd ps sp) : FnG P w K mg base CX k f fd ps sp :=
  ⟨F.len, fun A outer s H args us vs Q E hr _ => F.run A outer s H args us vs Q E hr⟩

section
variable {X : Cx} {CX : CXT} {k : Nat} {f : Addr} {fd : FuncData} {ps : List Str} {sp : Sp}
  {dvs : List V} {ds : List Value} {E : XK} {x : Str} {p pos : Pos} {e : Expr} {es : List Expr} {t : TA}
theorem go_fn {pins : List (Addr × Obj)} {σ : L2.St} {H : Hp} {s : Shared} {Q : VK} {us : List Value} {vs : List V}
    (F : FnG X.prog X.w X.K X.mg X.base CX k f fd ps sp) (hr : Room k X.A) (hgd : X.A.guards = some [])
    (hb : Binds X.K fd ps ds) (hd : Vals dvs ds) (hx : Passes CX X E)
    (I : Inv X pins σ H s) (r : Vals vs us) (h : sp (vs ++ dvs) H Q E) :
    wpAny (model X.prog X.w) X.A (call (.ref f) us) (EP X pins σ Q) X.xe s := by
  have rr := Vals.append r hd
  have hlen : (us ++ ds).length = ps.length := rr.length.symm.trans (F.arity _ _ _ _ h)
  have step := F.go X.A X.stack s H ⟨us, []⟩ (us ++ ds) (vs ++ dvs) Q E hr hgd I.env0 (hb s us I.kIn hlen) rr h
  refine wpAny_call (codeAny_mono step ?_)
  intro out s' hq
  match out, hq with
  | .error e, hq => exact hx pins σ H s e s' I hq
  | .ok (.ret u), hq => exact I.after hq
  | .ok .next, hq => exact hq.elim
  | .ok .brk, hq => exact hq.elim
  | .ok .cont, hq => exact hq.elim

theorem pe_callG (F : FnG X.prog X.w X.K X.mg X.base CX k f fd ps sp) (hr : Room k X.A) (hgd : X.A.guards = some [])
    (hg : Gl X x) (hm : X.mg x = some (.ref f)) (hk : PySem.W.keepIn X.K (.ref f) = true)
    (hb : Binds X.K fd ps ds) (hd : Vals dvs ds) (hx : Passes CX X E) (ha : PA X (e :: es) t)
    (hdb : (x == ("__debug__" : Str)) = false := by decide)
    (he : starEach (e :: es) X.env = (false, eval e X.env) :: starEach es X.env := by rfl)
    (hpl : (backTo pos (starEach es X.env)).any (·.1) = false := by rfl) :
    PE X (.Call (.Name x p) (e :: es) [] pos) (tCall sp dvs E t) := by
  constructor
  intro pins s σ H Q I h
  apply wpAny_Call_Name_kw
  apply ld_glob I hg hm _ hdb
  refine PySem.W.callWith_K (h₀ := X.base) I.ok.mod.kin hk (thn (ha.run pos pins s σ H _ I h) ?_) he hpl
  rintro us s1 ⟨vs, H1, I1, r, q⟩
  exact ⟨I1.kIn, go_fn F hr hgd hb hd hx I1 r q⟩

/-- f(k = v, ..), keywords alone -/
theorem pe_callK0 {ks : List Str} {kws : List Keyword} {tk : TA} {g : List Value → List Value → List Value}
    {gV : List V → List V → List V} (F : FnOk X.prog X.w X.K X.mg X.base CX k f fd ps sp) (hr : Room k X.A)
    (hg : Gl X x) (hm : X.mg x = some (.ref f)) (hk : PySem.W.keepIn X.K (.ref f) = true)
    (hb : KBinds X.K fd ps ks g gV) (hx : Passes CX X E) (hkw : PK X kws tk)
    (hall : (backToKw pos (keywordEach kws X.env)).all (·.1.isSome) = true := by rfl)
    (hks : (backToKw pos (keywordEach kws X.env)).filterMap (·.1) = ks := by rfl)
    (hdb : (x == ("__debug__" : Str)) = false := by decide)
    (hpl : ((backTo pos (starEach [] X.env)).any (·.1) || (backToKw pos (keywordEach kws X.env)).any (·.1.isNone)) = false := by rfl) :
    PE X (.Call (.Name x p) [] kws pos) (tCallK sp gV E tNil tk) := by
  constructor
  intro pins s σ H Q I h
  apply wpAny_Call_Name_kw
  apply ld_glob I hg hm _ hdb
  refine PySem.W.callWith_KW0 (h₀ := X.base) I.ok.mod.kin hk hall (thn (hkw.run pos pins s σ H _ I h) ?_) hpl
  rintro ws s2 ⟨zs, H2, I2, rz, q2⟩
  refine ⟨I2.kIn, ?_⟩
  rw [hks]
  exact run_fnk (us := []) F hr hb hx I2 .nil rz q2
end

section
variable {P : Program} {w : World} {K : PySem.W.Frag} {mg : Str → Option Value} {base : Heap}
/-- a def's body, where no repr is under way -/
theorem okG {x qual : Str} {st : Stmt} {f : Addr} {fd : FuncData} {N ps : List Str} {k : Nat} {sp : Sp}
    (F : Fun K x qual st f fd) (S : FnScope N ps (defScope st)) (len : ∀ vs H Q E, sp vs H Q E → vs.length = ps.length)
    (hbody : ∀ (cdv : Value) (A : Around) (outer : List Env) (s : Shared) (H : Hp) (vs : List V) (Q : VK) (E : XK),
      Room k (A.deeper (envOfC qual (defScope st) s.heap.objs.size f cdv)) → A.guards = some [] → sp vs H Q E →
      ∃ t, PSs (cxOf CX0 P w K mg base N qual (defScope st) f cdv A outer s H E).nox (defBody st) t ∧
        t { nx := fun _ H' => Q .non H', rt := Q } (start N vs) H) :
    FnG P w K mg base CX0 (k + 1) f fd ps sp := by
  obtain ⟨oc, od, kV, doc, pm, an, cdv, ct, osl, rfl, lk, hcd⟩ := F.ex
  constructor
  · exact len
  intro A outer s H args us vs Q E hr hgd e0 hb r hsp
  have keepB : ∀ b o, base.get? b = some o → s.heap.get? b = some o := fun b o e => (e0.bs b o e).1
  have inK : K.In s.heap := e0.mod.kin.keeps keepB
  have noLim : s.heap.NoLimit := e0.mod.nolimit.keeps keepB
  have kinds : ∀ y ∈ ps.zip us, (defScope st).names.lookup y.1 = some .local ∨
      ((defScope st).names.lookup y.1 = some .cell ∧
        ((cellsFrom (s.heap.objs.size + 1) (defScope st).names []).lookup y.1).isSome = true) := by
    rintro ⟨n, v⟩ hy
    cases S.par n (List.of_mem_zip hy).1 with
    | inl q => exact Or.inl q
    | inr q => exact Or.inr ⟨q, PySem.W.cellsFrom_some _ _ _ (Or.inl q)⟩
  refine codeAny_call_function hr.depth (inK _ _ lk) rfl S.co S.gen rfl (PySem.W.codeRec_of inK hcd) (hb _ _ _ _ ?_)
  apply wpAny_newFunctionEnv_cells S.kind kinds
  intro env henv s1 inC
  subst henv
  refine ⟨noLim.keeps inC.toInCall.keep, codeAny_func ?_⟩
  obtain ⟨t, ht, hq⟩ := hbody cdv A outer s H vs Q E (hr.deeper _) hgd hsp
  have I0 : Inv (cxOf CX0 P w K mg base N qual (defScope st) f cdv A outer s H E) [] (start N vs) H s1 :=
    inv_start S hr.hd e0 (len _ _ _ _ hsp) r inC
  refine wpAny_mono (ht.nox.run [] s1 (start N vs) H _ I0 hq) ?_ (fun _ _ z => z)
  intro fl s' hs
  match fl, hs with
  | .ret u, hs =>
    obtain ⟨v, σ', H', J, rv, q⟩ := hs
    exact ⟨v, H', J.os, J.bare, J.base, J.hok, rv, q⟩
  | .next, hs =>
    obtain ⟨σ', H', J, q⟩ := hs
    exact ⟨.non, H', J.os, J.bare, J.base, J.hok, rfl, q⟩
  | .brk, hs =>
    obtain ⟨_, _, _, q⟩ := hs
    exact q.elim
  | .cont, hs =>
    obtain ⟨_, _, _, q⟩ := hs
    exact q.elim
end

/-! ## repr of data -/
section
variable {X : Cx}
theorem call_reprD (hgd : X.A.guards = some []) (hu : X.A.units + 64 < cLine) :
    CallR X (.builtin "repr") (fun xs H Q => ∃ a d, xs = [.ref a] ∧ Dp X.K H (.ref a) d ∧ d.showable = true ∧
      d.hasDict = false ∧ d.depth ≤ 60 ∧ d.shown.length ≤ sizeLine ∧ Q (.str d.shown) H) := by
  intro pins s σ H xs us Q I r h
  obtain ⟨a, d, rfl, hd, hs, hn, hdp, hz, q⟩ := h
  obtain ⟨u, rfl, ru⟩ := vals1 r
  cases ru
  obtain ⟨as, rd⟩ := Dp.reads I d _ _ hd rfl
  exact repr_of_reads' rd hs (PyData.noDict_hsm hn) hgd (by omega) (fun _ _ z => z)
    (fun h' u tk hk => ⟨.str d.shown, H, I.kept hk, ⟨_, rfl⟩, q⟩) hz

/-! ## great powers -/
theorem op_powW : OpR X (binaryOp .Pow) (rI (fun i j => 0 ≤ j ∧ (Builtin.Int.intBits i : Int) * j ≤ 2 ^ 27) fun i j => .int (i ^ j.toNat)) :=
  opI fun _ _ _ _ _ _ _ hc q => pow_int hc.1 hc.2 q

/-! ## xs[::k], k 1 or -1 -/
def stepV (o : Option Int) (xs : List V) : List V := if o = some (-1) then xs.reverse else xs
def tStep (K : PySem.W.Frag) (te tk : TE) : TE := fun σ H Q => te σ H fun x H1 => tPart tk σ H1 fun o H2 =>
  ∃ a xs, x = .ref a ∧ (o = some 1 ∨ o = some (-1)) ∧ SqL K H2 a xs ∧ ∀ p, H2 p = none → Q (.ref p) (upd H2 p (.lst (stepV o xs)))
theorem slicePick_one (its : List Value) : slicePick its.toArray none none (some 1) = its.toArray := by
  have h := slicePick_cut its none none
  have e : slicePick its.toArray none none (some 1) = slicePick its.toArray none none none := rfl
  rw [e, h]
  simp [HT.sIx]

theorem pe_step {e st : Expr} {te tk : TE} {p3 pos : Pos} (he : PE X e te) (hst : PE X st tk)
    (hgo : ∀ v sl, subscripted (.Slice none none (some st) p3) false v sl = operate [v, sl] (getItem v sl) := by intro _ _; rfl)
    (hlt : ∀ v r, letTemporaryGo e v r = pure () := by intro _ _; rfl) :
    PE X (.Subscript e (.Slice none none (some st) p3) pos) (tStep X.K te tk) := by
  constructor
  intro pins s σ H Q I h
  apply Subscript_
  refine thn (he.run pins s σ H _ I h) ?_
  rintro v s1 ⟨x, H1, I1, r1, q1⟩
  apply wpAny_Slice
  refine thn (po_none.run pins s1 σ H1 (fun o H2 => o = none ∧ H2 = H1) I1 ⟨rfl, rfl⟩) ?_
  rintro vl s2 ⟨l, H2, I2, pl, rfl, rfl⟩
  refine thn (po_none.run pins s2 σ H2 (fun o H3 => o = none ∧ H3 = H2) I2 ⟨rfl, rfl⟩) ?_
  rintro vu s3 ⟨u, H3, I3, pu, rfl, rfl⟩
  refine thn ((po_some hst).run pins s3 σ H3 _ I3 q1) ?_
  rintro vs s4 ⟨o, H4, I4, ps, a, xs, rfl, hk, hx, q⟩
  cases r1
  have I5 : Inv X pins σ H4 { s4 with heap := s4.heap.push { cls := .type "slice", data := .fields #[vl, vu, vs] } } :=
    I4.kept (t' := s4.toks) fun b ob z => Heap.get?_push_of_some _ z
  obtain ⟨its, r, ht, hz⟩ := I5.list hx
  have hlen := r.length
  have fin : ∀ (ys : List V) (its' : List Value), Vals ys its' → ys.length ≤ sizeLine → (∀ p, H4 p = none → Q (.ref p) (upd H4 p (.lst ys))) →
      EP X pins σ Q (.ref (s4.heap.push { cls := .type "slice", data := .fields #[vl, vu, vs] }).objs.size)
        { s4 with heap := (s4.heap.push { cls := .type "slice", data := .fields #[vl, vu, vs] }).push { cls := .type "list", data := .seq its'.toArray } } := by
    intro ys its' rv hz' hq
    refine ⟨.ref _, _, I5.laid (t' := s4.toks) (o := .lst ys) (fun b ob z => Heap.get?_push_of_some _ z) (Nat.le_refl _) ?_, rfl, hq _ (I5.hok.fresh (Nat.le_refl _))⟩
    exact ⟨hz', its', 0, rv, Heap.get?_push_size _ rfl⟩
  have hgo' := hgo (.ref a) (.ref s4.heap.objs.size)
  refine tail_any (ops := [.ref a, .ref s4.heap.objs.size]) ht.isList.typeIs (PySem.slot_list_getitem.lookup) ?_ hgo'
  refine wpAny_getItem_list_slice ht.isList (Heap.IsSliceOf.new _ vl vu vs) pl pu ps (by rcases hk with rfl | rfl <;> decide) ?_ (by rw [List.size_toArray]; omega)
  rcases hk with rfl | rfl
  · rw [slicePick_one]
    have e : stepV (some 1) xs = xs := by simp [stepV]
    rw [e] at q
    exact fin xs its r hz q
  · rw [PySem.W.krv_pick]
    have e : stepV (some (-1)) xs = xs.reverse := by simp [stepV]
    rw [e] at q
    exact fin xs.reverse its.reverse (Vals.reverse r) (by rw [List.length_reverse]; exact hz) q

/-! ## count of a flat thing; d[k] |= e -/
def rCnt (K : PySem.W.Frag) : V → List V → Hp → VK → Prop := fun x vs H Q => ∃ (p : Addr) (xs : List V) (y : V),
  x = .ref p ∧ vs = [y] ∧ SqL K H p xs ∧ flatV y = true ∧ xs.all flatV = true ∧ Q (.int ((xs.countP fun z => eqV z y : Nat) : Int)) H
theorem countP_eqU {x : V} : ∀ {xs : List V} {us : List Value}, Vals xs us → xs.all flatV = true → us.countP (eqU x) = xs.countP fun y => eqV y x
  | _, _, .nil, _ => rfl
  | y :: xs, u :: us, .cons r t, hf => by
    rw [List.all_cons, Bool.and_eq_true] at hf
    rw [List.countP_cons, List.countP_cons, countP_eqU t hf.2, eqU_of r hf.1]
theorem mt_cnt : MtR X "list.count" (rCnt X.K) := by
  intro pins s σ H x xs v us Q I rx rxs h
  obtain ⟨p, ys, y, rfl, rfl, hs, hy, hf, q⟩ := h
  cases rx
  obtain ⟨u, rfl, ru⟩ := rxs.one
  obtain ⟨its, rv, ⟨⟨cls, dd, data, sl⟩, n, ho, hc, hdn, hd⟩, hlen⟩ := I.list hs
  simp only at hc hd
  subst hc hd
  refine call_meets PySem.F.slot_list_count ⟨_, ho, rfl⟩ PySem.F.entry_list_count (PySem.F.args_list_count_2 _ _)
    (SeqAt.list_countAt p its.toArray n dd sl u (eqU y)) ⟨ho, fun z hz => mem_eqAt ru hy rv hf z (by simpa using hz), ?_⟩
  refine ⟨.int ((ys.countP fun z => eqV z y : Nat) : Int), H, I.tok _, ⟨s.toks, ?_⟩, q⟩
  show Value.int ((its.toArray.toList.countP (eqU y) : Nat) : Int) s.toks = Value.int ((ys.countP fun z => eqV z y : Nat) : Int) s.toks
  rw [show its.toArray.toList = its from rfl, countP_eqU rv hf]
theorem in_or : InOp X .BitOr (rI0 fun i j => .int (Builtin.bitOr i j)) := by
  rintro pins s σ H x y u v Q I rx ry ⟨i, j, rfl, rfl, q⟩
  obtain ⟨t, rfl⟩ := (show ∃ t, u = Value.int i t from rx)
  obtain ⟨t', rfl⟩ := (show ∃ t', v = Value.int j t' from ry)
  exact ior_int ⟨.int _, H, I.tok _, ⟨_, rfl⟩, q⟩
end

/-! ## the end of a law whose def is a FnG -/
theorem law_callG {P : Program} {w : World} {K : PySem.W.Frag} {mg mb : Str → Option Value} {k : Nat} {fa a : Addr} {fd : FuncData} {x : Str} {sp : Sp} {s1 : Shared}
    {vs : List Value} {ns : List Int} (inK : K.In s1.heap) (gn : s1.heap.Ns mainGlobals mg) (bn : s1.heap.Ns builtinsNs mb)
    (bb : ∀ x : Str, x ≠ "__name__" → mb x = bootBuiltins x) (nl : s1.heap.NoLimit) (g0 : s1.gens = #[])
    (ha : s1.heap.get? a = some { cls := .type "list", data := .seq vs.toArray }) (hi : IntsAre vs ns) (hl : ns.length ≤ sizeLine) (hr : Room k callerA)
    (F : ∀ base : Heap, K.In base → base.Ns mainGlobals mg → FnG P w K mg base CX0 k fa fd [x] sp)
    (bnd : ∀ (s : Shared) (u : Value), BindsTo s fd ⟨[u], []⟩ [(x, u)])
    (hsp : ∀ H : Hp, Only H → SqL K H a (ns.map V.int) → sp [.ref a] H (fun v _ => v = .bl true) fun _ _ _ => False) :
    codeAny (model P w) callerA (.call (.ref fa) ⟨[.ref a], []⟩) (fun r s' => r = .ok (.ret (.bool true)) ∧ OldK s1.heap s'.heap ∧ s'.os = s1.os ∧ AllBare s'.gens) s1 := by
  have rel := vals_ints hi
  have vlen := hi.length
  have main : ∀ H : Hp, Only H → SqL K H a (ns.map V.int) → HOk P w H s1.heap → (∀ b u, H b = some u → b = a ∧ K.lookup a = none) →
      codeAny (model P w) callerA (.call (.ref fa) ⟨[.ref a], []⟩) (fun r s' => r = .ok (.ret (.bool true)) ∧ OldK s1.heap s'.heap ∧ s'.os = s1.os ∧ AllBare s'.gens) s1 := by
    intro H only hS hok own
    have undict : ∀ {b : Addr} {o : Obj} {es : Array DictEntry} {ep : Nat}, s1.heap.get? b = some o → o.data = .dict es ep → H b = none := by
      intro b o es ep e d
      match q : H b with
      | none => rfl
      | some u =>
        obtain ⟨rfl, _⟩ := own b u q
        rw [ha] at e
        cases e
        have d' : Data.seq vs.toArray _ = Data.dict es ep := d
        cases d'
    have nsOf : ∀ {b : Addr} {m : Str → Option Value}, s1.heap.Ns b m → (hidT s1.heap H).Ns b m :=
      fun ⟨o, es, ep, e, d, r⟩ => ⟨o, es, ep, hidT_get e (undict e d), d, r⟩
    have kIn : K.In (hidT s1.heap H) := by
      intro b o e
      refine hidT_get (inK b o e) ?_
      match q : H b with
      | none => rfl
      | some u =>
        obtain ⟨rfl, hk⟩ := own b u q
        rw [hk] at e
        cases e
    have modOk : Mod K mg (hidT s1.heap H) :=
      ⟨kIn, nsOf gn, ⟨mb, nsOf bn, bb⟩, let ⟨mc, h1, h2⟩ := nl; ⟨mc, nsOf h1, h2⟩⟩
    have env0 : Env0 P w K mg (hidT s1.heap H) callerA [] s1 H :=
      ⟨rfl, modOk, fun b o e => of_hidT e, Nat.le_of_eq (hidT_size _ _), trivial, fun b hb => absurd (show b ∈ ([] : List Addr) from hb) (by simp), hok, .of_eq g0⟩
    refine codeAny_mono ((F _ kIn (nsOf gn)).go callerA [] s1 H ⟨[.ref a], []⟩ [.ref a] [.ref a] _ _ hr rfl env0 (bnd s1 (.ref a)) (.cons rfl .nil) (hsp H only hS)) ?_
    intro r s' h
    match r, h with
    | .error e, h => exact h.elim
    | .ok .next, h => exact h.elim
    | .ok .brk, h => exact h.elim
    | .ok .cont, h => exact h.elim
    | .ok (.ret u), h =>
      obtain ⟨v, H', os, bare, un, hok', r', q⟩ := h
      obtain rfl : v = .bl true := q
      obtain rfl : u = Value.bool true := r'
      refine ⟨rfl, OldK.of_keep ?_, os, bare⟩
      intro b o e
      match q : H b with
      | none => exact un.keep b o e q (by intro z; exact absurd (show b ∈ ([] : List Addr) from z) (by simp)) (by simp)
      | some u =>
        rcases only b with z | ⟨ob, xs, z⟩
        · rw [q] at z; cases z
        · have e1 := (hok b _ z).1
          have e2 := (hok' b _ (un.frzs b ob _ z)).1
          rw [e] at e1
          cases e1
          exact e2
  match hk : K.lookup a with
  | some o =>
    have e := inK a o hk
    rw [ha] at e
    cases e
    refine main (fun _ => none) (fun _ => .inl rfl) (.inr ⟨_, vs.toArray, _, hk, rfl, rfl, rfl, by rw [List.size_toArray, vlen]; exact hl, by simpa using rel⟩) ?_ ?_
    · intro b u z
      have z' : (none : Option HO) = some u := z
      cases z'
    · intro b u z
      have z' : (none : Option HO) = some u := z
      cases z'
  | none =>
    let ob : Obj := { cls := .type "list", data := .seq vs.toArray }
    have at_a : ∀ {b : Addr} {u : HO}, (if b = a then some (HO.frz ob (.lst (ns.map V.int))) else none) = some u → b = a ∧ u = .frz ob (.lst (ns.map V.int)) := by
      intro b u z
      by_cases hb : b = a
      · rw [if_pos hb] at z
        exact ⟨hb, (Option.some.inj z).symm⟩
      · rw [if_neg hb] at z
        cases z
    refine main (fun b => if b = a then some (.frz ob (.lst (ns.map V.int))) else none) ?_ (.inl (.inr ⟨ob, if_pos rfl⟩)) ?_ ?_
    · intro b
      by_cases hb : b = a
      · exact .inr ⟨_, _, if_pos hb⟩
      · exact .inl (if_neg hb)
    · intro b u z
      obtain ⟨rfl, rfl⟩ := at_a z
      exact ⟨ha, by rw [List.length_map]; exact hl, vs, _, rel, ha⟩
    · intro b u z
      exact ⟨(at_a z).1, hk⟩

theorem walkG {l : PySem.W.OpenLaw} {n k : Nat} {q : Program} {loose : List Str} {XP : (Str → Option Value) → Heap → Prop} {YP : World → Heap → Prop} {d : DefRec} {K : Params → PySem.W.Frag} {sp : World → Sp} {x : Str}
    (hn : l.most = some n) (hn2 : n ≤ sizeLine) (hdf : d.params.defaults = []) (hr : Room k callerA)
    (hY : ∀ (w : World) (h : Heap), YP w h → (K w.params).In h)
    (F : ∀ (w : World) (mg : Str → Option Value) (fa : Addr) (h : Heap), (K w.params).In h → h.Ns mainGlobals mg → mg d.name = some (.ref fa) →
      ∃ fd : FuncData, (∀ (s : Shared) (u : Value), BindsTo s fd ⟨[u], []⟩ [(x, u)]) ∧
        ∀ base : Heap, (K w.params).In base → base.Ns mainGlobals mg → FnG l.prog w (K w.params) mg base CX0 k fa fd [x] (sp w))
    (hsp : ∀ (w : World) (H : Hp) (a : Addr) (ns : List Int), ns.length ≤ n → Only H → SqL (K w.params) H a (ns.map V.int) → sp w [.ref a] H (fun v _ => v = .bl true) fun _ _ _ => False) :
    PySem.W.WalkO q loose XP YP l.row.toRowW d [] (fun f vs => PySem.call f vs) := by
  apply Att.attach_call hn hdf
  intro w s0 s1 mg mb fa o pm cd doc a vs ns G Y ho hd hcd hmg hobj hints hlen hg
  obtain ⟨fd, hb, hF⟩ := F w mg fa _ (hY w _ Y) G.T.g hmg
  exact law_callG (hY w _ Y) G.T.g G.T.b G.T.builtins G.T.nolimit hg hobj hints (Nat.le_trans hlen hn2) hr hF hb fun H hO hS => hsp w H a ns hlen hO hS

end
end Fo
/-! piece Aux2 -/
namespace Fo
open PySem PySem.Spec PyProof.Rows L2
/-- a def of the text that may be called by its name -/
structure Cal (P : Program) (w : World) (K : PySem.W.Frag) (mg : Str → Option Value) (base : Heap) (x : Str) (k : Nat) (ps : List Str) (sp : Sp) : Prop where
  ex : ∃ (f : Addr) (fd : FuncData), FnOk P w K mg base CX0 k f fd ps sp ∧ mg x = some (.ref f) ∧ PySem.W.keepIn K (.ref f) = true ∧ Binds K fd ps []
section
variable {X : Cx} {x : Str} {p pos : Pos} {e : Expr} {es : List Expr} {t : TA} {k j : Nat} {ps : List Str} {sp : Sp}
theorem pe_cal (C : Cal X.prog X.w X.K X.mg X.base x k ps sp) (hr : Room j X.A) (hkj : k ≤ j) (hg : Gl X x) (ha : PA X (e :: es) t)
    (hdb : (x == ("__debug__" : Str)) = false := by decide)
    (he : starEach (e :: es) X.env = (false, eval e X.env) :: starEach es X.env := by rfl)
    (hpl : (backTo pos (starEach es X.env)).any (·.1) = false := by rfl) :
    PE X (.Call (.Name x p) (e :: es) [] pos) (tCall sp [] E0 t) := by
  obtain ⟨f, fd, F, hm, hk, hb⟩ := C.ex
  exact pe_call F (hr.mono hkj) hg hm hk hb .nil pass0 ha hdb he hpl
end
theorem opAdd {X : Cx} : OpR X (binaryOp .Add) (fun x y H Q => rI0 (fun i j => .int (i + j)) x y H Q ∨ rCat x y H Q) := op_add.or op_cat
end Fo
namespace Fo
open PySem PySem.Spec PyProof.Rows L2
theorem mk_body {X : Cx} {b : List Stmt} {t : TS} {D : Ends} {σ : L2.St} {H : Hp} (h : PSs X b t) (r : t D σ H) : ∃ t, PSs X b t ∧ t D σ H := ⟨t, h, r⟩
end Fo
namespace Fo
open PySem PySem.Spec PyProof.Rows L2
def gOr (g g' : TG) : TG := fun v σ H Q => g v σ H Q ∨ g' v σ H Q
theorem PG_or {X : Cx} {tg : Expr} {g g' : TG} (h : PG X tg g) (h' : PG X tg g') : PG X tg (gOr g g') := by
  constructor
  intro pins s σ H v u Q I r q
  rcases q with q | q
  · exact h.run pins s σ H v u Q I r q
  · exact h'.run pins s σ H v u Q I r q
end Fo
namespace Fo
open PySem PySem.Spec PyProof.Rows L2
def ownOf (N : List Str) (sc : Scope) : List (Str × Nat) := sc.names.filterMap fun y => match y.2 with
  | .local => (N.idxOf? y.1).map fun i => (y.1, i)
  | .cell => (N.idxOf? y.1).map fun i => (y.1, i)
  | _ => none
section
variable {X : Cx}
theorem pe_lcO {N ps : List Str} {sc : Scope} {elt tg iter : Expr} {ifs : List Expr} {scope : Scope} {pos : Pos} {wi : TI} {g : TG} {tt : TT} {te : TE} {vs : List Nat}
    (S : FnScope N ps sc) (hXN : X.N = N) (hXs : X.env.scope = sc)
    (hv : (ownOf N scope).map (·.2) = vs) (hb : blkC N sc scope (ownOf N scope) = true) (hc : X.calm = true) (hi : PI X tg iter wi)
    (hg : ∀ (s : Shared) (H : Hp) (C : Addr) (cl : List (Str × Addr)) (fp : List Addr), PG (X.blk s H scope (compEnvC scope cl C X.env) fp) tg g)
    (ht : ∀ (s : Shared) (H : Hp) (C : Addr) (cl : List (Str × Addr)) (fp : List Addr), PTs (X.blk s H scope (compEnvC scope cl C X.env) fp) ifs tt)
    (he : ∀ (s : Shared) (H : Hp) (C : Addr) (cl : List (Str × Addr)) (fp : List Addr), PE (X.blk s H scope (compEnvC scope cl C X.env) fp) elt te)
    (hs : ∀ x, foldedSetIterable iter X.env x = pure x := by intro _; rfl) :
    PE X (.ListComp elt [⟨tg, iter, ifs, 0⟩] scope pos) (tLc wi g tt te vs) := by
  subst hv
  refine pe_lc hc (by rw [hXN]; exact S.nd) hi ?_ hg ht he hs
  rw [hXN, hXs]
  exact blkOk_by hb
theorem ps_setLcO {N ps : List Str} {sc : Scope} {i : Nat} {y : Str} {py : Pos} {elt tg iter : Expr} {ifs : List Expr} {scope : Scope} {pos spos : Pos} {wi : TI} {g : TG} {tt : TT} {te : TE} {vs : List Nat}
    (S : FnScope N ps sc) (hXN : X.N = N) (hXs : X.env.scope = sc)
    (hv : (ownOf N scope).map (·.2) = vs) (hb : blkC N sc scope (ownOf N scope) = true) (hc : X.calm = true) (hy : X.N[i]? = some y)
    (hyl : X.env.scope.names.lookup y = some .local)
    (hsw : swapsWith (.ListComp elt [⟨tg, iter, ifs, 0⟩] scope pos) (some (.Name y py)) spos.line X.env = pure true) (hi : PI X tg iter wi)
    (hg : ∀ (s : Shared) (H : Hp) (C : Addr) (cl : List (Str × Addr)) (fp : List Addr), PG (X.blk s H scope (compEnvC scope cl C X.env) fp) tg g)
    (ht : ∀ (s : Shared) (H : Hp) (C : Addr) (cl : List (Str × Addr)) (fp : List Addr), PTs (X.blk s H scope (compEnvC scope cl C X.env) fp) ifs tt)
    (he : ∀ (s : Shared) (H : Hp) (C : Addr) (cl : List (Str × Addr)) (fp : List Addr), PE (X.blk s H scope (compEnvC scope cl C X.env) fp) elt te)
    (hs : ∀ x, foldedSetIterable iter X.env x = pure x := by intro _; rfl) :
    PS X (.Assign [.Name y py] (.ListComp elt [⟨tg, iter, ifs, 0⟩] scope pos) spos) (tAsg (tLc wi g tt te vs) (gName i)) := by
  subst hv
  refine ps_setLc hc (by rw [hXN]; exact S.nd) hy hyl hsw hi ?_ hg ht he hs
  rw [hXN, hXs]
  exact blkOk_by hb
end
end Fo
namespace Fo
open PySem PySem.Spec PyProof.Rows L2
/-! rules whose reading names the written part by a letter of its own, for a comprehension's block -/
structure KMark (K : PySem.W.Frag) : Prop where
  mk ::
section
variable {X : Cx} {K : PySem.W.Frag}
theorem ix_seqK (_ : KMark K) (h : X.K = K) : IxR X (rIx K) := h ▸ ix_seq
theorem op_inK (_ : KMark K) (h : X.K = K) : OpR X (compareOp .In) (rIn K false) := h ▸ op_in_seq
theorem op_notInK (_ : KMark K) (h : X.K = K) : OpR X (compareOp .NotIn) (rIn K true) := h ▸ op_notIn_seq
def rEqB (K : PySem.W.Frag) : R2 := fun x y H Q => rEq x y H Q ∨ rEqD K x y H Q
def rNeB (K : PySem.W.Frag) : R2 := fun x y H Q => rNe x y H Q ∨ rNeD K x y H Q
theorem op_eqK (_ : KMark K) (h : X.K = K) (hu : X.A.units + 64 < cLine) : OpR X (compareOp .Eq) (rEqB K) := h ▸ op_eq.or (op_eqD hu)
theorem op_neK (_ : KMark K) (h : X.K = K) (hu : X.A.units + 64 < cLine) : OpR X (compareOp .NotEq) (rNeB K) := h ▸ op_ne.or (op_neD hu)
def cListOf (K : PySem.W.Frag) : List V → Hp → VK → Prop := fun xs H Q => ∃ p ys, xs = [.ref p] ∧ (SqL K H p ys ∨ SqT K H p ys) ∧ ∀ l, H l = none → Q (.ref l) (upd H l (.lst ys))
def cLen (K : PySem.W.Frag) : List V → Hp → VK → Prop := fun xs H Q => ∃ p ys, xs = [.ref p] ∧ (SqL K H p ys ∨ SqT K H p ys) ∧ Q (.int ys.length) H
theorem call_listK (_ : KMark K) (h : X.K = K) : CallR X (.type "list") (cListOf K) := h ▸ call_list_of
theorem call_lenK (_ : KMark K) (h : X.K = K) : CallR X (.builtin "len") (cLen K) := h ▸ call_len_seq
theorem cr_sortedK (_ : KMark K) (h : X.K = K) : CallR X (.builtin "sorted") (rSorted K) := h ▸ cr_sorted
def cRepr (K : PySem.W.Frag) : List V → Hp → VK → Prop := fun xs H Q => ∃ a d, xs = [.ref a] ∧ Dp K H (.ref a) d ∧ d.showable = true ∧ d.hasDict = false ∧ d.depth ≤ 60 ∧ d.shown.length ≤ sizeLine ∧ Q (.str d.shown) H
theorem call_reprK (_ : KMark K) (h : X.K = K) (hgd : X.A.guards = some []) (hu : X.A.units + 64 < cLine) : CallR X (.builtin "repr") (cRepr K) := h ▸ call_reprD hgd hu
def rAddB : R2 := fun x y H Q => rI0 (fun i j => .int (i + j)) x y H Q ∨ rCat x y H Q
theorem opAddB : OpR X (binaryOp .Add) rAddB := op_add.or op_cat
theorem pi_listK {tg l : Expr} {tl : TE} (_ : KMark K) (h : X.K = K) (hl : PE X l tl) : PI X tg l (iList K tl) := h ▸ pi_list hl
theorem pg_tup2 {a b : Expr} {k : Nat} {pos : Pos} {t : TGs} (_ : KMark K) (h : X.K = K) (hc : X.calm = true) (hg : PGs X [a, b] t)
    (hn : (assignEach [a, b] X.env).length = 2 := by rfl) (hst : (assignEach [a, b] X.env).findIdx? (·.1) = none := by rfl) : PG X (.Tuple [a, b] k pos) (gTup K 2 t) := h ▸ pg_tup hc hg hn hst
theorem pg_unl2 {a b : Expr} {k : Nat} {pos : Pos} {t : TGs} (_ : KMark K) (h : X.K = K) (hc : X.calm = true) (hg : PGs X [a, b] t)
    (hn : (assignEach [a, b] X.env).length = 2 := by rfl) (hst : (assignEach [a, b] X.env).findIdx? (·.1) = none := by rfl) : PG X (.Tuple [a, b] k pos) (gUnl K 2 t) := h ▸ pg_unl hc hg hn hst
theorem pe_stepK {e st : Expr} {te tk : TE} {p3 pos : Pos} (_ : KMark K) (h : X.K = K) (he : PE X e te) (hst : PE X st tk)
    (hgo : ∀ v sl, subscripted (.Slice none none (some st) p3) false v sl = operate [v, sl] (getItem v sl) := by intro _ _; rfl)
    (hlt : ∀ v r, letTemporaryGo e v r = pure () := by intro _ _; rfl) : PE X (.Subscript e (.Slice none none (some st) p3) pos) (tStep K te tk) := h ▸ pe_step he hst hgo hlt
theorem sl_listK (_ : KMark K) (h : X.K = K) : SlR X (rSlL K) := h ▸ sl_list
theorem mt_cntK (_ : KMark K) (h : X.K = K) : MtR X "list.count" (rCnt K) := h ▸ mt_cnt
def tTruth (K : PySem.W.Frag) (ta : TE) : TT := fun σ H Q => ta σ H fun x H' => ∃ k, TruV K x H' k ∧ Q k H'
theorem pt_truthK {a : Expr} {ta : TE} (_ : KMark K) (h : X.K = K) (ha : PE X a ta) (he : ∀ whole, isTrue a X.env whole = (do let v ← whole; standAt a.pos; holding [v] (truthy v))) : PT X a (tTruth K ta) := h ▸ pt_truth ha he
def cInt : List V → Hp → VK → Prop := fun xs H Q => (∃ i, xs = [.int i] ∧ Q (.int i) H) ∨ ∃ k, xs = [.bl k] ∧ Q (.int (if k then 1 else 0)) H
theorem call_intB : CallR X (.type "int") cInt := call_int1
end
end Fo

namespace Fo
open PySem PySem.Spec PyProof.Rows L2
/-! piece Text1 -/
section
open PySem PySem.Spec PyProof.Rows L2
def topS (i : Nat) : Stmt := PySem.Challenge.pw_foldednets_k42_whole_standings_by_ends.main.body.getD i (.Pass ⟨0, 0, 0, 0⟩)
abbrev s_is_place : Stmt := topS 8
theorem sc_is_place : FnScope ["place", "places"] ["place", "places"] (defScope s_is_place) := ⟨rfl, rfl, rfl, by decide +kernel, rfl, by decide +kernel, by decide +kernel⟩
abbrev s_read_net : Stmt := topS 9
theorem sc_read_net : FnScope ["places", "lines", "bits", "place", "near", "at", "line", "low", "high"] ["places", "lines"] (defScope s_read_net) := ⟨rfl, rfl, rfl, by decide +kernel, rfl, by decide +kernel, by decide +kernel⟩
abbrev s_read_folds : Stmt := topS 10
theorem sc_read_folds : FnScope ["near", "order", "lot", "pairs", "at", "place", "other"] ["near", "order"] (defScope s_read_folds) := ⟨rfl, rfl, rfl, by decide +kernel, rfl, by decide +kernel, by decide +kernel⟩
abbrev s_whole_lot : Stmt := topS 11
theorem sc_whole_lot : FnScope ["near"] ["near"] (defScope s_whole_lot) := ⟨rfl, rfl, rfl, by decide +kernel, rfl, by decide +kernel, by decide +kernel⟩
abbrev s_members : Stmt := topS 12
theorem sc_members : FnScope ["lot", "place"] ["lot"] (defScope s_members) := ⟨rfl, rfl, rfl, by decide +kernel, rfl, by decide +kernel, by decide +kernel⟩
abbrev s_first_target : Stmt := topS 13
theorem sc_first_target : FnScope ["near", "lot", "place", "mine", "other", "theirs"] ["near", "lot", "place"] (defScope s_first_target) := ⟨rfl, rfl, rfl, by decide +kernel, rfl, by decide +kernel, by decide +kernel⟩
abbrev s_fold_around : Stmt := topS 14
theorem sc_fold_around : FnScope ["near", "held", "lot", "pairs", "folded", "place", "other"] ["near", "held"] (defScope s_fold_around) := ⟨rfl, rfl, rfl, by decide +kernel, rfl, by decide +kernel, by decide +kernel⟩
abbrev s_goals_behind : Stmt := topS 15
theorem sc_goals_behind : FnScope ["near", "pairs", "where", "place", "other"] ["near", "pairs"] (defScope s_goals_behind) := ⟨rfl, rfl, rfl, by decide +kernel, rfl, by decide +kernel, by decide +kernel⟩
abbrev s_fold_map : Stmt := topS 17
theorem sc_fold_map : FnScope ["places", "lines", "order", "near", "_", "pairs"] ["places", "lines", "order"] (defScope s_fold_map) := ⟨rfl, rfl, rfl, by decide +kernel, rfl, by decide +kernel, by decide +kernel⟩
abbrev s_left_after : Stmt := topS 19
theorem sc_left_after : FnScope ["places", "lines", "order", "lot", "_"] ["places", "lines", "order"] (defScope s_left_after) := ⟨rfl, rfl, rfl, by decide +kernel, rfl, by decide +kernel, by decide +kernel⟩
abbrev s_full_order : Stmt := topS 20
theorem sc_full_order : FnScope ["places", "lines"] ["places", "lines"] (defScope s_full_order) := ⟨rfl, rfl, rfl, by decide +kernel, rfl, by decide +kernel, by decide +kernel⟩
abbrev s_order_around : Stmt := topS 21
theorem sc_order_around : FnScope ["near", "held", "_", "pairs", "place"] ["near", "held"] (defScope s_order_around) := ⟨rfl, rfl, rfl, by decide +kernel, rfl, by decide +kernel, by decide +kernel⟩
abbrev s_may_go : Stmt := topS 23
theorem sc_may_go : FnScope ["people", "ties", "places", "lines", "standing", "knows", "near", "steps", "person", "place", "goals", "other", "goal"] ["people", "ties", "places", "lines", "standing"] (defScope s_may_go) := ⟨rfl, rfl, rfl, by decide +kernel, rfl, by decide +kernel, by decide +kernel⟩
abbrev s_read_nets : Stmt := topS 24
theorem sc_read_nets : FnScope ["people", "ties", "places", "lines", "knows"] ["people", "ties", "places", "lines"] (defScope s_read_nets) := ⟨rfl, rfl, rfl, by decide +kernel, rfl, by decide +kernel, by decide +kernel⟩
abbrev s_check_places : Stmt := topS 25
theorem sc_check_places : FnScope ["knows", "near", "standing", "at", "place"] ["knows", "near", "standing"] (defScope s_check_places) := ⟨rfl, rfl, rfl, by decide +kernel, rfl, by decide +kernel, by decide +kernel⟩
abbrev s_check_standing : Stmt := topS 26
theorem sc_check_standing : FnScope ["knows", "near", "standing", "pair"] ["knows", "near", "standing"] (defScope s_check_standing) := ⟨rfl, rfl, rfl, by decide +kernel, rfl, by decide +kernel, by decide +kernel⟩
abbrev s_parted_pair : Stmt := topS 27
theorem sc_parted_pair : FnScope ["knows", "near", "standing", "person", "place", "other"] ["knows", "near", "standing"] (defScope s_parted_pair) := ⟨rfl, rfl, rfl, by decide +kernel, rfl, by decide +kernel, by decide +kernel⟩
abbrev s_law_draws : Stmt := topS 29
theorem sc_law_draws : FnScope ["_law_cell"] ["_law_cell"] (defScope s_law_draws) := ⟨rfl, rfl, rfl, by decide +kernel, rfl, by decide +kernel, by decide +kernel⟩
abbrev s_law_next : Stmt := topS 30
theorem sc_law_next : FnScope ["_law_draws_here", "_law_k", "_law_drawn"] ["_law_draws_here"] (defScope s_law_next) := ⟨rfl, rfl, rfl, by decide +kernel, rfl, by decide +kernel, by decide +kernel⟩
abbrev s_law_shuffled : Stmt := topS 31
theorem sc_law_shuffled : FnScope ["_law_draws_here", "_law_things", "_law_left", "_law_told"] ["_law_draws_here", "_law_things"] (defScope s_law_shuffled) := ⟨rfl, rfl, rfl, by decide +kernel, rfl, by decide +kernel, by decide +kernel⟩
abbrev s_law_grown : Stmt := topS 32
theorem sc_law_grown : FnScope ["_law_draws_here", "_law_size", "_law_sides", "_law_start", "_law_told", "_law_side", "_law_spot", "_law_goal", "_law_some", "_law_low", "_law_high", "_law_mate"] ["_law_draws_here", "_law_size", "_law_sides", "_law_start"] (defScope s_law_grown) := ⟨rfl, rfl, rfl, by decide +kernel, rfl, by decide +kernel, by decide +kernel⟩
abbrev s_law_web : Stmt := topS 33
theorem sc_law_web : FnScope ["_law_draws_here", "_law_size", "_law_kind", "_law_step", "_law_told", "_law_low", "_law_high", "_law_far", "_law_ring", "_law_spot", "_law_names", "_law_side"] ["_law_draws_here", "_law_size", "_law_kind"] (defScope s_law_web) := ⟨rfl, rfl, rfl, by decide +kernel, rfl, by decide +kernel, by decide +kernel⟩
abbrev s_law_near : Stmt := topS 34
theorem sc_law_near : FnScope ["_law_size", "_law_sides", "_law_told", "_law_spot", "_law_low", "_law_high"] ["_law_size", "_law_sides"] (defScope s_law_near) := ⟨rfl, rfl, rfl, by decide +kernel, rfl, by decide +kernel, by decide +kernel⟩
abbrev s_law_onto : Stmt := topS 35
theorem sc_law_onto : FnScope ["_law_near_here", "_law_left", "_law_spot", "_law_some", "_law_mate", "_law_one"] ["_law_near_here", "_law_left", "_law_spot"] (defScope s_law_onto) := ⟨rfl, rfl, rfl, by decide +kernel, rfl, by decide +kernel, by decide +kernel⟩
abbrev s_law_foldable : Stmt := topS 36
theorem sc_law_foldable : FnScope ["_law_near_here", "_law_left", "_law_spot"] ["_law_near_here", "_law_left"] (defScope s_law_foldable) := ⟨rfl, rfl, rfl, by decide +kernel, rfl, by decide +kernel, by decide +kernel⟩
abbrev s_law_stands : Stmt := topS 37
theorem sc_law_stands : FnScope ["_law_crowd", "_law_knots", "_law_spots", "_law_near_here", "_law_rows", "_law_person", "_law_friends", "_law_low", "_law_high", "_law_some", "_law_row", "_law_spot"] ["_law_crowd", "_law_knots", "_law_spots", "_law_near_here"] (defScope s_law_stands) := ⟨rfl, rfl, rfl, by decide +kernel, rfl, by decide +kernel, by decide +kernel⟩
abbrev s_law_let : Stmt := topS 38
theorem sc_law_let : FnScope ["_law_near_here", "_law_friends", "_law_row", "_law_spot", "_law_friend"] ["_law_near_here", "_law_friends", "_law_row", "_law_spot"] (defScope s_law_let) := ⟨rfl, rfl, rfl, by decide +kernel, rfl, by decide +kernel, by decide +kernel⟩
abbrev s_law_lots : Stmt := topS 39
theorem sc_law_lots : FnScope ["_law_crowd", "_law_knots", "_law_spots", "_law_near_here", "_law_rows", "_law_marks", "_law_at", "_law_row", "_law_person", "_law_spot", "_law_later", "_law_old", "_law_new", "_law_key"] ["_law_crowd", "_law_knots", "_law_spots", "_law_near_here"] (defScope s_law_lots) := ⟨rfl, rfl, rfl, by decide +kernel, rfl, by decide +kernel, by decide +kernel⟩
abbrev s_law_ends_right : Stmt := topS 40
theorem sc_law_ends_right : FnScope ["_law_size", "_law_sides", "_law_crowd", "_law_knots", "_law_kept", "_law_near_here", "_law_order_now", "_law_goals", "_law_left", "_law_marks", "_law_less", "_law_there", "_law_key", "_law_aim", "_law_spot"] ["_law_size", "_law_sides", "_law_crowd", "_law_knots"] (defScope s_law_ends_right) := ⟨rfl, rfl, rfl, by decide +kernel, rfl, by decide +kernel, by decide +kernel⟩
abbrev s_law_hangs : Stmt := topS 41
theorem sc_law_hangs : FnScope ["_law_size", "_law_sides", "_law_marks", "_law_low", "_law_high", "_law_old", "_law_new", "_law_mark"] ["_law_size", "_law_sides"] (defScope s_law_hangs) := ⟨rfl, rfl, rfl, by decide +kernel, rfl, by decide +kernel, by decide +kernel⟩
abbrev s_law_crowd_right : Stmt := topS 42
theorem sc_law_crowd_right : FnScope ["_law_size", "_law_sides", "_law_crowd", "_law_knots", "_law_marks", "_law_hangs_here", "_law_there", "_law_key"] ["_law_size", "_law_sides", "_law_crowd", "_law_knots"] (defScope s_law_crowd_right) := ⟨rfl, rfl, rfl, by decide +kernel, rfl, by decide +kernel, by decide +kernel⟩
abbrev s_law : Stmt := topS 43
theorem sc_law : FnScope ["_law_script", "_law_draws_here", "_law_cell", "_law_kind", "_law_size", "_law_sides", "_law_crowd", "_law_ring", "_law_knots", "_law_round_now", "_law_spot"] ["_law_script"] (defScope s_law) := ⟨rfl, rfl, rfl, by decide +kernel, rfl, by decide +kernel, by decide +kernel⟩

end
end Fo
/-! piece Dat -/
namespace Fo
open PySem PySem.Spec PyProof.Rows L2
/-! ## plain data: may be compared and shown -/
structure DOk (n b : Nat) (d : PyData) : Prop where
  lay : d.canLay0 = true
  dep : d.depth ≤ n
  sh : d.showable = true
  nd : d.hasDict = false
  len : d.shown.length ≤ b
theorem DOk.mono {n m b c : Nat} {d : PyData} (h : DOk n b d) (hn : n ≤ m) (hb : b ≤ c) : DOk m c d :=
  ⟨h.lay, Nat.le_trans h.dep hn, h.sh, h.nd, Nat.le_trans h.len hb⟩
theorem DOk.shaped {n b : Nat} {d : PyData} (h : DOk n b d) (hn : n ≤ 64) : SeqAt.shaped d = true := by
  unfold SeqAt.shaped
  rw [h.lay, decide_eq_true (Nat.le_trans h.dep hn)]
  rfl
theorem dok_none : DOk 0 4 .none := ⟨rfl, Nat.le_refl _, rfl, rfl, by decide⟩
theorem dok_bool (k : Bool) : DOk 0 5 (.bool k) := by cases k <;> exact ⟨rfl, Nat.le_refl _, rfl, rfl, by decide⟩
theorem natLen : ∀ n : Fin 1000, (PyData.shown (.int (Int.ofNat n.val))).length ≤ 4 ∧ (PyData.shown (.int (Int.negSucc n.val))).length ≤ 5 := by decide +kernel
theorem dok_int {i : Int} (h : i.natAbs < 1000) : DOk 0 5 (.int i) := by
  refine ⟨rfl, Nat.le_refl _, ?_, rfl, ?_⟩
  · unfold PyData.showable
    apply decide_eq_true
    have h1 : i.natAbs.log2 ≤ i.natAbs := Nat.log2_le_self _
    omega
  · cases i with
    | ofNat n => exact Nat.le_trans (natLen ⟨n, h⟩).1 (by decide)
    | negSucc n => exact (natLen ⟨n, by simp [Int.natAbs_negSucc] at h; omega⟩).2
theorem textFrom_le : ∀ (ts : List Str) (k : Nat) (acc : Str), (textFrom k acc ts).length ≤ acc.length + piled ts
  | [], k, acc => by
    show acc.length ≤ acc.length + piled []
    rw [piled_nil]
    exact Nat.le_refl _
  | t :: r, k, acc => by
    have h := textFrom_le r (k + 1) (acc ++ (if k > 0 then ", " else "" : String) ++ t)
    have e : (acc ++ (if k > 0 then ", " else "" : String) ++ t).length ≤ acc.length + 2 + t.length := by
      rw [strLen_append, strLen_append]
      split
      · exact Nat.le_refl _
      · exact Nat.add_le_add_right (Nat.add_le_add_left (Nat.zero_le _) _) _
    rw [piled_cons]
    show (textFrom (k + 1) _ r).length ≤ _
    omega
theorem listText_le (ts : List Str) : (listText ts).length ≤ 2 + piled ts := by
  have h := textFrom_le ts 0 "["
  unfold listText
  rw [strLen_append]
  have e1 : (Str.ofString "[").length = 1 := rfl
  have e2 : (Str.ofString "]").length = 1 := rfl
  omega
theorem tupleText_le (ts : List Str) : (tupleText ts).length ≤ 3 + piled ts := by
  unfold tupleText
  rw [strLen_append, strLen_append]
  have e1 : (Str.ofString "(").length = 1 := rfl
  have e3 : (Str.ofString (if ts.length == 1 then ",)" else ")")).length ≤ 2 := by split <;> decide
  by_cases h : ts = []
  · subst h
    have : (Str.join ", " ([] : List Str)).length = 0 := rfl
    omega
  · have := join_length_add ts h
    omega
theorem all_of {n b : Nat} : ∀ {xs : List PyData}, (∀ x ∈ xs, DOk n b x) → PyData.canLayAll0 xs = true ∧ PyData.depthAll xs ≤ n ∧ PyData.showableAll xs = true ∧ PyData.hasDictAll xs = false ∧ piled (PyData.shownAll xs) ≤ xs.length * (b + 2)
  | [], _ => ⟨rfl, Nat.zero_le _, rfl, rfl, by show piled [] ≤ _; rw [piled_nil]; exact Nat.zero_le _⟩
  | x :: xs, h => by
    obtain ⟨h1, h2, h3, h4, h5⟩ := all_of (xs := xs) fun y hy => h y (List.mem_cons_of_mem _ hy)
    have hx := h x (List.mem_cons_self ..)
    refine ⟨?_, ?_, ?_, ?_, ?_⟩
    · unfold PyData.canLayAll0; rw [hx.lay, h1]; rfl
    · unfold PyData.depthAll; exact Nat.max_le.mpr ⟨hx.dep, h2⟩
    · unfold PyData.showableAll; rw [hx.sh, h3]; rfl
    · unfold PyData.hasDictAll; rw [hx.nd, h4]; rfl
    · show piled (PyData.shown x :: PyData.shownAll xs) ≤ (xs.length + 1) * (b + 2)
      rw [piled_cons, Nat.succ_mul]
      have := hx.len
      omega
theorem dok_list {n b : Nat} {xs : List PyData} (h : ∀ x ∈ xs, DOk n b x) : DOk (n + 1) (2 + xs.length * (b + 2)) (.list xs) := by
  obtain ⟨h1, h2, h3, h4, h5⟩ := all_of h
  refine ⟨?_, ?_, ?_, ?_, ?_⟩
  · unfold PyData.canLay0; exact h1
  · unfold PyData.depth; omega
  · unfold PyData.showable; exact h3
  · unfold PyData.hasDict; exact h4
  · unfold PyData.shown; exact Nat.le_trans (listText_le _) (by omega)
theorem dok_tuple {n b : Nat} {xs : List PyData} (h : ∀ x ∈ xs, DOk n b x) : DOk (n + 1) (3 + xs.length * (b + 2)) (.tuple xs) := by
  obtain ⟨h1, h2, h3, h4, h5⟩ := all_of h
  refine ⟨?_, ?_, ?_, ?_, ?_⟩
  · unfold PyData.canLay0; exact h1
  · unfold PyData.depth; omega
  · unfold PyData.showable; exact h3
  · unfold PyData.hasDict; exact h4
  · unfold PyData.shown; exact Nat.le_trans (tupleText_le _) (by omega)
theorem eqv_list_nil (ds : List PyData) : PyData.eqv (.list ds) (.list []) = ds.isEmpty := by
  cases ds <;> simp [PyData.eqv, PyData.eqvAll]

section
variable {K : PySem.W.Frag} {H H' : Hp}
theorem dp_ints : ∀ xs : List Int, DpAll K H (xs.map V.int) (xs.map PyData.int)
  | [] => .nil
  | x :: xs => .cons (.int x) (dp_ints xs)
theorem dpAll_of {f : V → PyData} : ∀ {xs : List V}, (∀ x ∈ xs, Dp K H x (f x)) → DpAll K H xs (xs.map f)
  | [], _ => .nil
  | x :: xs, h => .cons (h x (List.mem_cons_self ..)) (dpAll_of fun y hy => h y (List.mem_cons_of_mem _ hy))
end
end Fo
namespace Fo
open PySem PySem.Spec PyProof.Rows L2
theorem ifF {b : Bool} {A B : Prop} (e : b = false) (h : B) : if b = true then A else B := by
  rw [e, if_neg Bool.false_ne_true]
  exact h
theorem ifT {b : Bool} {A B : Prop} (e : b = true) (h : A) : if b = true then A else B := by
  rw [if_pos e]
  exact h
theorem perm_erase {α : Type} : ∀ {l : List α} {j : Nat} {y : α}, l[j]? = some y → (y :: l.eraseIdx j).Perm l
  | [], _, _, h => by simp at h
  | a :: r, 0, y, h => by
    simp at h
    subst h
    exact List.Perm.refl _
  | a :: r, j + 1, y, h => by
    simp only [List.getElem?_cons_succ] at h
    exact (List.Perm.swap a y _).trans (List.Perm.cons a (perm_erase h))
theorem perm_move {α : Type} {ts ls xs : List α} {j : Nat} {y : α} (h : ls[j]? = some y) (p : (ts ++ ls).Perm xs) : ((ts ++ [y]) ++ ls.eraseIdx j).Perm xs := by
  refine List.Perm.trans ?_ p
  rw [List.append_assoc]
  exact List.Perm.append_left ts (perm_erase h)
/-- an index that is a remainder by the length -/
theorem mod_ix {n : Int} {len : Nat} (h : 0 < len) : ∃ j, j < len ∧ n % (len : Int) = (j : Int) := by
  have h1 := Int.emod_nonneg n (show (len : Int) ≠ 0 by omega)
  have h2 := Int.emod_lt_of_pos n (show (0 : Int) < len by omega)
  exact ⟨(n % (len : Int)).toNat, by omega, by omega⟩
theorem seqIx {j len : Nat} (h : j < len) : PySem.seqIndex? (j : Int) len = some j := by
  have h1 : ixN len (j : Int) = some j := by
    unfold ixN
    rw [if_pos (by omega), if_pos (by omega)]
    rfl
  exact (ixN_seq h1).1
end Fo
namespace Fo
open PySem PySem.Spec PyProof.Rows L2
theorem same_upd {H0 H : Hp} {r : Addr} {o : HO} (s : Same H0 H) (h : H0 r = none) : Same H0 (upd H r o) := fun b x e => by
  rw [upd_ne (ne_of_none e h)]
  exact s b x e
/-- lists of numbers of our own, in a list of our own -/
structure LsAt (H0 H : Hp) (D : Addr) (rs : List Addr) (ts : List (List Int)) : Prop where
  hD : H D = some (.lst (rs.map V.ref))
  nd : rs.Nodup
  len : rs.length = ts.length
  at_ : ∀ (i : Nat) (r : Addr) (t : List Int), rs[i]? = some r → ts[i]? = some t → H r = some (.lst (t.map V.int))
  fr : ∀ r ∈ rs, H0 r = none
  nD : D ∉ rs
theorem LsAt.trk {H0 H : Hp} {D : Addr} {rs : List Addr} {ts : List (List Int)} (L : LsAt H0 H D rs ts) {r : Addr} (h : r ∈ rs) : ∃ o, H r = some o := by
  obtain ⟨i, hi⟩ := List.getElem?_of_mem h
  have hl : i < ts.length := by rw [← L.len]; exact (List.getElem?_eq_some_iff.mp hi).1
  exact ⟨_, L.at_ i r _ hi (List.getElem?_eq_getElem hl)⟩
theorem LsAt.nil {H0 H : Hp} {D : Addr} (h : H D = some (.lst [])) : LsAt H0 H D [] [] :=
  ⟨h, List.nodup_nil, rfl, (fun i r t h _ => by simp at h), (fun r h => nomatch h), (fun h => nomatch h)⟩
theorem LsAt.push {H0 H : Hp} {D r : Addr} {rs : List Addr} {ts : List (List Int)} {t : List Int} (L : LsAt H0 H D rs ts) (nr : H r = none) (n0 : H0 r = none) :
    LsAt H0 (upd (upd H r (.lst (t.map V.int))) D (.lst (rs.map V.ref ++ [V.ref r]))) D (rs ++ [r]) (ts ++ [t]) := by
  have hDr : D ≠ r := ne_of_none L.hD nr
  have hrn : r ∉ rs := fun h => by
    obtain ⟨o, e⟩ := L.trk h
    rw [nr] at e
    cases e
  refine ⟨?_, ?_, ?_, ?_, ?_, ?_⟩
  · rw [upd_same, List.map_append]
    rfl
  · rw [List.nodup_append]
    refine ⟨L.nd, by simp, ?_⟩
    intro a ha b hb
    simp at hb
    subst hb
    rintro rfl
    exact hrn ha
  · rw [List.length_append, List.length_append, L.len]
    rfl
  · intro i a u ha hu
    by_cases hi : i < rs.length
    · rw [List.getElem?_append_left hi] at ha
      rw [List.getElem?_append_left (by rw [← L.len]; exact hi)] at hu
      have hm := List.mem_of_getElem? ha
      rw [upd_ne (show a ≠ D from fun e => L.nD (by rw [← e]; exact hm)), upd_ne (show a ≠ r from fun e => hrn (by rw [← e]; exact hm))]
      exact L.at_ i a u ha hu
    · rw [List.getElem?_append_right (by omega)] at ha
      rw [List.getElem?_append_right (by rw [← L.len]; omega), ← L.len] at hu
      have e0 : i - rs.length = 0 := by
        have := (List.getElem?_eq_some_iff.mp ha).1
        simp at this
        omega
      rw [e0] at ha hu
      simp at ha hu
      subst ha hu
      rw [upd_ne hDr.symm, upd_same]
  · intro a ha
    rcases List.mem_append.mp ha with ha | ha
    · exact L.fr a ha
    · simp at ha
      subst ha
      exact n0
  · intro h
    rcases List.mem_append.mp h with h | h
    · exact L.nD h
    · simp at h
      exact hDr h
theorem LsAt.modify {H0 H : Hp} {D r : Addr} {rs : List Addr} {ts : List (List Int)} {j : Nat} {t : List Int} {v : Int} (L : LsAt H0 H D rs ts) (hr : rs[j]? = some r) (ht : ts[j]? = some t) :
    LsAt H0 (upd H r (.lst (t.map V.int ++ [V.int v]))) D rs (ts.modify j (· ++ [v])) := by
  have hm := List.mem_of_getElem? hr
  refine ⟨?_, L.nd, ?_, ?_, L.fr, L.nD⟩
  · rw [upd_ne (fun e => L.nD (by rw [e]; exact hm))]
    exact L.hD
  · rw [List.length_modify]
    exact L.len
  · intro i a u ha hu
    rw [List.getElem?_modify] at hu
    by_cases hij : i = j
    · subst hij
      rw [hr] at ha
      cases ha
      rw [ht] at hu
      simp at hu
      subst hu
      rw [upd_same, List.map_append]
      rfl
    · have hne : a ≠ r := fun e => by
        subst e
        exact hij (nd_ix L.nd ha hr)
      rw [upd_ne hne]
      simp only [if_neg (Ne.symm hij)] at hu
      exact L.at_ i a u ha (by simpa using hu)
theorem LsAt.fr_none {H0 H : Hp} {D : Addr} {rs : List Addr} {ts : List (List Int)} (L : LsAt H0 H D rs ts) (h : H0 D = none) : H0 D = none := h
theorem LsAt.but {H0 H : Hp} {D r : Addr} {rs : List Addr} {ts : List (List Int)} {o : HO} (L : LsAt H0 H D rs ts) (nr : H r = none) : LsAt H0 (upd H r o) D rs ts := by
  refine ⟨by rw [upd_ne (ne_of_none L.hD nr)]; exact L.hD, L.nd, L.len, ?_, L.fr, L.nD⟩
  intro i a u ha hu
  rw [upd_ne (ne_of_none (L.at_ i a u ha hu) nr)]
  exact L.at_ i a u ha hu
theorem LsAt.same {H0 H H' : Hp} {D : Addr} {rs : List Addr} {ts : List (List Int)} (L : LsAt H0 H D rs ts) (s : Same H H') : LsAt H0 H' D rs ts :=
  ⟨s _ _ L.hD, L.nd, L.len, fun i r t h1 h2 => s _ _ (L.at_ i r t h1 h2), L.fr, L.nD⟩
end Fo

/-! piece Aux3 -/
namespace Fo
open PySem PySem.Spec PyProof.Rows L2
section
variable {X : Cx}
/-! ## x is not True -/
def isTrueV (x : V) : Bool := match x with
  | .bl true => true
  | _ => false
def rNotT : R2 := fun x y H Q => y = .bl true ∧ Q (.bl (!isTrueV x)) H
theorem op_notT : OpR X (compareOp .IsNot) rNotT := by
  intro pins s σ H x y v u Q I rx ry h
  obtain ⟨rfl, q⟩ := h
  cases (show u = Value.bool true from ry)
  have fin : ∀ b : Bool, b = !isTrueV x → EP X pins σ Q (.bool b) s := fun b e => ⟨.bl b, H, I, rfl, by rw [e]; exact q⟩
  cases x with
  | bl b =>
    cases (show v = Value.bool b from rx)
    cases b with
    | true => exact wpAny_isNot_self rfl (fin false rfl)
    | false => exact wpAny_isNot_other rfl (fun z => nomatch z) (fin true rfl)
  | non => cases (show v = Value.none from rx); exact wpAny_isNot_other rfl (fun z => nomatch z) (fin true rfl)
  | ty n => cases (show v = Value.type n from rx); exact wpAny_isNot_other rfl (fun z => nomatch z) (fin true rfl)
  | ref a => cases (show v = Value.ref a from rx); exact wpAny_isNot_other rfl (fun z => nomatch z) (fin true rfl)
  | int i => obtain ⟨t, rfl⟩ := (show ∃ t, v = Value.int i t from rx); exact wpAny_isNot_other rfl (fun z => nomatch z) (fin true rfl)
  | str i => obtain ⟨t, rfl⟩ := (show ∃ t, v = Value.str i t from rx); exact wpAny_isNot_other rfl (fun z => nomatch z) (fin true rfl)
  | byt i => obtain ⟨t, rfl⟩ := (show ∃ t, v = Value.bytes i t from rx); exact wpAny_isNot_other rfl (fun z => nomatch z) (fin true rfl)
  | flt i => obtain ⟨t, rfl⟩ := (show ∃ t, v = Value.float i t from rx); exact wpAny_isNot_other rfl (fun z => nomatch z) (fin true rfl)
/-! ## a test of three comparisons in a row -/
section
variable {a b c d : Expr} {pos : Pos} {ta tb tc td : TE}
def tChain3 (r r' r'' : R2) (ta tb tc td : TE) : TT := fun σ H Q => ta σ H fun x H1 => tb σ H1 fun y H2 => r x y H2 fun z H3 => ∃ k, z = .bl k ∧
  (if k = true then tc σ H3 fun w' H4 => r' y w' H4 fun z2 H5 => ∃ k2, z2 = .bl k2 ∧ (if k2 = true then td σ H5 fun w2 H6 => r'' w' w2 H6 fun z3 H7 => ∃ k3, z3 = .bl k3 ∧ Q k3 H7 else Q false H5) else Q false H3)
theorem pt_chain3 {op op' op'' : CmpOp} {r r' r'' : R2} (ho : OpR X (compareOp op) r) (ho' : OpR X (compareOp op') r') (ho'' : OpR X (compareOp op'') r'') (ha : PE X a ta) (hb : PE X b tb) (hc : PE X c tc) (hd : PE X d td)
    (hm : lastMarks [op, op', op''] [b, c, d] = false := by with_unfolding_all rfl) : PT X (.Compare a [op, op', op''] [b, c, d] pos) (tChain3 r r' r'' ta tb tc td) := by
  refine ⟨fun pins s σ H Q I h => ?_⟩
  refine isTrue_chain (thn (ha.run pins s σ H _ I h) fun v s1 ⟨x, H1, I1, r1, q1⟩ => test_link (thn (hb.run pins s1 σ H1 _ I1 q1) fun u s2 ⟨y, H2, I2, r2, q2⟩ =>
    thn (ho pins s2 σ H2 x y v u _ I2 r1 r2 q2) fun d s3 ⟨z, H3, I3, r3, k, e, q3⟩ => ?_)) hm
  subst e
  cases r3
  refine wpAny_truthy_bool ?_
  cases k with
  | false => exact ite_ff ⟨H3, I3, q3⟩
  | true =>
    refine ite_tt (test_link (thn (hc.run pins s3 σ H3 _ I3 q3) fun w' s4 ⟨z', H4, I4, r4, q4⟩ => thn (ho' pins s4 σ H4 y z' u w' _ I4 r2 r4 q4) fun d' s5 ⟨z2, H5, I5, r5, k2, e2, q5⟩ => ?_))
    subst e2
    cases r5
    refine wpAny_truthy_bool ?_
    cases k2 with
    | false => exact ite_ff ⟨H5, I5, q5⟩
    | true =>
      refine ite_tt (test_last (thn (hd.run pins s5 σ H5 _ I5 q5) fun w2 s6 ⟨z6, H6, I6, r6, q6⟩ => thn (ho'' pins s6 σ H6 z' z6 w' w2 _ I6 r4 r6 q6) fun d2 s7 ⟨z7, H7, I7, r7, k7, e7, q7⟩ => ?_))
      subst e7
      cases r7
      exact wpAny_truthy_bool ⟨H7, I7, q7⟩
end
/-! ## a[i] |= e of a list of ints -/
def rGetL : V → V → Hp → VK → Prop := fun o i H Q => ∃ p xs k j y, o = .ref p ∧ i = .int k ∧ H p = some (.lst xs) ∧ 0 ≤ k ∧ k.toNat = j ∧ xs[j]? = some y ∧ Q y H
theorem get_list : PGet X rGetL := by
  intro pins s σ H o i ov iv Q I ro ri h
  obtain ⟨p, xs, k, j, y, rfl, rfl, hp, h0, hj, hy, q⟩ := h
  cases ro
  obtain ⟨t, rfl⟩ := (show ∃ t, iv = Value.int k t from ri)
  obtain ⟨its, n, r, ho, hz⟩ := I.lst hp
  obtain ⟨w, ew, rw'⟩ := r.get hy
  have hl := r.length
  have hn := line63
  have hjl : j < xs.length := (List.getElem?_eq_some_iff.mp hy).1
  obtain ⟨its2, r2, pl, _⟩ := I.list (SqL.of hp)
  obtain ⟨w2, ew2, rw2⟩ := r2.get hy
  have fin : EP X pins σ Q w2 s := ⟨y, H, I, rw2, q⟩
  exact wpAny_mono (wpAny_getItem_list (Q := fun r s' => r = w2 ∧ EP X pins σ Q r s') pl.isList h0 (by omega) (by rw [hj]; simpa using ew2) ⟨rfl, fin⟩) (fun v s' z => z.2) (fun _ _ z => z)
theorem ip_or : PIp X .BitOr (ipI fun i j => Builtin.bitOr i j) := by
  intro pins s σ H x y v u Q I r1 r2 h
  obtain ⟨i, j, e1, e2, q⟩ := h
  subst e1; subst e2
  obtain ⟨t, rfl⟩ := r1
  obtain ⟨t', rfl⟩ := r2
  exact ior_int ⟨.int _, H, I.tok _, ⟨_, rfl⟩, q⟩
theorem ip_and : PIp X .BitAnd (ipI fun i j => Builtin.bitAnd i j) := by
  intro pins s σ H x y v u Q I r1 r2 h
  obtain ⟨i, j, e1, e2, q⟩ := h
  subst e1; subst e2
  obtain ⟨t, rfl⟩ := r1
  obtain ⟨t', rfl⟩ := r2
  exact iand_int ⟨.int _, H, I.tok _, ⟨_, rfl⟩, q⟩
theorem ip_xor : PIp X .BitXor (ipI fun i j => Builtin.bitXor i j) := by
  intro pins s σ H x y v u Q I r1 r2 h
  obtain ⟨i, j, e1, e2, q⟩ := h
  subst e1; subst e2
  obtain ⟨t, rfl⟩ := r1
  obtain ⟨t', rfl⟩ := r2
  exact ixor_int ⟨.int _, H, I.tok _, ⟨_, rfl⟩, q⟩
/-! ## bits of natural numbers -/
theorem bAnd (a b : Nat) : Builtin.bitAnd (a : Int) (b : Int) = ((a &&& b : Nat) : Int) := by
  rw [bitAnd_pp (Int.natCast_nonneg a) (Int.natCast_nonneg b)]
  rfl
theorem bOr (a b : Nat) : Builtin.bitOr (a : Int) (b : Int) = ((a ||| b : Nat) : Int) := by
  rw [bitOr_nn (Int.natCast_nonneg a) (Int.natCast_nonneg b)]
  rfl
theorem bit_test (v k : Nat) : (Builtin.bitAnd ((v : Int) / 2 ^ k) 1 != 0) = v.testBit k := by
  have e : (v : Int) / 2 ^ k = ((v / 2 ^ k : Nat) : Int) := by rw [Int.natCast_ediv, Int.natCast_pow]; rfl
  rw [e, show Builtin.bitAnd ((v / 2 ^ k : Nat) : Int) 1 = ((v / 2 ^ k &&& 1 : Nat) : Int) from bAnd _ 1, Nat.testBit_eq_decide_div_mod_eq, Nat.and_one_is_mod]
  rcases Nat.mod_two_eq_zero_or_one (v / 2 ^ k) with h | h <;> rw [h] <;> rfl
end
end Fo
namespace Fo
open PySem PySem.Spec PyProof.Rows L2
theorem cut_1 (xs : List V) : cutV xs (some 1) none = xs.drop 1 := by
  unfold cutV
  rw [show HT.sIx xs.length 0 (some 1) = min 1 xs.length from HT.sIx_nat xs.length 0 1, HT.sIx_none]
  cases xs with
  | nil => rfl
  | cons x r =>
    rw [show min 1 (x :: r).length = 1 from Nat.min_eq_left (by rw [List.length_cons]; omega), List.drop_succ_cons, List.drop_zero, List.length_cons, Nat.add_sub_cancel, List.take_length]
end Fo

namespace Fo
open PySem PySem.Spec PyProof.Rows L2
/-! piece Aux4 -/
section
open PySem PySem.Spec PyProof.Rows L2
theorem pe_lcN {X : Cx} {N : List Str} {sc : Scope} {elt tg iter : Expr} {ifs : List Expr} {scope : Scope} {pos : Pos} {wi : TI} {g : TG} {tt : TT} {te : TE} {vs : List Nat}
    (nd : N.Nodup) (hXN : X.N = N) (hXs : X.env.scope = sc)
    (hv : (ownOf N scope).map (·.2) = vs) (hb : blkC N sc scope (ownOf N scope) = true) (hc : X.calm = true) (hi : PI X tg iter wi)
    (hg : ∀ (s : Shared) (H : Hp) (C : Addr) (cl : List (Str × Addr)) (fp : List Addr), PG (X.blk s H scope (compEnvC scope cl C X.env) fp) tg g)
    (ht : ∀ (s : Shared) (H : Hp) (C : Addr) (cl : List (Str × Addr)) (fp : List Addr), PTs (X.blk s H scope (compEnvC scope cl C X.env) fp) ifs tt)
    (he : ∀ (s : Shared) (H : Hp) (C : Addr) (cl : List (Str × Addr)) (fp : List Addr), PE (X.blk s H scope (compEnvC scope cl C X.env) fp) elt te)
    (hs : ∀ x, foldedSetIterable iter X.env x = pure x := by intro _; rfl) :
    PE X (.ListComp elt [⟨tg, iter, ifs, 0⟩] scope pos) (tLc wi g tt te vs) := by
  subst hv
  refine pe_lc hc (by rw [hXN]; exact nd) hi ?_ hg ht he hs
  rw [hXN, hXs]
  exact blkOk_by hb
theorem call_minK {X : Cx} {K : PySem.W.Frag} (_ : KMark K) (h : X.K = K) (hc : X.calm = true) : CallR X (.builtin "min") (rMin K) := h ▸ cr_min hc

end
/-! piece EN -/
section
open PySem PySem.Spec PyProof.Rows L2
/-! ### enumerate(list, c), enumerate(list, start=c) -/
def ItE (K : PySem.W.Frag) (a : Addr) (c : Int) : It where
  go i H := ∃ (ys : List V) (y : V), SqL K H a ys ∧ ys[i]? = some y
  yld i H v G := ∃ T y, v = .ref T ∧ H T = none ∧ G = upd H T (.tup [.int (c + (i : Nat)), y]) ∧ ∀ ys, SqL K H a ys → ys[i]? = some y
  stop i H := ∃ ys : List V, SqL K H a ys ∧ ys.length = i
theorem turn_enumC {P : Program} {w : World} {K : PySem.W.Frag} {es : List Expr} {kk : Nat} {tp : Pos} (c : Int) (a e it : Addr) :
    Turn P w K (.Tuple es kk tp) (ItE K a c) [e, it] e (fun i h => (∃ old, IsEnum h e it (c + (i : Nat)) old) ∧ h.IsListIter it a i ∧ e ≠ it) := by
  refine ⟨by simp, ?ob, ?ke, ?im, ?dn, ?sf⟩
  case ob =>
    rintro i h ⟨⟨old, he⟩, ⟨o, ho, hc, hd⟩, _⟩ b hb
    rcases (show b = e ∨ b = it by simpa using hb) with z | z
    · subst z; exact ⟨_, he, fun v q => nomatch q⟩
    · subst z; exact ⟨o, ho, fun v q => by rw [hd] at q; cases q⟩
  case ke =>
    rintro i h h' ⟨⟨old, he⟩, hi, hne⟩ k
    exact ⟨⟨old, k e (by simp) _ he⟩, hi.at fun o q => k it (by simp) o q, hne⟩
  case im =>
    intro X hP hw hK hc i pins s σ H E I hf st hg
    subst hP hw hK
    obtain ⟨⟨old, he⟩, hit, hne⟩ := st
    obtain ⟨xs, x, hq, hx⟩ := hg
    obtain ⟨its, rv, p, hz⟩ := I.list hq
    obtain ⟨u, hu, ru⟩ := rv.get hx
    have hel : e < s.heap.objs.size := Heap.lt_size he
    have hil : it < s.heap.objs.size := by obtain ⟨_, q, _⟩ := hit; exact Heap.lt_size q
    have hai : a ≠ it := fun z => by
      obtain ⟨o1, h1, c1, _⟩ := hit
      obtain ⟨o2, h2, c2, _⟩ := p.isList
      rw [z, h1] at h2
      cases h2
      rw [c1] at c2
      exact absurd c2 (by decide)
    have hea : e ≠ a := fun z => by
      obtain ⟨o2, h2, c2, _⟩ := p.isList
      rw [← z, show s.heap.get? e = _ from he] at h2
      cases h2
      exact absurd (show Value.type "enumerate" = Value.type "list" from c2) (by decide)
    have D := Draws.list (prog := X.prog) (w := X.w) (A := X.A.in1) (I.ok.hd hc) it a hai its.toArray
    have hlt : i < its.toArray.size := by
      have := (List.getElem?_eq_some_iff.mp hu).1
      simpa using this
    refine wpAny_pyNext_enum_itemC D he ⟨hit, p.isList⟩ hlt hne (by simp [hne, hea]) fun x' h' tk hx' ho hst hT hsz hk => ?_
    obtain rfl : x' = u := by
      have h1 : its.toArray[i]? = some u := by simpa using hu
      rw [h1] at hx'
      exact (Option.some.inj hx').symm
    refine ⟨_, rfl, wpAny_letOwnedTupleGo_enum ho fun h2 he2 sb => ?_⟩
    have hT2 : h2.get? s.heap.objs.size = some { cls := .type "tuple", data := .seq #[.int (c + (i : Nat)) tk, x'] } := (sb.2 _ (Nat.ne_of_gt hel)).trans hT
    have fresh : ObjOk X.prog X.w (upd H s.heap.objs.size (.tup [.int (c + (i : Nat)), x])) h2 s.heap.objs.size (.tup [.int (c + (i : Nat)), x]) :=
      ⟨by show 2 ≤ sizeLine; decide, [.int (c + (i : Nat)) tk, x'], .cons ⟨_, rfl⟩ (.cons ru .nil), ⟨_, hT2, rfl, _, rfl⟩⟩
    have I2 : Inv X pins σ (upd H s.heap.objs.size (.tup [.int (c + (i : Nat)), x])) { s with heap := h2, toks := tk + 1 } :=
      I.turnedNew (ch := [e, it]) (fun b ob hb q => (sb.2 b (fun z => hb (by simp [z]))).trans (hk b ob (fun z => hb (by simp [z])) (fun z => hb (by simp [z])) q)) hf (Nat.le_refl _) fresh
    refine ⟨.ref s.heap.objs.size, _, I2, rfl, ⟨_, x, rfl, I.hok.fresh (Nat.le_refl _), rfl, fun ys hy => by rw [I.list_inj hy hq]; exact hx⟩, ⟨⟨x', ?_⟩, hst.1.at fun o q => (sb.2 it (Ne.symm hne)).trans q, hne⟩, fun b hb => ?_⟩
    · rw [show c + ((i + 1 : Nat) : Int) = c + (i : Nat) + 1 by omega]
      exact he2
    · have hlt2 : b < s.heap.objs.size := by
        rcases (show b = e ∨ b = it by simpa using hb) with z | z
        · subst z; exact hel
        · subst z; exact hil
      rw [upd_ne (Nat.ne_of_lt hlt2)]
      exact (hf b hb).1
  case dn =>
    intro X hP hw hK hc i pins s σ H E I hf st hg
    subst hP hw hK
    obtain ⟨⟨old, he⟩, hit, hne⟩ := st
    obtain ⟨xs, hq, hx⟩ := hg
    obtain ⟨its, rv, p, hz⟩ := I.list hq
    obtain ⟨f0, f1, f2, f3, f4, f5⟩ := hf it (by simp)
    have hl := rv.length
    have hai : a ≠ it := fun z => by
      obtain ⟨o1, h1, c1, _⟩ := hit
      obtain ⟨o2, h2, c2, _⟩ := p.isList
      rw [z, h1] at h2
      cases h2
      rw [c1] at c2
      exact absurd c2 (by decide)
    have D := Draws.list (prog := X.prog) (w := X.w) (A := X.A.in1) (I.ok.hd hc) it a hai its.toArray
    have hn : its.toArray.size = i := by simp; omega
    exact wpAny_pyNext_enum_endD D he ⟨by rw [hn]; exact hit, p.isList⟩ fun h' eb => ⟨rfl, I.turned (t' := s.toks) (fun b o hb q => eb b o hb q) f0 f1 f3 f4 f5⟩
  case sf =>
    rintro A i s Q E ⟨⟨_, he⟩, _⟩ h
    exact wpAny_pyIter_enum he h
/-- what the iterator of the list at a, told from c on, begins with -/
theorem enum_start {X : Cx} {pins : List (Addr × Obj)} {σ : L2.St} {H : Hp} {s1 : Shared} {es : List Expr} {kk : Nat} {tp : Pos} {a : Addr} {c : Int} {R : It → Hp → Prop} {h' : Heap}
    (I : Inv X pins σ H s1) (he : IsEnum h' (s1.heap.objs.size + 1) s1.heap.objs.size c .none) (hit : h'.get? s1.heap.objs.size = some { cls := .type "list_iterator", data := .fields #[.ref a, .int 0 0] })
    (hk : ∀ b o, s1.heap.get? b = some o → h'.get? b = some o) (q : R (ItE X.K a c) H) :
    wpAny (model X.prog X.w) X.A (pyIter (.ref (s1.heap.objs.size + 1))) (PIE X pins σ (.Tuple es kk tp) R) X.xe { s1 with heap := h' } := by
  refine wpAny_pyIter_enum he ?_
  have I2 : Inv X pins σ H { s1 with heap := h' } := I.kept (t' := s1.toks) hk
  refine ⟨s1.heap.objs.size + 1, [s1.heap.objs.size + 1, s1.heap.objs.size], _, _, H, rfl, I2, turn_enumC c a (s1.heap.objs.size + 1) s1.heap.objs.size, ⟨⟨.none, ?_⟩, ⟨_, hit, rfl, rfl⟩, Nat.succ_ne_self _⟩, fun b hb => ?_, q⟩
  · rw [show c + ((0 : Nat) : Int) = c by omega]
    exact he
  · have hle : s1.heap.objs.size ≤ b := by
      rcases (show b = s1.heap.objs.size + 1 ∨ b = s1.heap.objs.size by simpa using hb) with z | z
      · subst z; exact Nat.le_add_right _ _
      · subst z; exact Nat.le_refl _
    exact I.fpOk hle (I.hok.fresh hle)
def iEnumC (K : PySem.W.Frag) (ta : TA) : TI := fun σ H R => ta σ H fun vs H1 => ∃ a xs c, vs = [.ref a, .int c] ∧ SqL K H1 a xs ∧ (-(2 ^ 63) ≤ c ∧ c < 2 ^ 63) ∧ R (ItE K a c) H1
theorem pi_enumC {X : Cx} {K : PySem.W.Frag} {e k : Expr} {ta : TA} {p pos tp : Pos} {es : List Expr} {kk : Nat} (_ : KMark K) (hXK : X.K = K) (hg : Gl X "enumerate") (hm : X.mg "enumerate" = none) (ha : PA X [e, k] ta)
    (hs : starEach [e, k] X.env = [(false, eval e X.env), (false, eval k X.env)] := by rfl) (hs2 : starEach [k] X.env = [(false, eval k X.env)] := by rfl) :
    PI X (.Tuple es kk tp) (.Call (.Name "enumerate" p) [e, k] [] pos) (iEnumC K ta) := by
  subst hXK
  refine ⟨fun pins s σ H R I h => ?_⟩
  refine Call_ (ld_blt I hg hm boot_enumerate (PyProof.Rows.callWith_type1 (thn (ha.run pos pins s σ H _ I h) fun us s1 ⟨vs, H1, I1, r1, q1⟩ => ?_) (by rw [hs, hs2]) (by rw [hs2]; rfl)))
  obtain ⟨a, xs, c, rfl, hq, hc, q⟩ := q1
  cases r1 with
  | cons r rr =>
    cases rr with
    | cons r' rr =>
      cases rr
      cases r
      obtain ⟨t, rfl⟩ := r'
      obtain ⟨its, rv, p', hz⟩ := I1.list hq
      exact enum_begins (begins_list a its.toArray) p'.isList hc.1 hc.2 fun h' he hit hsz hk => enum_start I1 he hit hk q
def iEnumS (K : PySem.W.Frag) (ta tk : TA) : TI := fun σ H R => ta σ H fun vs H1 => tk σ H1 fun zs H2 => ∃ a xs c, vs = [.ref a] ∧ zs = [.int c] ∧ SqL K H2 a xs ∧ (-(2 ^ 63) ≤ c ∧ c < 2 ^ 63) ∧ R (ItE K a c) H2
theorem pi_enumS {X : Cx} {K : PySem.W.Frag} {e : Expr} {kws : List Keyword} {ta tk : TA} {p pos tp : Pos} {es : List Expr} {kk : Nat} (_ : KMark K) (hXK : X.K = K) (hg : Gl X "enumerate") (hm : X.mg "enumerate" = none) (ha : PA X [e] ta) (hkw : PK X kws tk)
    (hall : (backToKw pos (keywordEach kws X.env)).all (·.1.isSome) = true := by rfl) (hks : (backToKw pos (keywordEach kws X.env)).filterMap (·.1) = [Str.ofString "start"] := by rfl)
    (hpl : ((backTo pos (starEach [e] X.env)).any (·.1) || (backToKw pos (keywordEach kws X.env)).any (·.1.isNone)) = false := by rfl) (he : starEach [e] X.env = (false, eval e X.env) :: starEach [] X.env := by rfl) :
    PI X (.Tuple es kk tp) (.Call (.Name "enumerate" p) [e] kws pos) (iEnumS K ta tk) := by
  subst hXK
  refine ⟨fun pins s σ H R I h => ?_⟩
  refine wpAny_Call_Name_kw (ld_blt I hg hm boot_enumerate ?_)
  refine PySem.W.callWith_of (P := fun _ => True) hpl (fun h _ => ⟨.machine, .inr (.inl rfl), .of_pure rfl⟩) (evalArgs_kw2 hall (thn (ha.run pos pins s σ H _ I h) fun us s1 ⟨vs, H1, I1, r1, q1⟩ => thn (hkw.run pos pins s1 σ H1 _ I1 q1) fun ws s2 ⟨zs, H2, I2, r2, q2⟩ => ⟨trivial, ?_⟩) he)
  rw [hks]
  obtain ⟨a, xs, c, rfl, rfl, hq, hc, q⟩ := q2
  obtain ⟨u, rfl, ru⟩ := vals1 r1
  obtain ⟨v, rfl, rv⟩ := vals1 r2
  cases ru
  obtain ⟨t, rfl⟩ := rv
  obtain ⟨its, rv, p', hz⟩ := I2.list hq
  exact enum_begins_start (begins_list a its.toArray) p'.isList hc.1 hc.2 fun h' he hit hsz hk => enum_start I2 he hit hk q
/-- for over such an iterator -/
theorem for_enumC {K : PySem.W.Frag} {a : Addr} {c : Int} {xs : List V} {g : TG} {tb : TS} {D : Ends} {σ : Sl} {H : Hp} (Pv : Nat → Sl → Hp → Prop) (h0 : Pv 0 σ H) (hl : ∀ i σ H, i ≤ xs.length → Pv i σ H → SqL K H a xs)
    (hs : ∀ (i : Nat) x T σ H, xs[i]? = some x → Pv i σ H → H T = none → g (.ref T) σ (upd H T (.tup [.int (c + (i : Nat)), x])) fun σ2 H2 => tb { D with nx := Pv (i + 1), ct := Pv (i + 1), bk := D.nx } σ2 H2)
    (hd : ∀ σ H, Pv xs.length σ H → D.nx σ H) :
    ∃ W : Nat → Nat → Sl → Hp → Prop, (∃ m, W 0 m σ H) ∧ ∀ i m σ H, W i m σ H →
      ((ItE K a c).stop i H ∧ D.nx σ H) ∨ ((ItE K a c).go i H ∧ ∃ N : Sl → Hp → Prop, (∀ σ' H', N σ' H' → ∃ m', m' < m ∧ W (i + 1) m' σ' H') ∧
        ∀ x H', (ItE K a c).yld i H x H' → g x σ H' fun σ2 H2 => tb { D with nx := N, ct := N, bk := D.nx } σ2 H2) := by
  refine ⟨fun i m σ H => m = xs.length - i ∧ i ≤ xs.length ∧ Pv i σ H, ⟨xs.length, by simp, Nat.zero_le _, h0⟩, ?_⟩
  rintro i m σ H ⟨rfl, hi, p⟩
  have q := hl i σ H hi p
  by_cases hlt : i < xs.length
  · refine Or.inr ⟨⟨xs, xs[i], q, List.getElem?_eq_getElem hlt⟩, Pv (i + 1), fun σ' H' p' => ⟨xs.length - (i + 1), by omega, rfl, hlt, p'⟩, ?_⟩
    rintro x H' ⟨T, y, rfl, nT, rfl, hx⟩
    exact hs i y T σ H (hx xs q) p nT
  · obtain rfl : i = xs.length := by omega
    exact Or.inl ⟨⟨xs, q, rfl⟩, hd σ H p⟩

end
/-! piece AX -/
section
open PySem PySem.Spec PyProof.Rows L2
section
variable {X : Cx} {K : PySem.W.Frag}
theorem op_inDK {k : Nat} (_ : KMark K) (h : X.K = K) (hr : Room k X.A) : OpR X (compareOp .In) (rInD K) := h ▸ op_inD (by have := hr.un; omega)
theorem op_notInDK {k : Nat} (_ : KMark K) (h : X.K = K) (hr : Room k X.A) : OpR X (compareOp .NotIn) (rNotInD K) := h ▸ op_notInD (by have := hr.un; omega)
/-- x in y, flat things or data -/
def rInB2 (K : PySem.W.Frag) : R2 := fun x y H Q => rIn K false x y H Q ∨ rInD K x y H Q
def rNotInB2 (K : PySem.W.Frag) : R2 := fun x y H Q => rIn K true x y H Q ∨ rNotInD K x y H Q
theorem op_inB2 {k : Nat} (m : KMark K) (h : X.K = K) (hr : Room k X.A) : OpR X (compareOp .In) (rInB2 K) := (op_inK m h).or (op_inDK m h hr)
theorem op_notInB2 {k : Nat} (m : KMark K) (h : X.K = K) (hr : Room k X.A) : OpR X (compareOp .NotIn) (rNotInB2 K) := (op_notInK m h).or (op_notInDK m h hr)
/-- products of numbers, and lists repeated -/
def rMulB : R2 := fun x y H Q => rI CMul (fun i j => .int (i * j)) x y H Q ∨ rRep x y H Q
theorem opMulB : OpR X (binaryOp .Mult) rMulB := op_mul.or op_rep
end

end
/-! piece SV -/
section
open PySem PySem.Spec PyProof.Rows L2
section
variable {X : Cx}
/-! ### sum(d.values()) -/
def tSumVals (te : TE) : TE := fun σ H Q => te σ H fun x H1 => ∃ (d : Addr) (kvs : List (Key × V)) (ns : List Int), x = .ref d ∧ H1 d = some (.dK kvs) ∧ kvs.map (·.2) = ns.map V.int ∧ Q (.int ns.sum) H1
theorem preSum_ints : ∀ (ns : List Int) (n : Nat), n ≤ ns.length → preSum (fun i => (ns[i]?).getD 0) n = (ns.take n).sum
  | _, 0, _ => rfl
  | ns, n + 1, h => by
    show preSum _ n + (ns[n]?).getD 0 = _
    rw [preSum_ints ns n (Nat.le_of_succ_le h), List.take_succ, List.getElem?_eq_getElem h, List.sum_append]
    simp
theorem pe_sumVals {e : Expr} {te : TE} {p0 pos apos cpos : Pos} (hc : X.calm = true) (hg : Gl X "sum") (hms : X.mg "sum" = none) (he : PE X e te)
    (hbase : attributeBase e "values" X.env (eval e X.env) = eval e X.env := by rfl) (hline : (apos.endLine == cpos.line) = true := by rfl)
    (hs1 : starEach [.Call (.Attribute e "values" apos) [] [] cpos] X.env = (false, eval (.Call (.Attribute e "values" apos) [] [] cpos) X.env) :: starEach [] X.env := by rfl)
    (hp1 : (backTo pos (starEach [] X.env)).any (·.1) = false := by rfl) :
    PE X (.Call (.Name "sum" p0) [.Call (.Attribute e "values" apos) [] [] cpos] [] pos) (tSumVals te) := by
  refine ⟨fun pins s σ H Q I h => ?_⟩
  refine wpAny_Call_Name_kw (ld_blt I hg hms boot_sum ?_)
  refine PyProof.Rows.callWith_builtin1 ?_ hs1 hp1
  rw [hs1]
  show wpAny _ _ (spliced ((false, eval (.Call (.Attribute e "values" apos) [] [] cpos) X.env) :: backTo pos (starEach [] X.env))) _ _ s
  refine Calls.spliced_cons ?_
  refine wpAny_Call_method (T := "dict") (id := "dict.values") hbase rfl hline F.plainAttrs_dict F.slot_dict_values F.type_dict_values (thn (he.run pins s σ H _ I h) fun u s1 ⟨x, H1, I1, rx, d, kvs, ns, ex, hd, hv, q⟩ => ?_)
  subst ex
  obtain rfl : u = Value.ref d := rx
  obtain ⟨hsz, hs, vs, kv, hm⟩ := dk_of I1.hok hd
  obtain ⟨ep, hat⟩ := hm.dictAt
  have hl : kvs.length = vs.length := Paired.length kv
  refine ⟨hm.typeIs, hm.mapOf.noDict, ?_⟩
  have hnl : ns.length = vs.length := by rw [← hl, ← List.length_map (f := V.int), ← hv, List.length_map]
  have hview : ({ s1 with heap := s1.heap.push { cls := .type "dict_values", data := .fields #[.ref d] } } : Shared).heap.IsValuesView s1.heap.objs.size d := ⟨_, Heap.get?_push_size _ rfl, rfl, rfl⟩
  have hat2 : ({ s1 with heap := s1.heap.push { cls := .type "dict_values", data := .fields #[.ref d] } } : Shared).heap.DictAt (mixKind X.prog X.w) d vs ep := hat.push _
  have fin : wpAny (model X.prog X.w) X.A (call (.builtin "sum") [.ref s1.heap.objs.size]) (EP X pins σ Q) X.xe { s1 with heap := s1.heap.push { cls := .type "dict_values", data := .fields #[.ref d] } } := by
    refine call_sum_walkAnyS ?_
    have KS := PySem.W.kdl_values (prog := X.prog) (w := X.w) (knd := mixKind X.prog X.w) (r := s1.heap.objs.size) (d := d) (kvs := vs) (ep := ep)
    obtain ⟨oI, St, hit, W, st⟩ := KS.iter X.A.in1 { s1 with heap := s1.heap.push { cls := .type "dict_values", data := .fields #[.ref d] } } (I1.ok.hd hc) ⟨hview, hat2⟩
    refine hit _ _ ⟨_, _, _, _, vs.length, _, _, fun i => (ns[i]?).getD 0, rfl, W.toS, st, fun b hb => ?_, ?_, fun s' t' hmv => ?_⟩
    · show b < (Heap.push _ oI).objs.size
      rw [Heap.size_push]
      rcases List.mem_cons.mp hb with e | hb
      · rw [e]; exact Nat.lt_succ_self _
      · rw [List.mem_singleton.mp hb]
        exact Nat.lt_succ_of_lt (KS.there _ ⟨hview, hat2⟩).2
    · rintro i v ⟨k, hk⟩
      have hi : i < vs.length := (List.getElem?_eq_some_iff.mp hk).1
      have hkv : kvs[i]? = some kvs[i] := List.getElem?_eq_getElem (by omega)
      obtain ⟨u, hu, ru⟩ := kv_get kv (i := i) (k := kvs[i].1) (v := kvs[i].2) hkv
      rw [hk] at hu
      cases hu
      have h2 : (kvs.map (·.2))[i]? = some kvs[i].2 := by rw [List.getElem?_map, hkv]; rfl
      rw [hv, List.getElem?_map] at h2
      have hn : ns[i]? = some ns[i] := List.getElem?_eq_getElem (by omega)
      rw [hn] at h2
      have h3 : V.int ns[i] = kvs[i].2 := Option.some.inj h2
      rw [← h3] at ru
      obtain ⟨t, rfl⟩ := ru
      exact ⟨t, by show Value.int ns[i] t = Value.int ((ns[i]?).getD 0) t; rw [hn]; rfl⟩
    · have hk : ∀ b o, s1.heap.get? b = some o → s'.heap.get? b = some o := fun b o e =>
        hmv.heap b o (fun hI => absurd (Heap.lt_size (Heap.get?_push_of_some { cls := .type "dict_values", data := .fields #[.ref d] } e)) (by rw [List.mem_singleton.mp hI]; exact Nat.lt_irrefl _)) (Heap.get?_push_of_some _ (Heap.get?_push_of_some _ e))
      rw [Moved.eq_with hmv, ← hnl, preSum_ints ns _ (Nat.le_refl _), List.take_length]
      exact ⟨.int _, H1, I1.kept (t' := s'.toks) hk, ⟨t', rfl⟩, q⟩
  show wpAny _ _ (callWith cpos (.builtin "dict.values") [.ref d] [] []) _ X.xe s1
  exact method_meetsIn F.slot_dict_values F.entry_dict_values rfl (PySem.evalArgs_none ⟨rfl, hm.typeIs, F.args_dict_values_1 _, _, meets_dict_values (mixKind X.prog X.w) d hs, ⟨vs, hm⟩, Calls.spliced_nil fin⟩)
end

end
/-! piece LV -/
section
section
variable {X : Cx}
/-! ### list(d.values()), len(d) -/
def tListVals (te : TE) : TE := fun σ H Q => te σ H fun x H1 => ∃ (d : Addr) (kvs : List (Key × V)), x = .ref d ∧ H1 d = some (.dK kvs) ∧ ∀ p, H1 p = none → Q (.ref p) (upd H1 p (.lst (kvs.map (·.2))))
theorem kv_vals : ∀ {kvs : List (Key × V)} {vs : List (Key × Value)}, KV kvs vs → Vals (kvs.map (·.2)) (vs.map (·.2))
  | _, _, .nil => .nil
  | _, _, .cons h t => .cons h.2 (kv_vals t)
theorem pe_listVals {e : Expr} {te : TE} {q1 q2 q3 q4 : Pos} (calm : X.calm = true) (gl : Gl X "list") (ml : X.mg "list" = none) (he : PE X e te)
    (hb : attributeBase e "values" X.env (eval e X.env) = eval e X.env := by rfl) (hln : (q3.endLine == q4.line) = true := by rfl)
    (hst : starEach [.Call (.Attribute e "values" q3) [] [] q4] X.env = (false, eval (.Call (.Attribute e "values" q3) [] [] q4) X.env) :: starEach [] X.env := by rfl) (hbt : (backTo q2 (starEach [] X.env)).any (·.1) = false := by rfl) :
    PE X (.Call (.Name "list" q1) [.Call (.Attribute e "values" q3) [] [] q4] [] q2) (tListVals te) := by
  constructor
  intro pins s σ H Q I h
  refine wpAny_Call_Name_kw (ld_blt (u := .type "list") I gl ml (by decide +kernel) (PyProof.Rows.callWith_type1 ?main hst hbt))
  rw [hst]
  show wpAny _ _ (spliced ((false, eval (.Call (.Attribute e "values" q3) [] [] q4) X.env) :: backTo q2 (starEach [] X.env))) _ _ s
  refine Calls.spliced_cons (wpAny_Call_method (T := "dict") (id := "dict.values") hb rfl hln F.plainAttrs_dict F.slot_dict_values F.type_dict_values (thn (he.run pins s σ H _ I h) ?_))
  rintro u s1 ⟨x, H1, I1, rx, d, kvs, rfl, hd, fin⟩
  cases (show u = Value.ref d from rx)
  obtain ⟨hz, hs, vs, kv, hm⟩ := dk_of I1.hok hd
  obtain ⟨ep, hat⟩ := hm.dictAt
  have hl : kvs.length = vs.length := Paired.length kv
  refine ⟨hm.typeIs, hm.mapOf.noDict, ?_⟩
  show wpAny _ _ (callWith q4 (.builtin "dict.values") [.ref d] [] []) _ X.xe s1
  refine method_meetsIn F.slot_dict_values F.entry_dict_values rfl (PySem.evalArgs_none ⟨rfl, hm.typeIs, F.args_dict_values_1 _, _, meets_dict_values (mixKind X.prog X.w) d hs, ⟨vs, hm⟩, Calls.spliced_nil ?_⟩)
  have I2 : Inv X pins σ H1 { s1 with heap := s1.heap.push { cls := .type "dict_values", data := .fields #[.ref d] } } := I1.kept (t' := s1.toks) fun b o e => Heap.get?_push_of_some _ e
  refine PySem.W.kdl_call (PySem.W.kdl_values (knd := mixKind X.prog X.w) (kvs := vs) (ep := ep)) (I2.ok.hd calm) ⟨⟨_, Heap.get?_push_size _ rfl, rfl, rfl⟩, hat.push _⟩ (by rw [← hl]; exact hz) fun h' tk acc c hk hS hacc => ?_
  have ea : acc.toList = vs.map (·.2) := PySem.W.kdl_vals_eq acc.toList (by rw [Array.length_toList]; exact hacc.1) fun j v hv => hacc.2 j v (by rw [← Array.getElem?_toList]; exact hv)
  have np := I2.hok.fresh (a := (s1.heap.push { cls := .type "dict_values", data := .fields #[.ref d] }).objs.size) (Nat.le_refl _)
  refine ⟨.ref _, upd H1 _ (.lst (kvs.map (·.2))), I2.laid (t' := tk) hk (Nat.le_refl _) (show ObjOk X.prog X.w _ _ _ (.lst (kvs.map (·.2))) from ⟨by rw [List.length_map]; exact hz, acc.toList, c, ?_, ?_⟩), rfl, fin _ np⟩
  · rw [ea]
    exact kv_vals kv
  · rw [Array.toArray_toList]
    exact hS
end
end
/-! tactics TAC -/
local macro_rules | `(tactic| wtm_at "fo a") => `(tactic| first
  | exact pa_nil
  | (refine' pa_cons ?k1 ?k2; (case k1 => wtm_at "fo e"); (case k2 => wtm_at "fo a"))
  | fail "no")
local macro_rules | `(tactic| wtm_at "fo v") => `(tactic| first
  | exact pv 0
  | exact pv 1
  | exact pv 2
  | exact pv 3
  | exact pv 4
  | exact pv 5
  | exact pv 6
  | exact pv 7
  | exact pv 8
  | exact pv 9
  | exact pv 10
  | exact pv 11
  | exact pv 12
  | exact pv 13
  | exact pv 14
  | exact pv 15
  | fail "no")
local macro_rules | `(tactic| wtm_at "fo e") => `(tactic| first
  | with_reducible exact pe_int
  | with_reducible exact pe_bl
  | with_reducible exact pe_non
  | with_reducible exact pe_str
  | ((with_reducible show PE _ (.Name _ _) _); wtm_at "fo v")
  | ((with_reducible show PE _ (.BinOp _ .Add _ _) _); apply pe_op opAddB <;> wtm_at "fo e")
  | ((with_reducible show PE _ (.BinOp _ .Sub _ _) _); apply pe_op op_sub <;> wtm_at "fo e")
  | ((with_reducible show PE _ (.BinOp _ .Mult _ _) _); apply pe_op op_mul <;> wtm_at "fo e")
  | ((with_reducible show PE _ (.BinOp _ .Mod _ _) _); apply pe_op op_mod <;> wtm_at "fo e")
  | ((with_reducible show PE _ (.BinOp _ .FloorDiv _ _) _); apply pe_op op_fdiv <;> wtm_at "fo e")
  | ((with_reducible show PE _ (.BinOp _ .Pow _ _) _); apply pe_op op_powW <;> wtm_at "fo e")
  | ((with_reducible show PE _ (.BinOp _ .LShift _ _) _); apply pe_op op_shl <;> wtm_at "fo e")
  | ((with_reducible show PE _ (.BinOp _ .RShift _ _) _); apply pe_op op_shr <;> wtm_at "fo e")
  | ((with_reducible show PE _ (.BinOp _ .BitAnd _ _) _); apply pe_op op_and <;> wtm_at "fo e")
  | ((with_reducible show PE _ (.List _ _) _); apply pe_lst; wtm_at "fo a")
  | ((with_reducible show PE _ (.Tuple _ _ _) _); apply pe_tup; wtm_at "fo a")
  | ((with_reducible show PE _ (.ListComp _ [_] _ _) _); wtm_at "fo lc")
  | ((with_reducible show PE _ (.IfExp _ _ _ _) _); apply pe_ifExp; (· wtm_at "fo t"); (· wtm_at "fo e"); (· wtm_at "fo e"))
  | ((with_reducible show PE _ (.UnaryOp .USub _ _) _); apply pe_un un_neg; wtm_at "fo e")
  | ((with_reducible show PE _ (.Call (.Name _ _) [] (_ :: _) _) _); wtm_at "fo kcall")
  | ((with_reducible show PE _ (.Call (.Name _ _) _ _ _) _); wtm_at "fo call")
  | ((with_reducible show PE _ (.Call (.Attribute _ _ _) _ _ _) _); wtm_at "fo meth")
  | ((with_reducible show PE _ (.Compare _ _ _ _) _); wtm_at "fo cmp")
  | ((with_reducible show PE _ (.Subscript _ (.Slice _ _ _ _) _) _); wtm_at "fo slice")
  | ((with_reducible show PE _ (.Subscript _ _ _) _); refine' pe_ix (ix_seqK (by assumption) (by exact rfl)) ?ka ?kb (fun _ _ => rfl); (case ka => wtm_at "fo e"); (case kb => wtm_at "fo e"))
  | fail "no")
local macro_rules | `(tactic| wtm_at "fo own") => `(tactic| first
  | ((show _ = [0]); kernel_rfl!)
  | ((show _ = [1]); kernel_rfl!)
  | ((show _ = [2]); kernel_rfl!)
  | ((show _ = [3]); kernel_rfl!)
  | ((show _ = [4]); kernel_rfl!)
  | ((show _ = [5]); kernel_rfl!)
  | ((show _ = [6]); kernel_rfl!)
  | ((show _ = [7]); kernel_rfl!)
  | ((show _ = [8]); kernel_rfl!)
  | ((show _ = [9]); kernel_rfl!)
  | ((show _ = [10]); kernel_rfl!)
  | ((show _ = [11]); kernel_rfl!)
  | ((show _ = [12]); kernel_rfl!)
  | ((show _ = [13]); kernel_rfl!)
  | ((show _ = [14]); kernel_rfl!)
  | ((show _ = [15]); kernel_rfl!)
  | ((show _ = [0, 1]); kernel_rfl!)
  | ((show _ = [1, 2]); kernel_rfl!)
  | ((show _ = [2, 3]); kernel_rfl!)
  | ((show _ = [3, 4]); kernel_rfl!)
  | ((show _ = [4, 5]); kernel_rfl!)
  | ((show _ = [5, 6]); kernel_rfl!)
  | ((show _ = [6, 7]); kernel_rfl!)
  | ((show _ = [7, 8]); kernel_rfl!)
  | ((show _ = [8, 9]); kernel_rfl!)
  | ((show _ = [9, 10]); kernel_rfl!)
  | ((show _ = [10, 11]); kernel_rfl!)
  | ((show _ = [11, 12]); kernel_rfl!)
  | ((show _ = [12, 13]); kernel_rfl!)
  | ((show _ = [13, 14]); kernel_rfl!)
  | ((show _ = [14, 15]); kernel_rfl!)
  | fail "no")
local macro_rules | `(tactic| wtm_at "fo ts") => `(tactic| first
  | exact pts_nil
  | (apply pts_one; wtm_at "fo t")
  | fail "no")
local macro_rules | `(tactic| wtm_at "fo lc") => `(tactic| first
  | (refine' pe_lcO (by assumption) (by exact rfl) (by exact rfl) (by wtm_at "fo own") (by decide +kernel) rfl ?ki ?kg ?kt ?ke; (case ki => wtm_at "fo i"); (case kg => (intro _ _ _ _ _; wtm_at "fo g")); (case kt => (intro _ _ _ _ _; wtm_at "fo ts")); (case ke => (intro _ _ _ _ _; wtm_at "fo e")))
  | fail "no")
local macro_rules | `(tactic| wtm_at "fo part") => `(tactic| first
  | exact po_none
  | (apply po_some; wtm_at "fo e")
  | fail "no")
local macro_rules | `(tactic| wtm_at "fo slice") => `(tactic| first
  | ((with_reducible show PE _ (.Subscript _ (.Slice _ _ none _) _) _); refine' pe_slice (sl_listK (by assumption) (by exact rfl)) ?ka ?kb ?kc; (case ka => wtm_at "fo e"); (case kb => wtm_at "fo part"); (case kc => wtm_at "fo part"))
  | ((with_reducible show PE _ (.Subscript _ (.Slice none none (some _) _) _) _); refine' pe_stepK (by assumption) (by exact rfl) ?ka ?kb; (case ka => wtm_at "fo e"); (case kb => wtm_at "fo e"))
  | fail "no")
local macro_rules | `(tactic| wtm_at "fo cmp") => `(tactic| first
  | ((with_reducible show PE _ (.Compare _ [.Lt] _ _) _); refine' pe_cmpR op_lt ?ka ?kb (nomark _); (case ka => wtm_at "fo e"); (case kb => wtm_at "fo e"))
  | ((with_reducible show PE _ (.Compare _ [.LtE] _ _) _); refine' pe_cmpR op_le ?ka ?kb (nomark _); (case ka => wtm_at "fo e"); (case kb => wtm_at "fo e"))
  | ((with_reducible show PE _ (.Compare _ [.Gt] _ _) _); refine' pe_cmpR op_gt ?ka ?kb (nomark _); (case ka => wtm_at "fo e"); (case kb => wtm_at "fo e"))
  | ((with_reducible show PE _ (.Compare _ [.GtE] _ _) _); refine' pe_cmpR op_ge ?ka ?kb (nomark _); (case ka => wtm_at "fo e"); (case kb => wtm_at "fo e"))
  | ((with_reducible show PE _ (.Compare _ [.Eq] _ _) _); refine' pe_cmpR (op_eqK (by assumption) (by exact rfl) (Room.units (by assumption))) ?ka ?kb (nomark _); (case ka => wtm_at "fo e"); (case kb => wtm_at "fo e"))
  | ((with_reducible show PE _ (.Compare _ [.NotEq] _ _) _); refine' pe_cmpR (op_neK (by assumption) (by exact rfl) (Room.units (by assumption))) ?ka ?kb (nomark _); (case ka => wtm_at "fo e"); (case kb => wtm_at "fo e"))
  | fail "no")
local macro_rules | `(tactic| wtm_at "fo tcmp") => `(tactic| first
  | ((with_reducible show PT _ (.Compare _ [.Lt] _ _) _); refine' pt_cmpR op_lt ?ka ?kb (nomark _); (case ka => wtm_at "fo e"); (case kb => wtm_at "fo e"))
  | ((with_reducible show PT _ (.Compare _ [.LtE] _ _) _); refine' pt_cmpR op_le ?ka ?kb (nomark _); (case ka => wtm_at "fo e"); (case kb => wtm_at "fo e"))
  | ((with_reducible show PT _ (.Compare _ [.Gt] _ _) _); refine' pt_cmpR op_gt ?ka ?kb (nomark _); (case ka => wtm_at "fo e"); (case kb => wtm_at "fo e"))
  | ((with_reducible show PT _ (.Compare _ [.GtE] _ _) _); refine' pt_cmpR op_ge ?ka ?kb (nomark _); (case ka => wtm_at "fo e"); (case kb => wtm_at "fo e"))
  | ((with_reducible show PT _ (.Compare _ [.Eq] _ _) _); refine' pt_cmpR (op_eqK (by assumption) (by exact rfl) (Room.units (by assumption))) ?ka ?kb (nomark _); (case ka => wtm_at "fo e"); (case kb => wtm_at "fo e"))
  | ((with_reducible show PT _ (.Compare _ [.NotEq] _ _) _); refine' pt_cmpR (op_neK (by assumption) (by exact rfl) (Room.units (by assumption))) ?ka ?kb (nomark _); (case ka => wtm_at "fo e"); (case kb => wtm_at "fo e"))
  | ((with_reducible show PT _ (.Compare _ [.In] _ _) _); refine' pt_cmpR (op_inK (by assumption) (by exact rfl)) ?ka ?kb rfl; (case ka => wtm_at "fo e"); (case kb => wtm_at "fo e"))
  | ((with_reducible show PT _ (.Compare _ [.NotIn] _ _) _); refine' pt_cmpR (op_notInK (by assumption) (by exact rfl)) ?ka ?kb rfl; (case ka => wtm_at "fo e"); (case kb => wtm_at "fo e"))
  | fail "no")
local macro_rules | `(tactic| wtm_at "fo w") => `(tactic| first
  | ((with_reducible show PW _ (.BoolOp .And [_] _) _); apply pw_and1; wtm_at "fo t")
  | ((with_reducible show PW _ (.BoolOp .And _ _) _); apply pw_and; (· wtm_at "fo t"); (· wtm_at "fo w"))
  | ((with_reducible show PW _ (.BoolOp .Or [_] _) _); apply pw_or1; wtm_at "fo t")
  | ((with_reducible show PW _ (.BoolOp .Or _ _) _); apply pw_or; (· wtm_at "fo t"); (· wtm_at "fo w"))
  | fail "no")
local macro_rules | `(tactic| wtm_at "fo meth") => `(tactic| first
  | ((with_reducible show PE _ (.Call (.Attribute _ (Str.ofString "append") _) _ _ _) _); refine' pe_bm PySem.F.plainAttrs_list PySem.F.slot_list_append PySem.F.type_list_append mt_append ?ka ?kb; (case ka => wtm_at "fo e"); (case kb => wtm_at "fo a"))
  | ((with_reducible show PE _ (.Call (.Attribute _ (Str.ofString "pop") _) [_] _ _) _); refine' pe_bm PySem.F.plainAttrs_list PySem.F.slot_list_pop PySem.F.type_list_pop mt_popAt ?ka ?kb; (case ka => wtm_at "fo e"); (case kb => wtm_at "fo a"))
  | ((with_reducible show PE _ (.Call (.Attribute _ (Str.ofString "pop") _) [] _ _) _); refine' pe_bm0 PySem.F.plainAttrs_list PySem.F.slot_list_pop PySem.F.type_list_pop mt_pop ?ka; (case ka => wtm_at "fo e"))
  | fail "no")
local macro_rules | `(tactic| wtm_at "fo k") => `(tactic| first
  | exact pk_nil
  | (refine' pk_cons ?k1 ?k2; (case k1 => wtm_at "fo e"); (case k2 => wtm_at "fo k"))
  | fail "no")
local macro_rules | `(tactic| wtm_at "fo kcall") => `(tactic| first
  | (refine' pe_kcal (by assumption) (by assumption) (by decide) (by rfl) ?ka; (case ka => wtm_at "fo k"))
  | fail "no")
local macro_rules | `(tactic| wtm_at "fo call") => `(tactic| first
  | ((with_reducible show PE _ (.Call (.Name (Str.ofString "int") _) _ _ _) _); refine' pe_callTy call_intB (by rfl) (by assumption) (by decide +kernel) ?ka; (case ka => wtm_at "fo a"))
  | ((with_reducible show PE _ (.Call (.Name (Str.ofString "len") _) _ _ _) _); refine' pe_callB (call_lenK (by assumption) (by exact rfl)) (by rfl) (by assumption) PySem.boot_len ?ka; (case ka => wtm_at "fo a"))
  | ((with_reducible show PE _ (.Call (.Name (Str.ofString "list") _) [.Call (.Name (Str.ofString "range") _) [_, _] _ _] _ _) _); refine' pe_listRg rfl (by rfl) (by assumption) (prg_2 (by rfl) (by assumption) ?ka ?kb); (case ka => wtm_at "fo e"); (case kb => wtm_at "fo e"))
  | ((with_reducible show PE _ (.Call (.Name (Str.ofString "list") _) _ _ _) _); refine' pe_callTy (call_listK (by assumption) (by exact rfl)) (by rfl) (by assumption) (by decide +kernel) ?ka; (case ka => wtm_at "fo a"))
  | ((with_reducible show PE _ (.Call (.Name (Str.ofString "min") _) [_, _] _ _) _); refine' pe_callB (call_min2 rfl) (by rfl) (by assumption) (by decide +kernel) ?ka; (case ka => wtm_at "fo a"))
  | ((with_reducible show PE _ (.Call (.Name (Str.ofString "sorted") _) [_] _ _) _); refine' pe_callB (cr_sortedK (by assumption) (by exact rfl)) (by rfl) (by assumption) (by decide +kernel) ?ka; (case ka => wtm_at "fo a"))
  | ((with_reducible show PE _ (.Call (.Name (Str.ofString "repr") _) [_] _ _) _); refine' pe_callB (call_reprK (by assumption) (by exact rfl) (by assumption) (Room.units (by assumption))) (by rfl) (by assumption) (by decide +kernel) ?ka; (case ka => wtm_at "fo a"))
  | (refine' pe_cal (by assumption) (by assumption) (by decide) (by rfl) ?ka; (case ka => wtm_at "fo a"))
  | fail "no")
local macro_rules | `(tactic| wtm_at "fo setlc") => `(tactic| first
  | (refine' ps_setLcO (i := 0) (by assumption) (by exact rfl) (by exact rfl) (by wtm_at "fo own") (by decide +kernel) rfl rfl rfl (sw_true rfl rfl rfl (by decide +kernel)) ?ki ?kg ?kt ?ke; (case ki => wtm_at "fo i"); (case kg => (intro _ _ _ _ _; wtm_at "fo g")); (case kt => (intro _ _ _ _ _; wtm_at "fo ts")); (case ke => (intro _ _ _ _ _; wtm_at "fo e")))
  | (refine' ps_setLcO (i := 1) (by assumption) (by exact rfl) (by exact rfl) (by wtm_at "fo own") (by decide +kernel) rfl rfl rfl (sw_true rfl rfl rfl (by decide +kernel)) ?ki ?kg ?kt ?ke; (case ki => wtm_at "fo i"); (case kg => (intro _ _ _ _ _; wtm_at "fo g")); (case kt => (intro _ _ _ _ _; wtm_at "fo ts")); (case ke => (intro _ _ _ _ _; wtm_at "fo e")))
  | (refine' ps_setLcO (i := 2) (by assumption) (by exact rfl) (by exact rfl) (by wtm_at "fo own") (by decide +kernel) rfl rfl rfl (sw_true rfl rfl rfl (by decide +kernel)) ?ki ?kg ?kt ?ke; (case ki => wtm_at "fo i"); (case kg => (intro _ _ _ _ _; wtm_at "fo g")); (case kt => (intro _ _ _ _ _; wtm_at "fo ts")); (case ke => (intro _ _ _ _ _; wtm_at "fo e")))
  | (refine' ps_setLcO (i := 3) (by assumption) (by exact rfl) (by exact rfl) (by wtm_at "fo own") (by decide +kernel) rfl rfl rfl (sw_true rfl rfl rfl (by decide +kernel)) ?ki ?kg ?kt ?ke; (case ki => wtm_at "fo i"); (case kg => (intro _ _ _ _ _; wtm_at "fo g")); (case kt => (intro _ _ _ _ _; wtm_at "fo ts")); (case ke => (intro _ _ _ _ _; wtm_at "fo e")))
  | (refine' ps_setLcO (i := 4) (by assumption) (by exact rfl) (by exact rfl) (by wtm_at "fo own") (by decide +kernel) rfl rfl rfl (sw_true rfl rfl rfl (by decide +kernel)) ?ki ?kg ?kt ?ke; (case ki => wtm_at "fo i"); (case kg => (intro _ _ _ _ _; wtm_at "fo g")); (case kt => (intro _ _ _ _ _; wtm_at "fo ts")); (case ke => (intro _ _ _ _ _; wtm_at "fo e")))
  | (refine' ps_setLcO (i := 5) (by assumption) (by exact rfl) (by exact rfl) (by wtm_at "fo own") (by decide +kernel) rfl rfl rfl (sw_true rfl rfl rfl (by decide +kernel)) ?ki ?kg ?kt ?ke; (case ki => wtm_at "fo i"); (case kg => (intro _ _ _ _ _; wtm_at "fo g")); (case kt => (intro _ _ _ _ _; wtm_at "fo ts")); (case ke => (intro _ _ _ _ _; wtm_at "fo e")))
  | (refine' ps_setLcO (i := 6) (by assumption) (by exact rfl) (by exact rfl) (by wtm_at "fo own") (by decide +kernel) rfl rfl rfl (sw_true rfl rfl rfl (by decide +kernel)) ?ki ?kg ?kt ?ke; (case ki => wtm_at "fo i"); (case kg => (intro _ _ _ _ _; wtm_at "fo g")); (case kt => (intro _ _ _ _ _; wtm_at "fo ts")); (case ke => (intro _ _ _ _ _; wtm_at "fo e")))
  | (refine' ps_setLcO (i := 7) (by assumption) (by exact rfl) (by exact rfl) (by wtm_at "fo own") (by decide +kernel) rfl rfl rfl (sw_true rfl rfl rfl (by decide +kernel)) ?ki ?kg ?kt ?ke; (case ki => wtm_at "fo i"); (case kg => (intro _ _ _ _ _; wtm_at "fo g")); (case kt => (intro _ _ _ _ _; wtm_at "fo ts")); (case ke => (intro _ _ _ _ _; wtm_at "fo e")))
  | (refine' ps_setLcO (i := 8) (by assumption) (by exact rfl) (by exact rfl) (by wtm_at "fo own") (by decide +kernel) rfl rfl rfl (sw_true rfl rfl rfl (by decide +kernel)) ?ki ?kg ?kt ?ke; (case ki => wtm_at "fo i"); (case kg => (intro _ _ _ _ _; wtm_at "fo g")); (case kt => (intro _ _ _ _ _; wtm_at "fo ts")); (case ke => (intro _ _ _ _ _; wtm_at "fo e")))
  | (refine' ps_setLcO (i := 9) (by assumption) (by exact rfl) (by exact rfl) (by wtm_at "fo own") (by decide +kernel) rfl rfl rfl (sw_true rfl rfl rfl (by decide +kernel)) ?ki ?kg ?kt ?ke; (case ki => wtm_at "fo i"); (case kg => (intro _ _ _ _ _; wtm_at "fo g")); (case kt => (intro _ _ _ _ _; wtm_at "fo ts")); (case ke => (intro _ _ _ _ _; wtm_at "fo e")))
  | (refine' ps_setLcO (i := 10) (by assumption) (by exact rfl) (by exact rfl) (by wtm_at "fo own") (by decide +kernel) rfl rfl rfl (sw_true rfl rfl rfl (by decide +kernel)) ?ki ?kg ?kt ?ke; (case ki => wtm_at "fo i"); (case kg => (intro _ _ _ _ _; wtm_at "fo g")); (case kt => (intro _ _ _ _ _; wtm_at "fo ts")); (case ke => (intro _ _ _ _ _; wtm_at "fo e")))
  | (refine' ps_setLcO (i := 11) (by assumption) (by exact rfl) (by exact rfl) (by wtm_at "fo own") (by decide +kernel) rfl rfl rfl (sw_true rfl rfl rfl (by decide +kernel)) ?ki ?kg ?kt ?ke; (case ki => wtm_at "fo i"); (case kg => (intro _ _ _ _ _; wtm_at "fo g")); (case kt => (intro _ _ _ _ _; wtm_at "fo ts")); (case ke => (intro _ _ _ _ _; wtm_at "fo e")))
  | (refine' ps_setLcO (i := 12) (by assumption) (by exact rfl) (by exact rfl) (by wtm_at "fo own") (by decide +kernel) rfl rfl rfl (sw_true rfl rfl rfl (by decide +kernel)) ?ki ?kg ?kt ?ke; (case ki => wtm_at "fo i"); (case kg => (intro _ _ _ _ _; wtm_at "fo g")); (case kt => (intro _ _ _ _ _; wtm_at "fo ts")); (case ke => (intro _ _ _ _ _; wtm_at "fo e")))
  | (refine' ps_setLcO (i := 13) (by assumption) (by exact rfl) (by exact rfl) (by wtm_at "fo own") (by decide +kernel) rfl rfl rfl (sw_true rfl rfl rfl (by decide +kernel)) ?ki ?kg ?kt ?ke; (case ki => wtm_at "fo i"); (case kg => (intro _ _ _ _ _; wtm_at "fo g")); (case kt => (intro _ _ _ _ _; wtm_at "fo ts")); (case ke => (intro _ _ _ _ _; wtm_at "fo e")))
  | (refine' ps_setLcO (i := 14) (by assumption) (by exact rfl) (by exact rfl) (by wtm_at "fo own") (by decide +kernel) rfl rfl rfl (sw_true rfl rfl rfl (by decide +kernel)) ?ki ?kg ?kt ?ke; (case ki => wtm_at "fo i"); (case kg => (intro _ _ _ _ _; wtm_at "fo g")); (case kt => (intro _ _ _ _ _; wtm_at "fo ts")); (case ke => (intro _ _ _ _ _; wtm_at "fo e")))
  | (refine' ps_setLcO (i := 15) (by assumption) (by exact rfl) (by exact rfl) (by wtm_at "fo own") (by decide +kernel) rfl rfl rfl (sw_true rfl rfl rfl (by decide +kernel)) ?ki ?kg ?kt ?ke; (case ki => wtm_at "fo i"); (case kg => (intro _ _ _ _ _; wtm_at "fo g")); (case kt => (intro _ _ _ _ _; wtm_at "fo ts")); (case ke => (intro _ _ _ _ _; wtm_at "fo e")))
  | fail "no")
local macro_rules | `(tactic| wtm_at "fo set") => `(tactic| first
  | (refine' ps_set (i := 0) (by assumption) rfl (by first | exact Or.inl rfl | exact Or.inr rfl) ?ka; (case ka => wtm_at "fo e"))
  | (refine' ps_set (i := 1) (by assumption) rfl (by first | exact Or.inl rfl | exact Or.inr rfl) ?ka; (case ka => wtm_at "fo e"))
  | (refine' ps_set (i := 2) (by assumption) rfl (by first | exact Or.inl rfl | exact Or.inr rfl) ?ka; (case ka => wtm_at "fo e"))
  | (refine' ps_set (i := 3) (by assumption) rfl (by first | exact Or.inl rfl | exact Or.inr rfl) ?ka; (case ka => wtm_at "fo e"))
  | (refine' ps_set (i := 4) (by assumption) rfl (by first | exact Or.inl rfl | exact Or.inr rfl) ?ka; (case ka => wtm_at "fo e"))
  | (refine' ps_set (i := 5) (by assumption) rfl (by first | exact Or.inl rfl | exact Or.inr rfl) ?ka; (case ka => wtm_at "fo e"))
  | (refine' ps_set (i := 6) (by assumption) rfl (by first | exact Or.inl rfl | exact Or.inr rfl) ?ka; (case ka => wtm_at "fo e"))
  | (refine' ps_set (i := 7) (by assumption) rfl (by first | exact Or.inl rfl | exact Or.inr rfl) ?ka; (case ka => wtm_at "fo e"))
  | (refine' ps_set (i := 8) (by assumption) rfl (by first | exact Or.inl rfl | exact Or.inr rfl) ?ka; (case ka => wtm_at "fo e"))
  | (refine' ps_set (i := 9) (by assumption) rfl (by first | exact Or.inl rfl | exact Or.inr rfl) ?ka; (case ka => wtm_at "fo e"))
  | (refine' ps_set (i := 10) (by assumption) rfl (by first | exact Or.inl rfl | exact Or.inr rfl) ?ka; (case ka => wtm_at "fo e"))
  | (refine' ps_set (i := 11) (by assumption) rfl (by first | exact Or.inl rfl | exact Or.inr rfl) ?ka; (case ka => wtm_at "fo e"))
  | (refine' ps_set (i := 12) (by assumption) rfl (by first | exact Or.inl rfl | exact Or.inr rfl) ?ka; (case ka => wtm_at "fo e"))
  | (refine' ps_set (i := 13) (by assumption) rfl (by first | exact Or.inl rfl | exact Or.inr rfl) ?ka; (case ka => wtm_at "fo e"))
  | fail "no")
local macro_rules | `(tactic| wtm_at "fo t") => `(tactic| first
  | ((with_reducible show PT _ (.BoolOp _ _ _) _); apply PW.pt; wtm_at "fo w")
  | ((with_reducible show PT _ (.UnaryOp .Not _ _) _); apply pt_not; wtm_at "fo t")
  | ((with_reducible show PT _ (.Compare _ _ _ _) _); wtm_at "fo tcmp")
  | (refine' pt_truthK (by assumption) (by exact rfl) ?ka (by intro _; rfl); (case ka => wtm_at "fo e"))
  | fail "no")
local macro_rules | `(tactic| wtm_at "fo gn") => `(tactic| first
  | exact pg_name (i := 0) (by assumption) rfl (by first | exact Or.inl rfl | exact Or.inr rfl)
  | exact pg_name (i := 1) (by assumption) rfl (by first | exact Or.inl rfl | exact Or.inr rfl)
  | exact pg_name (i := 2) (by assumption) rfl (by first | exact Or.inl rfl | exact Or.inr rfl)
  | exact pg_name (i := 3) (by assumption) rfl (by first | exact Or.inl rfl | exact Or.inr rfl)
  | exact pg_name (i := 4) (by assumption) rfl (by first | exact Or.inl rfl | exact Or.inr rfl)
  | exact pg_name (i := 5) (by assumption) rfl (by first | exact Or.inl rfl | exact Or.inr rfl)
  | exact pg_name (i := 6) (by assumption) rfl (by first | exact Or.inl rfl | exact Or.inr rfl)
  | exact pg_name (i := 7) (by assumption) rfl (by first | exact Or.inl rfl | exact Or.inr rfl)
  | exact pg_name (i := 8) (by assumption) rfl (by first | exact Or.inl rfl | exact Or.inr rfl)
  | exact pg_name (i := 9) (by assumption) rfl (by first | exact Or.inl rfl | exact Or.inr rfl)
  | exact pg_name (i := 10) (by assumption) rfl (by first | exact Or.inl rfl | exact Or.inr rfl)
  | exact pg_name (i := 11) (by assumption) rfl (by first | exact Or.inl rfl | exact Or.inr rfl)
  | exact pg_name (i := 12) (by assumption) rfl (by first | exact Or.inl rfl | exact Or.inr rfl)
  | exact pg_name (i := 13) (by assumption) rfl (by first | exact Or.inl rfl | exact Or.inr rfl)
  | exact pg_name (i := 14) (by assumption) rfl (by first | exact Or.inl rfl | exact Or.inr rfl)
  | exact pg_name (i := 15) (by assumption) rfl (by first | exact Or.inl rfl | exact Or.inr rfl)
  | fail "no")
local macro_rules | `(tactic| wtm_at "fo par") => `(tactic| first
  | (refine' ps_par (i := 0) (j := 1) rfl (by assumption) rfl rfl (by decide) rfl rfl ?ka (by rfl); (case ka => wtm_at "fo a"))
  | (refine' ps_par (i := 1) (j := 2) rfl (by assumption) rfl rfl (by decide) rfl rfl ?ka (by rfl); (case ka => wtm_at "fo a"))
  | (refine' ps_par (i := 2) (j := 3) rfl (by assumption) rfl rfl (by decide) rfl rfl ?ka (by rfl); (case ka => wtm_at "fo a"))
  | (refine' ps_par (i := 3) (j := 4) rfl (by assumption) rfl rfl (by decide) rfl rfl ?ka (by rfl); (case ka => wtm_at "fo a"))
  | (refine' ps_par (i := 4) (j := 5) rfl (by assumption) rfl rfl (by decide) rfl rfl ?ka (by rfl); (case ka => wtm_at "fo a"))
  | (refine' ps_par (i := 5) (j := 6) rfl (by assumption) rfl rfl (by decide) rfl rfl ?ka (by rfl); (case ka => wtm_at "fo a"))
  | (refine' ps_par (i := 6) (j := 7) rfl (by assumption) rfl rfl (by decide) rfl rfl ?ka (by rfl); (case ka => wtm_at "fo a"))
  | (refine' ps_par (i := 7) (j := 8) rfl (by assumption) rfl rfl (by decide) rfl rfl ?ka (by rfl); (case ka => wtm_at "fo a"))
  | (refine' ps_par (i := 8) (j := 9) rfl (by assumption) rfl rfl (by decide) rfl rfl ?ka (by rfl); (case ka => wtm_at "fo a"))
  | (refine' ps_par (i := 9) (j := 10) rfl (by assumption) rfl rfl (by decide) rfl rfl ?ka (by rfl); (case ka => wtm_at "fo a"))
  | (refine' ps_par (i := 10) (j := 11) rfl (by assumption) rfl rfl (by decide) rfl rfl ?ka (by rfl); (case ka => wtm_at "fo a"))
  | (refine' ps_par (i := 11) (j := 12) rfl (by assumption) rfl rfl (by decide) rfl rfl ?ka (by rfl); (case ka => wtm_at "fo a"))
  | (refine' ps_par (i := 12) (j := 13) rfl (by assumption) rfl rfl (by decide) rfl rfl ?ka (by rfl); (case ka => wtm_at "fo a"))
  | (refine' ps_par (i := 13) (j := 14) rfl (by assumption) rfl rfl (by decide) rfl rfl ?ka (by rfl); (case ka => wtm_at "fo a"))
  | (refine' ps_par (i := 14) (j := 15) rfl (by assumption) rfl rfl (by decide) rfl rfl ?ka (by rfl); (case ka => wtm_at "fo a"))
  | fail "no")
local macro_rules | `(tactic| wtm_at "fo g") => `(tactic| first
  | ((with_reducible show PG _ (.Name _ _) _); wtm_at "fo gn")
  | ((with_reducible show PG _ (.Tuple _ _ _) _); apply PG_or; (· refine' pg_tup2 (by assumption) (by exact rfl) rfl ?kg; (case kg => wtm_at "fo gs")); (· refine' pg_unl2 (by assumption) (by exact rfl) rfl ?kg; (case kg => wtm_at "fo gs")))
  | fail "no")
local macro_rules | `(tactic| wtm_at "fo gs") => `(tactic| first
  | exact pgs_nil
  | (refine' pgs_cons ?k1 ?k2; (case k1 => wtm_at "fo g"); (case k2 => wtm_at "fo gs"))
  | fail "no")
local macro_rules | `(tactic| wtm_at "fo i") => `(tactic| first
  | ((with_reducible show PI _ _ (.Call (.Name (Str.ofString "range") _) [_] _ _) _); refine' pi_range1 (by rfl) (by assumption) ?ka; (case ka => wtm_at "fo a"))
  | ((with_reducible show PI _ _ (.Call (.Name (Str.ofString "range") _) [_, _] _ _) _); refine' pi_range2 (by rfl) (by assumption) ?ka; (case ka => wtm_at "fo a"))
  | ((with_reducible show PI _ _ (.Call (.Name (Str.ofString "enumerate") _) [_] _ _) _); refine' pi_enum (by rfl) (by assumption) ?ka; (case ka => wtm_at "fo a"))
  | (refine' pi_listK (by assumption) (by exact rfl) ?ka; (case ka => wtm_at "fo e"))
  | fail "no")
local macro_rules | `(tactic| wtm_at "fo s") => `(tactic| first
  | ((with_reducible show PS _ (.While _ _ _ _) _); refine' ps_while PassesOwn.never ?kt ?kb; (case kt => wtm_at "fo t"); (case kb => wtm_at "fo ss"))
  | ((with_reducible show PS _ (.For _ _ _ _ _) _); refine' ps_for PassesOwn.never rfl ?ki ?kg ?kb; (case ki => wtm_at "fo i"); (case kg => wtm_at "fo g"); (case kb => wtm_at "fo ss"))
  | ((with_reducible show PS _ (.Assign [.Name _ _] (.ListComp _ [_] _ _) _) _); wtm_at "fo setlc")
  | ((with_reducible show PS _ (.Assign [.Name _ _] _ _) _); wtm_at "fo set")
  | ((with_reducible show PS _ (.Assign [.Tuple [.Name _ _, .Name _ _] _ _] (.Tuple [_, _] _ _) _) _); wtm_at "fo par")
  | ((with_reducible show PS _ (.Assign [.Subscript _ _ _] _ _) _); refine' ps_asg ?ka (pg_sub ?kb ?kc set_list); (case ka => wtm_at "fo e"); (case kb => wtm_at "fo e"); (case kc => wtm_at "fo e"))
  | ((with_reducible show PS _ (.Return (some _) _) _); apply ps_ret; wtm_at "fo e")
  | ((with_reducible show PS _ (.Expr _ _) _); refine' ps_expr ?ka; (case ka => wtm_at "fo e"))
  | ((with_reducible show PS _ (.If _ _ _ _) _); apply ps_if; (· wtm_at "fo t"); (· wtm_at "fo ss"); (· wtm_at "fo ss"))
  | fail "no")
local macro_rules | `(tactic| wtm_at "fo ss") => `(tactic| first
  | with_reducible exact pss_nil
  | ((with_reducible show PSs _ [_] _); apply pss_one; wtm_at "fo s")
  | (apply pss_cons; (· wtm_at "fo s"); (· wtm_at "fo ss"))
  | fail "no")
local macro_rules | `(tactic| wtm_at "fo hp") => `(tactic| first
  | assumption
  | exact upd_same
  | (refine (upd_ne ?ne).trans ?hp; (case ne => wtm_at "fo ne"); (case hp => wtm_at "fo hp"))
  | fail "no")
local macro_rules | `(tactic| wtm_at "fo ne") => `(tactic| first
  | assumption
  | (apply Ne.symm; assumption)
  | exact ne_of_none (by assumption) (by assumption)
  | exact Ne.symm (ne_of_none (by assumption) (by assumption))
  | fail "no")
local macro_rules | `(tactic| wtm_at "fo sz") => `(tactic| first
  | exact (Nat.le_of_ble_eq_true rfl : _ ≤ sizeLine)
  | exact (Nat.le_of_ble_eq_true rfl : _ < sizeLine)
  | exact Nat.lt_of_le_of_lt (m := 100000) (by first | assumption | omega | (simp; omega)) (by decide)
  | exact Nat.le_trans (m := 100000) (by first | assumption | omega | (simp; omega)) (by decide)
  | fail "no")
local macro_rules | `(tactic| wtm_at "fo r1") => `(tactic| first
  | refine ⟨(Nat.le_of_ble_eq_true rfl : _ ≤ sizeLine), fun p np => ?_⟩
  | (refine' ⟨_, _, rfl, Or.inl (SqL.of ?h), ?_⟩; (case h => wtm_at "fo hp"))
  | refine ⟨_, rfl, ?_⟩
  | refine ⟨_, _, rfl, rfl, ?_⟩
  | refine ⟨_, _, rfl, ⟨by omega, by omega, by omega, by omega⟩, ?_⟩
  | refine ⟨_, rfl, by omega, by omega, ?_⟩
  | refine Or.inl ⟨_, rfl, ?_⟩
  | refine Or.inl ⟨rfl, ?_⟩
  | refine Or.inl ⟨_, _, rfl, rfl, ?_⟩
  | (refine' Or.inl ⟨_, _, _, _, rfl, rfl, SqL.of ?h, ?a, ?_⟩; (case h => wtm_at "fo hp"); (case a => rfl))
  | (refine' ⟨_, _, _, _, rfl, rfl, ?h, ?a, ?_⟩; (case h => wtm_at "fo hp"); (case a => rfl))
  | (refine' ⟨.inl ⟨rfl, _, SqL.of ?h⟩, ?_⟩; (case h => wtm_at "fo hp"))
  | (refine' ⟨_, _, _, rfl, rfl, ?h, ?z, ?_⟩; (case h => wtm_at "fo hp"); (case z => wtm_at "fo sz"))
  | (refine' ⟨_, rfl, ⟨_, SqL.of ?h⟩, ?_⟩; (case h => wtm_at "fo hp"))
  | fail "no")
local macro_rules | `(tactic| wtm_at "fo side") => `(tactic| ((try dsimp only [CMul, CDiv]); first
  | assumption
  | decide
  | omega
  | exact ⟨by decide, by decide⟩
  | exact ⟨by omega, by omega⟩
  | decide +kernel
  | fail "no"))
local macro_rules | `(tactic| wtm_at "fo r2") => `(tactic| first
  | wtm_at "fo r1"
  | refine And.intro (by wtm_at "fo side") ?_
  | fail "no")
local macro_rules | `(tactic| wtm_at "fo r") => `(tactic| repeat wtm_at "fo r2")
/-! piece D1 -/
section
def Dr (H : Hp) (d : Addr) (k : Int) : Prop := ∃ a b, H d = some (.lst [.int a, .int k, .bl b]) ∧ 0 ≤ k
def SameBut (d : Addr) (H H' : Hp) : Prop := ∀ b o, b ≠ d → H b = some o → H' b = some o
@[irreducible] def spNext : Sp := fun vs H Q _ => ∃ d k, vs = [.ref d] ∧ Dr H d k ∧ k < 2 ^ 40 ∧
  ∀ n H', 0 ≤ n → SameBut d H H' → Dr H' d (k + 1) → Q (.int n) H'
theorem call_next {d : Addr} {k : Int} {H : Hp} {Q : VK} {E : XK} (hd : Dr H d k) (hk : k < 2 ^ 40) (q : ∀ n H', 0 ≤ n → SameBut d H H' → Dr H' d (k + 1) → Q (.int n) H') : spNext [.ref d] H Q E := by
  unfold spNext
  exact ⟨d, k, rfl, hd, hk, q⟩
variable {P : Program} {w : World} {K : PySem.W.Frag} {mg : Str → Option Value} {base : Heap}
set_option maxHeartbeats 2000000 in
theorem ok_next {f : Addr} {fd : FuncData} (F : Fun K "_law_next" "_law_next" s_law_next f fd) (mi : mg "int" = none) :
    FnOk P w K mg base CX0 1 f fd ["_law_draws_here"] spNext := by
  refine F.ok sc_law_next (fun vs H Q E h => ?_) (fun cdv A outer s H vs Q E hr h => ?_)
  · unfold spNext at h
    obtain ⟨d, k, rfl, _⟩ := h
    rfl
  · have nd := sc_law_next.nd
    have hS := sc_law_next
    have hKM : KMark K := ⟨⟩
    have hmi : (cxOf CX0 P w K mg base ["_law_draws_here", "_law_k", "_law_drawn"] "_law_next" (defScope s_law_next) f cdv A outer s H E).nox.mg "int" = none := mi
    refine' mk_body ?body ?rd
    case body =>
      show PSs _ [_, _, _, _, _, _] _
      wtm_at "fo ss"
    case rd =>
     unfold spNext at h
     obtain ⟨d, k, rfl, ⟨a, b, hd, hk⟩, hk2, q⟩ := h
     wtm_at "fo r"
     refine ite2 (fun hb => ?_) (fun hb => ?_)
     · wtm_at "fo r"
       refine q _ _ (Int.emod_nonneg _ (by decide)) ?_ ⟨_, _, upd_same, by omega⟩
       intro c o hc e
       rw [upd_ne hc, upd_ne hc]
       exact e
     · wtm_at "fo r"
       refine q _ _ (by omega) ?_ ⟨_, _, upd_same, by omega⟩
       intro c o hc e
       rw [upd_ne hc]
       exact e
end
/-! piece D2 -/
section
@[irreducible] def spDraws : Sp := fun vs H Q _ => ∃ c : Int, vs = [.int c] ∧
  ∀ p a b, H p = none → Q (.ref p) (upd H p (.lst [.int a, .int 0, .bl b]))
theorem call_draws {c : Int} {H : Hp} {Q : VK} {E : XK} (q : ∀ p a b, H p = none → Q (.ref p) (upd H p (.lst [.int a, .int 0, .bl b]))) : spDraws [.int c] H Q E := by
  unfold spDraws
  exact ⟨c, rfl, q⟩
variable {P : Program} {w : World} {K : PySem.W.Frag} {mg : Str → Option Value} {base : Heap}
set_option maxHeartbeats 2000000 in
theorem ok_draws {f : Addr} {fd : FuncData} (F : Fun K "_law_draws" "_law_draws" s_law_draws f fd) (mi : mg "int" = none) :
    FnOk P w K mg base CX0 1 f fd ["_law_cell"] spDraws := by
  refine F.ok sc_law_draws (fun vs H Q E h => ?_) (fun cdv A outer s H vs Q E hr h => ?_)
  · unfold spDraws at h
    obtain ⟨c, rfl, _⟩ := h
    rfl
  · have nd := sc_law_draws.nd
    have hS := sc_law_draws
    have hKM : KMark K := ⟨⟩
    refine' mk_body ?body ?rd
    case body =>
      show PSs _ [_] _
      wtm_at "fo ss"
    case rd =>
     unfold spDraws at h
     obtain ⟨c, rfl, q⟩ := h
     wtm_at "fo r"
     exact q _ _ _ (by assumption)
end
/-! piece D3 -/
section
theorem SameBut.refl (d : Addr) (H : Hp) : SameBut d H H := fun _ _ _ h => h
theorem SameBut.trans {d : Addr} {H H1 H2 : Hp} (a : SameBut d H H1) (b : SameBut d H1 H2) : SameBut d H H2 := fun c o n e => b c o n (a c o n e)
theorem SameBut.new {d p : Addr} {H H1 : Hp} {o : HO} (a : SameBut d H H1) (np : H p = none) : SameBut d H (upd H1 p o) := fun c u n e => by
  rw [upd_ne (ne_of_none e np)]
  exact a c u n e
theorem SameBut.at {d p : Addr} {H H1 : Hp} {o u : HO} (a : SameBut d H H1) (hp : H p = some o) (hd : H d = some u) (ne : o ≠ u) : H1 p = some o :=
  a p o (ne_of hp hd ne) hp
/-- a thing that may be shuffled: a small number, or a pair of such -/
def Item (H : Hp) (x : V) : Prop := (∃ i : Int, x = .int i ∧ i.natAbs < 1000) ∨ ∃ r i j, x = .ref r ∧ H r = some (.lst [.int i, .int j]) ∧ i.natAbs < 1000 ∧ j.natAbs < 1000
theorem Dr.ne_pair {H : Hp} {d r : Addr} {k i j : Int} (h : Dr H d k) (hr : H r = some (.lst [.int i, .int j])) : r ≠ d := by
  obtain ⟨a, b, hd, _⟩ := h
  exact ne_of hr hd (by intro e; injection e with e; simp at e)
theorem Item.but {d : Addr} {H H' : Hp} {x : V} {k : Int} (h : Item H x) (s : SameBut d H H') (hd : Dr H d k) : Item H' x := by
  rcases h with h | ⟨r, i, j, rfl, hr, h1, h2⟩
  · exact .inl h
  · exact .inr ⟨r, i, j, rfl, s r _ (hd.ne_pair hr) hr, h1, h2⟩
theorem Item.dp {K : PySem.W.Frag} {H : Hp} {x : V} (h : Item H x) : ∃ e, Dp K H x e ∧ DOk 1 20 e := by
  rcases h with ⟨i, rfl, hi⟩ | ⟨r, i, j, rfl, hr, h1, h2⟩
  · exact ⟨_, .int i, (dok_int hi).mono (by decide) (by decide)⟩
  · refine ⟨.list [.int i, .int j], .lst (SqL.of hr) (.cons (.int i) (.cons (.int j) .nil)), (dok_list (n := 0) (b := 5) ?_).mono (by decide) (by simp)⟩
    intro x hx
    simp only [List.mem_cons, List.not_mem_nil, or_false] at hx
    rcases hx with rfl | rfl
    · exact dok_int h1
    · exact dok_int h2
theorem items_dp {K : PySem.W.Frag} {H : Hp} : ∀ {xs : List V}, (∀ x ∈ xs, Item H x) → ∃ ds, DpAll K H xs ds ∧ (∀ e ∈ ds, DOk 1 20 e) ∧ ds.length = xs.length
  | [], _ => ⟨[], .nil, (fun _ h => nomatch h), rfl⟩
  | x :: xs, h => by
    obtain ⟨ds, h1, h2, h3⟩ := items_dp (K := K) (xs := xs) fun y hy => h y (List.mem_cons_of_mem _ hy)
    obtain ⟨e, h4, h5⟩ := (h x (List.mem_cons_self ..)).dp (K := K)
    refine ⟨e :: ds, .cons h4 h1, ?_, by simp [h3]⟩
    intro u hu
    rcases List.mem_cons.mp hu with rfl | hu
    · exact h5
    · exact h2 u hu
@[irreducible] def spShuf : Sp := fun vs H Q _ => ∃ d q k xs, vs = [.ref d, .ref q] ∧ Dr H d k ∧ k ≤ 1000000 ∧ H q = some (.lst xs) ∧ xs.length ≤ 200 ∧ (∀ x ∈ xs, Item H x) ∧
  ∀ p ys H' k', ys.Perm xs → SameBut d H H' → H p = none → H' p = some (.lst ys) → Dr H' d k' → k' ≤ k + 200 → Q (.ref p) H'
theorem call_shuf {d q : Addr} {k : Int} {xs : List V} {H : Hp} {Q : VK} {E : XK} (hd : Dr H d k) (hk : k ≤ 1000000) (hq : H q = some (.lst xs)) (hl : xs.length ≤ 200) (hi : ∀ x ∈ xs, Item H x)
    (fin : ∀ p ys H' k', ys.Perm xs → SameBut d H H' → H p = none → H' p = some (.lst ys) → Dr H' d k' → k' ≤ k + 200 → Q (.ref p) H') : spShuf [.ref d, .ref q] H Q E := by
  unfold spShuf
  exact ⟨d, q, k, xs, rfl, hd, hk, hq, hl, hi, fin⟩
variable {P : Program} {w : World} {K : PySem.W.Frag} {mg : Str → Option Value} {base : Heap}
set_option maxHeartbeats 4000000 in
theorem ok_shuf {f : Addr} {fd : FuncData} (F : Fun K "_law_shuffled" "_law_shuffled" s_law_shuffled f fd) (mi : mg "int" = none) (ml : mg "list" = none) (mn : mg "len" = none)
    (C : Cal P w K mg base "_law_next" 1 ["_law_draws_here"] spNext) :
    FnOk P w K mg base CX0 2 f fd ["_law_draws_here", "_law_things"] spShuf := by
  refine F.ok sc_law_shuffled (fun vs H Q E h => ?_) (fun cdv A outer s H vs Q E hr h => ?_)
  · unfold spShuf at h
    obtain ⟨d, q, k, xs, rfl, _⟩ := h
    rfl
  · have nd := sc_law_shuffled.nd
    have hS := sc_law_shuffled
    have hKM : KMark K := ⟨⟩
    refine' mk_body ?body ?rd
    case body =>
      show PSs _ [_, _, _, _] _
      wtm_at "fo ss"
    case rd =>
     unfold spShuf at h
     obtain ⟨d, q, k, xs, rfl, hd, hk, hq, hlen, hit, fin⟩ := h
     wtm_at "fo r"
     intro l nl
     wtm_at "fo r"
     rename_i t nt
     have nl' : l ≠ d := by
       obtain ⟨a, b, e, _⟩ := hd
       exact (ne_of_none e nl).symm
     have tl : t ≠ l := (ne_of_none (upd_same (H := H) (a := l) (o := HO.lst xs)) nt).symm
     have nt0 : H t = none := by rw [upd_ne tl] at nt; exact nt
     have nt' : t ≠ d := by
       obtain ⟨a, b, e, _⟩ := hd
       exact (ne_of_none e nt0).symm
     let W : Nat → Sl → Hp → Prop := fun m σ H1 => ∃ ls ts k1, σ = [some (.ref d), some (.ref q), some (.ref l), some (.ref t)] ∧ m = ls.length ∧ H1 l = some (.lst ls) ∧ H1 t = some (.lst ts) ∧
       (ts ++ ls).Perm xs ∧ Dr H1 d k1 ∧ k1 + ls.length = k + xs.length ∧ SameBut d H H1
     refine ⟨W, ⟨xs.length, xs, [], k, rfl, rfl, ?_, upd_same, .refl _, ?_, rfl, ?_⟩, fun m σ H1 hW => ?_⟩
     · rw [upd_ne tl.symm]
       exact upd_same
     · obtain ⟨a, b, e, h0⟩ := hd
       exact ⟨a, b, by rw [upd_ne nt'.symm, upd_ne nl'.symm]; exact e, h0⟩
     · exact ((SameBut.refl d H).new nl).new nt0
     obtain ⟨ls, ts, k1, rfl, rfl, hl, ht, hp, hd1, hk1, sb⟩ := hW
     have hlen2 : ts.length + ls.length = xs.length := by rw [← List.length_append]; exact hp.length_eq
     have hit1 : ∀ x ∈ ls, Item H1 x := fun x hx => (hit x (hp.mem_iff.mp (List.mem_append_right _ hx))).but sb hd
     wtm_at "fo r"
     rename_i e ne
     have le : l ≠ e := ne_of_none hl ne
     have te : t ≠ e := ne_of_none ht ne
     have hd2 : Dr (upd H1 e (HO.lst [])) d k1 := by
       obtain ⟨a, b, h1, h2⟩ := hd1
       exact ⟨a, b, by rw [upd_ne (ne_of_none h1 ne)]; exact h1, h2⟩
     have hit2 : ∀ x ∈ ls, Item (upd H1 e (HO.lst [])) x := fun x hx => (hit1 x hx).but (SameBut.new (.refl d H1) ne) hd1
     obtain ⟨ds, h1, h2, h3⟩ := items_dp (K := K) hit2
     have hl2 : (upd H1 e (HO.lst [])) l = some (.lst ls) := by rw [upd_ne le]; exact hl
     have ht2 : (upd H1 e (HO.lst [])) t = some (.lst ts) := by rw [upd_ne te]; exact ht
     refine Or.inr ⟨.list ds, .list [], .lst (SqL.of hl2) h1, .lst (SqL.of upd_same) .nil, (dok_list h2).shaped (by decide), rfl, ?_⟩
     refine ⟨_, rfl, ?_⟩
     rcases ls with _ | ⟨y0, r0⟩
     · have : ds = [] := by cases ds with | nil => rfl | cons _ _ => simp at h3
       subst this
       refine ifF (by rw [eqv_list_nil]; rfl) ?_
       wtm_at "fo r"
       refine fin t ts _ k1 (by simpa using hp) ((sb.trans (SameBut.new (.refl d H1) ne))) nt0 ht2 hd2 ?_
       simp at hk1 hlen2
       omega
     · have : ds.isEmpty = false := by cases ds with | nil => simp at h3 | cons _ _ => rfl
       refine ifT (by rw [eqv_list_nil, this]; rfl) ?_
       generalize hls : y0 :: r0 = ls at *
       have hpos : 0 < ls.length := by rw [← hls]; simp
       refine ⟨fun σ' H' => ∃ m', m' < ls.length ∧ W m' σ' H', fun _ _ h => h, ?_⟩
       wtm_at "fo r"
       refine call_next hd2 (by omega) (fun n H3 hn sb3 hd3 => ?_)
       have hl3 : H3 l = some (.lst ls) := sb3 l _ nl' hl2
       have ht3 : H3 t = some (.lst ts) := sb3 t _ nt' ht2
       wtm_at "fo r"
       obtain ⟨j, hj, ej⟩ := mod_ix (n := n) hpos
       have hy : ls[j]? = some ls[j] := List.getElem?_eq_getElem hj
       refine ⟨l, ls, _, j, ls[j], rfl, rfl, hl3, ?_, ?_, ?_, hy, ?_⟩
       · show _
         rw [ej]
         omega
       · show _
         rw [ej]
         omega
       · show _
         rw [ej]
         exact seqIx hj
       have ht4 : (upd H3 l (.lst (ls.eraseIdx j))) t = some (.lst ts) := by rw [upd_ne tl]; exact ht3
       refine ⟨t, ts, _, rfl, rfl, ht4, Nat.lt_of_le_of_lt (m := 1000) (by omega) (by decide), ?_⟩
       have hlen3 : (ls.eraseIdx j).length + 1 = ls.length := by rw [List.length_eraseIdx, if_pos hj]; omega
       refine ⟨(ls.eraseIdx j).length, by omega, ls.eraseIdx j, ts ++ [ls[j]], k1 + 1, rfl, rfl, ?_, upd_same, perm_move hy hp, ?_, by omega, ?_⟩
       · rw [upd_ne tl.symm]
         exact upd_same
       · obtain ⟨a, b, e1, h0⟩ := hd3
         exact ⟨a, b, by rw [upd_ne nt'.symm, upd_ne nl'.symm]; exact e1, h0⟩
       · exact (((sb.trans (SameBut.new (.refl d H1) ne)).trans sb3).new nl).new nt0
end
/-! piece D4 -/
section
/-! ### what is beside, by the law -/
def near0 (n : Nat) : List (List Int) := [] :: (List.range n).map fun (i : Nat) => [((i : Int) + 1)]
def addE (t : List (List Int)) (e : Int × Int) : List (List Int) := (t.modify e.1.toNat (· ++ [e.2])).modify e.2.toNat (· ++ [e.1])
def nearM (n : Nat) (es : List (Int × Int)) : List (List Int) := es.foldl addE (near0 n)
def Pairs (H : Hp) (p : Addr) (es : List (Int × Int)) : Prop := ∃ rs : List Addr, H p = some (.lst (rs.map V.ref)) ∧ rs.length = es.length ∧
  ∀ (i : Nat) (r : Addr) (e : Int × Int), rs[i]? = some r → es[i]? = some e → H r = some (.lst [.int e.1, .int e.2])
def Lists (H : Hp) (p : Addr) (ts : List (List Int)) : Prop := ∃ rs : List Addr, H p = some (.lst (rs.map V.ref)) ∧ rs.Nodup ∧ rs.length = ts.length ∧
  ∀ (i : Nat) (r : Addr) (t : List Int), rs[i]? = some r → ts[i]? = some t → H r = some (.lst (t.map V.int))
theorem addE_length (t : List (List Int)) (e : Int × Int) : (addE t e).length = t.length := by
  unfold addE
  rw [List.length_modify, List.length_modify]
theorem foldl_addE_length : ∀ (es : List (Int × Int)) (t : List (List Int)), (es.foldl addE t).length = t.length
  | [], _ => rfl
  | e :: es, t => by
    rw [List.foldl_cons, foldl_addE_length es, addE_length]
theorem mem_modify {α : Type} {f : α → α} {l : List α} {i : Nat} {x : α} (h : x ∈ l.modify i f) : x ∈ l ∨ ∃ y ∈ l, x = f y := by
  obtain ⟨j, hj⟩ := List.getElem?_of_mem h
  rw [List.getElem?_modify] at hj
  cases hl : l[j]? with
  | none => rw [hl] at hj; simp at hj
  | some y =>
    rw [hl] at hj
    have hm := List.mem_of_getElem? hl
    by_cases e : i = j
    · simp [e] at hj
      exact .inr ⟨y, hm, hj.symm⟩
    · simp [e] at hj
      exact .inl (hj ▸ hm)
theorem addE_bound {t : List (List Int)} {b : Nat} (h : ∀ u ∈ t, u.length ≤ b) (e : Int × Int) : ∀ u ∈ addE t e, u.length ≤ b + 2 := by
  intro u hu
  unfold addE at hu
  rcases mem_modify hu with hu | ⟨v, hv, rfl⟩
  · rcases mem_modify hu with hu | ⟨v, hv, rfl⟩
    · exact Nat.le_trans (h u hu) (by omega)
    · have := h v hv
      simp; omega
  · rcases mem_modify hv with hv | ⟨x, hx, rfl⟩
    · have := h v hv
      simp; omega
    · have := h x hx
      simp; omega
theorem foldl_addE_bound : ∀ (es : List (Int × Int)) (t : List (List Int)) (b : Nat), (∀ u ∈ t, u.length ≤ b) → ∀ u ∈ es.foldl addE t, u.length ≤ b + 2 * es.length
  | [], _, _, h => h
  | e :: es, t, b, h => fun u hu => by
    have := foldl_addE_bound es (addE t e) (b + 2) (addE_bound h e) u hu
    rw [List.length_cons]
    omega
theorem near0_length (n : Nat) : (near0 n).length = n + 1 := by simp [near0]
theorem near0_bound (n : Nat) : ∀ u ∈ near0 n, u.length ≤ 1 := by
  intro u hu
  simp [near0] at hu
  rcases hu with rfl | ⟨i, _, rfl⟩ <;> simp
@[irreducible] def spNear : Sp := fun vs H Q _ => ∃ (n : Nat) (q : Addr) (es : List (Int × Int)), vs = [.int n, .ref q] ∧ n ≤ 12 ∧ Pairs H q es ∧ es.length ≤ 200 ∧ (∀ e ∈ es, 1 ≤ e.1 ∧ e.1 ≤ n ∧ 1 ≤ e.2 ∧ e.2 ≤ n) ∧
  ∀ p H', Same H H' → H p = none → Lists H' p (nearM n es) → Q (.ref p) H'
theorem call_near {n : Nat} {q : Addr} {es : List (Int × Int)} {H : Hp} {Q : VK} {E : XK} (hn : n ≤ 12) (hq : Pairs H q es) (hl : es.length ≤ 200) (he : ∀ e ∈ es, 1 ≤ e.1 ∧ e.1 ≤ n ∧ 1 ≤ e.2 ∧ e.2 ≤ n)
    (fin : ∀ p H', Same H H' → H p = none → Lists H' p (nearM n es) → Q (.ref p) H') : spNear [.int n, .ref q] H Q E := by
  unfold spNear
  exact ⟨n, q, es, rfl, hn, hq, hl, he, fin⟩
variable {P : Program} {w : World} {K : PySem.W.Frag} {mg : Str → Option Value} {base : Heap}
set_option maxHeartbeats 4000000 in
theorem ok_near {f : Addr} {fd : FuncData} (F : Fun K "_law_near" "_law_near" s_law_near f fd) (mr : mg "range" = none) :
    FnOk P w K mg base CX0 1 f fd ["_law_size", "_law_sides"] spNear := by
  refine F.ok sc_law_near (fun vs H Q E h => ?_) (fun cdv A outer s H vs Q E hr h => ?_)
  · unfold spNear at h
    obtain ⟨n, q, es, rfl, _⟩ := h
    rfl
  · have nd := sc_law_near.nd
    have hS := sc_law_near
    have hKM : KMark K := ⟨⟩
    refine' mk_body ?body ?rd
    case body =>
      show PSs _ [_, _, _] _
      wtm_at "fo ss"
    case rd =>
     unfold spNear at h
     obtain ⟨n, q, es, rfl, hn, hq, hl, he, fin⟩ := h
     wtm_at "fo r"
     rename_i p0 np0 p1 np1
     have h10 : p0 ≠ p1 := ne_of_none (upd_same (H := H) (a := p0) (o := HO.lst [])) np1
     have np1' : H p1 = none := by rw [upd_ne h10.symm] at np1; exact np1
     refine fun D nD => ?_
     have hD0 : p0 ≠ D := ne_of_none (H := upd (upd H p0 (.lst [])) p1 (.lst [V.ref p0])) (by rw [upd_ne h10]; exact upd_same) nD
     have hD1 : p1 ≠ D := ne_of_none (upd_same (H := upd H p0 (.lst []))) nD
     have nD' : H D = none := by
       rw [upd_ne hD1.symm, upd_ne hD0.symm] at nD
       exact nD
     have hN : ((n : Int) + 1 - 1).toNat = n := by omega
     refine lc_range (fun i H1 => i ≤ n ∧ Same H H1 ∧ H1 p0 = some (.lst []) ∧ H1 p1 = some (.lst [V.ref p0]) ∧ ∃ rs, LsAt H H1 D rs ((List.range i).map fun (i : Nat) => [((i : Int) + 1)]) ∧ p0 ∉ rs) ?_ ?_ ?_
     · refine ⟨Nat.zero_le _, same_upd (same_upd (same_upd (Same.refl H) np0) np1') nD', ?_, ?_, [], LsAt.nil upd_same, by simp⟩
       · rw [upd_ne hD0, upd_ne h10]
         exact upd_same
       · rw [upd_ne hD1]
         exact upd_same
     · rintro i H1 hi ⟨hin, sm, e0, e1, rs, L, h0⟩
       rw [hN] at hi
       refine ⟨rfl, ?_⟩
       wtm_at "fo r"
       rename_i r nr
       have nr0 : H r = none := sm.free nr
       have a1 : p0 ≠ r := ne_of_none e0 nr
       have a2 : p1 ≠ r := ne_of_none e1 nr
       have e3 : (1 : Int) + (i : Int) = (i : Int) + 1 := by omega
       have L2 := L.push (t := [(i : Int) + 1]) nr nr0
       refine ⟨rs.map V.ref, ?_, ?_, by omega, ?_, ?_, ?_, rs ++ [r], ?_, ?_⟩
       · rw [upd_ne (ne_of_none L.hD nr)]
         exact L.hD
       · rw [List.length_map, L.len, List.length_map, List.length_range]
         exact Nat.lt_of_le_of_lt (m := 100) (by omega) (by decide)
       · exact same_upd (same_upd sm nr0) nD'
       · rw [upd_ne hD0, upd_ne a1]
         exact e0
       · rw [upd_ne hD1, upd_ne a2]
         exact e1
       · rw [e3, List.range_succ, List.map_append]
         exact L2
       · intro h
         rcases List.mem_append.mp h with h | h
         · exact h0 h
         · simp at h
           exact a1 h
     · rintro H1 ⟨hin, sm, e0, e1, rs, L, h0⟩
       rw [hN] at L
       refine Or.inr ⟨_, _, _, _, rfl, rfl, e1, L.hD, ?_, fun p2 np2 => ?_⟩
       · have : rs.length = n := by rw [L.len, List.length_map, List.length_range]
         rw [List.length_map, this]
         show 1 + n ≤ sizeLine
         exact Nat.le_trans (m := 100) (by omega) (by decide)
       have L0 : LsAt H (upd H1 p2 (.lst ([V.ref p0] ++ rs.map V.ref))) p2 (p0 :: rs) (near0 n) := by
         have h02 : p0 ≠ p2 := ne_of_none e0 np2
         have L' := L.but (o := HO.lst ([V.ref p0] ++ rs.map V.ref)) np2
         refine ⟨upd_same, List.nodup_cons.mpr ⟨h0, L.nd⟩, by simp [near0, L.len], ?_, ?_, ?_⟩
         · intro i r t hr ht
           cases i with
           | zero =>
             simp [near0] at hr ht
             subst hr ht
             rw [upd_ne h02]
             exact e0
           | succ i =>
             simp only [List.getElem?_cons_succ] at hr
             have ht' : ((List.range n).map fun (i : Nat) => [((i : Int) + 1)])[i]? = some t := ht
             exact L'.at_ i r t hr ht'
         · intro r hr
           rcases List.mem_cons.mp hr with rfl | hr
           · exact np0
           · exact L.fr r hr
         · intro h
           rcases List.mem_cons.mp h with h | h
           · exact h02 h.symm
           · obtain ⟨o, ho⟩ := L.trk h
             rw [np2] at ho
             cases ho
       have np2' : H p2 = none := sm.free np2
       have sm2 : Same H (upd H1 p2 (.lst ([V.ref p0] ++ rs.map V.ref))) := same_upd sm (sm.free np2)
       generalize upd H1 p2 (.lst ([V.ref p0] ++ rs.map V.ref)) = H2 at L0 sm2
       generalize p0 :: rs = ps at L0
       obtain ⟨qs, hq1, hq2, hq3⟩ := hq
       have hq' : H2 q = some (.lst (qs.map V.ref)) := sm2 _ _ hq1
       refine ⟨_, rfl, q, rfl, ⟨_, SqL.of hq'⟩, ?_⟩
       refine for_list (K := K) (xs := qs.map V.ref) (fun i σ H3 => ∃ y4 y5, σ = [some (.int n), some (.ref q), some (.ref p2), none, y4, y5] ∧ Same H H3 ∧ LsAt H H3 p2 ps ((es.take i).foldl addE (near0 n)))
         ⟨none, none, rfl, sm2, L0⟩ ?_ ?_ ?_
       · rintro i σ H3 hi ⟨y4, y5, rfl, sm3, L3⟩
         exact SqL.of (sm3 _ _ hq1)
       · rintro i x σ H3 hx ⟨y4, y5, rfl, sm3, L3⟩
         obtain ⟨r, hr, rfl⟩ : ∃ r, qs[i]? = some r ∧ x = V.ref r := by
           rw [List.getElem?_map] at hx
           cases hq : qs[i]? with
           | none => rw [hq] at hx; cases hx
           | some r => rw [hq] at hx; exact ⟨r, rfl, (Option.some.inj hx).symm⟩
         have hi : i < es.length := by rw [← hq2]; exact (List.getElem?_eq_some_iff.mp hr).1
         have hes : es[i]? = some es[i] := List.getElem?_eq_getElem hi
         have htk : (es.take (i + 1)).foldl addE (near0 n) = addE ((es.take i).foldl addE (near0 n)) es[i] := by
           rw [List.take_add_one, hes, List.foldl_append]
           rfl
         have hb := foldl_addE_bound (es.take i) (near0 n) 1 (near0_bound n)
         have hlt : ((es.take i).foldl addE (near0 n)).length = n + 1 := by rw [foldl_addE_length, near0_length]
         have htl : (es.take i).length ≤ 200 := Nat.le_trans (List.length_take_le ..) (by omega)
         generalize (es.take i).foldl addE (near0 n) = ts at *
         obtain ⟨h1, h2, h3, h4⟩ := he es[i] (List.getElem_mem hi)
         have hre := sm3 _ _ (hq3 i r es[i] hr hes)
         generalize es[i] = e at *
         obtain ⟨ea, eb⟩ := e
         simp only at h1 h2 h3 h4 hre
         have hpl : ps.length = n + 1 := by rw [L3.len, hlt]
         have g1 : ea.toNat < ps.length := by omega
         have g2 : eb.toNat < ps.length := by omega
         have k1 : ps[ea.toNat]? = some ps[ea.toNat] := List.getElem?_eq_getElem g1
         have k2 : ps[eb.toNat]? = some ps[eb.toNat] := List.getElem?_eq_getElem g2
         have u1 : ts[ea.toNat]? = some ts[ea.toNat] := List.getElem?_eq_getElem (by omega)
         have hA := L3.at_ _ _ _ k1 u1
         have b1 := hb _ (List.getElem_mem (show ea.toNat < ts.length by omega))
         have L4 := L3.modify (v := eb) k1 u1
         have sm4 : Same H (upd H3 ps[ea.toNat] (.lst (ts[ea.toNat].map V.int ++ [V.int eb]))) := same_upd sm3 (L3.fr _ (List.mem_of_getElem? k1))
         refine Or.inr ⟨r, [.int ea, .int eb], rfl, SqL.of hre, rfl, .int ea, [.int eb], rfl, .int eb, [], rfl, rfl, ?_⟩
         wtm_at "fo r"
         refine Or.inl ⟨p2, ps.map V.ref, ea, .ref ps[ea.toNat], rfl, rfl, SqL.of L3.hD, at_of (j := ea.toNat) (by omega) (by rw [List.getElem?_map, k1]; rfl), ?_⟩
         refine ⟨.inl ⟨rfl, _, SqL.of hA⟩, _, rfl, _, _, _, rfl, rfl, hA, ?_, ?_⟩
         · rw [List.length_map]
           exact Nat.lt_of_le_of_lt (m := 1000) (by omega) (by decide)
         wtm_at "fo r"
         have hlt2 : (ts.modify ea.toNat (· ++ [eb])).length = n + 1 := by rw [List.length_modify, hlt]
         have u2 : (ts.modify ea.toNat (· ++ [eb]))[eb.toNat]? = some (ts.modify ea.toNat (· ++ [eb]))[eb.toNat] := List.getElem?_eq_getElem (by omega)
         have hB := L4.at_ _ _ _ k2 u2
         have b2 : ((ts.modify ea.toNat (· ++ [eb]))[eb.toNat]).length ≤ 500 := by
           rcases mem_modify (List.mem_of_getElem? u2) with hu | ⟨v, hv, e⟩
           · exact Nat.le_trans (hb _ hu) (by omega)
           · have := hb _ hv
             rw [e]
             simp; omega
         have L5 := L4.modify (v := ea) k2 u2
         refine Or.inl ⟨p2, ps.map V.ref, eb, .ref ps[eb.toNat], rfl, rfl, SqL.of L4.hD, at_of (j := eb.toNat) (by omega) (by rw [List.getElem?_map, k2]; rfl), ?_⟩
         refine ⟨.inl ⟨rfl, _, SqL.of hB⟩, _, rfl, _, _, _, rfl, rfl, hB, ?_, ?_⟩
         · rw [List.length_map]
           exact Nat.lt_of_le_of_lt (m := 1000) (by omega) (by decide)
         refine ⟨_, _, rfl, same_upd sm4 (L3.fr _ (List.mem_of_getElem? k2)), ?_⟩
         rw [htk]
         exact L5
       · rintro σ H3 ⟨y4, y5, rfl, sm3, L3⟩
         rw [List.length_map, hq2, List.take_length] at L3
         wtm_at "fo r"
         exact fin p2 H3 sm3 np2' ⟨ps, L3.hD, L3.nd, L3.len, L3.at_⟩
end
/-! piece D5m -/
section
/-! ### nets in lists of pairs -/
abbrev Edge := Int × Int
def Apart (a b : Edge) : Prop := a ≠ b ∧ a ≠ (b.2, b.1)
structure Simp (n : Int) (es : List Edge) : Prop where
  rng : ∀ e ∈ es, 1 ≤ e.1 ∧ e.1 ≤ n ∧ 1 ≤ e.2 ∧ e.2 ≤ n ∧ e.1 ≠ e.2
  ap : es.Pairwise Apart
theorem Apart.symm {a b : Edge} (h : Apart a b) : Apart b a := ⟨fun e => h.1 e.symm, fun e => h.2 (by rw [e])⟩
structure PsAt (H : Hp) (D : Addr) (rs : List Addr) (es : List Edge) : Prop where
  hD : H D = some (.lst (rs.map V.ref))
  len : rs.length = es.length
  at_ : ∀ (i : Nat) (r : Addr) (e : Edge), rs[i]? = some r → es[i]? = some e → H r = some (.lst [.int e.1, .int e.2])
theorem PsAt.pairs {H : Hp} {D : Addr} {rs : List Addr} {es : List Edge} (h : PsAt H D rs es) : Pairs H D es := ⟨rs, h.hD, h.len, h.at_⟩
theorem PsAt.of {H : Hp} {D : Addr} {es : List Edge} (h : Pairs H D es) : ∃ rs, PsAt H D rs es := by
  obtain ⟨rs, a, b, c⟩ := h
  exact ⟨rs, a, b, c⟩
theorem PsAt.mem {H : Hp} {D : Addr} {rs : List Addr} {es : List Edge} (h : PsAt H D rs es) {r : Addr} (hr : r ∈ rs) : ∃ e ∈ es, H r = some (.lst [.int e.1, .int e.2]) := by
  obtain ⟨i, hi⟩ := List.getElem?_of_mem hr
  have hl : i < es.length := by rw [← h.len]; exact (List.getElem?_eq_some_iff.mp hi).1
  exact ⟨es[i], List.getElem_mem hl, h.at_ i r _ hi (List.getElem?_eq_getElem hl)⟩
theorem PsAt.ne {H : Hp} {D : Addr} {rs : List Addr} {es : List Edge} (h : PsAt H D rs es) {r : Addr} (hr : r ∈ rs) : r ≠ D := by
  obtain ⟨e, _, he⟩ := h.mem hr
  refine ne_of he h.hD ?_
  intro q
  injection q with q
  cases rs with
  | nil => simp at q
  | cons a l => simp at q
theorem PsAt.nil {H : Hp} {D : Addr} (h : H D = some (.lst [])) : PsAt H D [] [] := ⟨h, rfl, fun i r e h _ => by simp at h⟩
theorem PsAt.same {H H' : Hp} {D : Addr} {rs : List Addr} {es : List Edge} (h : PsAt H D rs es) (s : Same H H') : PsAt H' D rs es :=
  ⟨s _ _ h.hD, h.len, fun i r e a b => s _ _ (h.at_ i r e a b)⟩
theorem Dr.ne_refs {H : Hp} {d D : Addr} {k : Int} {rs : List Addr} (h : Dr H d k) (hr : H D = some (.lst (rs.map V.ref))) : D ≠ d := by
  obtain ⟨a, b, hd, _⟩ := h
  refine ne_of hr hd ?_
  intro e
  injection e with e
  cases rs with
  | nil => simp at e
  | cons x l => simp at e
theorem Dr.ne_ints {H : Hp} {d D : Addr} {k : Int} {xs : List Int} (h : Dr H d k) (hr : H D = some (.lst (xs.map V.int))) : D ≠ d := by
  obtain ⟨a, b, hd, _⟩ := h
  refine ne_of hr hd ?_
  intro e
  injection e with e
  cases xs with
  | nil => simp at e
  | cons x l => cases l with
    | nil => simp at e
    | cons y l => cases l with
      | nil => simp at e
      | cons z l => simp at e
theorem PsAt.but {H H' : Hp} {d D : Addr} {k : Int} {rs : List Addr} {es : List Edge} (h : PsAt H D rs es) (s : SameBut d H H') (hd : Dr H d k) : PsAt H' D rs es :=
  ⟨s _ _ (hd.ne_refs h.hD) h.hD, h.len, fun i r e a b => s _ _ (hd.ne_pair (h.at_ i r e a b)) (h.at_ i r e a b)⟩
theorem PsAt.push {H : Hp} {D r : Addr} {rs : List Addr} {es : List Edge} (h : PsAt H D rs es) (nr : H r = none) (e : Edge) :
    PsAt (upd (upd H r (.lst [.int e.1, .int e.2])) D (.lst (rs.map V.ref ++ [V.ref r]))) D (rs ++ [r]) (es ++ [e]) := by
  have hDr : D ≠ r := ne_of_none h.hD nr
  refine ⟨?_, ?_, ?_⟩
  · rw [upd_same, List.map_append]
    rfl
  · rw [List.length_append, List.length_append, h.len]
    rfl
  · intro i a u ha hu
    by_cases hi : i < rs.length
    · rw [List.getElem?_append_left hi] at ha
      rw [List.getElem?_append_left (by rw [← h.len]; exact hi)] at hu
      rw [upd_ne (h.ne (List.mem_of_getElem? ha)), upd_ne (ne_of_none (h.at_ i a u ha hu) nr)]
      exact h.at_ i a u ha hu
    · rw [List.getElem?_append_right (by omega)] at ha
      rw [List.getElem?_append_right (by rw [← h.len]; omega), ← h.len] at hu
      have e0 : i - rs.length = 0 := by
        have := (List.getElem?_eq_some_iff.mp ha).1
        simp at this
        omega
      rw [e0] at ha hu
      simp at ha hu
      subst ha hu
      rw [upd_ne hDr.symm, upd_same]
theorem PsAt.cat {H : Hp} {D D2 p : Addr} {rs rs2 : List Addr} {es es2 : List Edge} (h : PsAt H D rs es) (h2 : PsAt H D2 rs2 es2) (np : H p = none) :
    PsAt (upd H p (.lst (rs.map V.ref ++ rs2.map V.ref))) p (rs ++ rs2) (es ++ es2) := by
  refine ⟨by rw [upd_same, List.map_append], by rw [List.length_append, List.length_append, h.len, h2.len], ?_⟩
  intro i a u ha hu
  by_cases hi : i < rs.length
  · rw [List.getElem?_append_left hi] at ha
    rw [List.getElem?_append_left (by rw [← h.len]; exact hi)] at hu
    rw [upd_ne (ne_of_none (h.at_ i a u ha hu) np)]
    exact h.at_ i a u ha hu
  · rw [List.getElem?_append_right (by omega)] at ha
    rw [List.getElem?_append_right (by rw [← h.len]; omega), ← h.len] at hu
    rw [upd_ne (ne_of_none (h2.at_ _ a u ha hu) np)]
    exact h2.at_ _ a u ha hu
theorem PsAt.one {H : Hp} {D r : Addr} {e : Edge} (hD : H D = some (.lst [V.ref r])) (hr : H r = some (.lst [.int e.1, .int e.2])) : PsAt H D [r] [e] := by
  refine ⟨hD, rfl, ?_⟩
  intro i a u ha hu
  cases i with
  | zero => simp at ha hu; subst ha hu; exact hr
  | succ i => simp at ha
/-! numbers without repeats -/
theorem nodup_le : ∀ (n : Nat) (l : List Int), l.Nodup → (∀ x ∈ l, 1 ≤ x ∧ x ≤ n) → l.length ≤ n
  | 0, l, _, h => by
    cases l with
    | nil => exact Nat.le_refl _
    | cons a r => have := h a (List.mem_cons_self ..); omega
  | n + 1, l, nd, h => by
    have h1 : (l.erase ((n : Int) + 1)).length ≤ n := by
      apply nodup_le n _ (nd.erase _)
      intro x hx
      have hx2 := (List.Nodup.mem_erase_iff nd).mp hx
      have := h x hx2.2
      have := hx2.1
      omega
    have h2 : l.length ≤ (l.erase ((n : Int) + 1)).length + 1 := by
      rw [List.length_erase]
      split <;> omega
    omega
/-! the mates of a place in a list of pairs -/
def mates (g : Int) (es : List Edge) : List Int := es.filterMap fun e => if e.1 = g ∨ e.2 = g then some (e.1 + e.2 - g) else none
theorem mates_rng {n g : Int} {es : List Edge} (h : Simp n es) : ∀ m ∈ mates g es, 1 ≤ m ∧ m ≤ n ∧ m ≠ g := by
  intro m hm
  obtain ⟨e, he, hf⟩ := List.mem_filterMap.mp hm
  have := h.rng e he
  split at hf
  · rename_i hg
    cases hf
    rcases hg with rfl | rfl <;> omega
  · cases hf
theorem mates_nodup {n g : Int} {es : List Edge} (h : Simp n es) : (mates g es).Nodup := by
  unfold mates List.Nodup
  rw [List.pairwise_filterMap]
  refine h.ap.imp_of_mem ?_
  intro a b ha hb hab x hx y hy
  split at hx
  · rename_i h1
    split at hy
    · rename_i h2
      cases hx
      cases hy
      intro e
      obtain ⟨a1, a2⟩ := a
      obtain ⟨b1, b2⟩ := b
      have q1 := hab.1
      have q2 := hab.2
      simp only [ne_eq, Prod.mk.injEq] at q1 q2
      simp only at e h1 h2
      apply Classical.byContradiction
      intro _
      omega
    · cases hy
  · cases hx
theorem simp_grow {s g : Int} {es : List Edge} {fs : List Int} (h : Simp (s - 1) es) (g1 : 1 ≤ g) (g2 : g ≤ s - 1) (hf : fs.Sublist (mates g es)) : Simp s (es ++ (g, s) :: fs.map fun m => (m, s)) := by
  have hr : ∀ m ∈ g :: fs, 1 ≤ m ∧ m ≤ s - 1 := by
    intro m hm
    rcases List.mem_cons.mp hm with rfl | hm
    · exact ⟨g1, g2⟩
    · have := mates_rng h m (hf.subset hm)
      exact ⟨this.1, this.2.1⟩
  have hnd : (g :: fs).Nodup := by
    refine List.nodup_cons.mpr ⟨fun hg => ?_, (mates_nodup h).sublist hf⟩
    exact (mates_rng h g (hf.subset hg)).2.2 rfl
  have hm : (g, s) :: fs.map (fun m => (m, s)) = (g :: fs).map fun m => (m, s) := rfl
  rw [hm]
  generalize g :: fs = l at hr hnd
  refine ⟨?_, ?_⟩
  · intro e he
    rcases List.mem_append.mp he with he | he
    · have := h.rng e he
      omega
    · obtain ⟨m, hm, rfl⟩ := List.mem_map.mp he
      have := hr m hm
      simp only
      omega
  · rw [List.pairwise_append]
    refine ⟨h.ap, ?_, ?_⟩
    · rw [List.pairwise_map]
      refine hnd.imp_of_mem ?_
      intro a b ha hb hab
      have := hr a ha
      have := hr b hb
      refine ⟨fun e => hab ?_, fun e => ?_⟩
      · simp only [Prod.mk.injEq] at e; exact e.1
      · simp only [Prod.mk.injEq] at e; omega
    · intro a ha b hb
      obtain ⟨m, hm, rfl⟩ := List.mem_map.mp hb
      have q1 := h.rng a ha
      have q2 := hr m hm
      refine ⟨fun e => ?_, fun e => ?_⟩
      · have e1 := congrArg Prod.snd e
        simp only at e1
        omega
      · have e1 := congrArg Prod.fst e
        simp only at e1
        omega
theorem mates_len {s g : Int} {es : List Edge} {fs : List Int} (h : Simp (s - 1) es) (hs : s ≤ 13) (hf : fs.Sublist (mates g es)) : fs.length ≤ 12 := by
  apply nodup_le 12 fs ((mates_nodup h).sublist hf)
  intro m hm
  have := mates_rng h m (hf.subset hm)
  omega
theorem simp_mono {n m : Int} {es : List Edge} (h : Simp n es) (hm : n ≤ m) : Simp m es := ⟨fun e he => by have := h.rng e he; omega, h.ap⟩

theorem mates_snoc (g : Int) (es : List Edge) (e : Edge) : mates g (es ++ [e]) = mates g es ++ (if e.1 = g ∨ e.2 = g then [e.1 + e.2 - g] else []) := by
  unfold mates
  rw [List.filterMap_append]
  congr 1
  by_cases h : e.1 = g ∨ e.2 = g
  · simp [h]
  · simp [h]
theorem mates_length (g : Int) (es : List Edge) : (mates g es).length ≤ es.length := List.length_filterMap_le ..
theorem inV2 (g a b : Int) : inV (.int g) [.int a, .int b] = decide (a = g ∨ b = g) := by
  simp only [inV, List.any_cons, List.any_nil, Bool.or_false, eqV]
  by_cases h1 : a = g <;> by_cases h2 : b = g <;> simp [h1, h2]
theorem Dr.same {H H' : Hp} {d : Addr} {k : Int} (h : Dr H d k) (s : Same H H') : Dr H' d k := by
  obtain ⟨a, b, e, h0⟩ := h
  exact ⟨a, b, s _ _ e, h0⟩
theorem Same.but {H H' : Hp} (d : Addr) (s : Same H H') : SameBut d H H' := fun b o _ e => s b o e
theorem SameBut.none {d p : Addr} {H H' : Hp} {k : Int} (s : SameBut d H H') (hd : Dr H' d k) (np : H' p = none) : H p = none := by
  cases hq : H p with
  | none => rfl
  | some o =>
    obtain ⟨a, b, e, _⟩ := hd
    have hne : p ≠ d := (ne_of_none e np).symm
    rw [s p o hne hq] at np
    cases np
theorem ref_at {qs : List Addr} {i : Nat} {x : V} (h : (qs.map V.ref)[i]? = some x) : ∃ r, qs[i]? = some r ∧ x = V.ref r := by
  rw [List.getElem?_map] at h
  cases hq : qs[i]? with
  | none => rw [hq] at h; cases h
  | some r => rw [hq] at h; exact ⟨r, rfl, (Option.some.inj h).symm⟩
theorem int_at {ns : List Int} {i : Nat} {x : V} (h : (ns.map V.int)[i]? = some x) : ∃ r, ns[i]? = some r ∧ x = V.int r := by
  rw [List.getElem?_map] at h
  cases hq : ns[i]? with
  | none => rw [hq] at h; cases h
  | some r => rw [hq] at h; exact ⟨r, rfl, (Option.some.inj h).symm⟩
end
/-! piece D6m -/
section
/-! ### renaming, flipping and shuffling a net -/
theorem simp_perm {n : Int} {es fs : List Edge} (h : Simp n es) (p : fs.Perm es) : Simp n fs :=
  ⟨fun e he => h.rng e (p.mem_iff.mp he), (p.pairwise_iff (fun hab => Apart.symm hab)).mpr h.ap⟩
theorem simp_map {n m : Int} {es : List Edge} (h : Simp n es) (f : Int → Int) (hr : ∀ x, 1 ≤ x → x ≤ n → 1 ≤ f x ∧ f x ≤ m) (inj : ∀ x y, 1 ≤ x → x ≤ n → 1 ≤ y → y ≤ n → f x = f y → x = y) :
    Simp m (es.map fun e => (f e.1, f e.2)) := by
  refine ⟨?_, ?_⟩
  · intro e he
    obtain ⟨a, ha, rfl⟩ := List.mem_map.mp he
    have q := h.rng a ha
    have q1 := hr a.1 q.1 q.2.1
    have q2 := hr a.2 q.2.2.1 q.2.2.2.1
    refine ⟨q1.1, q1.2, q2.1, q2.2, fun e => q.2.2.2.2 (inj _ _ q.1 q.2.1 q.2.2.1 q.2.2.2.1 e)⟩
  · rw [List.pairwise_map]
    refine h.ap.imp_of_mem ?_
    intro a b ha hb hab
    have qa := h.rng a ha
    have qb := h.rng b hb
    refine ⟨fun e => hab.1 ?_, fun e => hab.2 ?_⟩
    · simp only [Prod.mk.injEq] at e
      exact Prod.ext (inj _ _ qa.1 qa.2.1 qb.1 qb.2.1 e.1) (inj _ _ qa.2.2.1 qa.2.2.2.1 qb.2.2.1 qb.2.2.2.1 e.2)
    · simp only [Prod.mk.injEq] at e
      exact Prod.ext (inj _ _ qa.1 qa.2.1 qb.2.2.1 qb.2.2.2.1 e.1) (inj _ _ qa.2.2.1 qa.2.2.2.1 qb.1 qb.2.1 e.2)
/-- some pairs the other way about -/
def Flips : List Edge → List Edge → Prop
  | [], [] => True
  | a :: as, b :: bs => (b = a ∨ b = (a.2, a.1)) ∧ Flips as bs
  | _, _ => False
theorem flips_snoc : ∀ {as bs : List Edge} {a b : Edge}, Flips as bs → (b = a ∨ b = (a.2, a.1)) → Flips (as ++ [a]) (bs ++ [b])
  | [], [], _, _, _, h => ⟨h, trivial⟩
  | _ :: _, _ :: _, _, _, h, h2 => ⟨h.1, flips_snoc h.2 h2⟩
theorem flips_mem : ∀ {as bs : List Edge}, Flips as bs → ∀ b ∈ bs, ∃ a ∈ as, b = a ∨ b = (a.2, a.1)
  | [], [], _, b, h => nomatch h
  | a :: as, c :: bs, h, b, hb => by
    rcases List.mem_cons.mp hb with rfl | hb
    · exact ⟨a, List.mem_cons_self .., h.1⟩
    · obtain ⟨x, hx, h2⟩ := flips_mem h.2 b hb
      exact ⟨x, List.mem_cons_of_mem _ hx, h2⟩
theorem flips_apart {a b c d : Edge} (h : Apart a b) (hc : c = a ∨ c = (a.2, a.1)) (hd : d = b ∨ d = (b.2, b.1)) : Apart c d := by
  obtain ⟨a1, a2⟩ := a
  obtain ⟨b1, b2⟩ := b
  have q1 := h.1
  have q2 := h.2
  simp only [ne_eq, Prod.mk.injEq] at q1 q2
  unfold Apart
  rcases hc with rfl | rfl <;> rcases hd with rfl | rfl <;> simp only [ne_eq, Prod.mk.injEq] <;> refine ⟨fun e => ?_, fun e => ?_⟩ <;> first | exact q1 e | exact q2 e | exact q1 ⟨e.2, e.1⟩ | exact q2 ⟨e.2, e.1⟩
theorem flips_pair : ∀ {as bs : List Edge}, Flips as bs → as.Pairwise Apart → bs.Pairwise Apart
  | [], [], _, _ => List.Pairwise.nil
  | a :: as, b :: bs, h, hp => by
    rw [List.pairwise_cons] at hp ⊢
    refine ⟨?_, flips_pair h.2 hp.2⟩
    intro c hc
    obtain ⟨x, hx, hx2⟩ := flips_mem h.2 c hc
    exact flips_apart (hp.1 x hx) h.1 hx2
theorem simp_flips {n : Int} {es fs : List Edge} (h : Simp n es) (hf : Flips es fs) : Simp n fs := by
  refine ⟨?_, flips_pair hf h.ap⟩
  intro e he
  obtain ⟨a, ha, h2⟩ := flips_mem hf e he
  have q := h.rng a ha
  rcases h2 with rfl | rfl
  · exact q
  · exact ⟨q.2.2.1, q.2.2.2.1, q.1, q.2.1, fun e => q.2.2.2.2 e.symm⟩
theorem flips_length : ∀ {as bs : List Edge}, Flips as bs → bs.length = as.length
  | [], [], _ => rfl
  | _ :: _, _ :: _, h => by rw [List.length_cons, List.length_cons, flips_length h.2]
/-- any lines: those of one place to greater ones -/
theorem simp_rows {n a : Int} {es : List Edge} {bs : List Int} (h : Simp n es) (h1 : ∀ e ∈ es, e.1 < a ∧ e.1 < e.2) (ha : 1 ≤ a) (han : a ≤ n) (hb : ∀ b ∈ bs, a < b ∧ b ≤ n) (nd : bs.Nodup) : Simp n (es ++ bs.map fun b => (a, b)) := by
  refine ⟨?_, ?_⟩
  · intro e he
    rcases List.mem_append.mp he with he | he
    · exact h.rng e he
    · obtain ⟨b, hb2, rfl⟩ := List.mem_map.mp he
      have := hb b hb2
      simp only
      omega
  · rw [List.pairwise_append]
    refine ⟨h.ap, ?_, ?_⟩
    · rw [List.pairwise_map]
      refine nd.imp_of_mem ?_
      intro x y hx hy hxy
      have := hb x hx
      have := hb y hy
      refine ⟨fun e => hxy ?_, fun e => ?_⟩
      · simp only [Prod.mk.injEq] at e; exact e.2
      · simp only [Prod.mk.injEq] at e; omega
    · intro x hx y hy
      obtain ⟨b, hb2, rfl⟩ := List.mem_map.mp hy
      have q1 := h1 x hx
      have q2 := hb b hb2
      refine ⟨fun e => ?_, fun e => ?_⟩
      · have := congrArg Prod.fst e; simp only at this; omega
      · have e1 := congrArg Prod.fst e
        have e2 := congrArg Prod.snd e
        simp only at e1 e2
        omega
theorem perm_lift {α β : Type} (f : α → β) {l m : List β} (h : l.Perm m) : ∀ zs, m = zs.map f → ∃ zs' : List α, zs'.Perm zs ∧ l = zs'.map f := by
  induction h with
  | nil => intro zs e; exact ⟨[], by cases zs with | nil => exact List.Perm.refl _ | cons a r => simp at e, rfl⟩
  | cons x _ ih =>
    intro zs e
    cases zs with
    | nil => simp at e
    | cons a r =>
      simp only [List.map_cons, List.cons.injEq] at e
      obtain ⟨zs', h1, h2⟩ := ih r e.2
      exact ⟨a :: zs', h1.cons a, by rw [List.map_cons, ← h2, e.1]⟩
  | swap x y l =>
    intro zs e
    cases zs with
    | nil => simp at e
    | cons a r =>
      cases r with
      | nil => simp at e
      | cons b r =>
        simp only [List.map_cons, List.cons.injEq] at e
        exact ⟨b :: a :: r, List.Perm.swap a b r, by rw [List.map_cons, List.map_cons, ← e.1, ← e.2.1, ← e.2.2]⟩
  | trans _ _ ih1 ih2 =>
    intro zs e
    obtain ⟨z1, h1, h2⟩ := ih2 zs e
    obtain ⟨z2, h3, h4⟩ := ih1 z1 h2
    exact ⟨z2, h3.trans h1, h4⟩
theorem zip_at {α β : Type} : ∀ {rs : List α} {es : List β} {i : Nat} {r : α} {e : β}, (rs.zip es)[i]? = some (r, e) → rs[i]? = some r ∧ es[i]? = some e
  | [], _, _, _, _, h => by simp at h
  | _ :: _, [], _, _, _, h => by simp at h
  | a :: rs, b :: es, 0, r, e, h => by simp at h; simp [h.1, h.2]
  | a :: rs, b :: es, i + 1, r, e, h => by
    simp only [List.zip_cons_cons, List.getElem?_cons_succ] at h ⊢
    exact zip_at h
theorem PsAt.perm {H H' : Hp} {D D2 : Addr} {rs : List Addr} {es : List Edge} {ys : List V} (h : PsAt H D rs es) (hp : ys.Perm (rs.map V.ref)) (hD : H' D2 = some (.lst ys))
    (keep : ∀ r e, r ∈ rs → H r = some (.lst [.int e.1, .int e.2]) → H' r = some (.lst [.int (e : Edge).1, .int e.2])) : ∃ fs rs', fs.Perm es ∧ PsAt H' D2 rs' fs := by
  have e1 : rs.map V.ref = (rs.zip es).map fun z => V.ref z.1 := by
    rw [show (fun z : Addr × Edge => V.ref z.1) = V.ref ∘ Prod.fst from rfl, ← List.map_map, List.map_fst_zip (by rw [h.len]; exact Nat.le_refl _)]
  obtain ⟨zs, hz, rfl⟩ := perm_lift (fun z : Addr × Edge => V.ref z.1) hp (rs.zip es) e1
  refine ⟨zs.map (·.2), zs.map (·.1), ?_, ?_, ?_, ?_⟩
  · have := hz.map (·.2)
    rw [List.map_snd_zip (by rw [h.len]; exact Nat.le_refl _)] at this
    exact this
  · rw [List.map_map]
    exact hD
  · rw [List.length_map, List.length_map]
  · intro i r e hr he
    rw [List.getElem?_map] at hr he
    cases hzi : zs[i]? with
    | none => rw [hzi] at hr; cases hr
    | some z =>
      rw [hzi] at hr he
      cases hr
      cases he
      have hm : z ∈ rs.zip es := hz.mem_iff.mp (List.mem_of_getElem? hzi)
      obtain ⟨j, hj⟩ := List.getElem?_of_mem hm
      obtain ⟨a, b⟩ := z
      obtain ⟨j1, j2⟩ := zip_at hj
      exact keep a b (List.mem_of_getElem? j1) (h.at_ j a b j1 j2)
theorem PsAt.cong {H : Hp} {D : Addr} {rs : List Addr} {es fs : List Edge} (h : PsAt H D rs es) (e : es = fs) : PsAt H D rs fs := e ▸ h
/-- a row of names: zs is the numbers 1 to n in some order -/
def nameOf (zs : List Int) (x : Int) : Int := (zs[(x - 1).toNat]?).getD 0
theorem name_at {zs : List Int} {n : Nat} (hz : zs.Perm ((List.range n).map fun (i : Nat) => (1 : Int) + i)) {x : Int} (h1 : 1 ≤ x) (h2 : x ≤ n) : zs[(x - 1).toNat]? = some (nameOf zs x) ∧ 1 ≤ nameOf zs x ∧ nameOf zs x ≤ n := by
  have hl : zs.length = n := by rw [hz.length_eq]; simp
  have hi : (x - 1).toNat < zs.length := by omega
  have e : zs[(x - 1).toNat]? = some zs[(x - 1).toNat] := List.getElem?_eq_getElem hi
  have e2 : nameOf zs x = zs[(x - 1).toNat] := by unfold nameOf; rw [e]; rfl
  have hm : zs[(x - 1).toNat] ∈ ((List.range n).map fun (i : Nat) => (1 : Int) + i) := hz.mem_iff.mp (List.getElem_mem hi)
  obtain ⟨i, hi2, hi3⟩ := List.mem_map.mp hm
  have := List.mem_range.mp hi2
  rw [e2]
  exact ⟨e, by omega, by omega⟩
theorem name_inj {zs : List Int} {n : Nat} (hz : zs.Perm ((List.range n).map fun (i : Nat) => (1 : Int) + i)) {x y : Int} (h1 : 1 ≤ x) (h2 : x ≤ n) (h3 : 1 ≤ y) (h4 : y ≤ n) (e : nameOf zs x = nameOf zs y) : x = y := by
  have nd : zs.Nodup := by
    refine (hz.nodup_iff).mpr ?_
    rw [List.Nodup, List.pairwise_map]
    refine List.nodup_range.imp ?_
    intro a b hab h
    exact hab (by omega)
  have a1 := (name_at hz h1 h2).1
  have a2 := (name_at hz h3 h4).1
  rw [e] at a1
  have := nd_ix nd a1 a2
  omega
theorem simp_nil (n : Int) : Simp n [] := ⟨(fun e h => nomatch h), List.Pairwise.nil⟩
end
/-! piece D7m -/
section
/-! ### what is beside a place -/
theorem addE_get {t : List (List Int)} {e : Edge} {p : Nat} {u : List Int} (h1 : 0 ≤ e.1) (h2 : 0 ≤ e.2) (hne : e.1 ≠ e.2) (h : t[p]? = some u) :
    (addE t e)[p]? = some (u ++ (if e.1 = (p : Int) ∨ e.2 = (p : Int) then [e.1 + e.2 - p] else [])) := by
  unfold addE
  rw [List.getElem?_modify, List.getElem?_modify, h]
  by_cases a1 : e.1.toNat = p <;> by_cases a2 : e.2.toNat = p
  · omega
  · have b1 : e.1 = (p : Int) := by omega
    have b2 : ¬ e.2 = (p : Int) := by omega
    have b3 : e.1 + e.2 - p = e.2 := by omega
    simp [a1, a2, b1, b3]
    try omega
  · have b1 : ¬ e.1 = (p : Int) := by omega
    have b2 : e.2 = (p : Int) := by omega
    have b3 : e.1 + e.2 - p = e.1 := by omega
    simp [a1, a2, b2, b3]
    try omega
  · have b1 : ¬ e.1 = (p : Int) := by omega
    have b2 : ¬ e.2 = (p : Int) := by omega
    simp [a1, a2, b1, b2]
theorem foldl_addE_get {p : Nat} : ∀ (es : List Edge) (t : List (List Int)) (u : List Int), (∀ e ∈ es, 0 ≤ e.1 ∧ 0 ≤ e.2 ∧ e.1 ≠ e.2) → t[p]? = some u → (es.foldl addE t)[p]? = some (u ++ mates p es)
  | [], t, u, _, h => by simpa [mates] using h
  | e :: es, t, u, hr, h => by
    have he := hr e (List.mem_cons_self ..)
    have := foldl_addE_get es (addE t e) _ (fun x hx => hr x (List.mem_cons_of_mem _ hx)) (addE_get he.1 he.2.1 he.2.2 h)
    have hm : mates (p : Int) (e :: es) = (if e.1 = (p : Int) ∨ e.2 = (p : Int) then [e.1 + e.2 - p] else []) ++ mates p es := by
      unfold mates
      by_cases hc : e.1 = (p : Int) ∨ e.2 = (p : Int) <;> simp [List.filterMap_cons, hc]
    rw [List.foldl_cons, this, List.append_assoc, hm]
theorem near_get {n : Nat} {es : List Edge} (h : Simp n es) {p : Nat} (h1 : 1 ≤ p) (h2 : p ≤ n) : (nearM n es)[p]? = some ((p : Int) :: mates p es) := by
  have h0 : (near0 n)[p]? = some [(p : Int)] := by
    unfold near0
    cases p with
    | zero => omega
    | succ q =>
      rw [List.getElem?_cons_succ, List.getElem?_map, List.getElem?_range (by omega)]
      rfl
  exact foldl_addE_get es (near0 n) [(p : Int)] (fun e he => by have := h.rng e he; omega) h0
def besideM (n : Nat) (es : List Edge) (p : Int) : List Int := ((List.range n).map fun (i : Nat) => (i : Int) + 1).filter fun x => decide (x = p ∨ x ∈ mates p es)
theorem besideM_lt (n : Nat) (es : List Edge) (p : Int) : (besideM n es p).Pairwise (· < ·) := by
  unfold besideM
  apply List.Pairwise.filter
  rw [List.pairwise_map]
  exact List.pairwise_lt_range.imp fun h => by omega
theorem besideM_mem {n : Nat} {es : List Edge} {p : Int} (h : Simp n es) (h1 : 1 ≤ p) (h2 : p ≤ n) (x : Int) : x ∈ besideM n es p ↔ x ∈ p :: mates p es := by
  unfold besideM
  rw [List.mem_filter, List.mem_cons, decide_eq_true_iff]
  constructor
  · exact fun h => h.2
  · intro hx
    refine ⟨?_, hx⟩
    have : 1 ≤ x ∧ x ≤ n := by
      rcases hx with rfl | hx
      · exact ⟨h1, h2⟩
      · have := mates_rng h x hx
        exact ⟨this.1, this.2.1⟩
    exact List.mem_map.mpr ⟨(x - 1).toNat, List.mem_range.mpr (by omega), by omega⟩
theorem lt_unique : ∀ {l m : List Int}, l.Pairwise (· < ·) → m.Pairwise (· < ·) → (∀ x, x ∈ l ↔ x ∈ m) → l = m
  | [], [], _, _, _ => rfl
  | [], b :: m, _, _, h => by have := (h b).mpr (List.mem_cons_self ..); simp at this
  | a :: l, [], _, _, h => by have := (h a).mp (List.mem_cons_self ..); simp at this
  | a :: l, b :: m, hl, hm, h => by
    rw [List.pairwise_cons] at hl hm
    have hab : a = b := by
      have h1 := (h a).mp (List.mem_cons_self ..)
      have h2 := (h b).mpr (List.mem_cons_self ..)
      rcases List.mem_cons.mp h1 with e | h1
      · exact e
      · rcases List.mem_cons.mp h2 with e | h2
        · exact e.symm
        · have := hm.1 a h1
          have := hl.1 b h2
          omega
    subst hab
    rw [lt_unique hl.2 hm.2 fun x => ?_]
    constructor
    · intro hx
      rcases List.mem_cons.mp ((h x).mp (List.mem_cons_of_mem _ hx)) with e | hx2
      · subst e; have := hl.1 x hx; omega
      · exact hx2
    · intro hx
      rcases List.mem_cons.mp ((h x).mpr (List.mem_cons_of_mem _ hx)) with e | hx2
      · subst e; have := hm.1 x hx; omega
      · exact hx2
theorem sorted_is {l m k : List Int} (hp : l.Perm k) (hs : l.Pairwise (· ≤ ·)) (hk : k.Nodup) (hm : m.Pairwise (· < ·)) (h : ∀ x, x ∈ m ↔ x ∈ k) : l = m := by
  have hn : l.Nodup := hp.nodup_iff.mpr hk
  refine lt_unique ?_ hm fun x => (hp.mem_iff).trans (h x).symm
  have := hs.and hn
  exact this.imp fun ⟨a, b⟩ => by omega
theorem near_sorted {n : Nat} {es : List Edge} {p : Int} (h : Simp n es) (h1 : 1 ≤ p) (h2 : p ≤ n) {l : List Int} (hp : l.Perm (p :: mates p es)) (hs : l.Pairwise (· ≤ ·)) : l = besideM n es p :=
  sorted_is hp hs (List.nodup_cons.mpr ⟨fun hm => (mates_rng h p hm).2.2 rfl, mates_nodup h⟩) (besideM_lt n es p) (besideM_mem h h1 h2)
theorem besideM_length {n : Nat} {es : List Edge} {p : Int} (hn : n ≤ 12) : (besideM n es p).length ≤ 12 := by
  unfold besideM
  refine Nat.le_trans (List.length_filter_le ..) ?_
  simp
  exact hn
theorem besideM_rng {n : Nat} {es : List Edge} {p x : Int} (hx : x ∈ besideM n es p) : 1 ≤ x ∧ x ≤ n := by
  unfold besideM at hx
  obtain ⟨h1, _⟩ := List.mem_filter.mp hx
  obtain ⟨i, hi, rfl⟩ := List.mem_map.mp h1
  have := List.mem_range.mp hi
  omega
/-! the data of nets and of rows -/
def dI (xs : List Int) : PyData := .list (xs.map PyData.int)
def dE (es : List Edge) : PyData := .list (es.map fun e => .list [.int e.1, .int e.2])
theorem dok_dI {xs : List Int} (h : ∀ x ∈ xs, x.natAbs < 1000) : DOk 1 (2 + xs.length * 7) (dI xs) := by
  have := dok_list (n := 0) (b := 5) (xs := xs.map PyData.int) (fun d hd => by
    obtain ⟨x, hx, rfl⟩ := List.mem_map.mp hd
    exact dok_int (h x hx))
  rw [List.length_map] at this
  exact this
theorem dok_pair {a b : Int} (h1 : a.natAbs < 1000) (h2 : b.natAbs < 1000) : DOk 1 20 (.list [.int a, .int b]) := by
  refine (dok_list (n := 0) (b := 5) ?_).mono (by decide) (by simp)
  intro x hx
  simp only [List.mem_cons, List.not_mem_nil, or_false] at hx
  rcases hx with rfl | rfl
  · exact dok_int h1
  · exact dok_int h2
theorem dok_dE {es : List Edge} (h : ∀ e ∈ es, e.1.natAbs < 1000 ∧ e.2.natAbs < 1000) : DOk 2 (2 + es.length * 22) (dE es) := by
  have := dok_list (n := 1) (b := 20) (xs := es.map fun e => PyData.list [.int e.1, .int e.2]) (fun d hd => by
    obtain ⟨x, hx, rfl⟩ := List.mem_map.mp hd
    exact dok_pair (h x hx).1 (h x hx).2)
  rw [List.length_map] at this
  exact this
theorem Simp.small {n : Int} {es : List Edge} (h : Simp n es) (hn : n ≤ 200) : ∀ e ∈ es, e.1.natAbs < 1000 ∧ e.2.natAbs < 1000 := fun e he => by
  have := h.rng e he
  omega
theorem dp_dI {K : PySem.W.Frag} {H : Hp} {p : Addr} {xs : List Int} (h : SqL K H p (xs.map V.int)) : Dp K H (.ref p) (dI xs) := .lst h (dp_ints xs)
theorem dp_pairsAll {K : PySem.W.Frag} {H : Hp} : ∀ {rs : List Addr} {es : List Edge}, rs.length = es.length → (∀ (i : Nat) (r : Addr) (e : Edge), rs[i]? = some r → es[i]? = some e → H r = some (.lst [.int e.1, .int e.2])) →
    DpAll K H (rs.map V.ref) (es.map fun e => .list [.int e.1, .int e.2])
  | [], [], _, _ => .nil
  | [], _ :: _, h, _ => by simp at h
  | _ :: _, [], h, _ => by simp at h
  | r :: rs, e :: es, hl, h => .cons (.lst (SqL.of (h 0 r e rfl rfl)) (.cons (.int _) (.cons (.int _) .nil))) (dp_pairsAll (by simpa using hl) fun i a b h1 h2 => h (i + 1) a b (by simpa using h1) (by simpa using h2))
theorem dp_dE {K : PySem.W.Frag} {H : Hp} {p : Addr} {es : List Edge} (h : Pairs H p es) : Dp K H (.ref p) (dE es) := by
  obtain ⟨rs, h1, h2, h3⟩ := h
  exact .lst (SqL.of h1) (dp_pairsAll h2 h3)

/-! ### the program's promises, as the law asks them -/
@[irreducible] def spBeside : Sp := fun vs H Q _ => ∃ (q : Addr) (n : Nat) (p : Int) (es : List Edge), vs = [.int n, .ref q, .int p] ∧ 1 ≤ n ∧ n ≤ 12 ∧ 1 ≤ p ∧ p ≤ n ∧ Pairs H q es ∧ Simp n es ∧ es.length ≤ 200 ∧
  ∀ r H', Same H H' → H r = none → H' r = some (.lst ((besideM n es p).map V.int)) → Q (.ref r) H'
theorem call_beside {q : Addr} {n : Nat} {p : Int} {es : List Edge} {H : Hp} {Q : VK} {E : XK} (h1 : 1 ≤ n) (h2 : n ≤ 12) (h3 : 1 ≤ p) (h4 : p ≤ n) (hq : Pairs H q es) (hS : Simp n es) (hl : es.length ≤ 200)
    (fin : ∀ r H', Same H H' → H r = none → H' r = some (.lst ((besideM n es p).map V.int)) → Q (.ref r) H') : spBeside [.int n, .ref q, .int p] H Q E := by
  unfold spBeside
  exact ⟨q, n, p, es, rfl, h1, h2, h3, h4, hq, hS, hl, fin⟩
/-- a def of the text that may be called by its parameters' names alone -/
structure KCal (P : Program) (w : World) (K : PySem.W.Frag) (mg : Str → Option Value) (base : Heap) (x : Str) (k : Nat) (ps ks : List Str) (g : List Value → List Value → List Value) (gV : List V → List V → List V) (sp : Sp) : Prop where
  ex : ∃ (f : Addr) (fd : FuncData), FnOk P w K mg base CX0 k f fd ps sp ∧ mg x = some (.ref f) ∧ PySem.W.keepIn K (.ref f) = true ∧ KBinds K fd ps ks g gV
theorem pe_kcal {X : Cx} {x : Str} {p pos : Pos} {kws : List Keyword} {tk : TA} {k j : Nat} {ps ks : List Str} {g : List Value → List Value → List Value} {gV : List V → List V → List V} {sp : Sp}
    (C : KCal X.prog X.w X.K X.mg X.base x k ps ks g gV sp) (hr : Room j X.A) (hkj : k ≤ j) (hg : Gl X x) (hkw : PK X kws tk)
    (hall : (backToKw pos (keywordEach kws X.env)).all (·.1.isSome) = true := by rfl) (hks : (backToKw pos (keywordEach kws X.env)).filterMap (·.1) = ks := by rfl)
    (hdb : (x == ("__debug__" : Str)) = false := by decide)
    (hpl : ((backTo pos (starEach [] X.env)).any (·.1) || (backToKw pos (keywordEach kws X.env)).any (·.1.isNone)) = false := by rfl) :
    PE X (.Call (.Name x p) [] kws pos) (tCallK sp gV E0 tNil tk) := by
  obtain ⟨f, fd, F, hm, hk, hb⟩ := C.ex
  exact pe_callK0 F (hr.mono hkj) hg hm hk hb pass0 hkw hall hks hdb hpl
def g3 {α : Type} : List α → List α → List α := fun us ws => match us, ws with
  | [], [a, b, c] => [c, b, a]
  | _, _ => []
theorem Pairs.same {H H' : Hp} {p : Addr} {es : List Edge} (h : Pairs H p es) (s : Same H H') : Pairs H' p es := by
  obtain ⟨rs, a, b, c⟩ := h
  exact ⟨rs, s _ _ a, b, fun i r e x y => s _ _ (c i r e x y)⟩
theorem Dp.dok_two {K : PySem.W.Frag} {H : Hp} {t a b : Addr} {d : PyData} (ht : H t = some (.lst [.ref a, .ref b])) (ha : Dp K H (.ref a) d) (hb : Dp K H (.ref b) d) : Dp K H (.ref t) (.list [d, d]) :=
  .lst (SqL.of ht) (.cons ha (.cons hb .nil))
theorem dok_two {n b : Nat} {d : PyData} (h : DOk n b d) : DOk (n + 1) (2 + 2 * (b + 2)) (.list [d, d]) := by
  refine dok_list (xs := [d, d]) (fun x hx => ?_)
  simp only [List.mem_cons, List.not_mem_nil, or_false] at hx
  rcases hx with rfl | rfl <;> exact h
end
/-! piece FG -/
section
/-! ### folds and their maps, in general -/
section
variable {adj : Int → Int → Prop}
def StepOk (adj : Int → Int → Prop) (S : Int → Prop) (p q : Int) : Prop := S p ∧ S q ∧ p ≠ q ∧ ∀ z, S z → adj p z → adj q z
inductive Run (adj : Int → Int → Prop) : (Int → Prop) → List Edge → (Int → Prop) → Prop where
  | nil (S : Int → Prop) : Run adj S [] S
  | cons {S S' : Int → Prop} {p q : Int} {l : List Edge} (h : StepOk adj S p q) (r : Run adj (fun x => S x ∧ x ≠ p) l S') : Run adj S ((p, q) :: l) S'
def mapR : List Edge → Int → Int
  | [], x => x
  | e :: l, x => mapR l (if x = e.1 then e.2 else x)
def Stiff (adj : Int → Int → Prop) (S : Int → Prop) : Prop := ∀ p q, ¬ StepOk adj S p q
theorem mapR_in {S S' : Int → Prop} {l : List Edge} (r : Run adj S l S') : ∀ {x : Int}, S x → S' (mapR l x) := by
  induction r with
  | nil S => exact fun h => h
  | @cons S S' p q l h r ih =>
    intro x hx
    unfold mapR
    apply ih
    by_cases e : x = p
    · simp only [e, if_true]
      exact ⟨h.2.1, h.2.2.1.symm⟩
    · simp only [e, if_false]
      exact ⟨hx, e⟩
theorem run_sub {S S' : Int → Prop} {l : List Edge} (r : Run adj S l S') : ∀ {x : Int}, S' x → S x ∧ ∀ e ∈ l, x ≠ e.1 := by
  induction r with
  | nil S => exact fun h => ⟨h, fun _ h => nomatch h⟩
  | @cons S S' p q l h r ih =>
    intro x hx
    obtain ⟨⟨h1, h2⟩, h3⟩ := ih hx
    refine ⟨h1, fun e he => ?_⟩
    rcases List.mem_cons.mp he with rfl | he
    · exact h2
    · exact h3 e he
theorem mapR_off : ∀ {l : List Edge} {x : Int}, (∀ e ∈ l, x ≠ e.1) → mapR l x = x
  | [], _, _ => rfl
  | e :: l, x, h => by
    unfold mapR
    rw [if_neg (h e (List.mem_cons_self ..))]
    exact mapR_off fun u hu => h u (List.mem_cons_of_mem _ hu)
theorem mapR_fix {S S' : Int → Prop} {l : List Edge} (r : Run adj S l S') {x : Int} (h : S' x) : mapR l x = x := mapR_off (run_sub r h).2
theorem mapR_hom (sy : ∀ x y, adj x y → adj y x) {S S' : Int → Prop} {l : List Edge} (r : Run adj S l S') : ∀ {x y : Int}, S x → S y → adj x y → adj (mapR l x) (mapR l y) := by
  induction r with
  | nil S => exact fun _ _ h => h
  | @cons S S' p q l h r ih =>
    intro x y hx hy ha
    obtain ⟨hp, hq, hne, hn⟩ := h
    unfold mapR
    apply ih
    · by_cases e : x = p
      · simp only [e, if_true]; exact ⟨hq, hne.symm⟩
      · simp only [e, if_false]; exact ⟨hx, e⟩
    · by_cases e : y = p
      · simp only [e, if_true]; exact ⟨hq, hne.symm⟩
      · simp only [e, if_false]; exact ⟨hy, e⟩
    · by_cases e1 : x = p
      · subst e1
        by_cases e2 : y = x
        · subst e2
          simp only [if_true]
          exact hn q hq (sy _ _ (hn y hp ha))
        · simp only [e2, if_true, if_false]
          exact hn y hy ha
      · by_cases e2 : y = p
        · subst e2
          simp only [e1, if_true, if_false]
          exact sy _ _ (hn x hx (sy _ _ ha))
        · simp only [e1, e2, if_false]
          exact ha
/-- whoever stands so that the map of full folds leads each back does so behind further folds -/
theorem led_back (rf : ∀ x, adj x x) (sy : ∀ x y, adj x y → adj y x) {S E : Int → Prop} {l : List Edge} (r : Run adj S l E) (st : Stiff adj E)
    {T T' : Int → Prop} {m : List Edge} (rm : Run adj T m T') : (∀ x, T x → S x) → ∀ {s : Int → Int}, (∀ x, E x → T (s x)) → (∀ x y, E x → E y → adj x y → adj (s x) (s y)) → (∀ x, E x → mapR l (s x) = x) →
      ∀ x, E x → mapR l (mapR m (s x)) = x := by
  induction rm with
  | nil T => exact fun _ s _ _ h => h
  | @cons T T' p q m h rm ih =>
    intro hTS s hin hom hb x hx
    obtain ⟨hp, hq, hne, hn⟩ := h
    show mapR l (mapR m (if s x = p then q else s x)) = x
    refine ih (s := fun x => if s x = p then q else s x) (fun x hx => hTS x hx.1) ?_ ?_ ?_ x hx
    · intro x hx
      by_cases e : s x = p
      · simp only [e, if_true]; exact ⟨hq, hne.symm⟩
      · simp only [e, if_false]; exact ⟨hin x hx, e⟩
    · intro x y hx hy ha
      have ha := hom x y hx hy ha
      by_cases e1 : s x = p
      · by_cases e2 : s y = p
        · simp only [e1, e2, if_true]; exact rf q
        · simp only [e1, e2, if_true, if_false]
          rw [e1] at ha
          exact hn _ (hin y hy) ha
      · by_cases e2 : s y = p
        · simp only [e1, e2, if_true, if_false]
          rw [e2] at ha
          exact sy _ _ (hn _ (hin x hx) (sy _ _ ha))
        · simp only [e1, e2, if_false]; exact ha
    · intro x hx
      by_cases e : s x = p
      · simp only [e, if_true]
        -- what is beside x in the end is beside its new goal
        apply Classical.byContradiction
        intro hxy
        refine st x (mapR l q) ⟨hx, mapR_in r (hTS q hq), fun e => hxy e.symm, ?_⟩
        intro z hz hxz
        have h1 := hom x z hx hz hxz
        rw [e] at h1
        have h2 := hn _ (hin z hz) h1
        have h3 := mapR_hom sy r (hTS q hq) (hTS _ (hin z hz)) h2
        rw [hb z hz] at h3
        exact h3
      · simp only [e, if_false]
        exact hb x hx
theorem back (rf : ∀ x, adj x x) (sy : ∀ x y, adj x y → adj y x) {S E E' : Int → Prop} {l m : List Edge} (r : Run adj S l E) (st : Stiff adj E) (rm : Run adj S m E') {x : Int} (hx : E x) : mapR l (mapR m x) = x :=
  led_back rf sy r st rm (fun _ h => h) (s := fun x => x) (fun x hx => (run_sub r hx).1) (fun _ _ _ _ h => h) (fun x hx => mapR_fix r hx) x hx
theorem alike_iff (rf : ∀ x, adj x x) (sy : ∀ x y, adj x y → adj y x) {S E E' : Int → Prop} {l m : List Edge} (r : Run adj S l E) (st : Stiff adj E) (rm : Run adj S m E') {x y : Int} (hx : E x) (hy : E y) :
    adj (mapR m x) (mapR m y) ↔ adj x y := by
  constructor
  · intro h
    have h2 := mapR_hom sy r (run_sub rm (mapR_in rm (run_sub r hx).1)).1 (run_sub rm (mapR_in rm (run_sub r hy).1)).1 h
    rwa [back rf sy r st rm hx, back rf sy r st rm hy] at h2
  · exact fun h => mapR_hom sy rm (run_sub r hx).1 (run_sub r hy).1 h
end
/-! ### the same over lists of lines -/
theorem mem_mates {g m : Int} {es : List Edge} : m ∈ mates g es ↔ (g, m) ∈ es ∨ (m, g) ∈ es := by
  unfold mates
  rw [List.mem_filterMap]
  constructor
  · rintro ⟨⟨a, b⟩, he, hf⟩
    simp only at hf
    split at hf
    · rename_i hc
      have hf := Option.some.inj hf
      rcases hc with hc | hc
      · left
        rw [show (g, m) = (a, b) by rw [Prod.mk.injEq]; omega]
        exact he
      · right
        rw [show (m, g) = (a, b) by rw [Prod.mk.injEq]; omega]
        exact he
    · cases hf
  · rintro (h | h)
    · exact ⟨_, h, by simp only [true_or, if_true]; congr 1; omega⟩
    · exact ⟨_, h, by simp only [or_true, if_true]; congr 1; omega⟩
def Adj (es : List Edge) (a b : Int) : Prop := b ∈ a :: mates a es
instance (es : List Edge) (a b : Int) : Decidable (Adj es a b) := by unfold Adj; exact inferInstance
theorem adj_refl (es : List Edge) (a : Int) : Adj es a a := List.mem_cons_self ..
theorem adj_symm {es : List Edge} (a b : Int) (h : Adj es a b) : Adj es b a := by
  unfold Adj at h ⊢
  rcases List.mem_cons.mp h with e | h
  · subst e; exact List.mem_cons_self ..
  · exact List.mem_cons_of_mem _ (mem_mates.mpr ((mem_mates.mp h).symm))
/-- what a place can be folded onto, in the order of the law's own list -/
def ontoM (es : List Edge) (left : List Int) (p : Int) : List Int :=
  let some := (p :: mates p es).filter fun m => decide (m ∈ left)
  some.filter fun m => decide (m ≠ p ∧ (some.filter fun o => !decide (o ∈ m :: mates m es)) = [])
theorem ontoM_mem {es : List Edge} {left : List Int} {p q : Int} (hp : p ∈ left) : q ∈ ontoM es left p ↔ StepOk (Adj es) (· ∈ left) p q := by
  unfold ontoM StepOk
  simp only [List.mem_filter, decide_eq_true_eq, List.filter_eq_nil_iff, Bool.not_eq_true', decide_eq_false_iff_not]
  constructor
  · rintro ⟨⟨h1, h2⟩, h3, h4⟩
    refine ⟨hp, h2, fun e => h3 e.symm, fun z hz ha => ?_⟩
    exact Decidable.not_not.mp (h4 z ⟨ha, hz⟩)
  · rintro ⟨_, h2, h3, h4⟩
    refine ⟨⟨adj_symm _ _ (h4 p hp (adj_refl es p)), h2⟩, fun e => h3 e.symm, fun z hz => ?_⟩
    exact fun hh => hh (h4 z hz.2 hz.1)
def foldableM (es : List Edge) (left : List Int) : List Int := left.filter fun p => decide (ontoM es left p ≠ [])
def without (left : List Int) (p : Int) : List Int := left.filter fun m => decide (m ≠ p)
theorem without_mem {left : List Int} {p x : Int} : x ∈ without left p ↔ x ∈ left ∧ x ≠ p := by
  unfold without
  rw [List.mem_filter, decide_eq_true_eq]
theorem without_lt {left : List Int} {p : Int} (h : left.Pairwise (· < ·)) : (without left p).Pairwise (· < ·) := List.Pairwise.filter _ h
/-- folds by lists: what is left is told too -/
inductive RunL (es : List Edge) : List Int → List Edge → List Int → Prop where
  | nil (left : List Int) : RunL es left [] left
  | cons {left left' : List Int} {p q : Int} {l : List Edge} (hp : p ∈ left) (hq : q ∈ ontoM es left p) (r : RunL es (without left p) l left') : RunL es left ((p, q) :: l) left'
theorem RunL.run {es : List Edge} {left left' : List Int} {l : List Edge} (r : RunL es left l left') : Run (Adj es) (· ∈ left) l (· ∈ left') := by
  induction r with
  | nil left => exact .nil _
  | @cons left left' p q l hp hq r ih =>
    refine .cons ((ontoM_mem hp).mp hq) ?_
    have e : (fun x => x ∈ left ∧ x ≠ p) = (· ∈ without left p) := by
      funext x
      exact propext without_mem.symm
    rw [e]
    exact ih
theorem RunL.snoc {es : List Edge} {left left' : List Int} {l : List Edge} (r : RunL es left l left') {p q : Int} (hp : p ∈ left') (hq : q ∈ ontoM es left' p) : RunL es left (l ++ [(p, q)]) (without left' p) := by
  induction r with
  | nil left => exact .cons hp hq (.nil _)
  | cons hp' hq' r ih => exact .cons hp' hq' (ih hp hq)
theorem RunL.length {es : List Edge} {left left' : List Int} {l : List Edge} (r : RunL es left l left') (nd : left.Nodup) : left'.length + l.length = left.length ∧ left'.Nodup := by
  induction r with
  | nil left => exact ⟨rfl, nd⟩
  | @cons left left' p q l hp hq r ih =>
    have h1 : (without left p).length + 1 = left.length := by
      have h2 : without left p = left.erase p := by
        unfold without
        rw [List.Nodup.erase_eq_filter nd]
        congr 1
        funext x
        by_cases e : x = p <;> simp [e]
      rw [h2, List.length_erase_of_mem hp]
      have : 0 < left.length := List.length_pos_of_mem hp
      omega
    obtain ⟨h3, h4⟩ := ih (nd.filter _)
    rw [List.length_cons]
    exact ⟨by omega, h4⟩
theorem RunL.pos {es : List Edge} {left left' : List Int} {l : List Edge} (r : RunL es left l left') (h : left ≠ []) : left' ≠ [] := by
  induction r with
  | nil left => exact h
  | @cons left left' p q l hp hq r ih =>
    apply ih
    have := (ontoM_mem hp).mp hq
    intro e
    have hm : q ∈ without left p := without_mem.mpr ⟨this.2.1, this.2.2.1.symm⟩
    rw [e] at hm
    cases hm
theorem stiff_of {es : List Edge} {left : List Int} (h : foldableM es left = []) : Stiff (Adj es) (· ∈ left) := by
  intro p q hs
  have hm : p ∈ foldableM es left := by
    unfold foldableM
    rw [List.mem_filter, decide_eq_true_eq]
    refine ⟨hs.1, fun e => ?_⟩
    have := (ontoM_mem hs.1).mpr hs
    rw [e] at this
    cases this
  rw [h] at hm
  cases hm
theorem RunL.sub {es : List Edge} {left left' : List Int} {l : List Edge} (r : RunL es left l left') : ∀ x ∈ left', x ∈ left := fun _ hx => (run_sub r.run hx).1
theorem RunL.lt {es : List Edge} {left left' : List Int} {l : List Edge} (r : RunL es left l left') (h : left.Pairwise (· < ·)) : left'.Pairwise (· < ·) := by
  induction r with
  | nil left => exact h
  | cons hp hq r ih => exact ih (without_lt h)
/-- the map, by places -/
def whereL (n : Nat) (ps : List Edge) : List Int := (List.range (n + 1)).map fun (i : Nat) => mapR ps (i : Int)
theorem whereL_length (n : Nat) (ps : List Edge) : (whereL n ps).length = n + 1 := by simp [whereL]
theorem whereL_get {n : Nat} {ps : List Edge} {i : Nat} (h : i ≤ n) : (whereL n ps)[i]? = some (mapR ps (i : Int)) := by
  unfold whereL
  rw [List.getElem?_map, List.getElem?_range (by omega)]
  rfl
theorem whereL_set {n : Nat} {ps : List Edge} {p q : Nat} (hp : p ≤ n) : (whereL n ps).set p (mapR ps (q : Int)) = whereL n (((p : Int), (q : Int)) :: ps) := by
  apply List.ext_getElem?
  intro i
  rw [List.getElem?_set]
  by_cases hi : i ≤ n
  · rw [whereL_get hi, whereL_get hi, whereL_length]
    by_cases e : p = i
    · subst e
      rw [if_pos rfl, if_pos (by omega)]
      simp [mapR]
    · rw [if_neg e]
      simp only [mapR]
      rw [if_neg (by omega)]
  · rw [if_neg (by omega), List.getElem?_eq_none (by rw [whereL_length]; omega), List.getElem?_eq_none (by rw [whereL_length]; omega)]
/-- the least of a list of numbers -/
def minL : List Int → Int
  | [] => 0
  | x :: r => r.foldl min x
/-- the folds of an order, each onto the least place then -/
def leastM (es : List Edge) : List Int → List Int → List Edge
  | _, [] => []
  | left, p :: r => (p, minL (ontoM es left p)) :: leastM es (without left p) r
theorem foldl_min_mem : ∀ (l : List Int) (a : Int), l.foldl min a ∈ a :: l
  | [], a => List.mem_cons_self ..
  | b :: l, a => by
    rw [List.foldl_cons]
    have h := foldl_min_mem l (min a b)
    rcases List.mem_cons.mp h with h | h
    · rw [h]
      by_cases e : a ≤ b
      · rw [Int.min_eq_left e]; exact List.mem_cons_self ..
      · rw [Int.min_eq_right (by omega)]; exact List.mem_cons_of_mem _ (List.mem_cons_self ..)
    · exact List.mem_cons_of_mem _ (List.mem_cons_of_mem _ h)
theorem foldl_min_le : ∀ (l : List Int) (a : Int), ∀ x ∈ a :: l, l.foldl min a ≤ x
  | [], a, x, h => by simp at h; subst h; exact Int.le_refl _
  | b :: l, a, x, h => by
    rw [List.foldl_cons]
    have h1 := foldl_min_le l (min a b) (min a b) (List.mem_cons_self ..)
    have h2 := Int.min_le_left a b
    have h3 := Int.min_le_right a b
    rcases List.mem_cons.mp h with rfl | h
    · omega
    · rcases List.mem_cons.mp h with rfl | h
      · omega
      · exact foldl_min_le l (min a b) x (List.mem_cons_of_mem _ h)
theorem minL_mem {l : List Int} (h : l ≠ []) : minL l ∈ l := by
  cases l with
  | nil => exact absurd rfl h
  | cons a l => exact foldl_min_mem l a
theorem minL_le {l : List Int} {x : Int} (h : x ∈ l) : minL l ≤ x := by
  cases l with
  | nil => cases h
  | cons a l => exact foldl_min_le l a x h
theorem RunL.least {es : List Edge} {left left' : List Int} {l : List Edge} (r : RunL es left l left') : RunL es left (leastM es left (l.map (·.1))) left' := by
  induction r with
  | nil left => exact .nil _
  | @cons left left' p q l hp hq r ih => exact .cons hp (minL_mem fun e => by rw [e] at hq; cases hq) ih
theorem leastM_fst (es : List Edge) : ∀ (o left : List Int), (leastM es left o).map (·.1) = o
  | [], _ => rfl
  | p :: o, left => by
    unfold leastM
    rw [List.map_cons, leastM_fst es o]
theorem RunL.take {es : List Edge} {left left' : List Int} {l : List Edge} (r : RunL es left l left') : ∀ k, ∃ left2, RunL es left (l.take k) left2 := by
  induction r with
  | nil left => exact fun k => ⟨left, by rw [List.take_nil]; exact .nil _⟩
  | @cons left left' p q l hp hq r ih =>
    intro k
    cases k with
    | zero => exact ⟨left, .nil _⟩
    | succ k =>
      obtain ⟨l2, h⟩ := ih k
      exact ⟨l2, by rw [List.take_succ_cons]; exact .cons hp hq h⟩
end
/-! piece LC -/
section
/-! ### a comprehension that filters and tells -/
theorem lc_gen {K : PySem.W.Frag} {a : Addr} {α : Type} {inj : α → V} {xs : List α} {i : Nat} {tt : TT} {te : TE} {vs : List Nat} {σ : Sl} {H1 : Hp} {D : Addr} {Qd : Hp → Prop} (f : α → Bool) (e : α → V)
    (hl : SqL K H1 a (xs.map inj)) (nD : H1 D = none) (hn : xs.length ≤ 10000) (hw : ∀ v, wipe ((wipe σ vs).set i (some v)) vs = wipe σ vs)
    (ht : ∀ x ∈ xs, ∀ H2, Same H1 H2 → ∀ R : Bool → Hp → Prop, (∀ H3, Same H2 H3 → R (f x) H3) → tt ((wipe σ vs).set i (some (inj x))) H2 R)
    (he : ∀ x ∈ xs, f x = true → ∀ H2, Same H1 H2 → ∀ R : V → Hp → Prop, (∀ H3, Same H2 H3 → R (e x) H3) → te ((wipe σ vs).set i (some (inj x))) H2 R)
    (hd : ∀ H2, Same H1 H2 → H2 D = some (.lst ((xs.filter f).map e)) → Qd H2) :
    ∃ W : Nat → Nat → Hp → Prop, (∃ m, W 0 m (upd H1 D (.lst []))) ∧ ∀ i' m H, W i' m H →
      ((Itl K a).stop i' H ∧ Qd H) ∨ ((Itl K a).go i' H ∧ ∃ Nx : Hp → Prop, (∀ H', Nx H' → ∃ m', m' < m ∧ W (i' + 1) m' H') ∧ ∀ x H', (Itl K a).yld i' H x H' → gName i x (wipe σ vs) H' fun σ2 H2 => wipe σ2 vs = wipe σ vs ∧ tt σ2 H2 fun b H3 =>
        if b = true then te σ2 H3 fun y H4 => ∃ acc, H4 D = some (.lst acc) ∧ acc.length < sizeLine ∧ Nx (upd H4 D (.lst (acc ++ [y]))) else Nx H3) := by
  refine lc_list (K := K) (xs := xs.map inj) (fun j H2 => Same H1 H2 ∧ H2 D = some (.lst (((xs.take j).filter f).map e))) ⟨same_upd (Same.refl _) nD, upd_same⟩ ?_ ?_ ?_
  · rintro j H2 _ ⟨sm, _⟩
    exact sm.seq hl
  · rintro j x H2 hx ⟨sm, hD⟩
    rw [List.getElem?_map] at hx
    cases hv : xs[j]? with
    | none => rw [hv] at hx; cases hx
    | some y =>
      rw [hv] at hx
      cases hx
      have hm := List.mem_of_getElem? hv
      have htk : xs.take (j + 1) = xs.take j ++ [y] := by rw [List.take_add_one, hv]; rfl
      refine ⟨hw _, ht y hm H2 sm _ fun H3 sm3 => ?_⟩
      cases hf : f y with
      | false =>
        refine ifF rfl ⟨sm.trans sm3, ?_⟩
        rw [htk, List.filter_append, List.filter_cons, hf]
        simpa using sm3 _ _ hD
      | true =>
        refine ifT rfl (he y hm hf H3 (sm.trans sm3) _ fun H4 sm4 => ?_)
        refine ⟨_, sm4 _ _ (sm3 _ _ hD), ?_, same_upd ((sm.trans sm3).trans sm4) nD, ?_⟩
        · rw [List.length_map]
          exact Nat.lt_of_le_of_lt (Nat.le_trans (List.length_filter_le ..) (Nat.le_trans (by rw [List.length_take]; exact Nat.min_le_right _ _) hn)) (by decide)
        · rw [upd_same, htk, List.filter_append, List.filter_cons, hf, List.map_append]
          simp
  · rintro H2 ⟨sm, hD⟩
    rw [List.length_map, List.take_length] at hD
    exact hd H2 sm hD
/-- the same where the thing itself is told -/
theorem lc_filt {K : PySem.W.Frag} {a : Addr} {xs : List Int} {i : Nat} {tt : TT} {vs : List Nat} {σ : Sl} {H1 : Hp} {D : Addr} {Qd : Hp → Prop} (f : Int → Bool)
    (hl : SqL K H1 a (xs.map V.int)) (nD : H1 D = none) (hn : xs.length ≤ 10000) (hi : i < σ.length) (hwl : (wipe σ vs).length = σ.length) (hw : ∀ v, wipe ((wipe σ vs).set i (some v)) vs = wipe σ vs)
    (ht : ∀ x ∈ xs, ∀ H2, Same H1 H2 → ∀ R : Bool → Hp → Prop, (∀ H3, Same H2 H3 → R (f x) H3) → tt ((wipe σ vs).set i (some (.int x))) H2 R)
    (hd : ∀ H2, Same H1 H2 → H2 D = some (.lst ((xs.filter f).map V.int)) → Qd H2) :
    ∃ W : Nat → Nat → Hp → Prop, (∃ m, W 0 m (upd H1 D (.lst []))) ∧ ∀ i' m H, W i' m H →
      ((Itl K a).stop i' H ∧ Qd H) ∨ ((Itl K a).go i' H ∧ ∃ Nx : Hp → Prop, (∀ H', Nx H' → ∃ m', m' < m ∧ W (i' + 1) m' H') ∧ ∀ x H', (Itl K a).yld i' H x H' → gName i x (wipe σ vs) H' fun σ2 H2 => wipe σ2 vs = wipe σ vs ∧ tt σ2 H2 fun b H3 =>
        if b = true then tVar i σ2 H3 fun y H4 => ∃ acc, H4 D = some (.lst acc) ∧ acc.length < sizeLine ∧ Nx (upd H4 D (.lst (acc ++ [y]))) else Nx H3) :=
  lc_gen (inj := V.int) f V.int hl nD hn hw ht (fun x _ _ H2 _ R hR => ⟨_, by rw [List.getElem?_set_self (by rw [hwl]; exact hi)], hR H2 (Same.refl _)⟩) hd
end
/-! piece D8m -/
section
/-! ### pairs as tuples -/
structure TsAt (H : Hp) (D : Addr) (rs : List Addr) (es : List Edge) : Prop where
  hD : H D = some (.lst (rs.map V.ref))
  len : rs.length = es.length
  at_ : ∀ (i : Nat) (r : Addr) (e : Edge), rs[i]? = some r → es[i]? = some e → H r = some (.tup [.int e.1, .int e.2])
theorem TsAt.mem {H : Hp} {D : Addr} {rs : List Addr} {es : List Edge} (h : TsAt H D rs es) {r : Addr} (hr : r ∈ rs) : ∃ e ∈ es, H r = some (.tup [.int e.1, .int e.2]) := by
  obtain ⟨i, hi⟩ := List.getElem?_of_mem hr
  have hl : i < es.length := by rw [← h.len]; exact (List.getElem?_eq_some_iff.mp hi).1
  exact ⟨es[i], List.getElem_mem hl, h.at_ i r _ hi (List.getElem?_eq_getElem hl)⟩
theorem TsAt.ne {H : Hp} {D : Addr} {rs : List Addr} {es : List Edge} (h : TsAt H D rs es) {r : Addr} (hr : r ∈ rs) : r ≠ D := by
  obtain ⟨e, _, he⟩ := h.mem hr
  exact ne_of he h.hD (by intro q; cases q)
theorem TsAt.nil {H : Hp} {D : Addr} (h : H D = some (.lst [])) : TsAt H D [] [] := ⟨h, rfl, fun i r e h _ => by simp at h⟩
theorem TsAt.same {H H' : Hp} {D : Addr} {rs : List Addr} {es : List Edge} (h : TsAt H D rs es) (s : Same H H') : TsAt H' D rs es :=
  ⟨s _ _ h.hD, h.len, fun i r e a b => s _ _ (h.at_ i r e a b)⟩
theorem TsAt.push {H : Hp} {D r : Addr} {rs : List Addr} {es : List Edge} (h : TsAt H D rs es) (nr : H r = none) (e : Edge) :
    TsAt (upd (upd H r (.tup [.int e.1, .int e.2])) D (.lst (rs.map V.ref ++ [V.ref r]))) D (rs ++ [r]) (es ++ [e]) := by
  have hDr : D ≠ r := ne_of_none h.hD nr
  refine ⟨?_, ?_, ?_⟩
  · rw [upd_same, List.map_append]
    rfl
  · rw [List.length_append, List.length_append, h.len]
    rfl
  · intro i a u ha hu
    by_cases hi : i < rs.length
    · rw [List.getElem?_append_left hi] at ha
      rw [List.getElem?_append_left (by rw [← h.len]; exact hi)] at hu
      rw [upd_ne (h.ne (List.mem_of_getElem? ha)), upd_ne (ne_of_none (h.at_ i a u ha hu) nr)]
      exact h.at_ i a u ha hu
    · rw [List.getElem?_append_right (by omega)] at ha
      rw [List.getElem?_append_right (by rw [← h.len]; omega), ← h.len] at hu
      have e0 : i - rs.length = 0 := by
        have := (List.getElem?_eq_some_iff.mp ha).1
        simp at this
        omega
      rw [e0] at ha hu
      simp at ha hu
      subst ha hu
      rw [upd_ne hDr.symm, upd_same]
theorem TsAt.cat {H : Hp} {D D2 p : Addr} {rs rs2 : List Addr} {es es2 : List Edge} (h : TsAt H D rs es) (h2 : TsAt H D2 rs2 es2) (np : H p = none) :
    TsAt (upd H p (.lst (rs.map V.ref ++ rs2.map V.ref))) p (rs ++ rs2) (es ++ es2) := by
  refine ⟨by rw [upd_same, List.map_append], by rw [List.length_append, List.length_append, h.len, h2.len], ?_⟩
  intro i a u ha hu
  by_cases hi : i < rs.length
  · rw [List.getElem?_append_left hi] at ha
    rw [List.getElem?_append_left (by rw [← h.len]; exact hi)] at hu
    rw [upd_ne (ne_of_none (h.at_ i a u ha hu) np)]
    exact h.at_ i a u ha hu
  · rw [List.getElem?_append_right (by omega)] at ha
    rw [List.getElem?_append_right (by rw [← h.len]; omega), ← h.len] at hu
    rw [upd_ne (ne_of_none (h2.at_ _ a u ha hu) np)]
    exact h2.at_ _ a u ha hu

theorem for_enum {K : PySem.W.Frag} {a : Addr} {xs : List V} {g : TG} {tb : TS} {D : Ends} {σ : Sl} {H : Hp} (Pv : Nat → Sl → Hp → Prop) (h0 : Pv 0 σ H) (hl : ∀ i σ H, i ≤ xs.length → Pv i σ H → SqL K H a xs)
    (hs : ∀ (i : Nat) x T σ H, xs[i]? = some x → Pv i σ H → H T = none → g (.ref T) σ (upd H T (.tup [.int (i : Nat), x])) fun σ2 H2 => tb { D with nx := Pv (i + 1), ct := Pv (i + 1), bk := D.nx } σ2 H2)
    (hd : ∀ σ H, Pv xs.length σ H → D.nx σ H) :
    ∃ W : Nat → Nat → Sl → Hp → Prop, (∃ m, W 0 m σ H) ∧ ∀ i m σ H, W i m σ H →
      ((Ite K a).stop i H ∧ D.nx σ H) ∨ ((Ite K a).go i H ∧ ∃ N : Sl → Hp → Prop, (∀ σ' H', N σ' H' → ∃ m', m' < m ∧ W (i + 1) m' σ' H') ∧
        ∀ x H', (Ite K a).yld i H x H' → g x σ H' fun σ2 H2 => tb { D with nx := N, ct := N, bk := D.nx } σ2 H2) := by
  refine ⟨fun i m σ H => m = xs.length - i ∧ i ≤ xs.length ∧ Pv i σ H, ⟨xs.length, by simp, Nat.zero_le _, h0⟩, ?_⟩
  rintro i m σ H ⟨rfl, hi, p⟩
  have q := hl i σ H hi p
  by_cases hlt : i < xs.length
  · refine Or.inr ⟨⟨xs, xs[i], q, List.getElem?_eq_getElem hlt⟩, Pv (i + 1), fun σ' H' p' => ⟨xs.length - (i + 1), by omega, rfl, hlt, p'⟩, ?_⟩
    rintro x H' ⟨T, y, rfl, nT, rfl, hx⟩
    exact hs i y T σ H (hx xs q) p nT
  · obtain rfl : i = xs.length := by omega
    exact Or.inl ⟨⟨xs, q, Nat.le_refl _⟩, hd σ H p⟩
theorem inV_ints (x : Int) : ∀ t : List Int, inV (.int x) (t.map V.int) = decide (x ∈ t)
  | [] => rfl
  | a :: t => by
    have h := inV_ints x t
    unfold inV at h ⊢
    rw [List.map_cons, List.any_cons, h]
    by_cases hx : a = x
    · subst hx; simp [eqV]
    · have : ¬ x = a := fun e => hx e.symm
      simp [eqV, hx, this]
theorem flat_ints : ∀ t : List Int, (t.map V.int).all flatV = true
  | [] => rfl
  | _ :: t => by rw [List.map_cons, List.all_cons, flat_ints t]; rfl
/-! ### the product, told place by place -/
def partsM (n m : Nat) : List Edge := (List.range n).flatMap fun (a : Nat) => (List.range m).map fun (b : Nat) => ((a : Int) + 1, (b : Int) + 1)
def joinM (es fs : List Edge) (ps : List Edge) (i j : Nat) : Option Edge :=
  match ps[i]?, ps[j]? with
  | some x, some y => if i < j ∧ y.1 ∈ x.1 :: mates x.1 es ∧ y.2 ∈ x.2 :: mates x.2 fs then some ((i : Int) + 1, (j : Int) + 1) else none
  | _, _ => none
def prodM (n : Nat) (es : List Edge) (m : Nat) (fs : List Edge) : List Edge :=
  (List.range (partsM n m).length).flatMap fun i => (List.range (partsM n m).length).filterMap fun j => joinM es fs (partsM n m) i j
theorem partsM_length (n m : Nat) : (partsM n m).length = n * m := by
  unfold partsM
  induction n with
  | zero => simp
  | succ n ih =>
    rw [List.range_succ, List.flatMap_append, List.length_append, ih, Nat.succ_mul]
    simp
theorem partsM_rng {n m : Nat} {e : Edge} (h : e ∈ partsM n m) : 1 ≤ e.1 ∧ e.1 ≤ n ∧ 1 ≤ e.2 ∧ e.2 ≤ m := by
  unfold partsM at h
  obtain ⟨a, ha, h2⟩ := List.mem_flatMap.mp h
  obtain ⟨b, hb, rfl⟩ := List.mem_map.mp h2
  have := List.mem_range.mp ha
  have := List.mem_range.mp hb
  simp only
  omega
theorem range_flat {α : Type} (f : Nat → List α) (i : Nat) : (List.range (i + 1)).flatMap f = (List.range i).flatMap f ++ f i := by
  rw [List.range_succ, List.flatMap_append]
  simp
theorem range_fm {α : Type} (f : Nat → Option α) (i : Nat) : (List.range (i + 1)).filterMap f = (List.range i).filterMap f ++ (f i).toList := by
  rw [List.range_succ, List.filterMap_append]
  cases h : f i <;> simp [List.filterMap_cons, h]
end
/-! piece NB -/
section
/-! ### lots as numbers: the bits -/
def nb0 (n : Nat) : List Nat := 0 :: (List.range n).map fun i => 2 ^ (i + 1)
def addB (t : List Nat) (e : Edge) : List Nat := (t.modify e.1.toNat (· ||| 2 ^ e.2.toNat)).modify e.2.toNat (· ||| 2 ^ e.1.toNat)
def nearB (n : Nat) (es : List Edge) : List Nat := es.foldl addB (nb0 n)
theorem addB_length (t : List Nat) (e : Edge) : (addB t e).length = t.length := by
  unfold addB
  rw [List.length_modify, List.length_modify]
theorem foldl_addB_length : ∀ (es : List Edge) (t : List Nat), (es.foldl addB t).length = t.length
  | [], _ => rfl
  | e :: es, t => by rw [List.foldl_cons, foldl_addB_length es, addB_length]
theorem nb0_length (n : Nat) : (nb0 n).length = n + 1 := by simp [nb0]
theorem nearB_length (n : Nat) (es : List Edge) : (nearB n es).length = n + 1 := by
  unfold nearB
  rw [foldl_addB_length, nb0_length]
theorem addB_swap (t : List Nat) {a b : Int} (h : a.toNat ≠ b.toNat) : addB t (a, b) = addB t (b, a) := by
  unfold addB
  apply List.ext_getElem?
  intro i
  simp only [List.getElem?_modify]
  by_cases h1 : a.toNat = i <;> by_cases h2 : b.toNat = i
  · omega
  · cases t[i]? <;> simp [h1, h2]
  · cases t[i]? <;> simp [h1, h2]
  · cases t[i]? <;> simp [h1, h2]
/-- the bits of the entry at p -/
theorem addB_bit {t : List Nat} {e : Edge} {p : Nat} {v : Nat} (h1 : 1 ≤ e.1) (h2 : 1 ≤ e.2) (hne : e.1 ≠ e.2) (h : t[p]? = some v) :
    ∃ u, (addB t e)[p]? = some u ∧ ∀ k : Nat, u.testBit k = (v.testBit k || decide ((e.1 = p ∧ e.2 = k) ∨ (e.2 = p ∧ e.1 = k))) := by
  unfold addB
  simp only [List.getElem?_modify, h]
  by_cases a1 : e.1.toNat = p <;> by_cases a2 : e.2.toNat = p
  · omega
  · refine ⟨v ||| 2 ^ e.2.toNat, by simp [a1, a2], fun k => ?_⟩
    rw [Nat.testBit_or, Nat.testBit_two_pow]
    congr 1
    apply decide_eq_decide.mpr
    omega
  · refine ⟨v ||| 2 ^ e.1.toNat, by simp [a1, a2], fun k => ?_⟩
    rw [Nat.testBit_or, Nat.testBit_two_pow]
    congr 1
    apply decide_eq_decide.mpr
    omega
  · refine ⟨v, by simp [a1, a2], fun k => ?_⟩
    have : decide ((e.1 = p ∧ e.2 = k) ∨ (e.2 = p ∧ e.1 = k)) = false := by
      apply decide_eq_false
      omega
    rw [this, Bool.or_false]
theorem foldl_addB_bit {p : Nat} : ∀ (es : List Edge) (t : List Nat) (v : Nat), (∀ e ∈ es, 1 ≤ e.1 ∧ 1 ≤ e.2 ∧ e.1 ≠ e.2) → t[p]? = some v →
    ∃ u, (es.foldl addB t)[p]? = some u ∧ ∀ k : Nat, u.testBit k = (v.testBit k || decide ((k : Int) ∈ mates p es))
  | [], t, v, _, h => ⟨v, h, fun k => by simp [mates]⟩
  | e :: es, t, v, hr, h => by
    have he := hr e (List.mem_cons_self ..)
    obtain ⟨u1, h1, b1⟩ := addB_bit he.1 he.2.1 he.2.2 h
    obtain ⟨u, h2, b2⟩ := foldl_addB_bit es (addB t e) u1 (fun x hx => hr x (List.mem_cons_of_mem _ hx)) h1
    refine ⟨u, h2, fun k => ?_⟩
    rw [b2, b1, Bool.or_assoc]
    congr 1
    rw [← Bool.decide_or]
    apply decide_eq_decide.mpr
    unfold mates
    rw [List.filterMap_cons]
    by_cases hc : e.1 = (p : Int) ∨ e.2 = (p : Int)
    · rw [if_pos hc]
      simp only [List.mem_cons]
      constructor
      · rintro (h | h)
        · left; omega
        · exact .inr h
      · rintro (h | h)
        · left; omega
        · exact .inr h
    · rw [if_neg hc]
      simp only
      constructor
      · rintro (h | h)
        · exact absurd (by omega) hc
        · exact h
      · exact .inr
theorem nearB_bit {n : Nat} {es : List Edge} (hr : ∀ e ∈ es, 1 ≤ e.1 ∧ 1 ≤ e.2 ∧ e.1 ≠ e.2) {p : Nat} (h1 : 1 ≤ p) (h2 : p ≤ n) :
    ∃ u, (nearB n es)[p]? = some u ∧ ∀ k : Nat, u.testBit k = decide ((k : Int) ∈ (p : Int) :: mates p es) := by
  have h0 : (nb0 n)[p]? = some (2 ^ p) := by
    unfold nb0
    cases p with
    | zero => omega
    | succ q =>
      rw [List.getElem?_cons_succ, List.getElem?_map, List.getElem?_range (by omega)]
      rfl
  obtain ⟨u, h3, h4⟩ := foldl_addB_bit es (nb0 n) _ hr h0
  refine ⟨u, h3, fun k => ?_⟩
  rw [h4, Nat.testBit_two_pow, ← Bool.decide_or]
  apply decide_eq_decide.mpr
  rw [List.mem_cons]
  constructor
  · rintro (h | h)
    · left; omega
    · exact .inr h
  · rintro (h | h)
    · left; omega
    · exact .inr h
theorem nearB_zero {n : Nat} {es : List Edge} (hr : ∀ e ∈ es, 1 ≤ e.1 ∧ 1 ≤ e.2 ∧ e.1 ≠ e.2) : (nearB n es)[0]? = some 0 := by
  obtain ⟨u, h3, h4⟩ := foldl_addB_bit (p := 0) es (nb0 n) 0 hr rfl
  have : u = 0 := by
    apply Nat.eq_of_testBit_eq
    intro k
    rw [h4, Nat.zero_testBit, Bool.false_or]
    apply decide_eq_false
    intro h
    obtain ⟨e, he, hf⟩ := List.mem_filterMap.mp h
    have := hr e he
    split at hf
    · omega
    · cases hf
  subst this
  exact h3
theorem and_pow_zero {v k : Nat} (h : v.testBit k = false) : v &&& 2 ^ k = 0 := by
  apply Nat.eq_of_testBit_eq
  intro i
  rw [Nat.testBit_and, Nat.testBit_two_pow, Nat.zero_testBit]
  by_cases e : k = i
  · subst e; rw [h]; rfl
  · simp [e]
/-- a line that no earlier one joins: its bit is not there yet -/
theorem fresh_bit {n : Nat} {es : List Edge} {a b : Nat} (hr : ∀ e ∈ es, 1 ≤ e.1 ∧ 1 ≤ e.2 ∧ e.1 ≠ e.2) (ha : 1 ≤ a) (han : a ≤ n) (hab : a ≠ b)
    (hf : ∀ e ∈ es, Apart e ((a : Int), (b : Int))) : ∃ u, (nearB n es)[a]? = some u ∧ u &&& 2 ^ b = 0 := by
  obtain ⟨u, h1, h2⟩ := nearB_bit hr ha han
  refine ⟨u, h1, and_pow_zero ?_⟩
  rw [h2]
  apply decide_eq_false
  rw [List.mem_cons]
  rintro (h | h)
  · omega
  · obtain ⟨e, he, hx⟩ := List.mem_filterMap.mp h
    have q := hf e he
    have q1 := q.1
    have q2 := q.2
    obtain ⟨e1, e2⟩ := e
    simp only at hx
    split at hx
    · rename_i hc
      have hx := Option.some.inj hx
      rcases hc with hc | hc
      · exact q1 (by rw [Prod.mk.injEq]; exact ⟨hc, by omega⟩)
      · exact q2 (by rw [Prod.mk.injEq]; exact ⟨by omega, hc⟩)
    · cases hx
/-! ### the places of a lot -/
def bitLen (v : Nat) : Nat := if v = 0 then 0 else v.log2 + 1
theorem bit_lt {v k : Nat} (h : v.testBit k = true) : k < bitLen v := by
  unfold bitLen
  by_cases e : v = 0
  · subst e; simp at h
  · rw [if_neg e]
    have h1 := Nat.ge_two_pow_of_testBit h
    have h2 := (Nat.le_log2 e).mpr h1
    omega
def membersM (v : Nat) : List Int := ((List.range (bitLen v - 1)).map fun (i : Nat) => (i : Int) + 1).filter fun x => v.testBit x.toNat
theorem membersM_lt (v : Nat) : (membersM v).Pairwise (· < ·) := by
  unfold membersM
  apply List.Pairwise.filter
  rw [List.pairwise_map]
  exact List.pairwise_lt_range.imp fun h => by omega
theorem membersM_mem (v : Nat) (x : Int) : x ∈ membersM v ↔ 1 ≤ x ∧ v.testBit x.toNat = true := by
  unfold membersM
  rw [List.mem_filter]
  constructor
  · rintro ⟨h1, h2⟩
    obtain ⟨i, hi, rfl⟩ := List.mem_map.mp h1
    exact ⟨by omega, h2⟩
  · rintro ⟨h1, h2⟩
    have := bit_lt h2
    exact ⟨List.mem_map.mpr ⟨(x - 1).toNat, List.mem_range.mpr (by omega), by omega⟩, h2⟩
theorem membersM_near {n : Nat} {es : List Edge} (h : Simp n es) {p : Nat} (h1 : 1 ≤ p) (h2 : p ≤ n) :
    ∃ u, (nearB n es)[p]? = some u ∧ membersM u = besideM n es p := by
  obtain ⟨u, hu, hb⟩ := nearB_bit (n := n) (es := es) (fun e he => by have := h.rng e he; omega) h1 h2
  refine ⟨u, hu, lt_unique (membersM_lt u) (besideM_lt n es p) fun x => ?_⟩
  rw [membersM_mem, besideM_mem h (by omega) (by omega)]
  constructor
  · rintro ⟨h3, h4⟩
    rw [hb] at h4
    have := of_decide_eq_true h4
    rwa [show ((x.toNat : Nat) : Int) = x by omega] at this
  · intro h3
    have : 1 ≤ x := by
      rcases List.mem_cons.mp h3 with e | e
      · omega
      · exact (mates_rng h x e).1
    refine ⟨this, ?_⟩
    rw [hb]
    apply decide_eq_true
    rwa [show ((x.toNat : Nat) : Int) = x by omega]
theorem nearB_members {n : Nat} {es : List Edge} (h : Simp n es) : (nearB n es).map membersM = [] :: (List.range n).map fun (i : Nat) => besideM n es ((i : Int) + 1) := by
  apply List.ext_getElem?
  intro i
  rw [List.getElem?_map]
  by_cases h0 : i = 0
  · subst h0
    rw [nearB_zero (fun e he => by have := h.rng e he; omega)]
    rfl
  · obtain ⟨j, rfl⟩ : ∃ j, i = j + 1 := ⟨i - 1, by omega⟩
    by_cases hi : j < n
    · obtain ⟨u, hu, hm⟩ := membersM_near h (p := j + 1) (by omega) (by omega)
      rw [hu, List.getElem?_cons_succ, List.getElem?_map, List.getElem?_range hi]
      simp only [Option.map_some]
      rw [hm]
      rfl
    · rw [List.getElem?_eq_none (by rw [nearB_length]; omega), List.getElem?_eq_none (by simp; omega)]
      rfl
theorem nearB_small {n : Nat} {es : List Edge} (h : Simp n es) {p u : Nat} (hu : (nearB n es)[p]? = some u) : u < 2 ^ (n + 1) := by
  apply Nat.lt_pow_two_of_testBit
  intro k hk
  have hp : p < n + 1 := by
    have := (List.getElem?_eq_some_iff.mp hu).1
    rwa [nearB_length] at this
  by_cases h0 : p = 0
  · subst h0
    rw [nearB_zero (fun e he => by have := h.rng e he; omega)] at hu
    cases hu
    exact Nat.zero_testBit _
  · obtain ⟨v, hv, hb⟩ := nearB_bit (n := n) (es := es) (fun e he => by have := h.rng e he; omega) (p := p) (by omega) (by omega)
    rw [hu] at hv
    cases hv
    rw [hb]
    apply decide_eq_false
    intro hm
    rcases List.mem_cons.mp hm with e | e
    · omega
    · have := mates_rng h _ e
      omega
end
/-! piece LT -/
section
/-! ### lots and what can be folded -/
def LotIs (v : Nat) (left : List Int) : Prop := ∀ k : Nat, v.testBit k = decide ((k : Int) ∈ left)
/-- one of those onto which a place can be folded, by bits -/
def Good (es : List Edge) (n v p j : Nat) : Prop := ∃ u m, (nearB n es)[j]? = some u ∧ (nearB n es)[p]? = some m ∧ u &&& (m &&& v) = (m &&& v) ∧ j ≠ p ∧ v.testBit j = true
theorem and_sub {u m : Nat} : u &&& m = m ↔ ∀ k, m.testBit k = true → u.testBit k = true := by
  constructor
  · intro h k hk
    have := congrArg (fun x => x.testBit k) h
    simp only [Nat.testBit_and, hk, Bool.and_true] at this
    exact this
  · intro h
    apply Nat.eq_of_testBit_eq
    intro k
    rw [Nat.testBit_and]
    cases hm : m.testBit k with
    | false => simp
    | true => rw [h k hm]; rfl
theorem good_iff {es : List Edge} {n v p j : Nat} {left : List Int} (hS : Simp n es) (hv : LotIs v left) (hI : ∀ x ∈ left, 1 ≤ x ∧ x ≤ n) (hp : (p : Int) ∈ left) (hj : j ≤ n) :
    Good es n v p j ↔ (j : Int) ∈ ontoM es left p := by
  have hr : ∀ e ∈ es, 1 ≤ e.1 ∧ 1 ≤ e.2 ∧ e.1 ≠ e.2 := fun e he => by have := hS.rng e he; omega
  have hpr := hI _ hp
  obtain ⟨m, hm, bm⟩ := nearB_bit hr (p := p) (n := n) (by omega) (by omega)
  rw [ontoM_mem hp]
  constructor
  · rintro ⟨u, m2, hu, hm2, hs, hne, hb⟩
    rw [hm] at hm2
    cases hm2
    rw [hv] at hb
    have hjl := of_decide_eq_true hb
    have hjr := hI _ hjl
    obtain ⟨u2, hu2, bu⟩ := nearB_bit hr (p := j) (n := n) (by omega) (by omega)
    rw [hu] at hu2
    cases hu2
    refine ⟨hp, hjl, fun e => hne (by omega), fun z hz ha => ?_⟩
    have hzr := hI z hz
    have h1 := and_sub.mp hs z.toNat (by rw [Nat.testBit_and, bm, hv, show ((z.toNat : Nat) : Int) = z by omega, decide_eq_true hz, Bool.and_true]; exact decide_eq_true ha)
    rw [bu, show ((z.toNat : Nat) : Int) = z by omega] at h1
    exact of_decide_eq_true h1
  · rintro ⟨_, hjl, hne, hn⟩
    have hjr := hI _ hjl
    obtain ⟨u, hu, bu⟩ := nearB_bit hr (p := j) (n := n) (by omega) (by omega)
    refine ⟨u, m, hu, hm, and_sub.mpr fun k hk => ?_, fun e => hne (by omega), ?_⟩
    · rw [Nat.testBit_and, bm, hv, Bool.and_eq_true, decide_eq_true_eq, decide_eq_true_eq] at hk
      rw [bu]
      exact decide_eq_true (hn _ hk.2 hk.1)
    · rw [hv]
      exact decide_eq_true hjl
/-- the least place onto which a place can be folded, 0 if none -/
def ftM (es : List Edge) (left : List Int) (p : Int) : Int := if p ∈ left then minL (ontoM es left p) else 0
theorem ftM_none {es : List Edge} {left : List Int} {p : Int} (h : ∀ q, q ∉ ontoM es left p) : ftM es left p = 0 := by
  unfold ftM
  split
  · have : ontoM es left p = [] := List.eq_nil_iff_forall_not_mem.mpr h
    rw [this]; rfl
  · rfl
theorem ftM_some {es : List Edge} {left : List Int} {p q : Int} (hp : p ∈ left) (hq : q ∈ ontoM es left p) (h : ∀ x ∈ ontoM es left p, q ≤ x) : ftM es left p = q := by
  unfold ftM
  rw [if_pos hp]
  have h1 := minL_le hq
  have h2 := h _ (minL_mem fun e => by rw [e] at hq; cases hq)
  omega
theorem ftM_zero {es : List Edge} {left : List Int} {p : Int} (hI : ∀ x ∈ left, 1 ≤ x) (hp : p ∈ left) : ftM es left p = 0 ↔ ontoM es left p = [] := by
  unfold ftM
  rw [if_pos hp]
  constructor
  · intro h
    apply Classical.byContradiction
    intro hne
    have := minL_mem hne
    have h2 := ((ontoM_mem hp).mp this).2.1
    have := hI _ h2
    omega
  · intro h; rw [h]; rfl
theorem xor_pow {v p : Nat} {left : List Int} (hv : LotIs v left) (hp : (p : Int) ∈ left) : LotIs (v ^^^ 2 ^ p) (without left p) := by
  intro k
  rw [Nat.testBit_xor, hv, Nat.testBit_two_pow]
  by_cases e : p = k
  · subst e
    rw [decide_eq_true hp, decide_eq_true rfl]
    symm
    apply decide_eq_false
    intro h
    exact (without_mem.mp h).2 rfl
  · rw [decide_eq_false e, Bool.xor_false]
    apply decide_eq_decide.mpr
    rw [without_mem]
    constructor
    · exact fun h => ⟨h, fun h2 => e (by omega)⟩
    · exact fun h => h.1
theorem whole_is (n : Nat) : LotIs (2 ^ (n + 1) - 2) ((List.range n).map fun (i : Nat) => (i : Int) + 1) := by
  intro k
  have e : (2 ^ (n + 1) - 2) = (2 ^ n - 1) * 2 := by
    rw [Nat.pow_succ, Nat.sub_mul]
  have hb : ((2 ^ n - 1) * 2).testBit k = (decide (1 ≤ k) && decide (k - 1 < n)) := by
    have h2 : (2 ^ n - 1) * 2 = (2 ^ n - 1) <<< 1 := by rw [Nat.shiftLeft_eq, Nat.pow_one]
    rw [h2, Nat.testBit_shiftLeft, Nat.testBit_two_pow_sub_one]
  rw [e, hb, ← Bool.decide_and]
  apply decide_eq_decide.mpr
  constructor
  · intro h
    exact List.mem_map.mpr ⟨k - 1, List.mem_range.mpr h.2, by omega⟩
  · intro h
    obtain ⟨i, hi, he⟩ := List.mem_map.mp h
    have := List.mem_range.mp hi
    omega
theorem members_lot {v : Nat} {left : List Int} (hv : LotIs v left) (hl : left.Pairwise (· < ·)) (hI : ∀ x ∈ left, 1 ≤ x) : membersM v = left := by
  refine lt_unique (membersM_lt v) hl fun x => ?_
  rw [membersM_mem, hv, decide_eq_true_eq]
  constructor
  · rintro ⟨h1, h2⟩
    rwa [show ((x.toNat : Nat) : Int) = x by omega] at h2
  · intro h
    have := hI x h
    exact ⟨this, by rwa [show ((x.toNat : Nat) : Int) = x by omega]⟩
theorem lot_small {v n : Nat} {left : List Int} (hv : LotIs v left) (hI : ∀ x ∈ left, x ≤ n) : v < 2 ^ (n + 1) := by
  apply Nat.lt_pow_two_of_testBit
  intro k hk
  rw [hv]
  apply decide_eq_false
  intro h
  have := hI _ h
  omega
def allM (n : Nat) : List Int := (List.range n).map fun (i : Nat) => (i : Int) + 1
theorem allM_mem {n : Nat} {x : Int} : x ∈ allM n ↔ 1 ≤ x ∧ x ≤ n := by
  unfold allM
  constructor
  · intro h
    obtain ⟨i, hi, rfl⟩ := List.mem_map.mp h
    have := List.mem_range.mp hi
    omega
  · intro h
    exact List.mem_map.mpr ⟨(x - 1).toNat, List.mem_range.mpr (by omega), by omega⟩
theorem allM_lt (n : Nat) : (allM n).Pairwise (· < ·) := by
  unfold allM
  rw [List.pairwise_map]
  exact List.pairwise_lt_range.imp fun h => by omega
end
/-! piece PSF -/
section
structure PsF (H0 H : Hp) (D : Addr) (rs : List Addr) (es : List Edge) : Prop where
  ps : PsAt H D rs es
  nd : rs.Nodup
  fr : ∀ r ∈ rs, H0 r = none
theorem PsF.push {H0 H : Hp} {D r : Addr} {rs : List Addr} {es : List Edge} (h : PsF H0 H D rs es) (nr : H r = none) (n0 : H0 r = none) (e : Edge) :
    PsF H0 (upd (upd H r (.lst [.int e.1, .int e.2])) D (.lst (rs.map V.ref ++ [V.ref r]))) D (rs ++ [r]) (es ++ [e]) := by
  refine ⟨h.ps.push nr e, ?_, ?_⟩
  · rw [List.nodup_append]
    refine ⟨h.nd, by simp, ?_⟩
    intro a ha b hb
    simp at hb
    subst hb
    rintro rfl
    obtain ⟨e, _, he⟩ := h.ps.mem ha
    rw [nr] at he
    cases he
  · intro a ha
    rcases List.mem_append.mp ha with ha | ha
    · exact h.fr a ha
    · simp at ha
      subst ha
      exact n0
/-- one such list behind another one, in its place -/
theorem PsF.ext {H0 H H2 : Hp} {L D : Addr} {rs rs2 : List Addr} {es es2 : List Edge} (h : PsF H0 H L rs es) (s : Same H H2) (h2 : PsF H H2 D rs2 es2) (h0 : Same H0 H) (nL : H0 L = none) :
    PsF H0 (upd H2 L (.lst (rs.map V.ref ++ rs2.map V.ref))) L (rs ++ rs2) (es ++ es2) := by
  have k1 : ∀ r ∈ rs2, r ≠ L := fun r hr e => by
    have := h2.fr r hr
    rw [e, h.ps.hD] at this
    cases this
  have k2 : ∀ r ∈ rs, r ≠ L := fun r hr => h.ps.ne hr
  refine ⟨⟨by rw [upd_same, List.map_append], by rw [List.length_append, List.length_append, h.ps.len, h2.ps.len], ?_⟩, ?_, ?_⟩
  · intro i a u ha hu
    by_cases hi : i < rs.length
    · rw [List.getElem?_append_left hi] at ha
      rw [List.getElem?_append_left (by rw [← h.ps.len]; exact hi)] at hu
      rw [upd_ne (k2 a (List.mem_of_getElem? ha))]
      exact s _ _ (h.ps.at_ i a u ha hu)
    · rw [List.getElem?_append_right (by omega)] at ha
      rw [List.getElem?_append_right (by rw [← h.ps.len]; omega), ← h.ps.len] at hu
      rw [upd_ne (k1 a (List.mem_of_getElem? ha))]
      exact h2.ps.at_ _ a u ha hu
  · rw [List.nodup_append]
    refine ⟨h.nd, h2.nd, ?_⟩
    intro a ha b hb e
    subst e
    obtain ⟨e, _, he⟩ := h.ps.mem ha
    rw [h2.fr a hb] at he
    cases he
  · intro a ha
    rcases List.mem_append.mp ha with ha | ha
    · exact h.fr a ha
    · exact h0.free (h2.fr a ha)
end
/-! piece IN -/
section
variable {P : Program} {w : World} {K : PySem.W.Frag} {mg : Str → Option Value} {base : Heap}
/-! ### the law's onto, foldable -/
def iL (xs : List Int) : HO := .lst (xs.map V.int)
structure InNet (n : Nat) (left : List Int) : Prop where
  lt : left.Pairwise (· < ·)
  rng : ∀ x ∈ left, 1 ≤ x ∧ x ≤ n
theorem dp_dI' {K : PySem.W.Frag} {H : Hp} {p : Addr} {xs : List Int} (h : SqL K H p (xs.map V.int)) : Dp K H (.ref p) (.list (xs.map PyData.int)) := .lst h (dp_ints xs)
theorem shaped_ints (xs : List Int) : SeqAt.shaped (.list (xs.map PyData.int)) = true := by
  have h : ∀ ys : List Int, PyData.canLayAll0 (ys.map PyData.int) = true ∧ PyData.depthAll (ys.map PyData.int) ≤ 0 := fun ys => by
    induction ys with
    | nil => exact ⟨rfl, Nat.le_refl _⟩
    | cons y r ih =>
      rw [List.map_cons]
      refine ⟨?_, ?_⟩
      · unfold PyData.canLayAll0; rw [ih.1]; rfl
      · unfold PyData.depthAll; exact Nat.max_le.mpr ⟨Nat.le_refl _, ih.2⟩
  unfold SeqAt.shaped PyData.canLay0 PyData.depth
  rw [(h xs).1, decide_eq_true (by have := (h xs).2; omega)]
  rfl
variable {P : Program} {w : World} {K : PySem.W.Frag} {mg : Str → Option Value} {base : Heap}
theorem Lists.same {H H' : Hp} {p : Addr} {ts : List (List Int)} (h : Lists H p ts) (s : Same H H') : Lists H' p ts := by
  obtain ⟨rs, a, b, c, e⟩ := h
  exact ⟨rs, s _ _ a, b, c, fun i r t x y => s _ _ (e i r t x y)⟩
theorem Lists.but {H H' : Hp} {d p : Addr} {k : Int} {ts : List (List Int)} (h : Lists H p ts) (s : SameBut d H H') (hd : Dr H d k) : Lists H' p ts := by
  obtain ⟨rs, a, b, c, e⟩ := h
  exact ⟨rs, s _ _ (hd.ne_refs a) a, b, c, fun i r t x y => s _ _ (hd.ne_ints (e i r t x y)) (e i r t x y)⟩
theorem PsF.but {H0 H H' : Hp} {d D : Addr} {k : Int} {rs : List Addr} {es : List Edge} (h : PsF H0 H D rs es) (s : SameBut d H H') (hd : Dr H d k) : PsF H0 H' D rs es := ⟨h.ps.but s hd, h.nd, h.fr⟩
theorem PsF.same {H0 H H' : Hp} {D : Addr} {rs : List Addr} {es : List Edge} (h : PsF H0 H D rs es) (s : Same H H') : PsF H0 H' D rs es := ⟨h.ps.same s, h.nd, h.fr⟩
theorem Dr.trk {H : Hp} {d p : Addr} {k : Int} (h : Dr H d k) (np : H p = Option.none) : p ≠ d := by
  obtain ⟨a, b, e, _⟩ := h
  exact (ne_of_none e np).symm
theorem SameBut.fr0 {d : Addr} {H H' : Hp} (s : SameBut d H H') {p : Addr} (np : H' p = Option.none) (hd : p ≠ d) : H p = Option.none := by
  cases e : H p with
  | none => rfl
  | some o => rw [s p o hd e] at np; cases np
theorem InNet.len {n : Nat} {left : List Int} (h : InNet n left) : left.length ≤ n := nodup_le n left (h.lt.imp fun h => by omega) h.rng
theorem InNet.without {n : Nat} {left : List Int} (h : InNet n left) (p : Int) : InNet n (without left p) := ⟨without_lt h.lt, fun x hx => h.rng x (without_mem.mp hx).1⟩
theorem InNet.run {n : Nat} {es : List Edge} {left left' : List Int} {l : List Edge} (h : InNet n left) (r : RunL es left l left') : InNet n left' := ⟨r.lt h.lt, fun x hx => h.rng x (r.sub x hx)⟩
theorem inNet_all (n : Nat) : InNet n (allM n) := ⟨allM_lt n, fun x hx => allM_mem.mp hx⟩
theorem onto_sub {es : List Edge} {left : List Int} {p : Int} : ∀ x ∈ ontoM es left p, x ∈ left := fun x hx => by
  unfold ontoM at hx
  exact of_decide_eq_true (List.mem_filter.mp (List.mem_filter.mp hx).1).2
theorem RunL.rng {n : Nat} {es : List Edge} {left left' : List Int} {l : List Edge} (r : RunL es left l left') (h : InNet n left) : ∀ e ∈ l, 1 ≤ e.1 ∧ e.1 ≤ n ∧ 1 ≤ e.2 ∧ e.2 ≤ n := by
  induction r with
  | nil left => exact fun e h => nomatch h
  | @cons left left' p q l hp hq r ih =>
    intro e he
    rcases List.mem_cons.mp he with rfl | he
    · have h1 := h.rng p hp
      have h2 := h.rng q (onto_sub q hq)
      exact ⟨h1.1, h1.2, h2.1, h2.2⟩
    · exact ih (h.without p) e he
end
/-! piece LO -/
section
/-! ### orders: what is left behind -/
def leftA (left : List Int) (o : List Int) : List Int := o.foldl without left
theorem RunL.left {es : List Edge} {left left' : List Int} {l : List Edge} (r : RunL es left l left') : left' = leftA left (l.map (·.1)) := by
  induction r with
  | nil left => rfl
  | cons hp hq r ih => exact ih
theorem leftA_snoc (left o : List Int) (p : Int) : leftA left (o ++ [p]) = without (leftA left o) p := by
  unfold leftA
  rw [List.foldl_append]
  rfl
theorem leastM_snoc (es : List Edge) (p : Int) : ∀ (o left : List Int), leastM es left (o ++ [p]) = leastM es left o ++ [(p, minL (ontoM es (leftA left o) p))]
  | [], left => rfl
  | a :: o, left => by
    show (a, minL (ontoM es left a)) :: leastM es (without left a) (o ++ [p]) = _
    rw [leastM_snoc es p o]
    rfl
theorem RunL.step {es : List Edge} {left left' : List Int} {l : List Edge} (r : RunL es left l left') : ∀ (i : Nat) (e : Edge), l[i]? = some e →
    RunL es left (l.take i) (leftA left ((l.take i).map (·.1))) ∧ e.1 ∈ leftA left ((l.take i).map (·.1)) ∧ e.2 ∈ ontoM es (leftA left ((l.take i).map (·.1))) e.1 := by
  induction r with
  | nil left => exact fun i e h => by simp at h
  | @cons left left' p q l hp hq r ih =>
    intro i e h
    cases i with
    | zero =>
      simp at h
      subst h
      exact ⟨.nil _, hp, hq⟩
    | succ i =>
      obtain ⟨h1, h2, h3⟩ := ih i e (by simpa using h)
      exact ⟨.cons hp hq h1, h2, h3⟩
theorem leastM_length (es : List Edge) (o left : List Int) : (leastM es left o).length = o.length := by
  have h := congrArg List.length (leastM_fst es o left)
  rwa [List.length_map] at h
end
/-! piece FH -/
section
/-! ### folds that keep some places, and walks whose shadow stays -/
section
variable {adj : Int → Int → Prop}
def StiffH (adj : Int → Int → Prop) (S H : Int → Prop) : Prop := ∀ p q, ¬ H p → ¬ StepOk adj S p q
theorem stiffH_of {S H : Int → Prop} (h : Stiff adj S) : StiffH adj S H := fun p q _ => h p q
/-- like led_back, where some places are never folded -/
theorem led_back_held (rf : ∀ x, adj x x) (sy : ∀ x y, adj x y → adj y x) {S E : Int → Prop} {l : List Edge} (r : Run adj S l E) {Hd : Int → Prop} (st : StiffH adj E Hd) (hE : ∀ x, Hd x → E x)
    {T T' : Int → Prop} {m : List Edge} (rm : Run adj T m T') (hT : ∀ x, Hd x → T' x) : (∀ x, T x → S x) → ∀ {s : Int → Int}, (∀ x, E x → T (s x)) → (∀ x y, E x → E y → adj x y → adj (s x) (s y)) → (∀ x, E x → mapR l (s x) = x) → (∀ x, Hd x → s x = x) →
      ∀ x, E x → mapR l (mapR m (s x)) = x := by
  induction rm with
  | nil T => exact fun _ s _ _ h _ => h
  | @cons T T' p q m h rm ih =>
    intro hTS s hin hom hb hfx x hx
    obtain ⟨hp, hq, hne, hn⟩ := h
    have hpH : ¬ Hd p := fun hh => (run_sub rm (hT p hh)).1.2 rfl
    show mapR l (mapR m (if s x = p then q else s x)) = x
    refine ih hT (s := fun x => if s x = p then q else s x) (fun x hx => hTS x hx.1) ?_ ?_ ?_ ?_ x hx
    · intro x hx
      by_cases e : s x = p
      · simp only [e, if_true]; exact ⟨hq, hne.symm⟩
      · simp only [e, if_false]; exact ⟨hin x hx, e⟩
    · intro x y hx hy ha
      have ha := hom x y hx hy ha
      by_cases e1 : s x = p
      · by_cases e2 : s y = p
        · simp only [e1, e2, if_true]; exact rf q
        · simp only [e1, e2, if_true, if_false]
          rw [e1] at ha
          exact hn _ (hin y hy) ha
      · by_cases e2 : s y = p
        · simp only [e1, e2, if_true, if_false]
          rw [e2] at ha
          exact sy _ _ (hn _ (hin x hx) (sy _ _ ha))
        · simp only [e1, e2, if_false]; exact ha
    · intro x hx
      by_cases e : s x = p
      · simp only [e, if_true]
        apply Classical.byContradiction
        intro hxy
        have hxH : ¬ Hd x := fun hh => by
          rw [hfx x hh] at e
          exact hpH (e ▸ hh)
        refine st x (mapR l q) hxH ⟨hx, mapR_in r (hTS q hq), fun e => hxy e.symm, ?_⟩
        intro z hz hxz
        have h1 := hom x z hx hz hxz
        rw [e] at h1
        have h2 := hn _ (hin z hz) h1
        have h3 := mapR_hom sy r (hTS q hq) (hTS _ (hin z hz)) h2
        rw [hb z hz] at h3
        exact h3
      · simp only [e, if_false]
        exact hb x hx
    · intro x hh
      have hxp : x ≠ p := fun e => hpH (e ▸ hh)
      simp only [hfx x hh, hxp, if_false]
/-- if some order leaves just a lot, all that is left where the lot is kept is the lot -/
theorem held_is (rf : ∀ x, adj x x) (sy : ∀ x y, adj x y → adj y x) {S E Hd : Int → Prop} {l m : List Edge} (r : Run adj S l E) (st : StiffH adj E Hd) (hE : ∀ x, Hd x → E x) (rm : Run adj S m Hd) {x : Int} (hx : E x) : Hd x := by
  have h := led_back_held rf sy r st hE rm (fun _ h => h) (fun _ h => h) (s := fun x => x) (fun x hx => (run_sub r hx).1) (fun _ _ _ _ h => h) (fun x hx => mapR_fix r hx) (fun _ _ => rfl) x hx
  have h2 := mapR_in rm (run_sub r hx).1
  rw [mapR_fix r (hE _ h2)] at h
  exact h ▸ h2
/-- who steps so that those beside it in the end stay beside it is led back as before -/
theorem shadow_step (sy : ∀ x y, adj x y → adj y x) {S E : Int → Prop} {l : List Edge} (r : Run adj S l E) (st : Stiff adj E) {s : Int → Int} (hin : ∀ x, E x → S (s x)) (hb : ∀ x, E x → mapR l (s x) = x)
    {i t : Int} (hi : E i) (ht : S t) (h : ∀ z, E z → adj i z → adj t (s z)) : mapR l t = i := by
  apply Classical.byContradiction
  intro hne
  refine st i (mapR l t) ⟨hi, mapR_in r ht, fun e => hne e.symm, fun z hz ha => ?_⟩
  have h1 := mapR_hom sy r ht (hin z hz) (h z hz ha)
  rwa [hb z hz] at h1
end
end
/-! piece BX -/
section
theorem bXor (a b : Nat) : Builtin.bitXor (a : Int) (b : Int) = ((a ^^^ b : Nat) : Int) := by
  have h1 := PyProof.Rows.nat_or_add_and (a ^^^ b) (a &&& b)
  have h2 : (a ^^^ b) ||| (a &&& b) = a ||| b := by
    apply Nat.eq_of_testBit_eq
    intro k
    simp only [Nat.testBit_or, Nat.testBit_xor, Nat.testBit_and]
    cases a.testBit k <;> cases b.testBit k <;> rfl
  have h3 : (a ^^^ b) &&& (a &&& b) = 0 := by
    apply Nat.eq_of_testBit_eq
    intro k
    simp only [Nat.testBit_xor, Nat.testBit_and, Nat.zero_testBit]
    cases a.testBit k <;> cases b.testBit k <;> rfl
  rw [h2, h3] at h1
  show Builtin.bitOr (a : Int) (b : Int) - Builtin.bitAnd (a : Int) (b : Int) = _
  rw [bOr, bAnd]
  omega
end
/-! piece AM -/
section
/-! ### what fold_around does, as a function -/
def stepA (es : List Edge) (s : List Int × List Edge) (x : Int) : List Int × List Edge :=
  if ontoM es s.1 x = [] then s else (without s.1 x, s.2 ++ [(x, minL (ontoM es s.1 x))])
def passA (es : List Edge) (hs : List Int) (s : List Int × List Edge) : List Int × List Edge := (s.1.filter fun x => decide (x ∉ hs)).foldl (stepA es) s
def iterA (n : Nat) (es : List Edge) (hs : List Int) : Nat → List Int × List Edge
  | 0 => (allM n, [])
  | k + 1 => passA es hs (iterA n es hs k)
def aroundA (n : Nat) (es : List Edge) (hs : List Int) : List Int × List Edge := iterA n es hs 20
theorem iterA_stays {n : Nat} {es : List Edge} {hs : List Int} {k : Nat} (h : passA es hs (iterA n es hs k) = iterA n es hs k) : ∀ j, iterA n es hs (k + j) = iterA n es hs k
  | 0 => rfl
  | j + 1 => by
    show passA es hs (iterA n es hs (k + j)) = _
    rw [iterA_stays h j, h]
theorem aroundA_is {n : Nat} {es : List Edge} {hs : List Int} {k : Nat} (hk : k ≤ 20) (h : passA es hs (iterA n es hs k) = iterA n es hs k) : aroundA n es hs = iterA n es hs k := by
  have := iterA_stays h (20 - k)
  rwa [show k + (20 - k) = 20 by omega] at this
theorem all_len {n : Nat} : (allM n).length = n := by simp [allM]
theorem RunL.len12 {n : Nat} {es ps : List Edge} {left : List Int} (r : RunL es (allM n) ps left) : left.length + ps.length = n := by
  have := (r.length ((allM_lt n).imp fun h => by omega)).1
  rwa [all_len] at this
end
/-! piece SL -/
section
/-! ### sorted of pairs that are lists -/
def leE (p q : Edge) : Prop := p.1 < q.1 ∨ (p.1 = q.1 ∧ p.2 ≤ q.2)
theorem leE_iff (p q : Edge) : [p.1, p.2] ≤ [q.1, q.2] ↔ leE p q := by
  unfold leE
  rw [List.cons_le_cons_iff, List.cons_le_cons_iff]
  constructor
  · rintro (h | ⟨h1, h2 | ⟨h2, _⟩⟩)
    · exact .inl h
    · exact .inr ⟨h1, by omega⟩
    · exact .inr ⟨h1, by omega⟩
  · rintro (h | ⟨h1, h2⟩)
    · exact .inl h
    · by_cases e : p.2 = q.2
      · exact .inr ⟨h1, .inr ⟨e, List.le_refl _⟩⟩
      · exact .inr ⟨h1, .inl (by omega)⟩
def rSortedL (K : PySem.W.Frag) : List V → Hp → VK → Prop := fun vs H Q => ∃ (a : Addr) (rs : List Addr) (ps : List Edge), vs = [V.ref a] ∧ PsAt H a rs ps ∧ rs.length ≤ 1000 ∧
  ∀ (p : Addr) (rs' : List Addr) (ps' : List Edge), H p = none → ps'.Perm ps → ps'.Pairwise leE → PsAt (upd H p (.lst (rs'.map V.ref))) p rs' ps' → Q (.ref p) (upd H p (.lst (rs'.map V.ref)))
theorem each_of {α β : Type} {R : α → β → Prop} : ∀ {as : List α} {bs : List β}, as.length = bs.length → (∀ (i : Nat) (a : α) (b : β), as[i]? = some a → bs[i]? = some b → R a b) → PySem.W.EachIs R as bs
  | [], [], _, _ => .nil
  | [], _ :: _, h, _ => by simp at h
  | _ :: _, [], h, _ => by simp at h
  | a :: as, b :: bs, h, f => .cons (f 0 a b rfl rfl) (each_of (by simpa using h) fun i x y hx hy => f (i + 1) x y (by simpa using hx) (by simpa using hy))
theorem vals_refs : ∀ {rs : List Addr} {us : List Value}, Vals (rs.map V.ref) us → us = rs.map Value.ref
  | [], us, r => by rw [List.map_nil] at r; cases r; rfl
  | t :: ts, us, r => by
    rw [List.map_cons] at r
    cases r with
    | cons h q => cases h; rw [List.map_cons, ← vals_refs q]
theorem refs_vals : ∀ rs : List Addr, Vals (rs.map V.ref) (rs.map Value.ref)
  | [] => .nil
  | _ :: ts => .cons rfl (refs_vals ts)
theorem each_refs : ∀ {out : List Value} {bs : List (Addr × Edge)}, PySem.W.EachIs (fun (v : Value) (b : Addr × Edge) => v = .ref b.1) out bs → out = (bs.map (·.1)).map Value.ref
  | _, _, .nil => rfl
  | _, _, .cons h t => by rw [h, each_refs t]; rfl
section
variable {X : Cx}
theorem cr_sortedL (hu : X.A.units + 64 < cLine) : CallR X (.builtin "sorted") (rSortedL X.K) := by
  intro pins s σ H vs us Q I r h
  obtain ⟨a, rs, ps, rfl, hP, hlen, q⟩ := h
  obtain ⟨its, rv, hl, hz⟩ := I.list (SqL.of hP.hD)
  rw [Vals.ref1 r]
  have ei := vals_refs rv
  let bs : List (Addr × Edge) := rs.zip ps
  have hbl : bs.length = rs.length := by simp [bs, hP.len]
  let enc : Addr × Edge → PyData := fun b => .list ([b.2.1, b.2.2].map .int)
  have hb1 : bs.map (·.1) = rs := by simp [bs, List.map_fst_zip, hP.len]
  have hb2 : bs.map (·.2) = ps := by simp [bs, List.map_snd_zip, hP.len]
  have hget : ∀ b ∈ bs, H b.1 = some (.lst [.int b.2.1, .int b.2.2]) := fun b hb => by
    obtain ⟨i, hi⟩ := List.getElem?_of_mem hb
    have h1 : rs[i]? = some b.1 := by rw [← hb1, List.getElem?_map, hi]; rfl
    have h2 : ps[i]? = some b.2 := by rw [← hb2, List.getElem?_map, hi]; rfl
    exact hP.at_ i b.1 b.2 h1 h2
  have e : PySem.W.EachIs (fun (v : Value) (b : Addr × Edge) => v = .ref b.1) its bs := each_of (by rw [hbl, ei, List.length_map]) fun i v b hv hb => by
    rw [ei, List.getElem?_map] at hv
    have h1 : rs[i]? = some b.1 := by rw [← hb1, List.getElem?_map, hb]; rfl
    rw [h1] at hv
    exact (Option.some.inj hv).symm
  have er : PySem.W.EachIs (fun (v : Value) (b : Addr × Edge) => ∃ as, Reads s.heap v (enc b) as) its bs := each_of (by rw [hbl, ei, List.length_map]) fun i v b hv hb => by
    rw [ei, List.getElem?_map] at hv
    have h1 : rs[i]? = some b.1 := by rw [← hb1, List.getElem?_map, hb]; rfl
    rw [h1] at hv
    have hv := (Option.some.inj hv).symm
    exact Dp.reads I (enc b) (.ref b.1) v (.lst (SqL.of (hget b (List.mem_of_getElem? hb))) (.cons (.int _) (.cons (.int _) .nil))) hv
  refine PySem.W.sorted_data (enc := enc) hl.isList e er (PySem.W.AllAlike.of fun b b' => rfl) (PySem.W.Sortable.others fun b => ⟨(fun z => nomatch z), (fun xs z => nomatch z)⟩) (by rw [hbl]; exact Nat.le_trans hlen (by decide)) (fun b _ => by
    have : (enc b).depth ≤ 1 := by exact Nat.le_of_eq rfl
    omega) fun out h1 h2 => ?_
  rw [show PySem.W.dataLe false enc = fun p q => decide ([p.2.1, p.2.2] ≤ [q.2.1, q.2.2]) from PySem.W.dataLe_rows (fun b : Addr × Edge => [b.2.1, b.2.2])] at h2
  generalize hbs : bs.mergeSort (fun p q => decide ([p.2.1, p.2.2] ≤ [q.2.1, q.2.2])) = bs' at h2
  have hperm : bs'.Perm bs := by rw [← hbs]; exact List.mergeSort_perm _ _
  have hsort : bs'.Pairwise (fun p q => leE p.2 q.2) := by
    rw [← hbs]
    refine (List.pairwise_mergeSort (fun a b c h1 h2 => ?_) (fun a b => ?_) bs).imp fun h => (leE_iff _ _).mp (of_decide_eq_true h)
    · exact decide_eq_true ((leE_iff _ _).mpr (by
        have a1 := (leE_iff _ _).mp (of_decide_eq_true h1)
        have a2 := (leE_iff _ _).mp (of_decide_eq_true h2)
        unfold leE at *
        omega))
    · by_cases h : leE a.2 b.2
      · rw [decide_eq_true ((leE_iff _ _).mpr h)]; rfl
      · rw [decide_eq_true ((leE_iff b.2 a.2).mpr (by unfold leE at *; omega))]; simp
  have eo := each_refs h2
  obtain ⟨ep, he'⟩ := PyProof.Rows.sortedAll_at s.heap its out.toArray
  have hn : H (s.heap.objs.size + 1) = none := I.hok.fresh (Nat.le_succ _)
  have hlo : ((bs'.map (·.1)).map V.ref).length ≤ sizeLine := by
    rw [List.length_map, List.length_map, hperm.length_eq, hbl]
    exact Nat.le_trans hlen (by decide)
  have rvo : Vals ((bs'.map (·.1)).map V.ref) out := by rw [eo]; exact refs_vals _
  refine ⟨.ref _, upd H (s.heap.objs.size + 1) (.lst ((bs'.map (·.1)).map V.ref)), I.laid (t' := s.toks) (fun _ _ => PyProof.Rows.sortedAll_old) (Nat.le_succ _) ⟨hlo, out, ep, rvo, he'⟩, rfl, ?_⟩
  refine q _ (bs'.map (·.1)) (bs'.map (·.2)) hn ?_ (List.pairwise_map.mpr hsort) ⟨upd_same, by rw [List.length_map, List.length_map], ?_⟩
  · rw [← hb2]
    exact hperm.map _
  · intro i r e hr he
    rw [List.getElem?_map] at hr he
    cases hb : bs'[i]? with
    | none => rw [hb] at hr; cases hr
    | some b =>
      rw [hb] at hr he
      cases hr
      cases he
      have := hget b (hperm.mem_iff.mp (List.mem_of_getElem? hb))
      rw [upd_ne (ne_of_none this hn)]
      exact this
theorem cr_sortedLK {K : PySem.W.Frag} (_ : KMark K) (h : X.K = K) (hu : X.A.units + 64 < cLine) : CallR X (.builtin "sorted") (rSortedL K) := h ▸ cr_sortedL hu
end
theorem leE_uniq : ∀ {l m : List Edge}, l.Pairwise leE → m.Pairwise leE → l.Perm m → l = m
  | [], m, _, _, h => (List.Perm.eq_nil h.symm).symm
  | a :: l, [], _, _, h => by have := h.length_eq; simp at this
  | a :: l, b :: m, hl, hm, h => by
    have h1 : leE a b := by
      rcases List.mem_cons.mp (h.mem_iff.mpr (List.mem_cons_self (a := b) (l := m))) with e | hb
      · rw [e]; unfold leE; omega
      · exact List.rel_of_pairwise_cons hl hb
    have h2 : leE b a := by
      rcases List.mem_cons.mp (h.mem_iff.mp (List.mem_cons_self (a := a) (l := l))) with e | hb
      · rw [e]; unfold leE; omega
      · exact List.rel_of_pairwise_cons hm hb
    have e : a = b := by
      unfold leE at h1 h2
      obtain ⟨a1, a2⟩ := a
      obtain ⟨b1, b2⟩ := b
      simp only at h1 h2
      rw [Prod.mk.injEq]
      omega
    subst e
    rw [leE_uniq (List.pairwise_cons.mp hl).2 (List.pairwise_cons.mp hm).2 h.cons_inv]
end
/-! piece LP -/
section
/-- a comprehension of new pairs -/
theorem lc_prs {K : PySem.W.Frag} {a : Addr} {xs : List Int} {i : Nat} {te : TE} {vs : List Nat} {σ : Sl} {H1 : Hp} {D : Addr} {Qd : Hp → Prop} (f : Int → Edge)
    (hl : SqL K H1 a (xs.map V.int)) (nD : H1 D = none) (hn : xs.length ≤ 10000) (hw : ∀ v, wipe ((wipe σ vs).set i (some v)) vs = wipe σ vs)
    (he : ∀ x ∈ xs, ∀ H2, Same H1 H2 → ∀ R : V → Hp → Prop, (∀ H3 r, Same H2 H3 → H3 r = none → R (.ref r) (upd H3 r (.lst [.int (f x).1, .int (f x).2]))) → te ((wipe σ vs).set i (some (.int x))) H2 R)
    (hd : ∀ H2 rs, Same H1 H2 → PsF H1 H2 D rs (xs.map f) → Qd H2) :
    ∃ W : Nat → Nat → Hp → Prop, (∃ m, W 0 m (upd H1 D (.lst []))) ∧ ∀ i' m H, W i' m H →
      ((Itl K a).stop i' H ∧ Qd H) ∨ ((Itl K a).go i' H ∧ ∃ Nx : Hp → Prop, (∀ H', Nx H' → ∃ m', m' < m ∧ W (i' + 1) m' H') ∧ ∀ x H', (Itl K a).yld i' H x H' → gName i x (wipe σ vs) H' fun σ2 H2 => wipe σ2 vs = wipe σ vs ∧ tYes σ2 H2 fun b H3 =>
        if b = true then te σ2 H3 fun y H4 => ∃ acc, H4 D = some (.lst acc) ∧ acc.length < sizeLine ∧ Nx (upd H4 D (.lst (acc ++ [y]))) else Nx H3) := by
  refine lc_list (K := K) (xs := xs.map V.int) (fun j H2 => Same H1 H2 ∧ ∃ rs, PsF H1 H2 D rs ((xs.take j).map f)) ⟨same_upd (Same.refl _) nD, [], PsAt.nil upd_same, List.nodup_nil, fun r h => nomatch h⟩ ?_ ?_ ?_
  · rintro j H2 _ ⟨sm, _⟩
    exact sm.seq hl
  · rintro j x H2 hx ⟨sm, rs, hP⟩
    rw [List.getElem?_map] at hx
    cases hv : xs[j]? with
    | none => rw [hv] at hx; cases hx
    | some y =>
      rw [hv] at hx
      cases hx
      have hm := List.mem_of_getElem? hv
      have htk : xs.take (j + 1) = xs.take j ++ [y] := by rw [List.take_add_one, hv]; rfl
      refine ⟨hw _, ?_⟩
      refine he y hm H2 sm _ fun H3 r sm3 nr => ?_
      have hP3 : PsF H1 H3 D rs ((xs.take j).map f) := ⟨hP.ps.same sm3, hP.nd, hP.fr⟩
      have s3 := sm.trans sm3
      refine ⟨_, (upd_ne (ne_of_none hP3.ps.hD nr)).trans hP3.ps.hD, ?_, same_upd (same_upd s3 (s3.free nr)) nD, rs ++ [r], ?_⟩
      · rw [List.length_map, hP3.ps.len, List.length_map]
        exact Nat.lt_of_le_of_lt (Nat.le_trans (by rw [List.length_take]; exact Nat.min_le_right _ _) hn) (by decide)
      · rw [htk, List.map_append]
        exact hP3.push nr (s3.free nr) (f y)
  · rintro H2 ⟨sm, rs, hP⟩
    rw [List.length_map, List.take_length] at hP
    exact hd H2 rs sm hP
end
/-! piece GR -/
section
/-! ### nets grown place by place shrink to one place -/
def Shrinks (m : Nat) (fs : List Edge) : Prop := ∃ l r, RunL fs (allM m) l [r]
theorem run_ren {es es2 : List Edge} (σ : Int → Int) {left left' : List Int} {l : List Edge} (r : RunL es left l left') : (∀ x ∈ left, ∀ y ∈ left, σ x = σ y → x = y) → (∀ x ∈ left, ∀ y ∈ left, (Adj es2 (σ x) (σ y) ↔ Adj es x y)) →
    ∀ left2 : List Int, left2.Nodup → (∀ y, y ∈ left2 ↔ ∃ x ∈ left, σ x = y) → ∃ l2 left2', RunL es2 left2 l2 left2' ∧ left2'.Nodup ∧ ∀ y, y ∈ left2' ↔ ∃ x ∈ left', σ x = y := by
  induction r with
  | nil left => exact fun _ _ left2 nd h => ⟨[], left2, .nil _, nd, h⟩
  | @cons left left' p q l hp hq r ih =>
    intro hi ha left2 nd h
    obtain ⟨_, hq2, hne, hn⟩ := (ontoM_mem hp).mp hq
    have hp2 : σ p ∈ left2 := (h _).mpr ⟨p, hp, rfl⟩
    have hs : StepOk (Adj es2) (· ∈ left2) (σ p) (σ q) := by
      refine ⟨hp2, (h _).mpr ⟨q, hq2, rfl⟩, fun e => hne (hi p hp q hq2 e), fun z hz hza => ?_⟩
      obtain ⟨x, hx, rfl⟩ := (h z).mp hz
      exact (ha q hq2 x hx).mpr (hn x hx ((ha p hp x hx).mp hza))
    obtain ⟨l2, left2', k1, k2, k3⟩ := ih (fun x hx y hy => hi x (without_mem.mp hx).1 y (without_mem.mp hy).1) (fun x hx y hy => ha x (without_mem.mp hx).1 y (without_mem.mp hy).1) (without left2 (σ p)) (nd.filter _) fun y => by
      rw [without_mem, h y]
      constructor
      · rintro ⟨⟨x, hx, rfl⟩, hxp⟩
        exact ⟨x, without_mem.mpr ⟨hx, fun e => hxp (by rw [e])⟩, rfl⟩
      · rintro ⟨x, hx, rfl⟩
        obtain ⟨a, b⟩ := without_mem.mp hx
        exact ⟨⟨x, a, rfl⟩, fun e => b (hi x a p hp e)⟩
    exact ⟨(σ p, σ q) :: l2, left2', .cons hp2 ((ontoM_mem hp2).mpr hs) k1, k2, k3⟩
theorem all_nodup (n : Nat) : (allM n).Nodup := (allM_lt n).imp fun h => by omega
theorem nodup_one {l : List Int} {c : Int} (nd : l.Nodup) (h : ∀ y, y ∈ l ↔ y = c) : l = [c] := by
  match l, nd, h with
  | [], _, h => exact absurd ((h c).mpr rfl) (by simp)
  | [a], _, h => rw [(h a).mp (List.mem_cons_self ..)]
  | a :: b :: l, nd, h =>
    have h1 := (h a).mp (List.mem_cons_self ..)
    have h2 := (h b).mp (List.mem_cons_of_mem _ (List.mem_cons_self ..))
    exact absurd (List.nodup_cons.mp nd).1 (by rw [h1, h2]; simp)
theorem shrinks_ren {n : Nat} {es es2 : List Edge} (σ : Int → Int) (hs : Shrinks n es) (hr : ∀ x : Int, 1 ≤ x → x ≤ n → 1 ≤ σ x ∧ σ x ≤ n) (hi : ∀ x y : Int, 1 ≤ x → x ≤ n → 1 ≤ y → y ≤ n → σ x = σ y → x = y)
    (ha : ∀ x y : Int, 1 ≤ x → x ≤ n → 1 ≤ y → y ≤ n → (Adj es2 (σ x) (σ y) ↔ Adj es x y)) : Shrinks n es2 := by
  obtain ⟨l, r, hR⟩ := hs
  have him : ∀ y, y ∈ allM n ↔ ∃ x ∈ allM n, σ x = y := by
    have hnd : ((allM n).map σ).Nodup := List.pairwise_map.mpr ((all_nodup n).imp_of_mem fun {x y} hx hy hne e => hne (hi x y (allM_mem.mp hx).1 (allM_mem.mp hx).2 (allM_mem.mp hy).1 (allM_mem.mp hy).2 e))
    have hsub : ∀ y ∈ (allM n).map σ, y ∈ allM n := fun y hy => by
      obtain ⟨x, hx, rfl⟩ := List.mem_map.mp hy
      have := allM_mem.mp hx
      exact allM_mem.mpr (hr x this.1 this.2)
    intro y
    constructor
    · intro hy
      apply Classical.byContradiction
      intro hno
      have hno2 : y ∉ (allM n).map σ := fun h => by
        obtain ⟨x, hx, e⟩ := List.mem_map.mp h
        exact hno ⟨x, hx, e⟩
      have hle := nodup_le n (y :: (allM n).map σ) (List.nodup_cons.mpr ⟨hno2, hnd⟩) fun x hx => by
        rcases List.mem_cons.mp hx with rfl | hx
        · exact allM_mem.mp hy
        · exact allM_mem.mp (hsub x hx)
      rw [List.length_cons, List.length_map] at hle
      have : (allM n).length = n := by unfold allM; simp
      omega
    · rintro ⟨x, hx, rfl⟩
      exact hsub _ (List.mem_map.mpr ⟨x, hx, rfl⟩)
  obtain ⟨l2, left2, k1, k2, k3⟩ := run_ren (es2 := es2) σ hR (fun x hx y hy => hi x y (allM_mem.mp hx).1 (allM_mem.mp hx).2 (allM_mem.mp hy).1 (allM_mem.mp hy).2)
    (fun x hx y hy => ha x y (allM_mem.mp hx).1 (allM_mem.mp hx).2 (allM_mem.mp hy).1 (allM_mem.mp hy).2) (allM n) (all_nodup n) him
  have e := nodup_one k2 (c := σ r) fun y => by
    rw [k3 y]
    constructor
    · rintro ⟨x, hx, rfl⟩
      rw [List.mem_singleton.mp hx]
    · rintro rfl
      exact ⟨r, List.mem_cons_self .., rfl⟩
  exact ⟨l2, σ r, e ▸ k1⟩
theorem shrinks_same {n : Nat} {es es2 : List Edge} (hs : Shrinks n es) (ha : ∀ x y : Int, y ∈ mates x es2 ↔ y ∈ mates x es) : Shrinks n es2 :=
  shrinks_ren (fun x => x) hs (fun _ h1 h2 => ⟨h1, h2⟩) (fun _ _ _ _ _ _ e => e) fun x y _ _ _ _ => by
    unfold Adj
    rw [List.mem_cons, List.mem_cons, ha x y]
theorem mates_perm {es es2 : List Edge} (h : es2.Perm es) (x y : Int) : y ∈ mates x es2 ↔ y ∈ mates x es := by
  rw [mem_mates, mem_mates, h.mem_iff, h.mem_iff]
theorem mates_ren {n : Nat} {es : List Edge} (hS : Simp n es) (σ : Int → Int) (hi : ∀ x y : Int, 1 ≤ x → x ≤ n → 1 ≤ y → y ≤ n → σ x = σ y → x = y) {x y : Int} (h1 : 1 ≤ x) (h2 : x ≤ n) (h3 : 1 ≤ y) (h4 : y ≤ n) :
    Adj (es.map fun e => (σ e.1, σ e.2)) (σ x) (σ y) ↔ Adj es x y := by
  have one : ∀ a b : Int, 1 ≤ a → a ≤ n → 1 ≤ b → b ≤ n → ((σ a, σ b) ∈ (es.map fun e => (σ e.1, σ e.2)) ↔ (a, b) ∈ es) := fun a b a1 a2 b1 b2 => by
    rw [List.mem_map]
    constructor
    · rintro ⟨e, he, h⟩
      have q := hS.rng e he
      rw [Prod.mk.injEq] at h
      rw [← hi _ _ q.1 q.2.1 a1 a2 h.1, ← hi _ _ q.2.2.1 q.2.2.2.1 b1 b2 h.2]
      exact he
    · exact fun h => ⟨_, h, rfl⟩
  unfold Adj
  rw [List.mem_cons, List.mem_cons, mem_mates, mem_mates, one x y h1 h2 h3 h4, one y x h3 h4 h1 h2]
  constructor
  · rintro (e | h)
    · exact .inl (hi _ _ h3 h4 h1 h2 e)
    · exact .inr h
  · rintro (e | h)
    · exact .inl (by rw [e])
    · exact .inr h
theorem flips_symm : ∀ {as bs : List Edge}, Flips as bs → Flips bs as
  | [], [], _ => trivial
  | a :: as, b :: bs, h => ⟨by
      rcases h.1 with e | e
      · exact .inl e.symm
      · exact .inr (by rw [e]), flips_symm h.2⟩
theorem flips_mates {as bs : List Edge} (h : Flips as bs) (i j : Int) : j ∈ mates i bs ↔ j ∈ mates i as := by
  have one : ∀ {as bs : List Edge}, Flips as bs → j ∈ mates i bs → j ∈ mates i as := fun h hm => by
    rcases mem_mates.mp hm with hb | hb
    · obtain ⟨a, ha, e | e⟩ := flips_mem h _ hb
      · exact mem_mates.mpr (.inl (e ▸ ha))
      · exact mem_mates.mpr (.inr (by rw [Prod.mk.injEq] at e; rw [e.1, e.2]; exact ha))
    · obtain ⟨a, ha, e | e⟩ := flips_mem h _ hb
      · exact mem_mates.mpr (.inr (e ▸ ha))
      · exact mem_mates.mpr (.inl (by rw [Prod.mk.injEq] at e; rw [e.1, e.2]; exact ha))
  exact ⟨one h, one (flips_symm h)⟩
/-- grown place by place, each one onto a place that is there and some of the mates of this one -/
inductive Grw (es : List Edge) : Int → Int → List Edge → Prop where
  | base (s : Int) : Grw es s s es
  | more {s t g : Int} {es' : List Edge} {fs : List Int} (h : Grw es s t es') (g1 : 1 ≤ g) (g2 : g ≤ t) (hf : fs.Sublist (mates g es')) : Grw es s (t + 1) (es' ++ (g, t + 1) :: fs.map fun m => (m, t + 1))
theorem grw_shrinks {s t : Int} {es : List Edge} (h : Grw [] s t es) : s = 1 → 1 ≤ t ∧ Simp t es ∧ Shrinks t.toNat es := by
  induction h with
  | base =>
    intro e
    subst e
    exact ⟨Int.le_refl _, simp_nil 1, [], 1, .nil _⟩
  | @more t g es' fs h g1 g2 hf ih =>
    intro e
    obtain ⟨ht, hS, l, r, hR⟩ := ih e
    have hS2 : Simp (t + 1) (es' ++ (g, t + 1) :: fs.map fun m => (m, t + 1)) := simp_grow (by rw [show t + 1 - 1 = t by omega]; exact hS) g1 (by omega) hf
    refine ⟨by omega, hS2, ?_⟩
    have hin : ∀ z : Int, z ∈ allM t.toNat ↔ 1 ≤ z ∧ z ≤ t := fun z => by rw [allM_mem]; omega
    have hin2 : ∀ z : Int, z ∈ allM (t + 1).toNat ↔ 1 ≤ z ∧ z ≤ t + 1 := fun z => by rw [allM_mem]; omega
    have hnew : ∀ a b : Int, (a, b) ∈ (es' ++ (g, t + 1) :: fs.map fun m => (m, t + 1)) ↔ (a, b) ∈ es' ∨ (b = t + 1 ∧ (a = g ∨ a ∈ fs)) := fun a b => by
      rw [List.mem_append, List.mem_cons, List.mem_map, Prod.mk.injEq]
      constructor
      · rintro (h | ⟨e1, e2⟩ | ⟨m, hm, e⟩)
        · exact .inl h
        · exact .inr ⟨e2, .inl e1⟩
        · rw [Prod.mk.injEq] at e
          exact .inr ⟨e.2.symm, .inr (e.1 ▸ hm)⟩
      · rintro (h | ⟨e2, e1 | h⟩)
        · exact .inl h
        · exact .inr (.inl ⟨e1, e2⟩)
        · exact .inr (.inr ⟨a, h, by rw [e2]⟩)
    have hold : ∀ a b : Int, (a, b) ∈ es' → 1 ≤ a ∧ a ≤ t ∧ 1 ≤ b ∧ b ≤ t := fun a b hab => by have := hS.rng _ hab; simp only at this; omega
    have hfr : ∀ m ∈ fs, 1 ≤ m ∧ m ≤ t ∧ (Adj es' g m) := fun m hm => by
      have h1 := hf.subset hm
      have := mates_rng hS m h1
      exact ⟨this.1, this.2.1, List.mem_cons_of_mem _ h1⟩
    -- among the old places nothing is new
    have hadj : ∀ x ∈ allM t.toNat, ∀ y ∈ allM t.toNat, (Adj (es' ++ (g, t + 1) :: fs.map fun m => (m, t + 1)) x y ↔ Adj es' x y) := fun x hx y hy => by
      have hx := (hin x).mp hx
      have hy := (hin y).mp hy
      unfold Adj
      rw [List.mem_cons, List.mem_cons, mem_mates, mem_mates, hnew, hnew]
      constructor
      · rintro (h | (h | ⟨e, _⟩) | (h | ⟨e, _⟩))
        · exact .inl h
        · exact .inr (.inl h)
        · omega
        · exact .inr (.inr h)
        · omega
      · rintro (h | h | h)
        · exact .inl h
        · exact .inr (.inl (.inl h))
        · exact .inr (.inr (.inl h))
    have hst : StepOk (Adj (es' ++ (g, t + 1) :: fs.map fun m => (m, t + 1))) (· ∈ allM (t + 1).toNat) (t + 1) g := by
      refine ⟨(hin2 _).mpr (by omega), (hin2 _).mpr (by omega), by omega, fun z hz hza => ?_⟩
      have key : ∀ z, z = g ∨ z ∈ fs → Adj (es' ++ (g, t + 1) :: fs.map fun m => (m, t + 1)) g z := fun z hz => by
        rcases hz with rfl | hz
        · exact adj_refl _ _
        · have := hfr z hz
          exact (hadj g ((hin g).mpr ⟨g1, g2⟩) z ((hin z).mpr ⟨this.1, this.2.1⟩)).mpr this.2.2
      rcases List.mem_cons.mp hza with rfl | hm
      · exact List.mem_cons_of_mem _ (mem_mates.mpr (.inl ((hnew _ _).mpr (.inr ⟨rfl, .inl rfl⟩))))
      · rcases mem_mates.mp hm with h | h
        · rcases (hnew _ _).mp h with h | ⟨e, h | h⟩
          · have := hold _ _ h; omega
          · omega
          · have := hfr _ h; omega
        · rcases (hnew _ _).mp h with h | ⟨_, h⟩
          · have := hold _ _ h; omega
          · exact key z h
    obtain ⟨l2, left2, k1, k2, k3⟩ := run_ren (es2 := es' ++ (g, t + 1) :: fs.map fun m => (m, t + 1)) (fun x => x) hR (fun _ _ _ _ e => e) hadj (without (allM (t + 1).toNat) (t + 1)) ((all_nodup _).filter _) fun y => by
      rw [without_mem, hin2]
      constructor
      · rintro ⟨h, hne⟩
        exact ⟨y, (hin y).mpr (by omega), rfl⟩
      · rintro ⟨x, hx, rfl⟩
        have := (hin x).mp hx
        omega
    have e := nodup_one k2 (c := r) fun y => by
      rw [k3 y]
      constructor
      · rintro ⟨x, hx, rfl⟩
        exact List.mem_singleton.mp hx
      · rintro rfl
        exact ⟨y, List.mem_cons_self .., rfl⟩
    exact ⟨(t + 1, g) :: l2, r, .cons hst.1 ((ontoM_mem hst.1).mpr hst) (e ▸ k1)⟩
end
/-! piece LT2 -/
section
/-- a comprehension of new pairs, tuples -/
theorem lc_tup {K : PySem.W.Frag} {a : Addr} {xs : List Int} {i : Nat} {te : TE} {vs : List Nat} {σ : Sl} {H1 : Hp} {D : Addr} {Qd : Hp → Prop} (f : Int → Edge)
    (hl : SqL K H1 a (xs.map V.int)) (nD : H1 D = none) (hn : xs.length ≤ 10000) (hw : ∀ v, wipe ((wipe σ vs).set i (some v)) vs = wipe σ vs)
    (he : ∀ x ∈ xs, ∀ H2, Same H1 H2 → ∀ R : V → Hp → Prop, (∀ H3 r, Same H2 H3 → H3 r = none → R (.ref r) (upd H3 r (.tup [.int (f x).1, .int (f x).2]))) → te ((wipe σ vs).set i (some (.int x))) H2 R)
    (hd : ∀ H2 rs, Same H1 H2 → TsAt H2 D rs (xs.map f) → Qd H2) :
    ∃ W : Nat → Nat → Hp → Prop, (∃ m, W 0 m (upd H1 D (.lst []))) ∧ ∀ i' m H, W i' m H →
      ((Itl K a).stop i' H ∧ Qd H) ∨ ((Itl K a).go i' H ∧ ∃ Nx : Hp → Prop, (∀ H', Nx H' → ∃ m', m' < m ∧ W (i' + 1) m' H') ∧ ∀ x H', (Itl K a).yld i' H x H' → gName i x (wipe σ vs) H' fun σ2 H2 => wipe σ2 vs = wipe σ vs ∧ tYes σ2 H2 fun b H3 =>
        if b = true then te σ2 H3 fun y H4 => ∃ acc, H4 D = some (.lst acc) ∧ acc.length < sizeLine ∧ Nx (upd H4 D (.lst (acc ++ [y]))) else Nx H3) := by
  refine lc_list (K := K) (xs := xs.map V.int) (fun j H2 => Same H1 H2 ∧ ∃ rs, TsAt H2 D rs ((xs.take j).map f)) ⟨same_upd (Same.refl _) nD, [], TsAt.nil upd_same⟩ ?_ ?_ ?_
  · rintro j H2 _ ⟨sm, _⟩
    exact sm.seq hl
  · rintro j x H2 hx ⟨sm, rs, hP⟩
    rw [List.getElem?_map] at hx
    cases hv : xs[j]? with
    | none => rw [hv] at hx; cases hx
    | some y =>
      rw [hv] at hx
      cases hx
      have hm := List.mem_of_getElem? hv
      have htk : xs.take (j + 1) = xs.take j ++ [y] := by rw [List.take_add_one, hv]; rfl
      refine ⟨hw _, ?_⟩
      refine he y hm H2 sm _ fun H3 r sm3 nr => ?_
      have hP3 : TsAt H3 D rs ((xs.take j).map f) := hP.same sm3
      have s3 := sm.trans sm3
      refine ⟨_, (upd_ne (ne_of_none hP3.hD nr)).trans hP3.hD, ?_, same_upd (same_upd s3 (s3.free nr)) nD, rs ++ [r], ?_⟩
      · rw [List.length_map, hP3.len, List.length_map]
        exact Nat.lt_of_le_of_lt (Nat.le_trans (by rw [List.length_take]; exact Nat.min_le_right _ _) hn) (by decide)
      · rw [htk, List.map_append]
        exact hP3.push nr (f y)
  · rintro H2 ⟨sm, rs, hP⟩
    rw [List.length_map, List.take_length] at hP
    exact hd H2 rs sm hP
/-- a comprehension that tells one value each -/
theorem lc_vals {K : PySem.W.Frag} {a : Addr} {α : Type} {inj : α → V} {xs : List α} {i : Nat} {te : TE} {vs : List Nat} {σ : Sl} {H1 : Hp} {D : Addr} {Qd : Hp → Prop} (e : α → V)
    (hl : SqL K H1 a (xs.map inj)) (nD : H1 D = none) (hn : xs.length ≤ 10000) (hw : ∀ v, wipe ((wipe σ vs).set i (some v)) vs = wipe σ vs)
    (he : ∀ x ∈ xs, ∀ H2, Same H1 H2 → ∀ R : V → Hp → Prop, (∀ H3, Same H2 H3 → R (e x) H3) → te ((wipe σ vs).set i (some (inj x))) H2 R)
    (hd : ∀ H2, Same H1 H2 → H2 D = some (.lst (xs.map e)) → Qd H2) :
    ∃ W : Nat → Nat → Hp → Prop, (∃ m, W 0 m (upd H1 D (.lst []))) ∧ ∀ i' m H, W i' m H →
      ((Itl K a).stop i' H ∧ Qd H) ∨ ((Itl K a).go i' H ∧ ∃ Nx : Hp → Prop, (∀ H', Nx H' → ∃ m', m' < m ∧ W (i' + 1) m' H') ∧ ∀ x H', (Itl K a).yld i' H x H' → gName i x (wipe σ vs) H' fun σ2 H2 => wipe σ2 vs = wipe σ vs ∧ tYes σ2 H2 fun b H3 =>
        if b = true then te σ2 H3 fun y H4 => ∃ acc, H4 D = some (.lst acc) ∧ acc.length < sizeLine ∧ Nx (upd H4 D (.lst (acc ++ [y]))) else Nx H3) :=
  lc_gen (tt := tYes) (fun _ => true) e hl nD hn hw (fun _ _ H2 _ R hR => hR H2 (Same.refl _)) (fun x hx _ => he x hx) (fun H2 sm h => hd H2 sm (by rw [List.filter_eq_self.mpr (fun _ _ => rfl)] at h; exact h))
theorem eqv_ints (xs : List Int) : PyData.eqv (.list (xs.map .int)) (.list (xs.map .int)) = true := by
  have h : ∀ ys : List Int, PyData.eqvAll (ys.map .int) (ys.map .int) = true := fun ys => by
    induction ys with
    | nil => simp [PyData.eqvAll]
    | cons y r ih => rw [List.map_cons, PyData.eqvAll, ih]; simp [PyData.eqv]
  rw [PyData.eqv, h xs]
end
/-! piece DT -/
section
/-! ### dict of pairs whose keys are tuples -/
def rDictT (K : PySem.W.Frag) : List V → Hp → VK → Prop := fun xs H Q => ∃ (a : Addr) (ps : List Addr) (qs : List (Addr × List Key × V)), xs = [.ref a] ∧ SqL K H a (ps.map V.ref) ∧
  Paired (fun p (q : Addr × List Key × V) => SqT K H p [.ref q.1, q.2.2] ∧ H q.1 = some (.tup (q.2.1.map kV))) ps qs ∧ (qs.map (·.2.1)).Nodup ∧ ∀ p, H p = none → Q (.ref p) (upd H p (.dT (qs.map (·.2))))
section
variable {X : Cx}
theorem pairsT_of {pins : List (Addr × Obj)} {σ : Sl} {H : Hp} {s : Shared} (I : Inv X pins σ H s) : ∀ {ps : List Addr} {qs : List (Addr × List Key × V)}, Paired (fun p (q : Addr × List Key × V) => SqT X.K H p [.ref q.1, q.2.2] ∧ H q.1 = some (.tup (q.2.1.map kV))) ps qs →
    ∃ us : List (List Key × Addr × Value), us.length = ps.length ∧ us.map (·.1) = qs.map (·.2.1) ∧
      Paired (fun (p : List Key × V) (q : List Key × Addr × Value) => p.1 = q.1 ∧ H q.2.1 = some (.tup (p.1.map kV)) ∧ RelV p.2 q.2.2) (qs.map (·.2)) us ∧
      (∀ (j : Nat) (u : List Key × Addr × Value), us[j]? = some u → ∃ b, ps[j]? = some b ∧ IsTup s.heap b #[.ref u.2.1, u.2.2]) ∧ ∀ u ∈ us, H u.2.1 = some (.tup (u.1.map kV))
  | _, _, .nil => ⟨[], rfl, rfl, .nil, fun j u e => by simp at e, fun u hu => nomatch hu⟩
  | _, _, .cons (a := p) (b := q) h t => by
    obtain ⟨us, e1, e2, e3, e4, e5⟩ := pairsT_of I t
    obtain ⟨its, rv, ht, _⟩ := I.tuple h.1
    obtain ⟨u, y, ei, ru, ry⟩ := vals2 rv
    subst ei
    cases ru
    refine ⟨(q.2.1, q.1, y) :: us, by simp [e1], by simp [e2], .cons ⟨rfl, h.2, ry⟩ e3, fun j v hv => ?_, fun v hv => ?_⟩
    · cases j with
      | zero =>
        cases Option.some.inj hv
        exact ⟨p, rfl, ht⟩
      | succ j => exact e4 j v hv
    · rcases List.mem_cons.mp hv with rfl | hv
      · exact h.2
      · exact e5 v hv
theorem call_dictT (hc : X.calm = true) (hu : X.A.units + 2 < cLine) : CallR X (.type "dict") (rDictT X.K) := by
  intro pins s σ H xs us Q I r q
  obtain ⟨a, ps, qs, ex, hq, hp, hnd, q⟩ := q
  subst ex
  obtain ⟨u, eu, rx⟩ := vals1 r
  subst eu
  cases rx
  obtain ⟨its, rv, pl, hz⟩ := I.list hq
  cases refs_at rv
  rw [List.length_map] at hz
  obtain ⟨us, e1, e2, e3, e4, e5⟩ := pairsT_of I hp
  obtain ⟨o, n, ho, hcl, hd, hdat⟩ := pl
  have hkey : ∀ u ∈ us, (tupleKind (mixKind X.prog X.w)).is s.heap u.1 u.2.1 := fun u hu => key_of I.hok (e5 u hu)
  have hpa : PairItems s.heap (ps.map Value.ref).toArray (fun j => ps.getD j 0) (us.map fun u => (Value.ref u.2.1, u.2.2)) := by
    refine ⟨by simp [e1], fun j k v hj => ?_⟩
    rw [List.getElem?_map] at hj
    cases hx : us[j]? with
    | none => rw [hx] at hj; cases hj
    | some x =>
      rw [hx] at hj
      cases Option.some.inj hj
      obtain ⟨b, hb, ht⟩ := e4 j x hx
      refine ⟨by simp [hb], .inl ?_⟩
      have eb : ps.getD j 0 = b := by rw [List.getD_eq_getElem?_getD, hb]; rfl
      show s.heap.IsTuple (ps.getD j 0) _
      rw [eb]
      exact ht
  refine call_dict_pairsH (knd := tupleKind (mixKind X.prog X.w)) (ps := us) (PairArg.list a (ps.map Value.ref).toArray (fun j => ps.getD j 0) (us.map fun u => (Value.ref u.2.1, u.2.2))) (I.ok.hd hc)
    (by show X.A.units + 1 + 1 < cLine; omega) ⟨⟨o, n, ho, hcl, hd, hdat⟩, hpa⟩ ⟨by rw [List.length_map], fun i key v hr => ?_⟩ (fun h' hk x hx => ?_) (by rw [List.length_map, e1]; exact hz) fun h' tk hd' hk => ?_
  · rw [PairRel, List.getElem?_map] at hr
    cases hx : us[i]? with
    | none => rw [hx] at hr; cases hr
    | some x =>
      rw [hx] at hr
      cases Option.some.inj hr
      exact ⟨x.1, x.2.1, rfl, rfl⟩
  · exact tupleKind_stays.stays (fun b o' vs m e _ => hk b o' (fun e' => by
      subst e'
      exact absurd (Heap.lt_size e) (Nat.lt_irrefl _)) (fun q => nomatch q) e) (hkey x hx)
  · have hkall : ∀ b u, s.heap.get? b = some u → h'.get? b = some u := fun b u e => hk b u (fun q => nomatch q) e
    rw [storedAllH_nil_of_nodup us (by rw [e2]; exact hnd)] at hd'
    obtain ⟨o', es, ep, k1, k2, k3, k4, k5, k6⟩ := hd'
    have np := I.hok.fresh (a := s.heap.objs.size) (Nat.le_refl _)
    have hm : (s.heap.objs.size == sysModules) = false := beq_eq_false_iff_ne.mpr (Nat.ne_of_gt I.big)
    refine ⟨.ref s.heap.objs.size, upd H s.heap.objs.size (.dT (qs.map (·.2))), I.laid (t' := tk) hkall (Nat.le_refl _) ?_, rfl, q _ np⟩
    have hlen : (qs.map (·.2)).length ≤ sizeLine := by
      have := congrArg List.length e2
      rw [List.length_map, List.length_map] at this
      rw [List.length_map, ← this, e1]
      exact hz
    refine ⟨hlen, hm, us, Paired.mapP e3 fun p q z => ⟨z.1, ?_, z.2.2⟩, o', es, ep, k1, k2, k3, k4, k6⟩
    rw [upd_ne (ne_of_none z.2.1 np)]
    exact z.2.1
theorem call_dictTK {K : PySem.W.Frag} (_ : KMark K) (h : X.K = K) (hc : X.calm = true) (hu : X.A.units + 64 < cLine) : CallR X (.type "dict") (rDictT K) := h ▸ call_dictT hc (by omega)
/-! ### how many there are, each once -/
def tLenSetL (K : PySem.W.Frag) (ta : TE) : TE := fun σ H Q => ta σ H fun x H1 => ∃ (l : Addr) (ns : List Int), x = .ref l ∧ SqL K H1 l (ns.map V.int) ∧ ns.length ≤ 1000 ∧ ns.Nodup ∧ Q (.int ns.length) H1
end
section
variable {X : Cx}
/-- a list of numbers, each once: as a set it is as many -/
theorem pe_lenSetL {ex : Expr} {tx : TE} {q1 q2 q3 q4 : Pos} (calm : X.calm = true) (gl : Gl X "len") (ml : X.mg "len" = none) (gs : Gl X "set") (ms : X.mg "set" = none) (hx : PE X ex tx)
    (hst : starEach [ex] X.env = (false, eval ex X.env) :: starEach [] X.env := by rfl) :
    PE X (.Call (.Name "len" q1) [.Call (.Name "set" q2) [ex] [] q3] [] q4) (tLenSetL X.K tx) := by
  constructor
  intro pins s σ H Q I h
  refine Call_ (ld_blt I gl ml PySem.boot_len (PyProof.Rows.callWith_builtin1 (PyProof.Rows.args_cons ?one rfl) rfl rfl))
  refine Call_ (ld_blt I gs ms PyProof.Rows.boot_set (PyProof.Rows.callWith_type1 (PyProof.Rows.args_cons (thn (hx.run pins s σ H _ I h) ?two) hst) hst rfl))
  rintro v s2 ⟨x, H2, I2, rx, l, ns, rfl, hq, hl, nd, fin⟩
  cases rx
  obtain ⟨its, rv, pl, _⟩ := I2.list hq
  have hsz : its.toArray.size = ns.length := by
    have := rv.length
    rw [List.length_map] at this
    simp [this]
  refine PyProof.Rows.args_nil (call_set_list (ns := ns) (I2.ok.hd calm) pl.isList (by simpa using rv.ints) ?_ ?_)
  · rw [hsz]
    exact Nat.lt_of_le_of_lt (Nat.succ_le_succ hl) (by decide)
  intro h' tk hS hk
  rw [hsz, firstMet_nodup ns nd _ (Nat.le_refl _), List.take_length] at hS
  obtain ⟨o, es, ep, t, ho, hex, hd, _, _, _, hf, hn⟩ := hS
  have I3 : Inv X pins σ H2 { s2 with heap := h', toks := tk } := I2.kept fun b o e => hk b o (Heap.lt_size e) e
  refine PyProof.Rows.args_nil (call_len_set ho hex hd hf (by rw [hn]; omega) ?_)
  exact ⟨.int ns.length, H2, I3.tok _, ⟨_, by rw [hn]⟩, fin⟩
end
section
variable {X : Cx} {K : PySem.W.Frag}
def rTupleOf (K : PySem.W.Frag) : List V → Hp → VK → Prop := fun xs H Q => ∃ p ys, xs = [.ref p] ∧ ((SqL K H p ys ∧ ∀ l, H l = none → Q (.ref l) (upd H l (.tup ys))) ∨ (SqT K H p ys ∧ Q (.ref p) H))
theorem call_tupleK (_ : KMark K) (h : X.K = K) : CallR X (.type "tuple") (rTupleOf K) := h ▸ call_tuple_of
theorem u1 {n : Nat} (h : n + 64 < cLine) : n + 1 < cLine := by omega
theorem u2 {n : Nat} (h : n + 64 < cLine) : n + 2 < cLine := by omega
end
/-! ### the dict of marks -/
def keyT (t : List Int) : List Key := t.map Sum.inl
def kvT (ts : List (List Int)) (f : List Int → Int) : List (List Key × V) := ts.map fun t => (keyT t, V.int (f t))
theorem keyT_inj {t u : List Int} (h : keyT t = keyT u) : t = u := by
  unfold keyT at h
  induction t generalizing u with
  | nil => cases u with
    | nil => rfl
    | cons b u => simp at h
  | cons a t ih =>
    cases u with
    | nil => simp at h
    | cons b u =>
      simp only [List.map_cons, List.cons.injEq, Sum.inl.injEq] at h
      rw [h.1, ih h.2]
theorem keyT_V (t : List Int) : (keyT t).map kV = t.map V.int := by
  unfold keyT
  rw [List.map_map]
  rfl
theorem val_kvT {f : List Int → Int} {t : List Int} : ∀ {ts : List (List Int)}, t ∈ ts → valV (kvT ts f) (keyT t) = some (.int (f t))
  | u :: ts, h => by
    unfold valV kvT
    rw [List.map_cons, List.find?_cons]
    by_cases e : keyT u = keyT t
    · rw [decide_eq_true e, keyT_inj e]
      rfl
    · rw [decide_eq_false e]
      have ht : t ∈ ts := (List.mem_cons.mp h).resolve_left fun e2 => e (by rw [e2])
      exact val_kvT (ts := ts) ht
theorem val_kvT_none {f : List Int → Int} {t : List Int} : ∀ {ts : List (List Int)}, t ∉ ts → valV (kvT ts f) (keyT t) = none
  | [], _ => rfl
  | u :: ts, h => by
    unfold valV kvT
    rw [List.map_cons, List.find?_cons, decide_eq_false (fun e => h (by rw [keyT_inj e]; exact List.mem_cons_self ..))]
    exact val_kvT_none (ts := ts) fun h2 => h (List.mem_cons_of_mem _ h2)
/-! ### pairs of a key and a mark -/
theorem Paired.snoc {α β : Type} {F : α → β → Prop} {a : α} {b : β} (h : F a b) : ∀ {l : List α} {m : List β}, Paired F l m → Paired F (l ++ [a]) (m ++ [b])
  | _, _, .nil => .cons h .nil
  | _, _, .cons x t => .cons x (Paired.snoc h t)
def PrF (H : Hp) (p : Addr) (q : Addr × List Key × V) : Prop := H p = some (.tup [.ref q.1, q.2.2]) ∧ H q.1 = some (.tup (q.2.1.map kV))
theorem PrF.same {H H' : Hp} {ps : List Addr} {qs : List (Addr × List Key × V)} (h : Paired (PrF H) ps qs) (s : Same H H') : Paired (PrF H') ps qs := Paired.mapP h fun _ _ z => ⟨s _ _ z.1, s _ _ z.2⟩
theorem PrF.ready {K : PySem.W.Frag} {H : Hp} {ps : List Addr} {qs : List (Addr × List Key × V)} (h : Paired (PrF H) ps qs) : Paired (fun p (q : Addr × List Key × V) => SqT K H p [.ref q.1, q.2.2] ∧ H q.1 = some (.tup (q.2.1.map kV))) ps qs :=
  Paired.mapP h fun _ _ z => ⟨SqT.of z.1, z.2⟩
theorem PrF.push {H : Hp} {D o l : Addr} {ps : List Addr} {qs : List (Addr × List Key × V)} {t : List Int} {c : Int} (hD : H D = some (.lst (ps.map V.ref))) (hP : Paired (PrF H) ps qs) (ho : H o = some (.tup [.ref l, .int c])) (hl : H l = some (.tup (t.map V.int))) :
    (upd H D (.lst (ps.map V.ref ++ [V.ref o]))) D = some (.lst ((ps ++ [o]).map V.ref)) ∧ Paired (PrF (upd H D (.lst (ps.map V.ref ++ [V.ref o])))) (ps ++ [o]) (qs ++ [(l, keyT t, .int c)]) := by
  have sm : ∀ b xs, H b = some (.tup xs) → (upd H D (.lst (ps.map V.ref ++ [V.ref o]))) b = some (.tup xs) := fun b xs e => by
    rw [upd_ne (ne_of e hD (by intro z; cases z))]
    exact e
  refine ⟨by rw [upd_same, List.map_append]; rfl, Paired.snoc ⟨sm _ _ ho, ?_⟩ (Paired.mapP hP fun a b z => ⟨sm _ _ z.1, sm _ _ z.2⟩)⟩
  show _ = some (HO.tup ((keyT t).map kV))
  rw [keyT_V]
  exact sm _ _ hl
theorem kvT_snoc (ts : List (List Int)) (t : List Int) (f : List Int → Int) : kvT (ts ++ [t]) f = kvT ts f ++ [(keyT t, .int (f t))] := by
  unfold kvT
  rw [List.map_append]
  rfl
end
/-! piece TBK -/
section
/-! ### from marks to aims: a dict that is filled in a walk -/
def kvI (ps : List (Int × Int)) : List (Key × V) := ps.map fun p => (Sum.inl p.1, V.int p.2)
structure Thr (f g : List Int → Int) (l : List (List Int)) (ps : List (Int × Int)) : Prop where
  nd : (ps.map (·.1)).Nodup
  all : ∀ p, p ∈ ps ↔ ∃ t ∈ l, p = (f t, g t)
  len : ps.length ≤ l.length
theorem Thr.nil {f g : List Int → Int} : Thr f g [] [] := ⟨by simp, fun p => by simp, Nat.le_refl _⟩
theorem valI : ∀ {ps : List (Int × Int)} {a b : Int}, (ps.map (·.1)).Nodup → (a, b) ∈ ps → valV (kvI ps) (Sum.inl a) = some (.int b)
  | p :: ps, a, b, nd, h => by
    unfold valV kvI
    rw [List.map_cons, List.find?_cons]
    rw [List.map_cons, List.nodup_cons] at nd
    rcases List.mem_cons.mp h with rfl | h
    · rw [decide_eq_true rfl]
      rfl
    · have hne : p.1 ≠ a := fun e => nd.1 (List.mem_map.mpr ⟨_, h, e.symm⟩)
      rw [decide_eq_false (fun e => hne (Sum.inl.inj e))]
      exact valI nd.2 h
theorem valI_none : ∀ {ps : List (Int × Int)} {a : Int}, a ∉ ps.map (·.1) → valV (kvI ps) (Sum.inl a) = none
  | [], _, _ => rfl
  | p :: ps, a, h => by
    rw [List.map_cons, List.mem_cons] at h
    unfold valV kvI
    rw [List.map_cons, List.find?_cons, decide_eq_false (fun e => h (.inl (Sum.inl.inj e).symm))]
    exact valI_none fun h2 => h (.inr h2)
theorem kvI_any (ps : List (Int × Int)) (a : Int) : ((kvI ps).any fun kv => decide (kv.1 = Sum.inl a)) = decide (a ∈ ps.map (·.1)) := by
  induction ps with
  | nil => rfl
  | cons p ps ih =>
    show (decide ((Sum.inl p.1 : Key) = Sum.inl a) || (kvI ps).any fun kv => decide (kv.1 = Sum.inl a)) = _
    rw [ih, ← Bool.decide_or]
    apply decide_eq_decide.mpr
    rw [List.map_cons, List.mem_cons]
    constructor
    · rintro (e | e)
      · exact .inl (Sum.inl.inj e).symm
      · exact .inr e
    · rintro (e | e)
      · exact .inl (by rw [e])
      · exact .inr e
theorem Thr.val {f g : List Int → Int} {l : List (List Int)} {ps : List (Int × Int)} (h : Thr f g l ps) {t : List Int} (hc : ∀ t' ∈ l, f t' = f t → g t' = g t) : (valV (kvI ps) (Sum.inl (f t))).getD (.int (g t)) = .int (g t) := by
  by_cases hm : f t ∈ ps.map (·.1)
  · obtain ⟨p, hp, e⟩ := List.mem_map.mp hm
    obtain ⟨t', h1, rfl⟩ := (h.all p).mp hp
    have e : f t' = f t := e
    rw [valI (a := f t) (b := g t) h.nd (by rw [← e, ← hc t' h1 e]; exact hp)]
    rfl
  · rw [valI_none hm]
    rfl
theorem Thr.put {f g : List Int → Int} {l : List (List Int)} {ps : List (Int × Int)} (h : Thr f g l ps) {t : List Int} (hc : ∀ t' ∈ l, f t' = f t → g t' = g t) :
    ∃ ps', putK (kvI ps) (Sum.inl (f t)) (.int (g t)) = kvI ps' ∧ Thr f g (l ++ [t]) ps' := by
  unfold putK
  rw [kvI_any]
  by_cases hm : f t ∈ ps.map (·.1)
  · refine ⟨ps, ?_, h.nd, fun p => ?_, by rw [List.length_append]; have := h.len; omega⟩
    · rw [if_pos (decide_eq_true hm)]
      unfold kvI
      rw [List.map_map]
      refine List.map_congr_left fun p hp => ?_
      obtain ⟨t', h1, rfl⟩ := (h.all p).mp hp
      show (if (Sum.inl (f t') : Key) = Sum.inl (f t) then ((Sum.inl (f t') : Key), V.int (g t)) else (Sum.inl (f t'), V.int (g t'))) = _
      by_cases e : f t' = f t
      · rw [if_pos (by rw [e]), hc t' h1 e]
      · rw [if_neg (fun e2 => e (Sum.inl.inj e2))]
    · rw [h.all]
      constructor
      · rintro ⟨t', h1, e⟩
        exact ⟨t', List.mem_append_left _ h1, e⟩
      · rintro ⟨t', h1, e⟩
        rcases List.mem_append.mp h1 with h1 | h1
        · exact ⟨t', h1, e⟩
        · rw [List.mem_singleton.mp h1] at e
          obtain ⟨q, hq, e2⟩ := List.mem_map.mp hm
          obtain ⟨t2, h2, rfl⟩ := (h.all q).mp hq
          have e2 : f t2 = f t := e2
          exact ⟨t2, h2, by rw [e, ← e2, ← hc t2 h2 e2]⟩
  · refine ⟨ps ++ [(f t, g t)], ?_, ?_, fun p => ?_, by rw [List.length_append, List.length_append]; have := h.len; simpa using this⟩
    · rw [if_neg (by rw [decide_eq_false hm]; exact Bool.false_ne_true)]
      unfold kvI
      rw [List.map_append]
      rfl
    · rw [List.map_append, List.nodup_append]
      refine ⟨h.nd, by simp, fun a ha b hb e => hm ?_⟩
      have : b = f t := by simpa using hb
      rw [← this, ← e]
      exact ha
    · rw [List.mem_append, h.all]
      constructor
      · rintro (⟨t', h1, e⟩ | e)
        · exact ⟨t', List.mem_append_left _ h1, e⟩
        · exact ⟨t, by simp, List.mem_singleton.mp e⟩
      · rintro ⟨t', h1, e⟩
        rcases List.mem_append.mp h1 with h1 | h1
        · exact .inl ⟨t', h1, e⟩
        · rw [List.mem_singleton.mp h1] at e
          exact .inr (List.mem_singleton.mpr e)
theorem Thr.vals {f g : List Int → Int} {l : List (List Int)} {ps : List (Int × Int)} (h : Thr f g l ps) (hi : ∀ t ∈ l, ∀ t' ∈ l, g t = g t' → f t = f t') : (ps.map (·.2)).Nodup := by
  refine List.pairwise_map.mpr ((List.pairwise_map.mp h.nd).imp_of_mem fun {p q} hp hq hne e => hne ?_)
  obtain ⟨t, h1, rfl⟩ := (h.all p).mp hp
  obtain ⟨t', h2, rfl⟩ := (h.all q).mp hq
  exact hi t h1 t' h2 e
theorem kvI_vals (ps : List (Int × Int)) : (kvI ps).map (·.2) = (ps.map (·.2)).map V.int := by
  unfold kvI
  rw [List.map_map, List.map_map]
  rfl
end
/-! piece RG -/
section
/-! ### the list of all places -/
theorem rgV_all (n : Nat) : rgV 1 ((n : Int) + 1) = (allM n).map V.int := by
  unfold rgV allM
  rw [List.map_map, show ((n : Int) + 1 - 1).toNat = n by omega]
  apply List.map_congr_left
  intro i _
  show V.int (1 + (i : Int)) = V.int ((i : Int) + 1)
  rw [Int.add_comm]
end
/-! piece CG -/
section
/-- a def of the text whose run has no repr under way -/
structure CalG (P : Program) (w : World) (K : PySem.W.Frag) (mg : Str → Option Value) (base : Heap) (x : Str) (k : Nat) (ps : List Str) (sp : Sp) : Prop where
  ex : ∃ (f : Addr) (fd : FuncData), FnG P w K mg base CX0 k f fd ps sp ∧ mg x = some (.ref f) ∧ PySem.W.keepIn K (.ref f) = true ∧ Binds K fd ps []
section
variable {X : Cx} {x : Str} {p pos : Pos} {e : Expr} {es : List Expr} {t : TA} {k j : Nat} {ps : List Str} {sp : Sp}
theorem pe_calG (C : CalG X.prog X.w X.K X.mg X.base x k ps sp) (hr : Room j X.A) (hkj : k ≤ j) (hgd : X.A.guards = some []) (hg : Gl X x) (ha : PA X (e :: es) t)
    (hdb : (x == ("__debug__" : Str)) = false := by decide)
    (he : starEach (e :: es) X.env = (false, eval e X.env) :: starEach es X.env := by rfl)
    (hpl : (backTo pos (starEach es X.env)).any (·.1) = false := by rfl) :
    PE X (.Call (.Name x p) (e :: es) [] pos) (tCall sp [] E0 t) := by
  obtain ⟨f, fd, F, hm, hk, hb⟩ := C.ex
  exact Fo.pe_callG F (hr.mono hkj) hgd hg hm hk hb .nil pass0 ha hdb he hpl
end
def g4 {α : Type} : List α → List α → List α := fun us ws => match us, ws with
  | [], [a, b, c, d] => [d, c, b, a]
  | _, _ => []
end
/-! piece D11 -/
section
theorem call_isiK' {X : Cx} {K : PySem.W.Frag} (_ : KMark K) (h : X.K = K) : CallR X (.builtin "isinstance") (rIsi K) := h ▸ call_isi
local macro_rules | `(tactic| wtm_at "fo v") => `(tactic| first
  | ((with_reducible show PE _ (.Name (Str.ofString "int") _) _); exact pe_bltn (v := .ty "int") (by rfl) (by assumption) (by decide +kernel) rfl)
  | ((with_reducible show PE _ (.Name (Str.ofString "list") _) _); exact pe_bltn (v := .ty "list") (by rfl) (by assumption) (by decide +kernel) rfl)
  | ((with_reducible show PE _ (.Name (Str.ofString "MOST_PLACES") _) _); exact pe_glob (v := .int 12) (by rfl) (by assumption) ⟨_, rfl⟩)
  | fail "no")
local macro_rules | `(tactic| wtm_at "fo e") => `(tactic| first
  | ((with_reducible show PE _ (.BoolOp .And [_] _) _); apply pe_one; wtm_at "fo e")
  | ((with_reducible show PE _ (.BoolOp .And _ _) _); apply pe_and; (· wtm_at "fo e"); (· wtm_at "fo e"))
  | ((with_reducible show PE _ (.Compare _ [.IsNot] [.Constant (.bool true) _ _] _) _); refine' pe_cmpR op_notT ?ka ?kb (nomark _); (case ka => wtm_at "fo e"); (case kb => wtm_at "fo e"))
  | ((with_reducible show PE _ (.Compare _ [.LtE, .LtE] _ _) _); refine' pe_chain op_le op_le ?ka ?kb ?kc; (case ka => wtm_at "fo e"); (case kb => wtm_at "fo e"); (case kc => wtm_at "fo e"))
  | ((with_reducible show PE _ (.Call (.Name (Str.ofString "isinstance") _) _ _ _) _); refine' pe_callB (call_isiK' (by assumption) (by exact rfl)) (by rfl) (by assumption) (by decide +kernel) ?ka; (case ka => wtm_at "fo a"))
  | ((with_reducible show PE _ (.Call (.Attribute _ (Str.ofString "bit_length") _) [] [] _) _); refine' pe_bits ?ka; (case ka => wtm_at "fo e"))
  | fail "no")
local macro_rules | `(tactic| wtm_at "fo t") => `(tactic| first
  | ((with_reducible show PT _ (.Compare _ [.IsNot] [.Constant (.bool true) _ _] _) _); refine' pt_cmpR op_notT ?ka ?kb (nomark _); (case ka => wtm_at "fo e"); (case kb => wtm_at "fo e"))
  | ((with_reducible show PT _ (.Compare _ [.Lt, .Lt, .LtE] _ _) _); refine' pt_chain3 op_lt op_lt op_le ?ka ?kb ?kc ?kd; (case ka => wtm_at "fo e"); (case kb => wtm_at "fo e"); (case kc => wtm_at "fo e"); (case kd => wtm_at "fo e"))
  | fail "no")
local macro_rules | `(tactic| wtm_at "fo s") => `(tactic| first
  | ((with_reducible show PS _ (.Raise _ _ _) _); exact ps_never)
  | ((with_reducible show PS _ (.Continue _) _); exact ps_continue)
  | ((with_reducible show PS _ (.AugAssign (.Subscript _ _ _) .BitOr _ _) _); refine' ps_augS ?ka ?kb get_list ?kc ip_or set_list; (case ka => wtm_at "fo e"); (case kb => wtm_at "fo e"); (case kc => wtm_at "fo e"))
  | ((with_reducible show PS _ (.Assign [.Tuple _ _ _] (.Name _ _) _) _); refine' ps_asg ?ka ?kb; (case ka => wtm_at "fo e"); (case kb => wtm_at "fo g"))
  | fail "no")
variable {P : Program} {w : World} {K : PySem.W.Frag} {mg : Str → Option Value} {base : Heap}
/-! ### is_place, members -/
@[irreducible] def spIsPlace : Sp := fun vs H Q _ => ∃ i n : Int, vs = [.int i, .int n] ∧ Q (.bl (decide (1 ≤ i ∧ i ≤ n))) H
theorem call_isplace {i n : Int} {H : Hp} {Q : VK} {E : XK} (q : Q (.bl (decide (1 ≤ i ∧ i ≤ n))) H) : spIsPlace [.int i, .int n] H Q E := by
  unfold spIsPlace
  exact ⟨i, n, rfl, q⟩
set_option maxHeartbeats 2000000 in
theorem ok_isplace {f : Addr} {fd : FuncData} (F : Fun K "is_place" "is_place" s_is_place f fd) (mi : mg "isinstance" = none) (mt : mg "int" = none) :
    FnOk P w K mg base CX0 1 f fd ["place", "places"] spIsPlace := by
  refine F.ok sc_is_place (fun vs H Q E h => ?_) (fun cdv A outer s H vs Q E hr h => ?_)
  · unfold spIsPlace at h
    obtain ⟨i, n, rfl, _⟩ := h
    rfl
  · have nd := sc_is_place.nd
    have hS := sc_is_place
    have hKM : KMark K := ⟨⟩
    refine' mk_body ?body ?rd
    case body =>
      show PSs _ [_] _
      wtm_at "fo ss"
    case rd =>
     unfold spIsPlace at h
     obtain ⟨i, n, rfl, q⟩ := h
     wtm_at "fo r"
     refine ⟨.int i, .ty "int", _, _, true, rfl, .ty "int", .base (.int i), kit_ty (by decide +kernel), ?_⟩
     refine ⟨_, rfl, ?_⟩
     refine ifT rfl ?_
     refine ⟨_, rfl, rfl, _, rfl, ifT rfl ?_⟩
     refine ⟨_, rfl, _, _, rfl, rfl, _, rfl, ?_⟩
     by_cases h1 : 1 ≤ i
     · refine ifT (decide_eq_true h1) ?_
       refine ⟨_, rfl, _, _, rfl, rfl, ?_⟩
       rw [show decide (1 ≤ i ∧ i ≤ n) = decide (i ≤ n) by simp [h1]] at q
       exact q
     · refine ifF (decide_eq_false h1) ?_
       rw [show decide (1 ≤ i ∧ i ≤ n) = false by simp [h1]] at q
       exact q

@[irreducible] def spMembers : Sp := fun vs H Q _ => ∃ v : Nat, vs = [.int v] ∧ v < 2 ^ 20 ∧ ∀ p H', Same H H' → H p = none → H' p = some (.lst ((membersM v).map V.int)) → Q (.ref p) H'
theorem call_members {v : Nat} {H : Hp} {Q : VK} {E : XK} (hv : v < 2 ^ 20) (q : ∀ p H', Same H H' → H p = none → H' p = some (.lst ((membersM v).map V.int)) → Q (.ref p) H') : spMembers [.int v] H Q E := by
  unfold spMembers
  exact ⟨v, rfl, hv, q⟩
theorem bitLen_eq (v : Nat) : Builtin.Int.intBits (v : Int) = bitLen v := by
  unfold Builtin.Int.intBits bitLen
  by_cases h : v = 0
  · subst h; rfl
  · rw [if_neg h, if_neg (by simp; omega)]
    rfl
theorem bitLen_le {v k : Nat} (h : v < 2 ^ k) : bitLen v ≤ k := by
  unfold bitLen
  by_cases e : v = 0
  · rw [if_pos e]; omega
  · rw [if_neg e]
    have := (Nat.log2_lt e).mpr h
    omega
set_option maxHeartbeats 2000000 in
theorem ok_members {f : Addr} {fd : FuncData} (F : Fun K "members" "members" s_members f fd) (mr : mg "range" = none) :
    FnOk P w K mg base CX0 1 f fd ["lot"] spMembers := by
  refine F.ok sc_members (fun vs H Q E h => ?_) (fun cdv A outer s H vs Q E hr h => ?_)
  · unfold spMembers at h
    obtain ⟨v, rfl, _⟩ := h
    rfl
  · have nd := sc_members.nd
    have hS := sc_members
    have hKM : KMark K := ⟨⟩
    refine' mk_body ?body ?rd
    case body =>
      show PSs _ [_] _
      wtm_at "fo ss"
    case rd =>
     unfold spMembers at h
     obtain ⟨v, rfl, hv, q⟩ := h
     wtm_at "fo r"
     rw [bitLen_eq]
     have hb := bitLen_le hv
     refine ⟨1, (bitLen v : Int), rfl, ⟨by decide, by decide, by omega, by omega⟩, fun D nD => ?_⟩
     have hN : ((bitLen v : Int) - 1).toNat = bitLen v - 1 := by omega
     refine lc_range (fun i H1 => i ≤ bitLen v - 1 ∧ H1 = upd H D (.lst ((((List.range i).map fun (i : Nat) => (i : Int) + 1).filter fun x => v.testBit x.toNat).map V.int))) ⟨Nat.zero_le _, rfl⟩ ?_ ?_
     · rintro i H1 hi ⟨hi2, rfl⟩
       rw [hN] at hi
       refine ⟨rfl, ?_⟩
       wtm_at "fo r"
       rw [show (1 + (i : Int)).toNat = i + 1 by omega, bit_test]
       have hlen : ((((List.range i).map fun (i : Nat) => (i : Int) + 1).filter fun x => v.testBit x.toNat).map V.int).length ≤ i := by
         rw [List.length_map]
         exact Nat.le_trans (List.length_filter_le ..) (by simp)
       have hr1 : ((List.range (i + 1)).map fun (i : Nat) => (i : Int) + 1).filter (fun x => v.testBit x.toNat) = ((List.range i).map fun (i : Nat) => (i : Int) + 1).filter (fun x => v.testBit x.toNat) ++ (if v.testBit (i + 1) then [(i : Int) + 1] else []) := by
         rw [List.range_succ, List.map_append, List.filter_append]
         congr 1
         show List.filter _ [(i : Int) + 1] = _
         rw [List.filter_cons, show ((i : Int) + 1).toNat = i + 1 by omega]
         rfl
       rw [hr1]
       cases hb1 : v.testBit (i + 1) with
       | true =>
         refine ifT rfl ⟨_, rfl, _, upd_same, Nat.lt_of_le_of_lt (m := 20) (by omega) (by decide), by omega, ?_⟩
         rw [upd_upd, if_pos rfl, List.map_append, show (1 + (i : Int)) = (i : Int) + 1 by omega]
         rfl
       | false =>
         refine ifF rfl ⟨by omega, ?_⟩
         rw [if_neg (by decide), List.append_nil]
     · rintro H1 ⟨_, rfl⟩
       rw [hN]
       exact q D _ (same_upd (Same.refl _) nD) nD upd_same
end
/-! piece DN -/
section
theorem take_apart {es : List Edge} (h : es.Pairwise Apart) {i : Nat} (hi : i < es.length) : ∀ e ∈ es.take i, Apart e es[i] := by
  intro e he
  obtain ⟨j, hj⟩ := List.getElem?_of_mem he
  rw [List.getElem?_take] at hj
  split at hj
  · rename_i hji
    have hjl : j < es.length := by omega
    rw [List.getElem?_eq_getElem hjl] at hj
    cases hj
    exact List.pairwise_iff_getElem.mp h j i hjl hi hji
  · cases hj
theorem at_nb {t : List Nat} {p u : Nat} (h : t[p]? = some u) : atI (t.map fun (v : Nat) => V.int v) (p : Int) = some (.int u) :=
  at_of (j := p) rfl (by rw [List.getElem?_map, h]; rfl)
theorem get_nb {t : List Nat} {p u : Nat} (h : t[p]? = some u) : (t.map fun (v : Nat) => V.int v)[p]? = some (.int u) := by
  rw [List.getElem?_map, h]
  rfl
theorem get_nb2 {t : List Nat} {p q u : Nat} {x : V} (hq : q ≠ p) (h : t[p]? = some u) : ((t.map fun (v : Nat) => V.int v).set q x)[p]? = some (.int u) := by
  rw [List.getElem?_set_ne hq, get_nb h]
theorem at_pw {n p : Nat} (h : p ≤ n) : atI ((List.range (n + 1)).map fun (k : Nat) => V.int ((2 ^ k : Nat) : Int)) (p : Int) = some (.int ((2 ^ p : Nat) : Int)) :=
  at_of (j := p) rfl (by rw [List.getElem?_map, List.getElem?_range (by omega)]; rfl)
theorem ix_n {n j : Nat} (h : j < n) : ixN n (j : Int) = some j := by
  unfold ixN
  rw [if_pos (Int.natCast_nonneg j), if_pos (by omega)]
  rfl
theorem set_addB {t : List Nat} {a b u w : Nat} (hu : t[a]? = some u) (hw : t[b]? = some w) (hne : a ≠ b) :
    (((t.map fun (v : Nat) => V.int v).set a (.int (Builtin.bitOr u (2 ^ b : Nat)))).set b (.int (Builtin.bitOr w (2 ^ a : Nat)))) = (addB t ((a : Int), (b : Int))).map fun (v : Nat) => V.int v := by
  rw [bOr, bOr]
  have ha := (List.getElem?_eq_some_iff.mp hu).1
  have hb := (List.getElem?_eq_some_iff.mp hw).1
  apply List.ext_getElem?
  intro i
  unfold addB
  rw [List.getElem?_map, List.getElem?_modify, List.getElem?_modify, List.getElem?_set, List.getElem?_set, List.getElem?_map]
  simp only [List.length_set, List.length_map, Int.toNat_natCast]
  by_cases h1 : b = i
  · subst h1
    simp [hb, hne, (List.getElem?_eq_some_iff.mp hw).2]
  · by_cases h2 : a = i
    · subst h2
      simp [ha, h1, (List.getElem?_eq_some_iff.mp hu).2]
    · simp [h1, h2]
variable {P : Program} {w : World} {K : PySem.W.Frag} {mg : Str → Option Value} {base : Heap}
/-! ### read_net, where all is right -/
def nLst (t : List Nat) : HO := .lst (t.map fun (v : Nat) => V.int v)
end
/-! piece D5 -/
section
@[irreducible] def spGrown : Sp := fun vs H Q _ => ∃ (d q : Addr) (k st : Int) (n : Nat) (es : List Edge), vs = [.ref d, .int n, .ref q, .int st] ∧ Dr H d k ∧ k ≤ 1000000 ∧ n ≤ 12 ∧ 2 ≤ st ∧ st ≤ n + 1 ∧
  Pairs H q es ∧ Simp (st - 1) es ∧ es.length ≤ 10 ∧
  ∀ p H' k' fs, Simp n fs → Grw es (st - 1) n fs → fs.length ≤ 200 → SameBut d H H' → H p = none → Pairs H' p fs → Dr H' d k' → k' ≤ k + 500 → Q (.ref p) H'
theorem call_grown {d q : Addr} {k st : Int} {n : Nat} {es : List Edge} {H : Hp} {Q : VK} {E : XK} (hd : Dr H d k) (hk : k ≤ 1000000) (hn : n ≤ 12) (h2 : 2 ≤ st) (hs : st ≤ n + 1) (hp : Pairs H q es) (hS : Simp (st - 1) es) (hl : es.length ≤ 10)
    (fin : ∀ p H' k' fs, Simp n fs → Grw es (st - 1) n fs → fs.length ≤ 200 → SameBut d H H' → H p = none → Pairs H' p fs → Dr H' d k' → k' ≤ k + 500 → Q (.ref p) H') : spGrown [.ref d, .int n, .ref q, .int st] H Q E := by
  unfold spGrown
  exact ⟨d, q, k, st, n, es, rfl, hd, hk, hn, h2, hs, hp, hS, hl, fin⟩
variable {P : Program} {w : World} {K : PySem.W.Frag} {mg : Str → Option Value} {base : Heap}
set_option maxHeartbeats 8000000 in
theorem ok_grown {f : Addr} {fd : FuncData} (F : Fun K "_law_grown" "_law_grown" s_law_grown f fd) (mr : mg "range" = none) (ml : mg "list" = none) (mi : mg "int" = none)
    (C : Cal P w K mg base "_law_next" 1 ["_law_draws_here"] spNext) :
    FnOk P w K mg base CX0 2 f fd ["_law_draws_here", "_law_size", "_law_sides", "_law_start"] spGrown := by
  refine F.ok sc_law_grown (fun vs H Q E h => ?_) (fun cdv A outer s H vs Q E hr h => ?_)
  · unfold spGrown at h
    obtain ⟨d, q, k, st, n, es, rfl, _⟩ := h
    rfl
  · have nd := sc_law_grown.nd
    have hS := sc_law_grown
    have hKM : KMark K := ⟨⟩
    refine' mk_body ?body ?rd
    case body =>
      show PSs _ [_, _, _] _
      wtm_at "fo ss"
    case rd =>
     unfold spGrown at h
     obtain ⟨d, q, k, st, n, es, rfl, hd, hk, hn, h2, hst, hq, hSi, hl, fin⟩ := h
     wtm_at "fo r"
     obtain ⟨qs, hq0⟩ := PsAt.of hq
     refine ⟨⟨_, SqL.of hq0.hD⟩, fun D nD => ?_⟩
     refine lc_list (K := K) (xs := qs.map V.ref) (fun i H1 => Same H H1 ∧ ∃ rs, PsAt H1 D rs (es.take i)) ?_ ?_ ?_ ?_
     · exact ⟨same_upd (Same.refl H) nD, [], PsAt.nil upd_same⟩
     · rintro i H1 _ ⟨sm, _⟩
       exact SqL.of (sm _ _ hq0.hD)
     · rintro i x H1 hx ⟨sm, rs, hp⟩
       obtain ⟨r, hr, rfl⟩ := ref_at hx
       have hi : i < es.length := by rw [← hq0.len]; exact (List.getElem?_eq_some_iff.mp hr).1
       have hes : es[i]? = some es[i] := List.getElem?_eq_getElem hi
       have hre := sm _ _ (hq0.at_ i r _ hr hes)
       refine ⟨rfl, ?_⟩
       wtm_at "fo r"
       intro l nl
       refine ⟨rs.map V.ref, ?_, ?_, ?_⟩
       · rw [upd_ne (ne_of_none hp.hD nl)]
         exact hp.hD
       · rw [List.length_map, hp.len]
         exact Nat.lt_of_le_of_lt (m := 100) (Nat.le_trans (List.length_take_le ..) (by omega)) (by decide)
       · refine ⟨same_upd (same_upd sm (sm.free nl)) nD, rs ++ [l], ?_⟩
         rw [List.take_add_one, hes]
         exact hp.push nl es[i]
     rintro H1 ⟨sm, rs, hp⟩
     rw [List.length_map, hq0.len, List.take_length] at hp
     have nDd : D ≠ d := by
       obtain ⟨a, b, e, _⟩ := hd
       exact (ne_of_none e nD).symm
     have sb1 : SameBut d H H1 := fun b o _ e => sm b o e
     have hd1 : Dr H1 d k := by
       obtain ⟨a, b, e, h0⟩ := hd
       exact ⟨a, b, sm _ _ e, h0⟩
     wtm_at "fo r"
     have hN : ((n : Int) + 1 - st).toNat ≤ 11 := by omega
     refine for_range (fun i σ H2 => ∃ t rs es' k' y6 y7 y8, σ = [some (.ref d), some (.int n), some (.ref q), some (.int st), some (.ref t), none, y6, y7, y8, none, none, none] ∧
       PsAt H2 t rs es' ∧ Simp (st - 1 + i) es' ∧ Grw es (st - 1) (st - 1 + i) es' ∧ es'.length ≤ 10 + 13 * i ∧ SameBut d H H2 ∧ H t = none ∧ Dr H2 d k' ∧ k' ≤ k + 20 * i ∧ 0 ≤ k') ?_ ?_ ?_
     · refine ⟨D, rs, es, k, none, none, none, rfl, hp, ?_, by simpa using Grw.base (es := es) (st - 1), by omega, sb1, nD, hd1, by omega, ?_⟩
       · simpa using hSi
       · exact hd1.elim fun a ⟨b, _, h0⟩ => h0
     · rintro i σ H2 hi ⟨t, rs2, es2, k2, y6, y7, y8, rfl, hp2, hS2, hG2, hl2, sb2, nt, hd2, hk2, hk0⟩
       wtm_at "fo r"
       refine call_next hd2 (by omega) (fun n1 H3 hn1 sb3 hd3 => ?_)
       have hp3 := hp2.but sb3 hd2
       have ht3 := hp3.hD
       wtm_at "fo r"
       have gg1 := Int.emod_nonneg n1 (show st + (i : Int) - 1 ≠ 0 by omega)
       have gg2 := Int.emod_lt_of_pos n1 (show (0 : Int) < st + (i : Int) - 1 by omega)
       let g : Int := 1 + n1 % (st + (i : Int) - 1)
       have g1 : 1 ≤ g := by
         show 1 ≤ 1 + n1 % (st + (i : Int) - 1)
         omega
       have g2 : g ≤ st + i - 1 := by
         show 1 + n1 % (st + (i : Int) - 1) ≤ st + i - 1
         omega
       refine ⟨⟨_, SqL.of ht3⟩, fun D1 nD1 => ?_⟩
       refine lc_list (K := K) (xs := rs2.map V.ref) (fun i2 H4 => Same H3 H4 ∧ H4 D1 = some (.lst ((mates g (es2.take i2)).map V.int))) ?_ ?_ ?_ ?_
       · exact ⟨same_upd (Same.refl _) nD1, upd_same⟩
       · rintro i2 H4 _ ⟨sm4, _⟩
         exact SqL.of (sm4 _ _ ht3)
       · rintro i2 x H4 hx ⟨sm4, h4⟩
         obtain ⟨r, hr, rfl⟩ := ref_at hx
         have hi2 : i2 < es2.length := by rw [← hp3.len]; exact (List.getElem?_eq_some_iff.mp hr).1
         have hes : es2[i2]? = some es2[i2] := List.getElem?_eq_getElem hi2
         have hre := sm4 _ _ (hp3.at_ i2 r _ hr hes)
         have htk : mates g (es2.take (i2 + 1)) = mates g (es2.take i2) ++ (if es2[i2].1 = g ∨ es2[i2].2 = g then [es2[i2].1 + es2[i2].2 - g] else []) := by
           rw [List.take_add_one, hes]
           exact mates_snoc g _ _
         have hml : (mates g (es2.take i2)).length ≤ 200 := Nat.le_trans (mates_length ..) (Nat.le_trans (List.length_take_le ..) (by omega))
         rw [htk]
         generalize mates g (es2.take i2) = ms0 at *
         generalize es2[i2] = e at *
         obtain ⟨ea, eb⟩ := e
         simp only at hre
         refine Or.inr ⟨r, [.int ea, .int eb], rfl, SqL.of hre, rfl, .int ea, [.int eb], rfl, .int eb, [], rfl, rfl, rfl, ?_⟩
         wtm_at "fo r"
         rename_i p np
         refine ⟨rfl, rfl, _, rfl, ?_⟩
         have h4' : (upd H4 p (HO.lst [.int ea, .int eb])) D1 = some (.lst (ms0.map V.int)) := by
           rw [upd_ne (ne_of_none h4 np)]
           exact h4
         have sm5 : Same H3 (upd H4 p (HO.lst [.int ea, .int eb])) := same_upd sm4 (sm4.free np)
         by_cases hgm : ea = g ∨ eb = g
         · refine ifT (by show inV (.int g) [.int ea, .int eb] = true; rw [inV2]; exact decide_eq_true hgm) ?_
           wtm_at "fo r"
           refine ⟨ms0.map V.int, h4', ?_, same_upd sm5 nD1, ?_⟩
           · rw [List.length_map]
             exact Nat.lt_of_le_of_lt hml (by decide)
           · rw [upd_same, if_pos hgm, List.map_append]
             rfl
         · refine ifF (by show inV (.int g) [.int ea, .int eb] = false; rw [inV2]; exact decide_eq_false hgm) ?_
           refine ⟨sm5, ?_⟩
           rw [if_neg hgm, List.append_nil]
           exact h4'
       rintro H4 ⟨sm4, h4⟩
       rw [List.length_map, hp3.len, List.take_length] at h4
       have hnm := mates_len (g := g) (s := st + i) (by rw [show st + (i : Int) - 1 = st - 1 + i by omega]; exact hS2) (by omega) (List.Sublist.refl _)
       have hgrow : ∀ fs : List Int, fs.Sublist (mates g es2) → Simp (st + i) (es2 ++ (g, st + i) :: fs.map fun m => (m, st + i)) := fun fs hf =>
         simp_grow (by rw [show st + (i : Int) - 1 = st - 1 + i by omega]; exact hS2) g1 g2 hf
       have hgg : ∀ fs : List Int, fs.Sublist (mates g es2) → Grw es (st - 1) (st + i) (es2 ++ (g, st + i) :: fs.map fun m => (m, st + i)) := fun fs hf => by
         have := Grw.more hG2 g1 (by omega) hf
         rw [show st - 1 + (i : Int) + 1 = st + i by omega] at this
         exact this
       generalize mates g es2 = ms at *
       have hp4 := hp3.same sm4
       have ht4 := hp4.hD
       wtm_at "fo r"
       rename_i p1 np1 p2 np2
       have hne12 : p1 ≠ p2 := ne_of_none upd_same np2
       have np2' : H4 p2 = none := by rw [upd_ne hne12.symm] at np2; exact np2
       have hp5 : PsAt (upd (upd H4 p1 (.lst [.int g, .int (st + i)])) p2 (.lst [.ref p1])) t rs2 es2 := hp4.same (same_upd (same_upd (Same.refl _) np1) np2')
       have one5 : PsAt (upd (upd H4 p1 (.lst [.int g, .int (st + i)])) p2 (.lst [.ref p1])) p2 [p1] [(g, st + i)] := PsAt.one upd_same (by rw [upd_ne hne12]; exact upd_same)
       have hlen2 : rs2.length ≤ 200 := by rw [hp2.len]; omega
       refine Or.inr ⟨t, p2, rs2.map V.ref, [V.ref p1], rfl, rfl, hp5.hD, upd_same, ?_, fun c1 nc1 => ?_⟩
       · rw [List.length_map]
         exact Nat.le_trans (m := 1000) (show rs2.length + 1 ≤ 1000 by omega) (by decide)
       have hp6 : PsAt (upd (upd (upd H4 p1 (.lst [.int g, .int (st + i)])) p2 (.lst [.ref p1])) c1 (.lst (rs2.map V.ref ++ [V.ref p1]))) c1 (rs2 ++ [p1]) (es2 ++ [(g, st + i)]) := hp5.cat one5 nc1
       have sm5 : Same H4 (upd (upd H4 p1 (.lst [.int g, .int (st + i)])) p2 (.lst [.ref p1])) := same_upd (same_upd (Same.refl _) np1) np2'
       have sm6 : Same H4 (upd (upd (upd H4 p1 (.lst [.int g, .int (st + i)])) p2 (.lst [.ref p1])) c1 (.lst (rs2.map V.ref ++ [V.ref p1]))) := same_upd sm5 (sm5.free nc1)
       have h6D := sm6 _ _ h4
       have hd6 := (hd3.same sm4).same sm6
       have sb6 : SameBut d H (upd (upd (upd H4 p1 (.lst [.int g, .int (st + i)])) p2 (.lst [.ref p1])) c1 (.lst (rs2.map V.ref ++ [V.ref p1]))) := ((sb2.trans sb3).trans (Same.but d sm4)).trans (Same.but d sm6)
       refine ⟨_, rfl, _, rfl, ⟨_, SqL.of h6D⟩, fun D2 nD2 => ?_⟩
       refine lc_list (K := K) (xs := ms.map V.int) (fun i3 H7 => ∃ (fs : List Int) (rs3 : List Addr) (k7 : Int), fs.Sublist (ms.take i3) ∧ PsAt H7 D2 rs3 (fs.map fun m => (m, st + i)) ∧
         SameBut d (upd (upd (upd H4 p1 (.lst [.int g, .int (st + i)])) p2 (.lst [.ref p1])) c1 (.lst (rs2.map V.ref ++ [V.ref p1]))) H7 ∧ Dr H7 d k7 ∧ k7 ≤ k2 + 1 + i3 ∧ 0 ≤ k7) ?_ ?_ ?_ ?_
       · exact ⟨[], [], k2 + 1, List.Sublist.refl _, PsAt.nil upd_same, SameBut.new (SameBut.refl d _) nD2, hd6.same (same_upd (Same.refl _) nD2), by omega, by omega⟩
       · rintro i3 H7 _ ⟨fs, rs3, k7, hsub, hp7, sb7, hd7, hk7, h07⟩
         exact SqL.of (sb7 _ _ (hd6.ne_ints h6D) h6D)
       · rintro i3 x H7 hx ⟨fs, rs3, k7, hsub, hp7, sb7, hd7, hk7, h07⟩
         obtain ⟨m, hm, rfl⟩ := int_at hx
         have hi3 : i3 < ms.length := (List.getElem?_eq_some_iff.mp hm).1
         refine ⟨rfl, ?_⟩
         wtm_at "fo r"
         refine call_next hd7 (by omega) (fun n2 H8 hn2 sb8 hd8 => ?_)
         wtm_at "fo r"
         have hp8 := hp7.but sb8 hd7
         have nD2d : D2 ≠ d := hd8.ne_refs hp8.hD
         have hfl : fs.length ≤ 12 := Nat.le_trans hsub.length_le (Nat.le_trans (List.take_sublist i3 ms).length_le hnm)
         refine ite2 (fun hb => ?_) (fun hb => ?_)
         · wtm_at "fo r"
           rename_i r nr
           refine ⟨rs3.map V.ref, ?_, ?_, fs ++ [m], rs3 ++ [r], k7 + 1, ?_, ?_, ?_, ?_, by omega, by omega⟩
           · rw [upd_ne (ne_of_none hp8.hD nr)]
             exact hp8.hD
           · rw [List.length_map, hp8.len, List.length_map]
             exact Nat.lt_of_le_of_lt hfl (by decide)
           · rw [List.take_add_one, hm]
             exact hsub.append (List.Sublist.refl _)
           · rw [List.map_append]
             exact hp8.push nr (m, st + i)
           · have nr0 := (sb7.trans sb8).none hd8 nr
             exact ((sb7.trans sb8).new nr0).new nD2
           · have hrd : r ≠ d := by
               obtain ⟨a, b, e, _⟩ := hd8
               exact (ne_of_none e nr).symm
             obtain ⟨a, b, e, h0⟩ := hd8
             exact ⟨a, b, by rw [upd_ne nD2d.symm, upd_ne hrd.symm]; exact e, h0⟩
         · refine ⟨fs, rs3, k7 + 1, ?_, hp8, sb7.trans sb8, hd8, by omega, by omega⟩
           rw [List.take_add_one]
           exact hsub.trans (List.sublist_append_left ..)
       rintro H7 ⟨fs, rs3, k7, hsub, hp7, sb7, hd7, hk7, h07⟩
       rw [List.length_map, List.take_length] at hsub
       rw [List.length_map] at hk7
       have hp6' := hp6.but sb7 hd6
       have hfl : fs.length ≤ 12 := Nat.le_trans hsub.length_le hnm
       refine Or.inr ⟨c1, D2, (rs2 ++ [p1]).map V.ref, rs3.map V.ref, rfl, rfl, hp6'.hD, hp7.hD, ?_, fun c2 nc2 => ?_⟩
       · rw [List.length_map, List.length_map, hp7.len, List.length_map, List.length_append]
         exact Nat.le_trans (m := 1000) (show rs2.length + 1 + fs.length ≤ 1000 by omega) (by decide)
       have hp9 := hp6'.cat hp7 nc2
       have nc2' : H c2 = none := (sb6.trans sb7).none hd7 nc2
       refine ⟨c2, _, _, k7, _, _, _, rfl, hp9, ?_, ?_, ?_, ?_, nc2', hd7.same (same_upd (Same.refl _) nc2), by omega, by omega⟩
       · have := hgrow fs hsub
         rw [List.append_assoc]
         rw [show st - 1 + ((i + 1 : Nat) : Int) = st + i by omega]
         exact this
       · have := hgg fs hsub
         rw [List.append_assoc]
         rw [show st - 1 + ((i + 1 : Nat) : Int) = st + i by omega]
         exact this
       · rw [List.length_append, List.length_append, List.length_map]
         show es2.length + 1 + fs.length ≤ _
         omega
       · exact (sb6.trans sb7).new nc2'
     · rintro σ H2 ⟨t, rs2, es2, k2, y6, y7, y8, rfl, hp2, hS2, hG2, hl2, sb2, nt, hd2, hk2, hk0⟩
       wtm_at "fo r"
       have e : st - 1 + (((n : Int) + 1 - st).toNat : Int) = n := by omega
       refine fin t H2 k2 es2 ?_ ?_ (by omega) sb2 nt hp2.pairs hd2 (by omega)
       · rw [e] at hS2
         exact hS2
       · rw [e] at hG2
         exact hG2
end
/-! piece D6 -/
section
def ringM (f : Nat) : List Edge := (List.range f).map fun (i : Nat) => ((i : Int) + 1, ((i : Int) + 1) % (f : Int) + 1)
theorem ring_simp : ∀ f : Nat, 3 ≤ f → f ≤ 7 → Simp f (ringM f) := by
  intro f h1 h2
  have h : f = 3 ∨ f = 4 ∨ f = 5 ∨ f = 6 ∨ f = 7 := by omega
  rcases h with rfl | rfl | rfl | rfl | rfl <;> exact ⟨by decide, by unfold Apart; decide⟩
@[irreducible] def spWeb : Sp := fun vs H Q _ => ∃ (d : Addr) (k kd : Int) (n : Nat), vs = [.ref d, .int n, .int kd] ∧ Dr H d k ∧ k ≤ 900000 ∧ 1 ≤ n ∧ n ≤ 12 ∧ 0 ≤ kd ∧ kd ≤ 2 ∧
  ∀ p H' k' fs, Simp n fs → (kd = 1 → Shrinks n fs) → fs.length ≤ 200 → SameBut d H H' → H p = none → Pairs H' p fs → Dr H' d k' → k' ≤ k + 2000 → Q (.ref p) H'
theorem call_web {d : Addr} {k kd : Int} {n : Nat} {H : Hp} {Q : VK} {E : XK} (hd : Dr H d k) (hk : k ≤ 900000) (hn : 1 ≤ n) (hn2 : n ≤ 12) (h0 : 0 ≤ kd) (h2 : kd ≤ 2)
    (fin : ∀ p H' k' fs, Simp n fs → (kd = 1 → Shrinks n fs) → fs.length ≤ 200 → SameBut d H H' → H p = none → Pairs H' p fs → Dr H' d k' → k' ≤ k + 2000 → Q (.ref p) H') : spWeb [.ref d, .int n, .int kd] H Q E := by
  unfold spWeb
  exact ⟨d, k, kd, n, rfl, hd, hk, hn, hn2, h0, h2, fin⟩
variable {P : Program} {w : World} {K : PySem.W.Frag} {mg : Str → Option Value} {base : Heap}
set_option maxHeartbeats 8000000 in
theorem ok_web {f : Addr} {fd : FuncData} (F : Fun K "_law_web" "_law_web" s_law_web f fd) (mr : mg "range" = none) (ml : mg "list" = none) (mi : mg "int" = none) (mm : mg "min" = none)
    (C1 : Cal P w K mg base "_law_next" 1 ["_law_draws_here"] spNext) (C2 : Cal P w K mg base "_law_shuffled" 2 ["_law_draws_here", "_law_things"] spShuf)
    (C3 : Cal P w K mg base "_law_grown" 2 ["_law_draws_here", "_law_size", "_law_sides", "_law_start"] spGrown) :
    FnOk P w K mg base CX0 3 f fd ["_law_draws_here", "_law_size", "_law_kind"] spWeb := by
  refine F.ok sc_law_web (fun vs H Q E h => ?_) (fun cdv A outer s H vs Q E hr h => ?_)
  · unfold spWeb at h
    obtain ⟨d, k, kd, n, rfl, _⟩ := h
    rfl
  · have nd := sc_law_web.nd
    have hS := sc_law_web
    have hKM : KMark K := ⟨⟩
    refine' mk_body ?body ?rd
    case body =>
      show PSs _ [_, _, _, _, _, _] _
      apply C8.pss_cut
      · wtm_at "fo s"
      apply C8.pss_cut
      · wtm_at "fo s"
      apply C8.pss_cut
      · wtm_at "fo s"
      wtm_at "fo ss"
    case rd =>
     unfold spWeb at h
     obtain ⟨d, k, kd, n, rfl, hd, hk, hn1, hn, hk0, hk2, fin⟩ := h
     have hk' : 0 ≤ k := hd.elim fun a ⟨b, _, h0⟩ => h0
     let Done : Sl → Hp → Prop := fun σ H1 => ∃ t y3 y5 y6 y7 y8 y9 es k1, σ = [some (.ref d), some (.int n), some (.int kd), y3, some (.ref t), y5, y6, y7, y8, y9, none, none] ∧ Pairs H1 t es ∧ Simp n es ∧ (kd = 1 → Shrinks n es) ∧
       es.length ≤ 200 ∧ SameBut d H H1 ∧ H t = none ∧ Dr H1 d k1 ∧ k1 ≤ k + 600 ∧ 0 ≤ k1
     let Undone : Sl → Hp → Prop := fun σ H1 => σ = [some (.ref d), some (.int n), some (.int kd), none, none, none, none, none, none, none, none, none] ∧ H1 = H
     refine ⟨fun σ H1 => (kd = 0 ∧ Done σ H1) ∨ (kd ≠ 0 ∧ Undone σ H1), ?_, ?_⟩
     · wtm_at "fo r"
       by_cases hkd : kd = 0
       · refine ifT (by rw [hkd]; rfl) ?_
         wtm_at "fo r"
         refine call_next hd (by omega) (fun n1 H1 hn1 sb1 hd1 => ?_)
         wtm_at "fo r"
         rename_i t0 nt0
         have gg1 := Int.emod_nonneg n1 (show (3 : Int) ≠ 0 by decide)
         have nt00 : H t0 = none := sb1.none hd1 nt0
         have hN : ((n : Int) + 1 - 1).toNat = n := by omega
         refine for_range (fun i σ H2 => ∃ t rs es' k' y5, σ = [some (.ref d), some (.int n), some (.int kd), some (.int (2 + n1 % 3)), some (.ref t), y5, none, none, none, none, none, none] ∧
           PsAt H2 t rs es' ∧ Simp n es' ∧ (∀ e ∈ es', e.1 < 1 + (i : Int) ∧ e.1 < e.2) ∧ es'.length ≤ 12 * i ∧ SameBut d H H2 ∧ H t = none ∧ Dr H2 d k' ∧ k' ≤ k + 1 + 12 * i ∧ 0 ≤ k') ?_ ?_ ?_
         · exact ⟨t0, [], [], k + 1, none, rfl, PsAt.nil upd_same, simp_nil _, (fun e h => nomatch h), by simp, sb1.new nt00, nt00, hd1.same (same_upd (Same.refl _) nt0), by omega, by omega⟩
         · rintro i σ H2 hi ⟨t, rs2, es2, k2, y5, rfl, hp2, hS2, hlt, hl2, sb2, nt, hd2, hk2, hk02⟩
           rw [hN] at hi
           wtm_at "fo r"
           refine fun D nD => ?_
           have hNN : ((n : Int) + 1 - (1 + (i : Int) + 1)).toNat ≤ 12 := by omega
           have nDd : D ≠ d := by
             obtain ⟨a, b, e, _⟩ := hd2
             exact (ne_of_none e nD).symm
           refine lc_range (fun i3 H4 => ∃ (bs : List Int) (rs3 : List Addr) (k7 : Int), bs.Nodup ∧ (∀ b ∈ bs, 1 + (i : Int) < b ∧ b < 1 + (i : Int) + 1 + (i3 : Int) ∧ b ≤ n) ∧ bs.length ≤ i3 ∧
             PsAt H4 D rs3 (bs.map fun b => (1 + (i : Int), b)) ∧ SameBut d H2 H4 ∧ Dr H4 d k7 ∧ k7 ≤ k2 + i3 ∧ 0 ≤ k7) ?_ ?_ ?_
           · exact ⟨[], [], k2, List.nodup_nil, (fun b h => nomatch h), Nat.le_refl _, PsAt.nil upd_same, SameBut.new (SameBut.refl d _) nD, hd2.same (same_upd (Same.refl _) nD), by omega, hk02⟩
           · rintro i3 H4 hi3 ⟨bs, rs3, k7, hbn, hbr, hbl, hp4, sb4, hd4, hk7, h07⟩
             refine ⟨rfl, ?_⟩
             wtm_at "fo r"
             refine call_next hd4 (by omega) (fun n2 H8 hn2 sb8 hd8 => ?_)
             wtm_at "fo r"
             have hp8 := hp4.but sb8 hd4
             refine ite2 (fun hb => ?_) (fun hb => ?_)
             · wtm_at "fo r"
               rename_i r nr
               have nr0 := (sb4.trans sb8).none hd8 nr
               have hrd : r ≠ d := by
                 obtain ⟨a, b, e, _⟩ := hd8
                 exact (ne_of_none e nr).symm
               refine ⟨rs3.map V.ref, ?_, ?_, bs ++ [1 + (i : Int) + 1 + (i3 : Int)], rs3 ++ [r], k7 + 1, ?_, ?_, ?_, ?_, ?_, ?_, by omega, by omega⟩
               · rw [upd_ne (ne_of_none hp8.hD nr)]
                 exact hp8.hD
               · rw [List.length_map, hp8.len, List.length_map]
                 exact Nat.lt_of_le_of_lt (m := 100) (by omega) (by decide)
               · rw [List.nodup_append]
                 refine ⟨hbn, by simp, ?_⟩
                 intro a ha b hb2
                 simp at hb2
                 have := hbr a ha
                 omega
               · intro b hb2
                 rcases List.mem_append.mp hb2 with hb2 | hb2
                 · have := hbr b hb2
                   omega
                 · simp at hb2
                   omega
               · rw [List.length_append]
                 simp
                 omega
               · rw [List.map_append]
                 exact hp8.push nr (1 + (i : Int), 1 + (i : Int) + 1 + (i3 : Int))
               · exact ((sb4.trans sb8).new nr0).new nD
               · obtain ⟨a, b, e, h0⟩ := hd8
                 exact ⟨a, b, by rw [upd_ne nDd.symm, upd_ne hrd.symm]; exact e, h0⟩
             · exact ⟨bs, rs3, k7 + 1, hbn, fun b hb2 => by have := hbr b hb2; omega, by omega, hp8, sb4.trans sb8, hd8, by omega, by omega⟩
           · rintro H4 ⟨bs, rs3, k7, hbn, hbr, hbl, hp4, sb4, hd4, hk7, h07⟩
             have hp5 := hp2.but sb4 hd2
             refine Or.inr ⟨t, D, rs2.map V.ref, rs3.map V.ref, rfl, rfl, hp5.hD, hp4.hD, ?_, fun c nc => ?_⟩
             · rw [List.length_map, List.length_map, hp2.len, hp4.len, List.length_map]
               exact Nat.le_trans (m := 1000) (by omega) (by decide)
             have hp6 := hp5.cat hp4 nc
             have nc0 : H c = none := (sb2.trans sb4).none hd4 nc
             refine ⟨c, _, _, k7, _, rfl, hp6, ?_, ?_, ?_, (sb2.trans sb4).new nc0, nc0, hd4.same (same_upd (Same.refl _) nc), by omega, by omega⟩
             · exact simp_rows hS2 hlt (by omega) (by omega) (fun b hb2 => by have := hbr b hb2; omega) hbn
             · intro e he
               rcases List.mem_append.mp he with he | he
               · have := hlt e he
                 omega
               · obtain ⟨b, hb2, rfl⟩ := List.mem_map.mp he
                 have := hbr b hb2
                 simp only
                 omega
             · rw [List.length_append, List.length_map]
               omega
         · rintro σ H2 ⟨t, rs2, es2, k2, y5, rfl, hp2, hS2, hlt, hl2, sb2, nt, hd2, hk2, hk02⟩
           rw [hN] at hl2 hk2
           exact Or.inl ⟨hkd, t, _, _, _, _, _, _, es2, k2, rfl, hp2.pairs, hS2, (fun e1 => absurd (e1.symm.trans hkd) (by decide)), by omega, sb2, nt, hd2, by omega, hk02⟩
       · refine ifF (by simp [hkd]) ?_
         exact Or.inr ⟨hkd, rfl, rfl⟩
     refine fun σ1 H1 m1 => ⟨fun σ H1 => (kd ≤ 1 ∧ Done σ H1) ∨ (kd = 2 ∧ Undone σ H1), ?_, fun σ2 H2 m2 => ⟨Done, ?_, fun σ3 H3 m3 => ?_⟩⟩
     · rcases m1 with ⟨hkd, dn⟩ | ⟨hkd, rfl, rfl⟩
       · obtain ⟨t, y3, y5, y6, y7, y8, y9, es, k1, rfl, rest⟩ := id dn
         wtm_at "fo r"
         refine ifF (by rw [hkd]; rfl) ?_
         exact Or.inl ⟨by omega, dn⟩
       · wtm_at "fo r"
         by_cases h1 : kd = 1
         · refine ifT (by rw [h1]; rfl) ?_
           wtm_at "fo r"
           rename_i p np
           refine call_grown (es := []) (hd.same (same_upd (Same.refl _) np)) (by omega) hn (by decide) (by omega) (PsAt.pairs (PsAt.nil upd_same)) (simp_nil _) (by simp) ?_
           intro q H4 k4 fs hS4 hG4 hl4 sb4 nq hp4 hd4 hk4
           have hqp : H1 q = none := (Same.but d (same_upd (Same.refl H1) np)).none (hd.same (same_upd (Same.refl _) np)) nq
           refine Or.inl ⟨by omega, q, _, _, _, _, _, _, fs, k4, rfl, hp4, hS4, (fun _ => (grw_shrinks hG4 (by decide)).2.2), hl4, (Same.but d (same_upd (Same.refl _) np)).trans sb4, hqp, hd4, by omega, ?_⟩
           exact hd4.elim fun a ⟨b, _, h0⟩ => h0
         · refine ifF (by simp [h1]) ?_
           exact Or.inr ⟨by omega, rfl, rfl⟩
     · rcases m2 with ⟨hkd, dn⟩ | ⟨hkd, rfl, rfl⟩
       · obtain ⟨t, y3, y5, y6, y7, y8, y9, es, k1, rfl, rest⟩ := id dn
         wtm_at "fo r"
         refine ifF (by simp; omega) ?_
         exact dn
       · wtm_at "fo r"
         refine ifT (by rw [hkd]; rfl) ?_
         wtm_at "fo r"
         refine call_next hd (by omega) (fun n1 H4 hn1 sb1 hd1 => ?_)
         wtm_at "fo r"
         have gg1 := Int.emod_nonneg n1 (show (4 : Int) ≠ 0 by decide)
         have gg2 := Int.emod_lt_of_pos n1 (show (0 : Int) < 4 by decide)
         let far : Int := if 4 + n1 % 4 < (n : Int) then 4 + n1 % 4 else n
         have f1 : 1 ≤ far := by
           show 1 ≤ (if 4 + n1 % 4 < (n : Int) then 4 + n1 % 4 else n)
           split <;> omega
         have f2 : far ≤ n := by
           show (if 4 + n1 % 4 < (n : Int) then 4 + n1 % 4 else (n : Int)) ≤ n
           split <;> omega
         have f3 : far ≤ 7 := by
           show (if 4 + n1 % 4 < (n : Int) then 4 + n1 % 4 else (n : Int)) ≤ 7
           split <;> omega
         refine ⟨_, _, rfl, ?_⟩
         wtm_at "fo r"
         have f0 : (0 : Int) < (if 4 + n1 % 4 < (n : Int) then 4 + n1 % 4 else n) := f1
         have hfN : ((far.toNat : Nat) : Int) = far := by omega
         have hk4 : 0 ≤ k + 1 := by omega
         refine ite2 (fun hc => ?_) (fun hc => ?_)
         · have hc2 : 2 < far := of_decide_eq_true hc
           refine ⟨_, rfl, Or.inl ⟨_, _, rfl, rfl, 1, far + 1, rfl, ⟨by omega, by omega, by omega, by omega⟩, fun D nD => ?_⟩⟩
           have hN : (far + 1 - 1).toNat = far.toNat := by omega
           refine lc_range (fun i H5 => Same H4 H5 ∧ ∃ rs, PsAt H5 D rs ((List.range i).map fun (i : Nat) => ((i : Int) + 1, ((i : Int) + 1) % ((far.toNat : Nat) : Int) + 1))) ?_ ?_ ?_
           · exact ⟨same_upd (Same.refl _) nD, [], PsAt.nil upd_same⟩
           · rintro i H5 hi ⟨sm, rs, hp⟩
             rw [hN] at hi
             refine ⟨rfl, ?_⟩
             wtm_at "fo r"
             rename_i r nr
             refine ⟨rs.map V.ref, ?_, ?_, same_upd (same_upd sm (sm.free nr)) nD, rs ++ [r], ?_⟩
             · rw [upd_ne (ne_of_none hp.hD nr)]
               exact hp.hD
             · rw [List.length_map, hp.len, List.length_map, List.length_range]
               exact Nat.lt_of_le_of_lt (m := 100) (by omega) (by decide)
             · refine (hp.push nr (1 + (i : Int), (1 + (i : Int)) % far + 1)).cong ?_
               rw [List.range_succ, List.map_append, hfN, Int.add_comm 1 (i : Int)]
               rfl
           · rintro H5 ⟨sm, rs, hp⟩
             rw [hN] at hp
             wtm_at "fo r"
             refine call_grown (st := far + 1) (es := ringM far.toNat) (hd1.same sm) (by omega) hn (by omega) (by omega) hp.pairs ?_ ?_ ?_
             · have := ring_simp far.toNat (by omega) (by omega)
               rw [hfN] at this
               rw [show far + 1 - 1 = far by omega]
               exact this
             · rw [ringM, List.length_map, List.length_range]
               omega
             · intro q H6 k6 fs hS6 _ hl6 sb6 nq hp6 hd6 hk6
               have nq0 : H2 q = none := (sb1.trans (Same.but d sm)).none (hd1.same sm) nq
               refine ⟨q, _, _, _, _, _, _, fs, k6, rfl, hp6, hS6, (fun e1 => absurd (e1.symm.trans hkd) (by decide)), hl6, (sb1.trans (Same.but d sm)).trans sb6, nq0, hd6, by omega, ?_⟩
               exact hd6.elim fun a ⟨b, _, h0⟩ => h0
         · wtm_at "fo r"
           rename_i p np
           refine call_grown (st := far + 1) (es := []) (hd1.same (same_upd (Same.refl _) np)) (by omega) hn (by omega) (by omega) (PsAt.pairs (PsAt.nil upd_same)) (simp_nil _) (by simp) ?_
           intro q H6 k6 fs hS6 _ hl6 sb6 nq hp6 hd6 hk6
           have nq0 : H2 q = none := (sb1.trans (Same.but d (same_upd (Same.refl _) np))).none (hd1.same (same_upd (Same.refl _) np)) nq
           refine ⟨q, _, _, _, _, _, _, fs, k6, rfl, hp6, hS6, (fun e1 => absurd (e1.symm.trans hkd) (by decide)), hl6, (sb1.trans (Same.but d (same_upd (Same.refl _) np))).trans sb6, nq0, hd6, by omega, ?_⟩
           exact hd6.elim fun a ⟨b, _, h0⟩ => h0
     · obtain ⟨t, y3, y5, y6, y7, y8, y9, es, k1, rfl, hp, hSi, hZ, hl, sb, nt, hd1, hk1, hk01⟩ := m3
       obtain ⟨rs, hp0⟩ := PsAt.of hp
       wtm_at "fo r"
       rename_i p np
       refine fun l nl => ?_
       have hpl : p ≠ l := ne_of_none upd_same nl
       have nl0 : H3 l = none := by rw [upd_ne hpl.symm] at nl; exact nl
       have sm3 : Same H3 (upd (upd H3 p (.lst [.int 0])) l (.lst (rgV 1 ((n : Int) + 1)))) := same_upd (same_upd (Same.refl _) np) nl0
       have hrg : rgV 1 ((n : Int) + 1) = ((List.range n).map fun (i : Nat) => (1 : Int) + i).map V.int := by
         unfold rgV
         rw [show ((n : Int) + 1 - 1).toNat = n by omega, List.map_map]
         rfl
       have hpv : (upd (upd H3 p (.lst [.int 0])) l (.lst (rgV 1 ((n : Int) + 1)))) p = some (.lst [.int 0]) := by rw [upd_ne hpl]; exact upd_same
       refine call_shuf (hd1.same sm3) (by omega) upd_same ?_ ?_ ?_
       · rw [rgV_length]
         omega
       · intro x hx
         rw [hrg] at hx
         obtain ⟨z, hz, rfl⟩ := List.mem_map.mp hx
         obtain ⟨i, hi, rfl⟩ := List.mem_map.mp hz
         have := List.mem_range.mp hi
         exact .inl ⟨_, rfl, by omega⟩
       intro p2 ys H5 k5 hperm sb5 np2 hp2 hd5 hk5
       obtain ⟨zs, hz, rfl⟩ := perm_lift V.int hperm _ hrg
       have hk05 : 0 ≤ k5 := hd5.elim fun a ⟨b, _, h0⟩ => h0
       have hzl : zs.length = n := by rw [hz.length_eq]; simp
       have hd3' := hd1.same sm3
       have hpd : p ≠ d := hd3'.ne_ints (xs := [0]) hpv
       have hp5v := sb5 p _ hpd hpv
       refine Or.inr ⟨p, p2, [.int 0], zs.map V.int, rfl, rfl, hp5v, hp2, ?_, fun c nc => ?_⟩
       · rw [List.length_map, hzl]
         exact Nat.le_trans (m := 100) (show 1 + n ≤ 100 by omega) (by decide)
       have hp5 := (hp0.same sm3).but sb5 hd3'
       have sm6 : Same H5 (upd H5 c (.lst ([V.int 0] ++ zs.map V.int))) := same_upd (Same.refl _) nc
       have hp6 := hp5.same sm6
       have hc6 : (upd H5 c (.lst ([V.int 0] ++ zs.map V.int))) c = some (.lst ([V.int 0] ++ zs.map V.int)) := upd_same
       have sbA : SameBut d H (upd H5 c (.lst ([V.int 0] ++ zs.map V.int))) := ((sb.trans (Same.but d sm3)).trans sb5).trans (Same.but d sm6)
       have hdA := hd5.same sm6
       refine ⟨_, rfl, _, rfl, ⟨_, SqL.of hp6.hD⟩, fun D nD => ?_⟩
       refine lc_list (K := K) (xs := rs.map V.ref) (fun i H7 => Same (upd H5 c (.lst ([V.int 0] ++ zs.map V.int))) H7 ∧ ∃ rs7, PsAt H7 D rs7 ((es.take i).map fun e => (nameOf zs e.1, nameOf zs e.2))) ?_ ?_ ?_ ?_
       · exact ⟨same_upd (Same.refl _) nD, [], PsAt.nil upd_same⟩
       · rintro i H7 _ ⟨sm7, _⟩
         exact SqL.of (sm7 _ _ hp6.hD)
       · rintro i x H7 hx ⟨sm7, rs7, hp7⟩
         obtain ⟨r, hr, rfl⟩ := ref_at hx
         have hi : i < es.length := by rw [← hp0.len]; exact (List.getElem?_eq_some_iff.mp hr).1
         have hes : es[i]? = some es[i] := List.getElem?_eq_getElem hi
         have hre := sm7 _ _ (hp6.at_ i r _ hr hes)
         have htk : (es.take (i + 1)).map (fun e => (nameOf zs e.1, nameOf zs e.2)) = (es.take i).map (fun e => (nameOf zs e.1, nameOf zs e.2)) ++ [(nameOf zs es[i].1, nameOf zs es[i].2)] := by
           rw [List.take_add_one, hes, List.map_append]
           rfl
         have hq := hSi.rng _ (List.getElem_mem hi)
         have hml : ((es.take i).map fun e => (nameOf zs e.1, nameOf zs e.2)).length ≤ 200 := by
           rw [List.length_map]
           exact Nat.le_trans (List.take_sublist i es).length_le hl
         rw [htk]
         generalize (es.take i).map (fun e => (nameOf zs e.1, nameOf zs e.2)) = es0 at *
         generalize es[i] = e at *
         obtain ⟨ea, eb⟩ := e
         simp only at hre hq
         have hc7 := sm7 _ _ hc6
         have ga := name_at hz hq.1 hq.2.1
         have gb := name_at hz hq.2.2.1 hq.2.2.2.1
         refine Or.inr ⟨r, [.int ea, .int eb], rfl, SqL.of hre, rfl, .int ea, [.int eb], rfl, .int eb, [], rfl, rfl, rfl, ?_⟩
         refine ⟨_, rfl, _, rfl, Or.inl ⟨c, _, ea, .int (nameOf zs ea), rfl, rfl, SqL.of hc7, at_of (j := (ea - 1).toNat + 1) (by omega) ?_, ?_⟩⟩
         · show (V.int 0 :: zs.map V.int)[(ea - 1).toNat + 1]? = _
           rw [List.getElem?_cons_succ, List.getElem?_map, ga.1]
           rfl
         refine ⟨_, rfl, _, rfl, Or.inl ⟨c, _, eb, .int (nameOf zs eb), rfl, rfl, SqL.of hc7, at_of (j := (eb - 1).toNat + 1) (by omega) ?_, ?_⟩⟩
         · show (V.int 0 :: zs.map V.int)[(eb - 1).toNat + 1]? = _
           rw [List.getElem?_cons_succ, List.getElem?_map, gb.1]
           rfl
         wtm_at "fo r"
         rename_i r2 nr2
         refine ⟨rs7.map V.ref, ?_, ?_, same_upd (same_upd sm7 (sm7.free nr2)) nD, rs7 ++ [r2], hp7.push nr2 (nameOf zs ea, nameOf zs eb)⟩
         · rw [upd_ne (ne_of_none hp7.hD nr2)]
           exact hp7.hD
         · rw [List.length_map, hp7.len]
           exact Nat.lt_of_le_of_lt hml (by decide)
       rintro H7 ⟨sm7, rs7, hp7⟩
       rw [List.length_map, hp0.len, List.take_length] at hp7
       have hS7 : Simp n (es.map fun e => (nameOf zs e.1, nameOf zs e.2)) := simp_map hSi (nameOf zs) (fun x h1 h2 => (name_at hz h1 h2).2) (fun x y h1 h2 h3 h4 e => name_inj hz h1 h2 h3 h4 e)
       have hZ7 : kd = 1 → Shrinks n (es.map fun e => (nameOf zs e.1, nameOf zs e.2)) := fun e1 => shrinks_ren (nameOf zs) (hZ e1) (fun x h1 h2 => (name_at hz h1 h2).2) (fun x y h1 h2 h3 h4 e => name_inj hz h1 h2 h3 h4 e)
         fun x y h1 h2 h3 h4 => mates_ren hSi (nameOf zs) (fun x y h1 h2 h3 h4 e => name_inj hz h1 h2 h3 h4 e) h1 h2 h3 h4
       have hl7 : (es.map fun e => (nameOf zs e.1, nameOf zs e.2)).length ≤ 200 := by rw [List.length_map]; exact hl
       generalize es.map (fun e => (nameOf zs e.1, nameOf zs e.2)) = es7 at *
       have hd7 := hdA.same sm7
       have sbB := sbA.trans (Same.but d sm7)
       refine ⟨_, rfl, _, rfl, _, rfl, ⟨_, SqL.of hp7.hD⟩, fun D2 nD2 => ?_⟩
       refine lc_list (K := K) (xs := rs7.map V.ref) (fun i H8 => ∃ (fs : List Edge) (rs8 : List Addr) (k8 : Int), Flips (es7.take i) fs ∧ PsAt H8 D2 rs8 fs ∧ SameBut d H7 H8 ∧ Dr H8 d k8 ∧ k8 ≤ k5 + i ∧ 0 ≤ k8) ?_ ?_ ?_ ?_
       · exact ⟨[], [], k5, trivial, PsAt.nil upd_same, SameBut.new (SameBut.refl d _) nD2, hd7.same (same_upd (Same.refl _) nD2), by omega, hk05⟩
       · rintro i H8 _ ⟨fs, rs8, k8, hf, hp8, sb8, hd8, hk8, h08⟩
         exact SqL.of (sb8 _ _ (hd7.ne_refs hp7.hD) hp7.hD)
       · rintro i x H8 hx ⟨fs, rs8, k8, hf, hp8, sb8, hd8, hk8, h08⟩
         obtain ⟨r, hr, rfl⟩ := ref_at hx
         have hi : i < es7.length := by rw [← hp7.len]; exact (List.getElem?_eq_some_iff.mp hr).1
         have hes : es7[i]? = some es7[i] := List.getElem?_eq_getElem hi
         have hre := hp7.at_ i r _ hr hes
         have hrd := hd7.ne_pair hre
         have hfl := flips_length hf
         have hfl2 : (es7.take i).length ≤ 200 := Nat.le_trans (List.take_sublist i es7).length_le hl7
         have htk : es7.take (i + 1) = es7.take i ++ [es7[i]] := by
           rw [List.take_add_one, hes]
           rfl
         rw [htk]
         generalize es7.take i = es0 at *
         generalize es7[i] = e at *
         obtain ⟨ea, eb⟩ := e
         simp only at hre
         refine ⟨rfl, ?_⟩
         wtm_at "fo r"
         rename_i q nq
         have hd8q := hd8.same (same_upd (o := HO.lst [V.int 1, V.int (-1)]) (Same.refl _) nq)
         refine call_next hd8q (by omega) (fun n2 H9 hn2 sb9 hd9 => ?_)
         have hqd : q ≠ d := by
           obtain ⟨a, b, e, _⟩ := hd8
           exact (ne_of_none e nq).symm
         have hq9 : H9 q = some (.lst [.int 1, .int (-1)]) := sb9 q _ hqd upd_same
         have sb79 : SameBut d H7 H9 := (sb8.trans (Same.but d (same_upd (Same.refl _) nq))).trans sb9
         have hre9 := sb79 r _ hrd hre
         have hp9 : PsAt H9 D2 rs8 fs := (hp8.same (same_upd (Same.refl _) nq)).but sb9 hd8q
         wtm_at "fo r"
         have m1' := Int.emod_nonneg n2 (show (2 : Int) ≠ 0 by decide)
         have m2' := Int.emod_lt_of_pos n2 (show (0 : Int) < 2 by decide)
         have fin2 : ∀ (e2 : Edge), (e2 = (ea, eb) ∨ e2 = (eb, ea)) → ∀ r2, H9 r2 = none → ∃ acc, (upd H9 r2 (.lst [.int e2.1, .int e2.2])) D2 = some (.lst acc) ∧ acc.length < sizeLine ∧
             ∃ (fs : List Edge) (rs8 : List Addr) (k8 : Int), Flips (es0 ++ [(ea, eb)]) fs ∧ PsAt (upd (upd H9 r2 (.lst [.int e2.1, .int e2.2])) D2 (.lst (acc ++ [V.ref r2]))) D2 rs8 fs ∧
               SameBut d H7 (upd (upd H9 r2 (.lst [.int e2.1, .int e2.2])) D2 (.lst (acc ++ [V.ref r2]))) ∧ Dr (upd (upd H9 r2 (.lst [.int e2.1, .int e2.2])) D2 (.lst (acc ++ [V.ref r2]))) d k8 ∧ k8 ≤ k5 + ((i + 1 : Nat) : Int) ∧ 0 ≤ k8 := by
           intro e2 he2 r2 nr2
           have hD2d : D2 ≠ d := hd9.ne_refs hp9.hD
           have hr2d : r2 ≠ d := by
             obtain ⟨a, b, e, _⟩ := hd9
             exact (ne_of_none e nr2).symm
           refine ⟨rs8.map V.ref, ?_, ?_, fs ++ [e2], rs8 ++ [r2], k8 + 1, flips_snoc hf he2, hp9.push nr2 e2, ?_, ?_, by omega, by omega⟩
           · rw [upd_ne (ne_of_none hp9.hD nr2)]
             exact hp9.hD
           · rw [List.length_map, hp9.len, hfl]
             exact Nat.lt_of_le_of_lt hfl2 (by decide)
           · exact (sb79.new (sb79.none hd9 nr2)).new nD2
           · obtain ⟨a, b, e, h0⟩ := hd9
             exact ⟨a, b, by rw [upd_ne hD2d.symm, upd_ne hr2d.symm]; exact e, h0⟩
         have hcase : n2 % 2 = 0 ∨ n2 % 2 = 1 := by omega
         rcases hcase with hm | hm
         · refine Or.inl ⟨q, _, _, .int 1, rfl, rfl, SqL.of hq9, ?_, ?_⟩
           · show atI _ (n2 % 2) = _
             rw [hm]
             rfl
           refine ⟨_, rfl, r, _, rfl, Or.inl rfl, SqL.of hre9, fun r2 nr2 => ?_⟩
           exact fin2 (ea, eb) (.inl rfl) r2 nr2
         · refine Or.inl ⟨q, _, _, .int (-1), rfl, rfl, SqL.of hq9, ?_, ?_⟩
           · show atI _ (n2 % 2) = _
             rw [hm]
             rfl
           refine ⟨_, rfl, r, _, rfl, Or.inr rfl, SqL.of hre9, fun r2 nr2 => ?_⟩
           exact fin2 (eb, ea) (.inr rfl) r2 nr2
       rintro H8 ⟨fs, rs8, k8, hf, hp8, sb8, hd8, hk8, h08⟩
       rw [List.length_map, hp7.len, List.take_length] at hf
       rw [List.length_map, hp7.len] at hk8
       have hS8 := simp_flips hS7 hf
       have hl8 := flips_length hf
       refine call_shuf hd8 (by omega) hp8.hD ?_ ?_ ?_
       · rw [List.length_map, hp8.len, hl8]
         exact hl7
       · intro x hx
         obtain ⟨r, hr, rfl⟩ := List.mem_map.mp hx
         obtain ⟨e, he, hre⟩ := hp8.mem hr
         have := hS8.rng e he
         exact .inr ⟨r, _, _, rfl, hre, by omega, by omega⟩
       intro p9 ys H9 k9 hperm sb9 np9 hp9 hd9 hk9
       obtain ⟨fs9, rs9, hq1, hq2⟩ := hp8.perm hperm hp9 (fun r e hr he => sb9 r _ (hd8.ne_pair he) he)
       have sbC := (sbB.trans sb8).trans sb9
       have np0 : H p9 = none := (sbB.trans sb8).none hd8 np9
       exact fin p9 H9 k9 fs9 (simp_perm hS8 hq1) (fun e1 => shrinks_same (hZ7 e1) fun x y => (mates_perm hq1 x y).trans (flips_mates hf x y)) (by rw [hq1.length_eq, hl8]; exact hl7) sbC np0 hq2.pairs hd9 (by omega)
end
/-! tactics TAC2 -/
local macro_rules | `(tactic| wtm_at "fo v") => `(tactic| first
  | ((with_reducible show PE _ (.Name (Str.ofString "int") _) _); exact pe_bltn (v := .ty "int") (by rfl) (by assumption) (by decide +kernel) rfl)
  | ((with_reducible show PE _ (.Name (Str.ofString "list") _) _); exact pe_bltn (v := .ty "list") (by rfl) (by assumption) (by decide +kernel) rfl)
  | ((with_reducible show PE _ (.Name (Str.ofString "MOST_PLACES") _) _); exact pe_glob (v := .int 12) (by rfl) (by assumption) ⟨_, rfl⟩)
  | fail "no")
local macro_rules | `(tactic| wtm_at "fo e") => `(tactic| first
  | ((with_reducible show PE _ (.BoolOp .And [_] _) _); apply pe_one; wtm_at "fo e")
  | ((with_reducible show PE _ (.BoolOp .And _ _) _); apply pe_and; (· wtm_at "fo e"); (· wtm_at "fo e"))
  | ((with_reducible show PE _ (.Compare _ [.IsNot] [.Constant (.bool true) _ _] _) _); refine' pe_cmpR op_notT ?ka ?kb (nomark _); (case ka => wtm_at "fo e"); (case kb => wtm_at "fo e"))
  | ((with_reducible show PE _ (.Compare _ [.LtE, .LtE] _ _) _); refine' pe_chain op_le op_le ?ka ?kb ?kc; (case ka => wtm_at "fo e"); (case kb => wtm_at "fo e"); (case kc => wtm_at "fo e"))
  | ((with_reducible show PE _ (.Call (.Name (Str.ofString "isinstance") _) _ _ _) _); refine' pe_callB (call_isiK' (by assumption) (by exact rfl)) (by rfl) (by assumption) (by decide +kernel) ?ka; (case ka => wtm_at "fo a"))
  | ((with_reducible show PE _ (.Call (.Attribute _ (Str.ofString "bit_length") _) [] [] _) _); refine' pe_bits ?ka; (case ka => wtm_at "fo e"))
  | fail "no")
local macro_rules | `(tactic| wtm_at "fo t") => `(tactic| first
  | ((with_reducible show PT _ (.Compare _ [.IsNot] [.Constant (.bool true) _ _] _) _); refine' pt_cmpR op_notT ?ka ?kb (nomark _); (case ka => wtm_at "fo e"); (case kb => wtm_at "fo e"))
  | ((with_reducible show PT _ (.Compare _ [.Lt, .Lt, .LtE] _ _) _); refine' pt_chain3 op_lt op_lt op_le ?ka ?kb ?kc ?kd; (case ka => wtm_at "fo e"); (case kb => wtm_at "fo e"); (case kc => wtm_at "fo e"); (case kd => wtm_at "fo e"))
  | fail "no")
local macro_rules | `(tactic| wtm_at "fo s") => `(tactic| first
  | ((with_reducible show PS _ (.Raise _ _ _) _); exact ps_never)
  | ((with_reducible show PS _ (.Continue _) _); exact ps_continue)
  | ((with_reducible show PS _ (.AugAssign (.Subscript _ _ _) .BitOr _ _) _); refine' ps_augS ?ka ?kb get_list ?kc ip_or set_list; (case ka => wtm_at "fo e"); (case kb => wtm_at "fo e"); (case kc => wtm_at "fo e"))
  | ((with_reducible show PS _ (.Assign [.Tuple _ _ _] (.Name _ _) _) _); refine' ps_asg ?ka ?kb; (case ka => wtm_at "fo e"); (case kb => wtm_at "fo g"))
  | fail "no")
/-! piece D12 -/
section
variable {P : Program} {w : World} {K : PySem.W.Frag} {mg : Str → Option Value} {base : Heap}
@[irreducible] def spRead : Sp := fun vs H Q _ => ∃ (q : Addr) (n : Nat) (es : List Edge), vs = [.int n, .ref q] ∧ 1 ≤ n ∧ n ≤ 12 ∧ Pairs H q es ∧ Simp n es ∧ es.length ≤ 200 ∧
  ∀ r H', Same H H' → H r = none → H' r = some (nLst (nearB n es)) → Q (.ref r) H'
theorem call_read {q : Addr} {n : Nat} {es : List Edge} {H : Hp} {Q : VK} {E : XK} (h1 : 1 ≤ n) (h2 : n ≤ 12) (hq : Pairs H q es) (hS : Simp n es) (hl : es.length ≤ 200)
    (fin : ∀ r H', Same H H' → H r = none → H' r = some (nLst (nearB n es)) → Q (.ref r) H') : spRead [.int n, .ref q] H Q E := by
  unfold spRead
  exact ⟨q, n, es, rfl, h1, h2, hq, hS, hl, fin⟩
set_option maxHeartbeats 4000000 in
theorem ok_read {f : Addr} {fd : FuncData} (F : Fun K "read_net" "read_net" s_read_net f fd) (mi : mg "isinstance" = none) (mt : mg "int" = none) (ml : mg "list" = none) (mr : mg "range" = none) (me : mg "enumerate" = none) (mn : mg "len" = none)
    {tk : Tok} (mP : mg "MOST_PLACES" = some (.int 12 tk)) (C : Cal P w K mg base "is_place" 1 ["place", "places"] spIsPlace) :
    FnOk P w K mg base CX0 2 f fd ["places", "lines"] spRead := by
  refine F.ok sc_read_net (fun vs H Q E h => ?_) (fun cdv A outer s H vs Q E hr h => ?_)
  · unfold spRead at h
    obtain ⟨q, n, es, rfl, _⟩ := h
    rfl
  · have nd := sc_read_net.nd
    have hS := sc_read_net
    have hKM : KMark K := ⟨⟩
    refine' mk_body ?body ?rd
    case body =>
      show PSs _ [_, _, _, _, _, _] _
      wtm_at "fo ss"
    case rd =>
     unfold spRead at h
     obtain ⟨q, n, es, rfl, h1, h2, hq, hSi, hl, fin⟩ := h
     wtm_at "fo r"
     refine call_isplace ⟨_, rfl, ?_⟩
     refine ifF (by rw [decide_eq_true (by omega)]; rfl) ?_
     obtain ⟨rs, hD, hrl, hat⟩ := hq
     wtm_at "fo r"
     refine ⟨.ref q, .ty "list", _, _, true, rfl, .ty "list", .base (.lst hD), kit_ty (by decide +kernel), ?_⟩
     wtm_at "fo r"
     refine fun D nD => ?_
     have hN : (((n : Int) + 1)).toNat = n + 1 := by omega
     refine lc_range (fun i H1 => i ≤ n + 1 ∧ H1 = upd H D (.lst ((List.range i).map fun (k : Nat) => V.int ((2 ^ k : Nat) : Int)))) ⟨Nat.zero_le _, rfl⟩ ?_ ?_
     · rintro i H1 hi ⟨hi2, rfl⟩
       rw [hN] at hi
       refine ⟨rfl, ?_⟩
       wtm_at "fo r"
       have hlen : ((List.range i).map fun (k : Nat) => V.int ((2 ^ k : Nat) : Int)).length = i := by simp
       refine ⟨_, upd_same, by rw [hlen]; exact Nat.lt_of_le_of_lt (m := 20) (by omega) (by decide), by omega, ?_⟩
       rw [upd_upd, List.range_succ, List.map_append]
       have ev : V.int (1 * 2 ^ (0 + (i : Int)).toNat) = V.int ((2 ^ i : Nat) : Int) := by
         rw [show (0 + (i : Int)).toNat = i by omega, Int.one_mul, Int.natCast_pow]
         rfl
       show upd H D (HO.lst (_ ++ [V.int (1 * 2 ^ (0 + (i : Int)).toNat)])) = _
       rw [ev]
       rfl
     · rintro H1 ⟨_, rfl⟩
       rw [hN]
       wtm_at "fo r"
       rename_i p np
       have sm1 : Same H (upd H D (.lst ((List.range (n + 1)).map fun (k : Nat) => V.int ((2 ^ k : Nat) : Int)))) := same_upd (Same.refl _) nD
       have hD1 : (upd H D (.lst ((List.range (n + 1)).map fun (k : Nat) => V.int ((2 ^ k : Nat) : Int)))) D = some (.lst ((List.range (n + 1)).map fun (k : Nat) => V.int ((2 ^ k : Nat) : Int))) := upd_same
       generalize upd H D (.lst ((List.range (n + 1)).map fun (k : Nat) => V.int ((2 ^ k : Nat) : Int))) = H1 at *
       have sm2 : Same H (upd H1 p (.lst [.int 0])) := same_upd sm1 (sm1.free np)
       have hp2 : (upd H1 p (.lst [.int 0])) p = some (.lst [.int 0]) := upd_same
       have hD2 : (upd H1 p (.lst [.int 0])) D = some (.lst ((List.range (n + 1)).map fun (k : Nat) => V.int ((2 ^ k : Nat) : Int))) := (upd_ne (ne_of_none hD1 np)).trans hD1
       generalize upd H1 p (.lst [.int 0]) = H2 at *
       refine ⟨D, _, rfl, SqL.of hD2, fun c nc => ?_⟩
       rw [cut_1]
       have sm3 : Same H2 (upd H2 c (.lst (((List.range (n + 1)).map fun (k : Nat) => V.int ((2 ^ k : Nat) : Int)).drop 1))) := same_upd (Same.refl _) nc
       have hc3 : (upd H2 c (.lst (((List.range (n + 1)).map fun (k : Nat) => V.int ((2 ^ k : Nat) : Int)).drop 1))) c = some (.lst (((List.range (n + 1)).map fun (k : Nat) => V.int ((2 ^ k : Nat) : Int)).drop 1)) := upd_same
       generalize upd H2 c (.lst (((List.range (n + 1)).map fun (k : Nat) => V.int ((2 ^ k : Nat) : Int)).drop 1)) = H3 at *
       refine Or.inr ⟨p, c, _, _, rfl, rfl, sm3 _ _ hp2, hc3, ?_, fun r nr => ?_⟩
       · rw [List.length_drop, List.length_map, List.length_range]
         exact Nat.le_trans (m := 20) (by simp; omega) (by decide)
       have e0 : [V.int 0] ++ ((List.range (n + 1)).map fun (k : Nat) => V.int ((2 ^ k : Nat) : Int)).drop 1 = (nearB n []).map fun (v : Nat) => V.int v := by
         show _ = (nb0 n).map _
         unfold nb0
         rw [List.range_succ_eq_map, List.map_cons, List.drop_succ_cons, List.drop_zero, List.map_map, List.map_cons, List.map_map]
         rfl
       rw [e0]
       have sm03 : Same H H3 := sm2.trans sm3
       have sm4 : Same H (upd H3 r (.lst ((nearB n []).map fun (v : Nat) => V.int v))) := same_upd sm03 (sm03.free nr)
       have hD4 : (upd H3 r (.lst ((nearB n []).map fun (v : Nat) => V.int v))) D = some (.lst ((List.range (n + 1)).map fun (k : Nat) => V.int ((2 ^ k : Nat) : Int))) := (upd_ne (ne_of_none (sm3 _ _ hD2) nr)).trans (sm3 _ _ hD2)
       have hr4 : (upd H3 r (.lst ((nearB n []).map fun (v : Nat) => V.int v))) r = some (nLst (nearB n [])) := upd_same
       have nr0 : H r = none := sm03.free nr
       have hDr0 : D ≠ r := ne_of_none (sm3 _ _ hD2) nr
       generalize upd H3 r (.lst ((nearB n []).map fun (v : Nat) => V.int v)) = H4 at *
       refine ⟨_, rfl, q, rs.map V.ref, rfl, SqL.of (sm4 _ _ hD), ?_⟩
       refine for_enum (K := K) (xs := rs.map V.ref) (fun i σ H5 => ∃ y5 y6 y7 y8, σ = [some (.int n), some (.ref q), some (.ref D), none, some (.ref r), y5, y6, y7, y8] ∧ Same H H5 ∧
         H5 D = some (.lst ((List.range (n + 1)).map fun (k : Nat) => V.int ((2 ^ k : Nat) : Int))) ∧ H5 r = some (nLst (nearB n (es.take i)))) ?_ ?_ ?_ ?_
       · exact ⟨none, none, none, none, rfl, sm4, hD4, hr4⟩
       · rintro i σ H5 _ ⟨y5, y6, y7, y8, rfl, sm5, hD5, hr5⟩
         exact SqL.of (sm5 _ _ hD)
       · rintro i x T σ H5 hx ⟨y5, y6, y7, y8, rfl, sm5, hD5, hr5⟩ nT
         obtain ⟨ri, hri, rfl⟩ := ref_at hx
         have hi : i < es.length := by rw [← hrl]; exact (List.getElem?_eq_some_iff.mp hri).1
         have hei : es[i]? = some es[i] := List.getElem?_eq_getElem hi
         have hti := hat i ri _ hri hei
         have hrg := hSi.rng _ (List.getElem_mem hi)
         have hap : ∀ e ∈ es.take i, Apart e es[i] := take_apart hSi.ap hi
         have htk : es.take (i + 1) = es.take i ++ [es[i]] := by rw [List.take_add_one, hei]; rfl
         have hpos : ∀ e ∈ es.take i, 1 ≤ e.1 ∧ 1 ≤ e.2 ∧ e.1 ≠ e.2 := fun e he => by
           have := hSi.rng e (List.mem_of_mem_take he)
           omega
         generalize hee : es[i] = e at *
         obtain ⟨a, b⟩ := e
         simp only at hti hrg
         obtain ⟨a, rfl⟩ : ∃ k : Nat, a = (k : Int) := ⟨a.toNat, by omega⟩
         obtain ⟨b, rfl⟩ : ∃ k : Nat, b = (k : Int) := ⟨b.toNat, by omega⟩
         have sm6 : Same H (upd H5 T (.tup [.int (i : Nat), .ref ri])) := same_upd sm5 (sm5.free nT)
         have hD6 : (upd H5 T (.tup [.int (i : Nat), .ref ri])) D = _ := (upd_ne (ne_of_none hD5 nT)).trans hD5
         have hnr6 : (upd H5 T (.tup [.int (i : Nat), .ref ri])) r = _ := (upd_ne (ne_of_none hr5 nT)).trans hr5
         refine Or.inl ⟨T, [.int (i : Nat), .ref ri], rfl, SqT.of upd_same, rfl, .int (i : Nat), [.ref ri], rfl, .ref ri, [], rfl, rfl, ?_⟩
         generalize upd H5 T (.tup [.int (i : Nat), .ref ri]) = H6 at *
         have hti6 := sm6 _ _ hti
         wtm_at "fo r"
         refine ⟨.ref ri, .ty "list", _, _, true, rfl, .ty "list", .base (.lst hti6), kit_ty (by decide +kernel), ?_⟩
         refine ⟨true, rfl, ifT rfl ?_⟩
         refine ⟨_, rfl, ri, _, rfl, Or.inl (SqL.of hti6), Or.inl ⟨rfl, _, rfl, ifT (by rfl) ?_⟩⟩
         refine ⟨_, rfl, Or.inr ⟨ri, [.int a, .int b], rfl, SqL.of hti6, rfl, .int a, [.int b], rfl, .int b, [], rfl, rfl, ?_⟩⟩
         refine ⟨_, rfl, .int a, .ty "int", _, _, true, rfl, .ty "int", .base (.int a), kit_ty (by decide +kernel), true, rfl, ifT rfl ?_⟩
         refine ⟨_, rfl, .int b, .ty "int", _, _, true, rfl, .ty "int", .base (.int b), kit_ty (by decide +kernel), true, rfl, ifT rfl ?_⟩
         refine ⟨_, rfl, _, rfl, _, _, rfl, rfl, _, rfl, ?_⟩
         refine ite2 (fun hc => ?_) (fun hc => ?_)
         · refine ⟨_, rfl, Or.inr ⟨ri, [.int a, .int b], rfl, SqL.of hti6, rfl, .int a, [.int b], rfl, .int b, [], rfl, rfl, ?_⟩⟩
           have hba := of_decide_eq_true hc
           have hfr : ∀ e ∈ es.take i, Apart e ((b : Nat), (a : Nat)) := fun e he => ⟨fun h => (hap e he).2 (by rw [h]), fun h => (hap e he).1 (by rw [h])⟩
           have hfr2 : ∀ e ∈ es.take i, Apart e ((a : Nat), (b : Nat)) := fun e he => ⟨fun h => (hfr e he).2 (by rw [h]), fun h => (hfr e he).1 (by rw [h])⟩
           obtain ⟨u, hu, hu0⟩ := fresh_bit (n := n) hpos (a := b) (b := a) (by omega) (by omega) (by omega) hfr
           obtain ⟨u2, hu2, _⟩ := fresh_bit (n := n) hpos (a := a) (b := b) (by omega) (by omega) (by omega) hfr2
           refine ⟨_, rfl, rfl, _, rfl, ifT rfl ?_⟩
           refine ⟨_, rfl, _, _, rfl, rfl, _, rfl, ifT (decide_eq_true (by omega)) ?_⟩
           refine ⟨_, rfl, _, _, rfl, rfl, _, rfl, ifT (decide_eq_true (by omega)) ?_⟩
           refine ⟨_, rfl, _, _, rfl, rfl, _, rfl, ifT (decide_eq_true (by omega)) ?_⟩
           refine ⟨_, rfl, _, rfl, Or.inl ⟨r, _, (b : Nat), _, rfl, rfl, SqL.of hnr6, at_nb hu, ?_⟩⟩
           refine ⟨_, rfl, _, rfl, Or.inl ⟨D, _, (a : Nat), _, rfl, rfl, SqL.of hD6, at_pw (by omega), ?_⟩⟩
           refine ⟨_, _, rfl, rfl, _, rfl, ifT (by rw [bAnd, hu0]; rfl) ?_⟩
           refine ⟨_, rfl, _, rfl, r, _, _, b, _, rfl, rfl, hnr6, by omega, by omega, get_nb hu, ?_⟩
           refine ⟨_, rfl, _, rfl, Or.inl ⟨D, _, (a : Nat), _, rfl, rfl, SqL.of hD6, at_pw (by omega), ?_⟩⟩
           refine ⟨_, _, rfl, rfl, r, _, _, b, rfl, rfl, hnr6, ix_n (by rw [List.length_map]; exact (List.getElem?_eq_some_iff.mp hu).1), ?_⟩
           have hDr : D ≠ r := hDr0
           have hr7 : (upd H6 r (.lst (((nearB n (es.take i)).map fun (v : Nat) => V.int v).set b (.int (Builtin.bitOr u (2 ^ a : Nat)))))) r = some (.lst (((nearB n (es.take i)).map fun (v : Nat) => V.int v).set b (.int (Builtin.bitOr u (2 ^ a : Nat))))) := upd_same
           have hD7 : (upd H6 r (.lst (((nearB n (es.take i)).map fun (v : Nat) => V.int v).set b (.int (Builtin.bitOr u (2 ^ a : Nat)))))) D = some (.lst ((List.range (n + 1)).map fun (k : Nat) => V.int ((2 ^ k : Nat) : Int))) := (upd_ne hDr).trans hD6
           refine ⟨_, rfl, _, rfl, r, _, _, a, _, rfl, rfl, hr7, by omega, by omega, get_nb2 (by omega) hu2, ?_⟩
           refine ⟨_, rfl, _, rfl, Or.inl ⟨D, _, (b : Nat), _, rfl, rfl, SqL.of hD7, at_pw (by omega), ?_⟩⟩
           refine ⟨_, _, rfl, rfl, r, _, _, a, rfl, rfl, hr7, ix_n (by rw [List.length_set, List.length_map]; exact (List.getElem?_eq_some_iff.mp hu2).1), ?_⟩
           refine ⟨_, _, _, _, rfl, same_upd (same_upd sm6 nr0) nr0, ?_, ?_⟩
           · rw [upd_ne hDr]
             exact hD7
           · rw [upd_same, set_addB hu hu2 (by omega), htk]
             unfold nearB nLst
             rw [List.foldl_append]
             rw [addB_swap _ (by show ((b : Int)).toNat ≠ ((a : Int)).toNat; omega)]; rfl

         · skip
           have hba : ¬ ((b : Int) < a) := fun h => hc (decide_eq_true h)
           have hfr : ∀ e ∈ es.take i, Apart e ((a : Nat), (b : Nat)) := hap
           have hfr2 : ∀ e ∈ es.take i, Apart e ((b : Nat), (a : Nat)) := fun e he => ⟨fun h => (hfr e he).2 (by rw [h]), fun h => (hfr e he).1 (by rw [h])⟩
           obtain ⟨u, hu, hu0⟩ := fresh_bit (n := n) hpos (a := a) (b := b) (by omega) (by omega) (by omega) hfr
           obtain ⟨u2, hu2, _⟩ := fresh_bit (n := n) hpos (a := b) (b := a) (by omega) (by omega) (by omega) hfr2
           refine ⟨_, rfl, rfl, _, rfl, ifT rfl ?_⟩
           refine ⟨_, rfl, _, _, rfl, rfl, _, rfl, ifT (decide_eq_true (by omega)) ?_⟩
           refine ⟨_, rfl, _, _, rfl, rfl, _, rfl, ifT (decide_eq_true (by omega)) ?_⟩
           refine ⟨_, rfl, _, _, rfl, rfl, _, rfl, ifT (decide_eq_true (by omega)) ?_⟩
           refine ⟨_, rfl, _, rfl, Or.inl ⟨r, _, (a : Nat), _, rfl, rfl, SqL.of hnr6, at_nb hu, ?_⟩⟩
           refine ⟨_, rfl, _, rfl, Or.inl ⟨D, _, (b : Nat), _, rfl, rfl, SqL.of hD6, at_pw (by omega), ?_⟩⟩
           refine ⟨_, _, rfl, rfl, _, rfl, ifT (by rw [bAnd, hu0]; rfl) ?_⟩
           refine ⟨_, rfl, _, rfl, r, _, _, a, _, rfl, rfl, hnr6, by omega, by omega, get_nb hu, ?_⟩
           refine ⟨_, rfl, _, rfl, Or.inl ⟨D, _, (b : Nat), _, rfl, rfl, SqL.of hD6, at_pw (by omega), ?_⟩⟩
           refine ⟨_, _, rfl, rfl, r, _, _, a, rfl, rfl, hnr6, ix_n (by rw [List.length_map]; exact (List.getElem?_eq_some_iff.mp hu).1), ?_⟩
           have hDr : D ≠ r := hDr0
           have hr7 : (upd H6 r (.lst (((nearB n (es.take i)).map fun (v : Nat) => V.int v).set a (.int (Builtin.bitOr u (2 ^ b : Nat)))))) r = some (.lst (((nearB n (es.take i)).map fun (v : Nat) => V.int v).set a (.int (Builtin.bitOr u (2 ^ b : Nat))))) := upd_same
           have hD7 : (upd H6 r (.lst (((nearB n (es.take i)).map fun (v : Nat) => V.int v).set a (.int (Builtin.bitOr u (2 ^ b : Nat)))))) D = some (.lst ((List.range (n + 1)).map fun (k : Nat) => V.int ((2 ^ k : Nat) : Int))) := (upd_ne hDr).trans hD6
           refine ⟨_, rfl, _, rfl, r, _, _, b, _, rfl, rfl, hr7, by omega, by omega, get_nb2 (by omega) hu2, ?_⟩
           refine ⟨_, rfl, _, rfl, Or.inl ⟨D, _, (a : Nat), _, rfl, rfl, SqL.of hD7, at_pw (by omega), ?_⟩⟩
           refine ⟨_, _, rfl, rfl, r, _, _, b, rfl, rfl, hr7, ix_n (by rw [List.length_set, List.length_map]; exact (List.getElem?_eq_some_iff.mp hu2).1), ?_⟩
           refine ⟨_, _, _, _, rfl, same_upd (same_upd sm6 nr0) nr0, ?_, ?_⟩
           · rw [upd_ne hDr]
             exact hD7
           · rw [upd_same, set_addB hu hu2 (by omega), htk]
             unfold nearB nLst
             rw [List.foldl_append]
             rfl

       · rintro σ H5 ⟨y5, y6, y7, y8, rfl, sm5, hD5, hr5⟩
         refine ⟨_, rfl, ?_⟩
         rw [List.length_map, hrl, List.take_length] at hr5
         exact fin r H5 sm5 nr0 hr5
end
/-! tactics TAC3 -/
local macro_rules | `(tactic| wtm_at "fo lc") => `(tactic| (refine' pe_lcN (by assumption) (by exact rfl) (by exact rfl) (by wtm_at "fo own") (by kernel_rfl!) rfl ?ki ?kg ?kt ?ke; (case ki => wtm_at "fo i"); (case kg => (intro _ _ _ _ _; wtm_at "fo g")); (case kt => (intro _ _ _ _ _; wtm_at "fo ts")); (case ke => (intro _ _ _ _ _; wtm_at "fo e"))))
local macro_rules | `(tactic| wtm_at "fo s") => `(tactic| ((with_reducible show PS _ (.Assign [.Tuple _ _ _] (.Call _ _ _ _) _) _); refine' ps_asg ?ka ?kb; (case ka => wtm_at "fo e"); (case kb => wtm_at "fo g")))
local macro_rules | `(tactic| wtm_at "fo cmp") => `(tactic| ((with_reducible show PE _ (.Compare _ [.In] _ _) _); refine' pe_cmpR (op_inK (by assumption) (by exact rfl)) ?ka ?kb rfl; (case ka => wtm_at "fo e"); (case kb => wtm_at "fo e")))
local macro_rules | `(tactic| wtm_at "fo call") => `(tactic| ((with_reducible show PE _ (.Call (.Name (Str.ofString "list") _) [.Call (.Name (Str.ofString "range") _) [_] _ _] _ _) _); refine' pe_listRg rfl (by rfl) (by assumption) (prg_1 (by rfl) (by assumption) ?ka); (case ka => wtm_at "fo e")))
local macro_rules | `(tactic| wtm_at "fo call") => `(tactic| ((with_reducible show PE _ (.Call (.Name (Str.ofString "min") _) [_] _ _) _); refine' pe_callB (call_minK (by assumption) (by exact rfl) rfl) (by rfl) (by assumption) (by decide +kernel) ?ka; (case ka => wtm_at "fo a")))
local macro_rules | `(tactic| wtm_at "fo i") => `(tactic| ((with_reducible show PI _ _ (.Call (.Name (Str.ofString "reversed") _) [_] _ _) _); refine' pi_reversed (by rfl) (by assumption) ?ka; (case ka => wtm_at "fo a")))
local macro_rules | `(tactic| wtm_at "fo s") => `(tactic| ((with_reducible show PS _ (.AugAssign (.Name _ _) .BitXor _ _) _); first | (refine' ps_aug (i := 2) (by assumption) rfl (by first | exact Or.inl rfl | exact Or.inr rfl) ?ka ip_xor; (case ka => wtm_at "fo e")) | fail "no"))
local macro_rules | `(tactic| wtm_at "fo call") => `(tactic| (refine' pe_calG (by assumption) (by assumption) (by decide) (by assumption) (by rfl) ?ka; (case ka => wtm_at "fo a")))
local macro_rules | `(tactic| wtm_at "fo meth") => `(tactic| ((with_reducible show PE _ (.Call (.Attribute _ (Str.ofString "count") _) _ _ _) _); refine' pe_cntK (by assumption) (by exact rfl) ?ka ?kb; (case ka => wtm_at "fo e"); (case kb => wtm_at "fo a")))
local macro_rules | `(tactic| wtm_at "fo call") => `(tactic| ((with_reducible show PE _ (.Call (.Name (Str.ofString "sorted") _) [_] _ _) _); refine' pe_callB (cr_sortedB (by assumption) (by exact rfl) (Room.units (by assumption))) (by rfl) (by assumption) (by decide +kernel) ?ka; (case ka => wtm_at "fo a")))
local macro_rules | `(tactic| wtm_at "fo v") => `(tactic| first
  | exact pv 16
  | exact pv 17
  | exact pv 18
  | exact pv 19
  | fail "no")
local macro_rules | `(tactic| wtm_at "fo own") => `(tactic| first
  | ((show _ = [16]); kernel_rfl!)
  | ((show _ = [17]); kernel_rfl!)
  | ((show _ = [18]); kernel_rfl!)
  | ((show _ = [19]); kernel_rfl!)
  | ((show _ = [15, 16]); kernel_rfl!)
  | ((show _ = [16, 17]); kernel_rfl!)
  | ((show _ = [17, 18]); kernel_rfl!)
  | ((show _ = [18, 19]); kernel_rfl!)
  | fail "no")
local macro_rules | `(tactic| wtm_at "fo set") => `(tactic| first
  | (refine' ps_set (i := 14) (by assumption) rfl (by first | exact Or.inl rfl | exact Or.inr rfl) ?ka; (case ka => wtm_at "fo e"))
  | (refine' ps_set (i := 15) (by assumption) rfl (by first | exact Or.inl rfl | exact Or.inr rfl) ?ka; (case ka => wtm_at "fo e"))
  | (refine' ps_set (i := 16) (by assumption) rfl (by first | exact Or.inl rfl | exact Or.inr rfl) ?ka; (case ka => wtm_at "fo e"))
  | (refine' ps_set (i := 17) (by assumption) rfl (by first | exact Or.inl rfl | exact Or.inr rfl) ?ka; (case ka => wtm_at "fo e"))
  | (refine' ps_set (i := 18) (by assumption) rfl (by first | exact Or.inl rfl | exact Or.inr rfl) ?ka; (case ka => wtm_at "fo e"))
  | (refine' ps_set (i := 19) (by assumption) rfl (by first | exact Or.inl rfl | exact Or.inr rfl) ?ka; (case ka => wtm_at "fo e"))
  | fail "no")
local macro_rules | `(tactic| wtm_at "fo setlc") => `(tactic| first
  | (refine' ps_setLcO (i := 16) (by assumption) (by exact rfl) (by exact rfl) (by wtm_at "fo own") (by decide +kernel) rfl rfl rfl (sw_true rfl rfl rfl (by decide +kernel)) ?ki ?kg ?kt ?ke; (case ki => wtm_at "fo i"); (case kg => (intro _ _ _ _ _; wtm_at "fo g")); (case kt => (intro _ _ _ _ _; wtm_at "fo ts")); (case ke => (intro _ _ _ _ _; wtm_at "fo e")))
  | (refine' ps_setLcO (i := 17) (by assumption) (by exact rfl) (by exact rfl) (by wtm_at "fo own") (by decide +kernel) rfl rfl rfl (sw_true rfl rfl rfl (by decide +kernel)) ?ki ?kg ?kt ?ke; (case ki => wtm_at "fo i"); (case kg => (intro _ _ _ _ _; wtm_at "fo g")); (case kt => (intro _ _ _ _ _; wtm_at "fo ts")); (case ke => (intro _ _ _ _ _; wtm_at "fo e")))
  | (refine' ps_setLcO (i := 18) (by assumption) (by exact rfl) (by exact rfl) (by wtm_at "fo own") (by decide +kernel) rfl rfl rfl (sw_true rfl rfl rfl (by decide +kernel)) ?ki ?kg ?kt ?ke; (case ki => wtm_at "fo i"); (case kg => (intro _ _ _ _ _; wtm_at "fo g")); (case kt => (intro _ _ _ _ _; wtm_at "fo ts")); (case ke => (intro _ _ _ _ _; wtm_at "fo e")))
  | (refine' ps_setLcO (i := 19) (by assumption) (by exact rfl) (by exact rfl) (by wtm_at "fo own") (by decide +kernel) rfl rfl rfl (sw_true rfl rfl rfl (by decide +kernel)) ?ki ?kg ?kt ?ke; (case ki => wtm_at "fo i"); (case kg => (intro _ _ _ _ _; wtm_at "fo g")); (case kt => (intro _ _ _ _ _; wtm_at "fo ts")); (case ke => (intro _ _ _ _ _; wtm_at "fo e")))
  | fail "no")
local macro_rules | `(tactic| wtm_at "fo gn") => `(tactic| first
  | exact pg_name (i := 16) (by assumption) rfl (by first | exact Or.inl rfl | exact Or.inr rfl)
  | exact pg_name (i := 17) (by assumption) rfl (by first | exact Or.inl rfl | exact Or.inr rfl)
  | exact pg_name (i := 18) (by assumption) rfl (by first | exact Or.inl rfl | exact Or.inr rfl)
  | exact pg_name (i := 19) (by assumption) rfl (by first | exact Or.inl rfl | exact Or.inr rfl)
  | fail "no")
local macro_rules | `(tactic| wtm_at "fo s") => `(tactic| ((with_reducible show PS _ (.Assign [.Tuple _ _ _] (.Tuple _ _ _) _) _); refine' ps_asg ?ka ?kb; (case ka => wtm_at "fo e"); (case kb => wtm_at "fo g")))
/-! piece E6a -/
section
variable {P : Program} {w : World} {K : PySem.W.Frag} {mg : Str → Option Value} {base : Heap}
theorem for_rev {K : PySem.W.Frag} {a : Addr} {xs : List V} {g : TG} {tb : TS} {D : Ends} {σ : Sl} {H : Hp} (Pv : Nat → Sl → Hp → Prop) (h0 : Pv 0 σ H) (hl : ∀ i σ H, i ≤ xs.length → Pv i σ H → SqL K H a xs)
    (hs : ∀ (i : Nat) x σ H, i < xs.length → xs[xs.length - 1 - i]? = some x → Pv i σ H → g x σ H fun σ2 H2 => tb { D with nx := Pv (i + 1), ct := Pv (i + 1), bk := D.nx } σ2 H2)
    (hd : ∀ σ H, Pv xs.length σ H → D.nx σ H) :
    ∃ W : Nat → Nat → Sl → Hp → Prop, (∃ m, W 0 m σ H) ∧ ∀ i m σ H, W i m σ H →
      ((Itv K a xs.length).stop i H ∧ D.nx σ H) ∨ ((Itv K a xs.length).go i H ∧ ∃ N : Sl → Hp → Prop, (∀ σ' H', N σ' H' → ∃ m', m' < m ∧ W (i + 1) m' σ' H') ∧
        ∀ x H', (Itv K a xs.length).yld i H x H' → g x σ H' fun σ2 H2 => tb { D with nx := N, ct := N, bk := D.nx } σ2 H2) := by
  refine ⟨fun i m σ H => m = xs.length - i ∧ i ≤ xs.length ∧ Pv i σ H, ⟨xs.length, by simp, Nat.zero_le _, h0⟩, ?_⟩
  rintro i m σ H ⟨rfl, hi, p⟩
  have q := hl i σ H hi p
  by_cases hlt : i < xs.length
  · have hg : xs[xs.length - 1 - i]? = some (xs[xs.length - 1 - i]'(by omega)) := List.getElem?_eq_getElem _
    refine Or.inr ⟨⟨hlt, xs, _, q, hg⟩, Pv (i + 1), fun σ' H' p' => ⟨xs.length - (i + 1), by omega, rfl, hlt, p'⟩, ?_⟩
    rintro x H' ⟨rfl, hx⟩
    exact hs i x σ _ hlt (hx xs q) p
  · obtain rfl : i = xs.length := by omega
    exact Or.inl ⟨Nat.le_refl _, hd σ H p⟩
/-! ### whole_lot, first_target -/
@[irreducible] def spWhole : Sp := fun vs H Q _ => ∃ (r : Addr) (xs : List V) (n : Nat), vs = [.ref r] ∧ H r = some (.lst xs) ∧ xs.length = n + 1 ∧ n ≤ 100 ∧ Q (.int ((2 ^ (n + 1) - 2 : Nat) : Int)) H
theorem call_whole {r : Addr} {xs : List V} {n : Nat} {H : Hp} {Q : VK} {E : XK} (hr : H r = some (.lst xs)) (hl : xs.length = n + 1) (hn : n ≤ 100) (q : Q (.int ((2 ^ (n + 1) - 2 : Nat) : Int)) H) : spWhole [.ref r] H Q E := by
  unfold spWhole
  exact ⟨r, xs, n, rfl, hr, hl, hn, q⟩
set_option maxHeartbeats 2000000 in
theorem ok_whole {f : Addr} {fd : FuncData} (F : Fun K "whole_lot" "whole_lot" s_whole_lot f fd) (mn : mg "len" = none) : FnOk P w K mg base CX0 1 f fd ["near"] spWhole := by
  refine F.ok sc_whole_lot (fun vs H Q E h => ?_) (fun cdv A outer s H vs Q E hr h => ?_)
  · unfold spWhole at h
    obtain ⟨r, xs, n, rfl, _⟩ := h
    rfl
  · have nd := sc_whole_lot.nd
    have hS := sc_whole_lot
    have hKM : KMark K := ⟨⟩
    refine' mk_body ?body ?rd
    case body =>
      show PSs _ [_] _
      wtm_at "fo ss"
    case rd =>
     unfold spWhole at h
     obtain ⟨r, xs, n, rfl, hr0, hl, hn, q⟩ := h
     refine ⟨_, rfl, r, _, rfl, Or.inl (SqL.of hr0), _, _, rfl, rfl, ⟨by omega, by omega, by decide⟩, _, _, rfl, rfl, ?_⟩
     have e : V.int (1 * 2 ^ ((xs.length : Int)).toNat - 2) = V.int ((2 ^ (n + 1) - 2 : Nat) : Int) := by
       rw [hl, Int.one_mul, Int.toNat_natCast]
       have h2 : (2 : Nat) ≤ 2 ^ (n + 1) := by
         rw [Nat.pow_succ]
         have := Nat.one_le_two_pow (n := n)
         omega
       rw [Int.natCast_sub h2, Int.natCast_pow]
       rfl
     show Q (V.int (1 * 2 ^ ((xs.length : Int)).toNat - 2)) H
     rw [e]
     exact q
@[irreducible] def spFirst : Sp := fun vs H Q _ => ∃ (r : Addr) (n v p : Nat) (es : List Edge) (left : List Int), vs = [.ref r, .int v, .int p] ∧ n ≤ 12 ∧ Simp n es ∧ H r = some (nLst (nearB n es)) ∧ LotIs v left ∧ InNet n left ∧ 1 ≤ p ∧ p ≤ n ∧ ∀ H', Same H H' → Q (.int (ftM es left p)) H'
theorem call_first {r : Addr} {n v p : Nat} {es : List Edge} {left : List Int} {H : Hp} {Q : VK} {E : XK} (hn : n ≤ 12) (hS : Simp n es) (hr : H r = some (nLst (nearB n es))) (hv : LotIs v left) (hI : InNet n left) (h1 : 1 ≤ p) (h2 : p ≤ n)
    (q : ∀ H', Same H H' → Q (.int (ftM es left p)) H') : spFirst [.ref r, .int v, .int p] H Q E := by
  unfold spFirst
  exact ⟨r, n, v, p, es, left, rfl, hn, hS, hr, hv, hI, h1, h2, q⟩
set_option maxHeartbeats 4000000 in
theorem ok_first {f : Addr} {fd : FuncData} (F : Fun K "first_target" "first_target" s_first_target f fd) (me : mg "enumerate" = none) : FnOk P w K mg base CX0 1 f fd ["near", "lot", "place"] spFirst := by
  refine F.ok sc_first_target (fun vs H Q E h => ?_) (fun cdv A outer s H vs Q E hr h => ?_)
  · unfold spFirst at h
    obtain ⟨r, n, v, p, es, left, rfl, _⟩ := h
    rfl
  · have nd := sc_first_target.nd
    have hS := sc_first_target
    have hKM : KMark K := ⟨⟩
    refine' mk_body ?body ?rd
    case body =>
      show PSs _ [_, _, _, _] _
      wtm_at "fo ss"
    case rd =>
     unfold spFirst at h
     obtain ⟨r, n, v, p, es, left, rfl, hn, hSi, hr0, hv, hI, h1, h2, fin⟩ := h
     wtm_at "fo r"
     rw [show ((p : Int)).toNat = p by omega, bit_test, hv]
     by_cases hp : (p : Int) ∈ left
     · refine ifF (by rw [decide_eq_true hp]; rfl) ?_
       have hrE : ∀ e ∈ es, 1 ≤ e.1 ∧ 1 ≤ e.2 ∧ e.1 ≠ e.2 := fun e he => by have := hSi.rng e he; omega
       obtain ⟨m, hm, bm⟩ := nearB_bit hrE (p := p) (n := n) (by omega) (by omega)
       refine ⟨_, rfl, _, rfl, Or.inl ⟨r, _, (p : Nat), _, rfl, rfl, SqL.of hr0, at_nb hm, ?_⟩⟩
       refine ⟨_, rfl, _, _, rfl, rfl, ?_⟩
       refine ⟨_, rfl, r, _, rfl, SqL.of hr0, ?_⟩
       refine for_enum (K := K) (xs := (nearB n es).map fun (v : Nat) => V.int v) (fun i σ H3 => ∃ y4 y5, σ = [some (.ref r), some (.int v), some (.int p), some (.int (Builtin.bitAnd (m : Int) (v : Int))), y4, y5] ∧ Same H H3 ∧ ∀ j, j < i → ¬ Good es n v p j) ?_ ?_ ?_ ?_
       · exact ⟨none, none, rfl, Same.refl _, fun j h => by omega⟩
       · rintro i σ H3 _ ⟨y4, y5, rfl, sm, _⟩
         exact SqL.of (sm _ _ hr0)
       · rintro i x T σ H3 hx ⟨y4, y5, rfl, sm, hng⟩ nT
         rw [List.getElem?_map] at hx
         cases hu : (nearB n es)[i]? with
         | none => rw [hu] at hx; cases hx
         | some u =>
           rw [hu] at hx
           cases hx
           have hi : i ≤ n := by
             have := (List.getElem?_eq_some_iff.mp hu).1
             rw [nearB_length] at this
             omega
           have smT : Same H (upd H3 T (.tup [.int (i : Nat), .int u])) := same_upd sm (sm.free nT)
           refine Or.inl ⟨T, [.int (i : Nat), .int u], rfl, SqT.of upd_same, rfl, .int (i : Nat), [.int u], rfl, .int u, [], rfl, rfl, ?_⟩
           generalize upd H3 T (.tup [.int (i : Nat), .int u]) = H4 at *
           have hno : ∀ h : ¬ Good es n v p i, ∀ j, j < i + 1 → ¬ Good es n v p j := fun h j hj => by
             by_cases e : j = i
             · rw [e]; exact h
             · exact hng j (by omega)
           refine ⟨_, rfl, _, rfl, _, _, rfl, rfl, _, rfl, Or.inl ⟨rfl, _, rfl, ?_⟩⟩
           refine ite2 (fun hc => ?_) (fun hc => ?_)
           · have hc1 : u &&& (m &&& v) = m &&& v := by
               have := of_decide_eq_true hc
               simp only [bAnd] at this
               injection this with this
               exact Int.ofNat.inj this
             refine ⟨_, rfl, _, rfl, Or.inl ⟨rfl, _, rfl, ?_⟩⟩
             refine ite2 (fun hc2 => ?_) (fun hc2 => ?_)
             · have hc2 : i ≠ p := fun e => by
                 subst e
                 simp at hc2
               refine ⟨_, rfl, _, rfl, _, _, rfl, rfl, by omega, _, _, rfl, rfl, _, rfl, ?_⟩
               rw [show ((i : Int)).toNat = i by omega, bit_test]
               refine ite2 (fun hc3 => ?_) (fun hc3 => ?_)
               · have hg : Good es n v p i := ⟨u, m, hu, hm, hc1, hc2, hc3⟩
                 refine ⟨_, rfl, ?_⟩
                 have hmem := (good_iff hSi hv hI.rng hp hi).mp hg
                 have hft : ftM es left p = (i : Int) := ftM_some hp hmem fun x hx => by
                   apply Classical.byContradiction
                   intro hlt
                   have hxr := hI.rng x (onto_sub x hx)
                   refine hng x.toNat (by omega) ((good_iff hSi hv hI.rng hp (by omega)).mpr ?_)
                   rwa [show ((x.toNat : Nat) : Int) = x by omega]
                 have := fin H4 smT
                 rw [hft] at this
                 exact this
               · refine ⟨_, _, rfl, smT, hno ?_⟩
                 rintro ⟨_, _, _, _, _, _, hb⟩
                 exact hc3 hb
             · have hc2 : i = p := by
                 apply Classical.byContradiction
                 intro e
                 exact hc2 (by simp; omega)
               refine ifF rfl ⟨_, _, rfl, smT, hno ?_⟩
               rintro ⟨_, _, _, _, _, h, _⟩
               exact h hc2
           · refine ifF rfl ⟨_, _, rfl, smT, hno ?_⟩
             rintro ⟨u2, m2, hu2, hm2, h, _, _⟩
             rw [hu] at hu2
             rw [hm] at hm2
             cases hu2
             cases hm2
             exact hc (by simp only [bAnd]; rw [h]; simp)
       · rintro σ H3 ⟨y4, y5, rfl, sm, hng⟩
         rw [List.length_map, nearB_length] at hng
         have hft : ftM es left p = 0 := ftM_none fun x hx => by
           have hxr := hI.rng x (onto_sub x hx)
           refine hng x.toNat (by omega) ((good_iff hSi hv hI.rng hp (by omega)).mpr ?_)
           rwa [show ((x.toNat : Nat) : Int) = x by omega]
         have := fin H3 sm
         rw [hft] at this
         exact this
     · refine ifT (by rw [decide_eq_false hp]; rfl) ?_
       have := fin H (Same.refl _)
       rw [show ftM es left p = 0 by unfold ftM; rw [if_neg hp]] at this
       exact this
end
/-! piece E6b -/
section
theorem rgV_where (n : Nat) : rgV 0 ((n + 1 : Nat) : Int) = (whereL n []).map V.int := by
  unfold rgV whereL
  rw [List.map_map, show (((n + 1 : Nat) : Int) - 0).toNat = n + 1 by omega]
  apply List.map_congr_left
  intro i _
  show V.int (0 + (i : Int)) = V.int (i : Int)
  rw [Int.zero_add]
variable {P : Program} {w : World} {K : PySem.W.Frag} {mg : Str → Option Value} {base : Heap}
/-! ### goals_behind -/
@[irreducible] def spGoals : Sp := fun vs H Q _ => ∃ (r q : Addr) (rs : List Addr) (xs : List V) (n : Nat) (ps : List Edge), vs = [.ref r, .ref q] ∧ n ≤ 12 ∧ H r = some (.lst xs) ∧ xs.length = n + 1 ∧ TsAt H q rs ps ∧ ps.length ≤ 1000 ∧ (∀ e ∈ ps, 1 ≤ e.1 ∧ e.1 ≤ n ∧ 1 ≤ e.2 ∧ e.2 ≤ n) ∧
  ∀ p H', Same H H' → H p = none → H' p = some (iL ((whereL n ps).drop 1)) → Q (.ref p) H'
theorem call_goals {r q : Addr} {rs : List Addr} {xs : List V} {n : Nat} {ps : List Edge} {H : Hp} {Q : VK} {E : XK} (hn : n ≤ 12) (hr : H r = some (.lst xs)) (hx : xs.length = n + 1) (hq : TsAt H q rs ps) (hl : ps.length ≤ 1000) (hrg : ∀ e ∈ ps, 1 ≤ e.1 ∧ e.1 ≤ n ∧ 1 ≤ e.2 ∧ e.2 ≤ n)
    (fin : ∀ p H', Same H H' → H p = none → H' p = some (iL ((whereL n ps).drop 1)) → Q (.ref p) H') : spGoals [.ref r, .ref q] H Q E := by
  unfold spGoals
  exact ⟨r, q, rs, xs, n, ps, rfl, hn, hr, hx, hq, hl, hrg, fin⟩
set_option maxHeartbeats 4000000 in
theorem ok_goals {f : Addr} {fd : FuncData} (F : Fun K "goals_behind" "goals_behind" s_goals_behind f fd) (mr : mg "range" = none) (ml : mg "list" = none) (mn : mg "len" = none) (mv : mg "reversed" = none) :
    FnOk P w K mg base CX0 1 f fd ["near", "pairs"] spGoals := by
  refine F.ok sc_goals_behind (fun vs H Q E h => ?_) (fun cdv A outer s H vs Q E hr h => ?_)
  · unfold spGoals at h
    obtain ⟨r, q, rs, xs, n, ps, rfl, _⟩ := h
    rfl
  · have nd := sc_goals_behind.nd
    have hS := sc_goals_behind
    have hKM : KMark K := ⟨⟩
    refine' mk_body ?body ?rd
    case body =>
      show PSs _ [_, _, _] _
      wtm_at "fo ss"
    case rd =>
     unfold spGoals at h
     obtain ⟨r, q, rs, xs, n, ps, rfl, hn, hr0, hxl, hq, hl, hrg, fin⟩ := h
     refine ⟨_, rfl, r, _, rfl, Or.inl (SqL.of hr0), ?_⟩
     refine ⟨_, rfl, ?rg, fun t nt => ?_⟩
     case rg => unfold RgOk; omega
     have el : rgV 0 ((xs.length : Nat) : Int) = (whereL n []).map V.int := by rw [hxl]; exact rgV_where n
     rw [el]
     have sm1 : Same H (upd H t (.lst ((whereL n []).map V.int))) := same_upd (Same.refl _) nt
     have ht1 : (upd H t (.lst ((whereL n []).map V.int))) t = some (iL (whereL n [])) := upd_same
     generalize upd H t (.lst ((whereL n []).map V.int)) = H1 at *
     refine ⟨_, rfl, q, _, rfl, SqL.of (sm1 _ _ hq.hD), ?_⟩
     refine for_rev (K := K) (xs := rs.map V.ref) (fun i σ H3 => ∃ y3 y4, σ = [some (.ref r), some (.ref q), some (.ref t), y3, y4] ∧ Same H H3 ∧ H3 t = some (iL (whereL n (ps.drop (ps.length - i))))) ?_ ?_ ?_ ?_
     · refine ⟨none, none, rfl, sm1, ?_⟩
       rw [Nat.sub_zero, List.drop_length]
       exact ht1
     · rintro i σ H3 _ ⟨y3, y4, rfl, sm3, ht3⟩
       exact SqL.of (sm3 _ _ hq.hD)
     · rintro i x σ H3 hi hx ⟨y3, y4, rfl, sm3, ht3⟩
       rw [List.length_map] at hi hx
       obtain ⟨c, hr, rfl⟩ := ref_at hx
       have hi2 : i < ps.length := by rw [← hq.len]; exact hi
       rw [hq.len] at hr
       have hpe : ps[ps.length - 1 - i]? = some (ps[ps.length - 1 - i]'(by omega)) := List.getElem?_eq_getElem _
       have hre := sm3 _ _ (hq.at_ _ _ _ hr hpe)
       have hdr : ps.drop (ps.length - (i + 1)) = (ps[ps.length - 1 - i]'(by omega)) :: ps.drop (ps.length - i) := by
         rw [show ps.length - (i + 1) = ps.length - 1 - i by omega, List.drop_eq_getElem_cons (by omega), show ps.length - 1 - i + 1 = ps.length - i by omega]
       have hrn := hrg _ (List.mem_of_getElem? hpe)
       generalize ps[ps.length - 1 - i]'(by omega) = e at *
       obtain ⟨a, b⟩ := e
       simp only at hre hrn
       obtain ⟨p, rfl⟩ : ∃ k : Nat, a = (k : Int) := ⟨a.toNat, by omega⟩
       obtain ⟨g, rfl⟩ : ∃ k : Nat, b = (k : Int) := ⟨b.toNat, by omega⟩
       refine Or.inl ⟨c, [.int p, .int g], rfl, SqT.of hre, rfl, .int p, [.int g], rfl, .int g, [], rfl, rfl, ?_⟩
       refine ⟨_, rfl, _, rfl, Or.inl ⟨t, _, (g : Int), .int (mapR (ps.drop (ps.length - i)) g), rfl, rfl, SqL.of ht3, at_of (j := g) rfl (by rw [List.getElem?_map, whereL_get (by omega)]; rfl), ?_⟩⟩
       refine ⟨_, rfl, _, rfl, t, _, _, p, rfl, rfl, ht3, ix_n (by rw [List.length_map, whereL_length]; omega), ?_⟩
       refine ⟨_, _, rfl, same_upd sm3 nt, ?_⟩
       rw [upd_same, hdr, ← whereL_set (by omega)]
       unfold iL
       rw [List.map_set]
     · rintro σ H3 ⟨y3, y4, rfl, sm3, ht3⟩
       rw [List.length_map, hq.len, Nat.sub_self, List.drop_zero] at ht3
       refine ⟨_, rfl, 1, rfl, t, _, rfl, SqL.of ht3, fun c nc => ?_⟩
       rw [cut_1, ← List.map_drop]
       exact fin c _ (same_upd sm3 (sm3.free nc)) (sm3.free nc) upd_same
end
/-! piece E6d -/
section
variable {P : Program} {w : World} {K : PySem.W.Frag} {mg : Str → Option Value} {base : Heap}
/-! ### read_folds, where all is right -/
@[irreducible] def spRFolds : Sp := fun vs H Q _ => ∃ (r o : Addr) (n : Nat) (es l : List Edge) (left : List Int), vs = [.ref r, .ref o] ∧ n ≤ 12 ∧ Simp n es ∧ H r = some (nLst (nearB n es)) ∧ H o = some (iL (l.map (·.1))) ∧ RunL es (allM n) l left ∧
  ∀ p q rs (v : Nat) H', Same H H' → H p = none → H q = none → H' p = some (.tup [.int v, .ref q]) → TsAt H' q rs (leastM es (allM n) (l.map (·.1))) → LotIs v left → Q (.ref p) H'
theorem call_rfolds {r o : Addr} {n : Nat} {es l : List Edge} {left : List Int} {H : Hp} {Q : VK} {E : XK} (hn : n ≤ 12) (hS : Simp n es) (hr : H r = some (nLst (nearB n es))) (ho : H o = some (iL (l.map (·.1)))) (hR : RunL es (allM n) l left)
    (fin : ∀ p q rs (v : Nat) H', Same H H' → H p = none → H q = none → H' p = some (.tup [.int v, .ref q]) → TsAt H' q rs (leastM es (allM n) (l.map (·.1))) → LotIs v left → Q (.ref p) H') : spRFolds [.ref r, .ref o] H Q E := by
  unfold spRFolds
  exact ⟨r, o, n, es, l, left, rfl, hn, hS, hr, ho, hR, fin⟩
set_option maxHeartbeats 4000000 in
theorem ok_rfolds {f : Addr} {fd : FuncData} (F : Fun K "read_folds" "read_folds" s_read_folds f fd) (mi : mg "isinstance" = none) (ml : mg "list" = none) (me : mg "enumerate" = none) (mn : mg "len" = none)
    (C1 : Cal P w K mg base "whole_lot" 1 ["near"] spWhole) (C2 : Cal P w K mg base "first_target" 1 ["near", "lot", "place"] spFirst) (C3 : Cal P w K mg base "is_place" 1 ["place", "places"] spIsPlace) :
    FnOk P w K mg base CX0 2 f fd ["near", "order"] spRFolds := by
  refine F.ok sc_read_folds (fun vs H Q E h => ?_) (fun cdv A outer s H vs Q E hr h => ?_)
  · unfold spRFolds at h
    obtain ⟨r, o, n, es, l, left, rfl, _⟩ := h
    rfl
  · have nd := sc_read_folds.nd
    have hS := sc_read_folds
    have hKM : KMark K := ⟨⟩
    refine' mk_body ?body ?rd
    case body =>
      show PSs _ [_, _, _, _, _] _
      wtm_at "fo ss"
    case rd =>
     unfold spRFolds at h
     obtain ⟨r, o, n, es, l, left, rfl, hn, hSi, hr0, ho, hR, fin⟩ := h
     have hll : l.length ≤ 12 := by
       have := (hR.length ((allM_lt n).imp fun h => by omega)).1
       rw [show (allM n).length = n by simp [allM]] at this
       omega
     have hrl : ((nearB n es).map fun (v : Nat) => V.int v).length = n + 1 := by rw [List.length_map, nearB_length]
     wtm_at "fo r"
     refine ⟨.ref o, .ty "list", _, _, true, rfl, .ty "list", .base (.lst ho), kit_ty (by decide +kernel), ?_⟩
     wtm_at "fo r"
     refine call_whole hr0 hrl (by omega) ?_
     refine ⟨(Nat.le_of_ble_eq_true rfl : _ ≤ sizeLine), fun q nq => ?_⟩
     have sm1 : Same H (upd H q (.lst [])) := same_upd (Same.refl _) nq
     have hq1 : (upd H q (.lst [])) q = some (.lst []) := upd_same
     generalize upd H q (.lst []) = H1 at *
     refine ⟨_, rfl, o, _, rfl, SqL.of (sm1 _ _ ho), ?_⟩
     refine for_enum (K := K) (xs := (l.map (·.1)).map V.int) (fun i σ H3 => ∃ (v : Nat) (y4 y5 y6 : Option V) (rs : List Addr), σ = [some (.ref r), some (.ref o), some (.int v), some (.ref q), y4, y5, y6] ∧ Same H H3 ∧ LotIs v (leftA (allM n) ((l.take i).map (·.1))) ∧ TsAt H3 q rs (leastM es (allM n) ((l.take i).map (·.1)))) ?_ ?_ ?_ ?_
     · exact ⟨_, none, none, none, [], rfl, sm1, whole_is n, TsAt.nil hq1⟩
     · rintro i σ H3 _ ⟨v, y4, y5, y6, rs, rfl, sm, hv, hT⟩
       exact SqL.of (sm _ _ ho)
     · rintro i x T σ H3 hx ⟨v, y4, y5, y6, rs, rfl, sm, hv, hT⟩ nT
       rw [List.getElem?_map, List.getElem?_map] at hx
       cases he : l[i]? with
       | none => rw [he] at hx; cases hx
       | some e =>
         rw [he] at hx
         cases hx
         obtain ⟨hR3, hp, hqo⟩ := hR.step i e he
         have htk : (l.take (i + 1)).map (·.1) = (l.take i).map (·.1) ++ [e.1] := by rw [List.take_add_one, he, List.map_append]; rfl
         have hTl : (rs.map V.ref).length < sizeLine := by
           rw [List.length_map, hT.len, leastM_length, List.length_map, List.length_take]
           exact Nat.lt_of_le_of_lt (m := 20) (by omega) (by decide)
         rw [htk, leastM_snoc, leftA_snoc]
         generalize leftA (allM n) ((l.take i).map (·.1)) = lf at *
         obtain ⟨p, g⟩ := e
         simp only at hp hqo ⊢
         have hI : InNet n lf := (inNet_all n).run hR3
         have hpr := hI.rng p hp
         obtain ⟨p, rfl⟩ : ∃ k : Nat, p = (k : Int) := ⟨p.toNat, by omega⟩
         have smT : Same H3 (upd H3 T (.tup [.int (i : Nat), .int p])) := same_upd (Same.refl _) nT
         have hT4 := hT.same smT
         have s4 := sm.trans smT
         refine Or.inl ⟨T, [.int (i : Nat), .int p], rfl, SqT.of upd_same, rfl, .int (i : Nat), [.int p], rfl, .int p, [], rfl, rfl, ?_⟩
         generalize upd H3 T (.tup [.int (i : Nat), .int p]) = H4 at *
         wtm_at "fo r"
         refine ⟨r, _, rfl, Or.inl (SqL.of (s4 _ _ hr0)), ?_⟩
         wtm_at "fo r"
         refine call_isplace ⟨_, rfl, ?_⟩
         refine ifF (by rw [decide_eq_true (by rw [hrl]; omega)]; rfl) ?_
         wtm_at "fo r"
         refine call_first hn hSi (s4 _ _ hr0) hv hI (by omega) (by omega) (fun H5 sm5 => ?_)
         have hft : ftM es lf (p : Int) = minL (ontoM es lf (p : Int)) := by unfold ftM; rw [if_pos hp]
         have hnz : ftM es lf (p : Int) ≠ 0 := fun e => by
           have := (ftM_zero (fun x hx => (hI.rng x hx).1) hp).mp e
           rw [this] at hqo
           cases hqo
         rw [hft] at hnz ⊢
         refine ⟨_, rfl, Or.inl ⟨rfl, _, rfl, ifF (by simp [hnz]) ?_⟩⟩
         have hT5 := hT4.same sm5
         have s5 := s4.trans sm5
         refine ⟨_, rfl, .inl ⟨rfl, _, SqL.of hT5.hD⟩, ?_⟩
         refine ⟨_, rfl, _, rfl, (Nat.le_of_ble_eq_true rfl : _ ≤ sizeLine), fun c nc => ?_⟩
         have hqc : q ≠ c := ne_of_none hT5.hD nc
         refine ⟨q, _, _, rfl, rfl, (upd_ne hqc).trans hT5.hD, hTl, ?_⟩
         have hT6 := hT5.push nc ((p : Int), minL (ontoM es lf (p : Int)))
         refine ⟨_, rfl, _, rfl, _, _, rfl, rfl, ⟨by omega, by omega, by decide⟩, _, _, rfl, rfl, ?_⟩
         refine ⟨v ^^^ 2 ^ p, some (.int (i : Nat)), some (.int p), some (.int (minL (ontoM es lf (p : Int)))), rs ++ [c], ?_, same_upd (same_upd s5 (s5.free nc)) nq, xor_pow hv hp, hT6⟩
         have e : Builtin.bitXor (v : Int) (1 * 2 ^ ((p : Int)).toNat) = ((v ^^^ 2 ^ p : Nat) : Int) := by
           rw [← bXor, Int.one_mul, Int.toNat_natCast, Int.natCast_pow]
           rfl
         show [some (V.ref r), some (V.ref o), some (V.int (Builtin.bitXor (v : Int) (1 * 2 ^ ((p : Int)).toNat))), some (V.ref q), some (V.int (i : Nat)), some (V.int p), some (V.int (minL (ontoM es lf (p : Int))))] = _
         rw [e]
     · rintro σ H3 ⟨v, y4, y5, y6, rs, rfl, sm, hv, hT⟩
       rw [List.length_map, List.length_map, List.take_length] at hv hT
       rw [← hR.left] at hv
       wtm_at "fo r"
       rename_i t nt
       have smt : Same H3 (upd H3 t (.tup [.int v, .ref q])) := same_upd (Same.refl _) nt
       exact fin t q rs v _ (sm.trans smt) (sm.free nt) nq upd_same (hT.same smt) hv
end
/-! piece E7 -/
section
variable {P : Program} {w : World} {K : PySem.W.Frag} {mg : Str → Option Value} {base : Heap}
/-! ### fold_map -/
@[irreducible] def spFMap : Sp := fun vs H Q _ => ∃ (q o : Addr) (n : Nat) (es l : List Edge) (left : List Int), vs = [.int n, .ref q, .ref o] ∧ 1 ≤ n ∧ n ≤ 12 ∧ Pairs H q es ∧ Simp n es ∧ es.length ≤ 200 ∧ H o = some (iL (l.map (·.1))) ∧ RunL es (allM n) l left ∧
  ∀ p H', Same H H' → H p = none → H' p = some (iL ((whereL n (leastM es (allM n) (l.map (·.1)))).drop 1)) → Q (.ref p) H'
theorem call_fmap {q o : Addr} {n : Nat} {es l : List Edge} {left : List Int} {H : Hp} {Q : VK} {E : XK} (h1 : 1 ≤ n) (hn : n ≤ 12) (hq : Pairs H q es) (hS : Simp n es) (hl : es.length ≤ 200) (ho : H o = some (iL (l.map (·.1)))) (hR : RunL es (allM n) l left)
    (fin : ∀ p H', Same H H' → H p = none → H' p = some (iL ((whereL n (leastM es (allM n) (l.map (·.1)))).drop 1)) → Q (.ref p) H') : spFMap [.int n, .ref q, .ref o] H Q E := by
  unfold spFMap
  exact ⟨q, o, n, es, l, left, rfl, h1, hn, hq, hS, hl, ho, hR, fin⟩
theorem least_len {n : Nat} {es l : List Edge} {left : List Int} (hR : RunL es (allM n) l left) (hn : n ≤ 12) : (leastM es (allM n) (l.map (·.1))).length ≤ 100 := by
  rw [leastM_length, List.length_map]
  have := (hR.length ((allM_lt n).imp fun h => by omega)).1
  rw [show (allM n).length = n by simp [allM]] at this
  omega
set_option maxHeartbeats 4000000 in
theorem ok_fmap {f : Addr} {fd : FuncData} (F : Fun K "fold_map" "fold_map" s_fold_map f fd) (C : Cal P w K mg base "read_net" 2 ["places", "lines"] spRead) (C2 : Cal P w K mg base "read_folds" 2 ["near", "order"] spRFolds) (C3 : Cal P w K mg base "goals_behind" 1 ["near", "pairs"] spGoals) :
    FnOk P w K mg base CX0 3 f fd ["places", "lines", "order"] spFMap := by
  refine F.ok sc_fold_map (fun vs H Q E h => ?_) (fun cdv A outer s H vs Q E hr h => ?_)
  · unfold spFMap at h
    obtain ⟨q, o, n, es, l, left, rfl, _⟩ := h
    rfl
  · have nd := sc_fold_map.nd
    have hS := sc_fold_map
    have hKM : KMark K := ⟨⟩
    refine' mk_body ?body ?rd
    case body =>
      show PSs _ [_, _, _] _
      wtm_at "fo ss"
    case rd =>
     unfold spFMap at h
     obtain ⟨q, o, n, es, l, left, rfl, h1, hn, hq, hSi, hl, ho, hR, fin⟩ := h
     wtm_at "fo r"
     refine call_read h1 hn hq hSi hl (fun r H1 sm1 nr hr1 => ?_)
     wtm_at "fo r"
     refine call_rfolds hn hSi hr1 (sm1 _ _ ho) hR (fun p q2 rs v H2 sm2 np nq2 hp2 hT hv => ?_)
     refine Or.inl ⟨p, [.int v, .ref q2], rfl, SqT.of hp2, rfl, .int v, [.ref q2], rfl, .ref q2, [], rfl, rfl, ?_⟩
     wtm_at "fo r"
     refine call_goals hn (sm2 _ _ hr1) (by rw [List.length_map, nearB_length]) hT (Nat.le_trans (least_len hR hn) (by decide)) (hR.least.rng (inNet_all n)) (fun p3 H3 sm3 np3 hp3 => ?_)
     exact fin p3 H3 ((sm1.trans sm2).trans sm3) ((sm1.trans sm2).free np3) hp3
end
/-! tactics TAC4 -/
local macro_rules | `(tactic| wtm_at "fo e") => `(tactic| first
  | ((with_reducible show PE _ (.UnaryOp .Invert _ _) _); apply pe_un un_inv; wtm_at "fo e")
  | ((with_reducible show PE _ (.BoolOp .Or [_] _) _); apply pe_one; wtm_at "fo e")
  | ((with_reducible show PE _ (.BoolOp .Or _ _) _); apply pe_or; (· wtm_at "fo e"); (· wtm_at "fo e"))
  | ((with_reducible show PE _ (.BinOp _ .Mult _ _) _); apply pe_op opMulB <;> wtm_at "fo e")
  | ((with_reducible show PE _ (.BinOp _ .BitOr _ _) _); apply pe_op op_or <;> wtm_at "fo e")
  | ((with_reducible show PE _ (.Compare _ [.Is] [.Constant .none _ _] _) _); refine' pe_cmpR op_isN ?ka ?kb (nomark _); (case ka => wtm_at "fo e"); (case kb => wtm_at "fo e"))
  | fail "no")
local macro_rules | `(tactic| wtm_at "fo t") => `(tactic| first
  | ((with_reducible show PT _ (.Compare _ [.Is] [.Constant .none _ _] _) _); refine' pt_cmpR op_isN ?ka ?kb (nomark _); (case ka => wtm_at "fo e"); (case kb => wtm_at "fo e"))
  | ((with_reducible show PT _ (.Compare _ [.IsNot] [.Constant .none _ _] _) _); refine' pt_cmpR op_notN ?ka ?kb (nomark _); (case ka => wtm_at "fo e"); (case kb => wtm_at "fo e"))
  | fail "no")
local macro_rules | `(tactic| wtm_at "fo i") => `(tactic| first
  | ((with_reducible show PI _ _ (.Call (.Name (Str.ofString "enumerate") _) [_, _] [] _) _); refine' pi_enumC (by assumption) (by exact rfl) (by rfl) (by assumption) ?ka; (case ka => wtm_at "fo a"))
  | ((with_reducible show PI _ _ (.Call (.Name (Str.ofString "enumerate") _) [_] [_] _) _); refine' pi_enumS (by assumption) (by exact rfl) (by rfl) (by assumption) ?ka ?kb; (case ka => wtm_at "fo a"); (case kb => wtm_at "fo k"))
  | fail "no")
local macro_rules | `(tactic| wtm_at "fo own") => `(tactic| first
  | ((show _ = [2, 4]); kernel_rfl!)
  | ((show _ = [4, 2]); kernel_rfl!)
  | fail "no")
local macro_rules | `(tactic| wtm_at "fo v") => `(tactic| ((with_reducible show PE _ (.Name (Str.ofString "tuple") _) _); exact pe_bltn (v := .ty "tuple") (by rfl) (by assumption) (by decide +kernel) rfl))
/-! piece PA -/
section
local macro_rules | `(tactic| wtm_at "fo e") => `(tactic| ((with_reducible show PE _ (.UnaryOp .Invert _ _) _); apply pe_un un_inv; wtm_at "fo e"))
/-! ### fold_around -/
theorem sub_and : ∀ (k v h : Nat), (v - (v &&& h)).testBit k = (v.testBit k && !h.testBit k)
  | 0, v, h => by
    have h1 := Nat.and_mod_two_eq_one (a := v) (b := h)
    have h2 : v &&& h ≤ v := Nat.and_le_left
    rw [Nat.testBit_zero, Nat.testBit_zero, Nat.testBit_zero, ← decide_not, ← Bool.decide_and]
    apply decide_eq_decide.mpr
    generalize v &&& h = m at *
    omega
  | k + 1, v, h => by
    have h1 := Nat.and_mod_two_eq_one (a := v) (b := h)
    have h2 : v &&& h ≤ v := Nat.and_le_left
    have h3 : (v &&& h) / 2 = v / 2 &&& h / 2 := Nat.and_div_two
    have h4 : (v - (v &&& h)) / 2 = v / 2 - (v / 2 &&& h / 2) := by
      rw [← h3]
      clear h3
      generalize v &&& h = m at *
      omega
    rw [Nat.testBit_succ, Nat.testBit_succ, Nat.testBit_succ, h4]
    exact sub_and k (v / 2) (h / 2)
theorem and_not_lot {v h : Nat} {left hs : List Int} (hv : LotIs v left) (hh : LotIs h hs) : ∃ u : Nat, Builtin.bitAnd (v : Int) (Builtin.bitNot (h : Int)) = (u : Int) ∧ LotIs u (left.filter fun x => decide (x ∉ hs)) := by
  have h1 : v &&& h ≤ v := Nat.and_le_left
  refine ⟨v - (v &&& h), ?_, fun k => ?_⟩
  · have e1 : Builtin.bitNot (h : Int) = -(h : Int) - 1 := rfl
    have e2 : Builtin.bitNot (Builtin.bitNot (h : Int)) = (h : Int) := by show -(-(h : Int) - 1) - 1 = (h : Int); omega
    unfold Builtin.bitAnd
    rw [decide_eq_true (Int.natCast_nonneg v), decide_eq_false (show ¬ (0 ≤ Builtin.bitNot (h : Int)) by rw [e1]; omega)]
    show (v : Int) - (((v : Int).toNat &&& (Builtin.bitNot (Builtin.bitNot (h : Int))).toNat : Nat) : Int) = _
    rw [e2, Int.toNat_natCast, Int.toNat_natCast]
    omega
  · rw [sub_and, hv, hh, ← decide_not, ← Bool.decide_and]
    apply decide_eq_decide.mpr
    rw [List.mem_filter, decide_eq_true_eq]
@[irreducible] def spAround : Sp := fun vs H Q _ => ∃ (r : Addr) (n h : Nat) (es : List Edge) (hs : List Int), vs = [.ref r, .int h] ∧ n ≤ 12 ∧ Simp n es ∧ H r = some (nLst (nearB n es)) ∧ LotIs h hs ∧
  ∀ p q rs (v : Nat) ps left H', aroundA n es hs = (left, ps) → Same H H' → H p = none → H q = none → H' p = some (.tup [.int v, .ref q]) → TsAt H' q rs ps → LotIs v left → RunL es (allM n) ps left → (∀ e ∈ ps, e.1 ∉ hs) → (∀ x ∈ left, x ∉ hs → ontoM es left x = []) → Q (.ref p) H'
theorem call_around {r : Addr} {n h : Nat} {es : List Edge} {hs : List Int} {H : Hp} {Q : VK} {E : XK} (hn : n ≤ 12) (hS : Simp n es) (hr : H r = some (nLst (nearB n es))) (hh : LotIs h hs)
    (fin : ∀ p q rs (v : Nat) ps left H', aroundA n es hs = (left, ps) → Same H H' → H p = none → H q = none → H' p = some (.tup [.int v, .ref q]) → TsAt H' q rs ps → LotIs v left → RunL es (allM n) ps left → (∀ e ∈ ps, e.1 ∉ hs) → (∀ x ∈ left, x ∉ hs → ontoM es left x = []) → Q (.ref p) H') : spAround [.ref r, .int h] H Q E := by
  unfold spAround
  exact ⟨r, n, h, es, hs, rfl, hn, hS, hr, hh, fin⟩
variable {P : Program} {w : World} {K : PySem.W.Frag} {mg : Str → Option Value} {base : Heap}
set_option maxHeartbeats 4000000 in
theorem ok_around {f : Addr} {fd : FuncData} (F : Fun K "fold_around" "fold_around" s_fold_around f fd)
    (C1 : Cal P w K mg base "whole_lot" 1 ["near"] spWhole) (C2 : Cal P w K mg base "first_target" 1 ["near", "lot", "place"] spFirst) (C3 : Cal P w K mg base "members" 1 ["lot"] spMembers) :
    FnOk P w K mg base CX0 2 f fd ["near", "held"] spAround := by
  refine F.ok sc_fold_around (fun vs H Q E h => ?_) (fun cdv A outer s H vs Q E hr h => ?_)
  · unfold spAround at h
    obtain ⟨r, n, h, es, hs, rfl, _⟩ := h
    rfl
  · have nd := sc_fold_around.nd
    have hS := sc_fold_around
    have hKM : KMark K := ⟨⟩
    refine' mk_body ?body ?rd
    case body =>
      show PSs _ [_, _, _, _, _] _
      wtm_at "fo ss"
    case rd =>
     unfold spAround at h
     obtain ⟨r, n, h, es, hs, rfl, hn, hSi, hr0, hh, fin⟩ := h
     have hrl : ((nearB n es).map fun (v : Nat) => V.int v).length = n + 1 := by rw [List.length_map, nearB_length]
     refine ⟨_, rfl, ?_⟩
     refine call_whole hr0 hrl (by omega) ?_
     refine ⟨(Nat.le_of_ble_eq_true rfl : _ ≤ sizeLine), fun q nq => ?_⟩
     have sm1 : Same H (upd H q (.lst [])) := same_upd (Same.refl _) nq
     have hq1 : (upd H q (.lst [])) q = some (.lst []) := upd_same
     generalize upd H q (.lst []) = H1 at *
     let W : Nat → Sl → Hp → Prop := fun m σ H2 => ∃ (v : Nat) (left : List Int) (ps : List Edge) (rs : List Addr) (b : Bool) (y5 y6 : Option V), σ = [some (.ref r), some (.int h), some (.int v), some (.ref q), some (.bl b), y5, y6] ∧ m = left.length + (if b then 1 else 0) ∧ Same H H2 ∧ LotIs v left ∧ TsAt H2 q rs ps ∧ RunL es (allM n) ps left ∧ (∀ e ∈ ps, e.1 ∉ hs) ∧ (b = false → ∀ x ∈ left, x ∉ hs → ontoM es left x = []) ∧ ∃ k, iterA n es hs k = (left, ps) ∧ k + left.length ≤ n ∧ (b = false → passA es hs (left, ps) = (left, ps))
     refine ⟨W, ⟨_, _, allM n, [], [], true, none, none, rfl, rfl, sm1, whole_is n, TsAt.nil hq1, .nil _, (fun e he => nomatch he), (fun hh => nomatch hh), 0, rfl, by simp [allM], (fun hh => nomatch hh)⟩, fun m σ H2 hW => ?_⟩
     obtain ⟨v, left, ps, rs, b, y5, y6, rfl, rfl, sm2, hv, hT, hR, hke, hst, kk, hkk, hkl, hpf⟩ := hW
     have hI : InNet n left := (inNet_all n).run hR
     refine ⟨_, rfl, b, rfl, ?_⟩
     cases b with
     | false =>
       refine ifF rfl ?_
       refine ⟨_, rfl, _, rfl, (Nat.le_of_ble_eq_true rfl : _ ≤ sizeLine), fun t nt => ?_⟩
       have smt : Same H2 (upd H2 t (.tup [.int v, .ref q])) := same_upd (Same.refl _) nt
       exact fin t q rs v ps left _ (by rw [aroundA_is (k := kk) (by omega) (by rw [hkk]; exact hpf rfl), hkk]) (sm2.trans smt) (sm2.free nt) nq upd_same (hT.same smt) hv hR hke (hst rfl)
     | true =>
       refine ifT rfl ?_
       refine ⟨fun σ' H' => ∃ m', m' < left.length + 1 ∧ W m' σ' H', fun _ _ h => h, ?_⟩
       obtain ⟨u, hu, hul⟩ := and_not_lot hv hh
       refine ⟨_, rfl, _, rfl, _, rfl, _, _, rfl, rfl, ?_⟩
       have hmm : ∀ Q E, spMembers [.int (u : Int)] H2 Q E → spMembers [.int (Builtin.bitAnd (v : Int) (Builtin.bitNot (h : Int)))] H2 Q E := fun _ _ hx => by rw [hu]; exact hx
       refine hmm _ _ ?_
       generalize hxs : (left.filter fun x => decide (x ∉ hs)) = xs at *
       have hxl : xs.Pairwise (· < ·) := by rw [← hxs]; exact List.Pairwise.filter _ hI.lt
       have hxm : ∀ x ∈ xs, x ∈ left ∧ x ∉ hs := fun x hx => by
         rw [← hxs] at hx
         obtain ⟨h1, h2⟩ := List.mem_filter.mp hx
         exact ⟨h1, of_decide_eq_true h2⟩
       refine call_members (Nat.lt_of_lt_of_le (lot_small hul fun x hx => (hI.rng x (hxm x hx).1).2) (Nat.pow_le_pow_right (by decide) (by omega))) (fun p H3 sm3 np hp => ?_)
       rw [members_lot hul hxl fun x hx => (hI.rng x (hxm x hx).1).1] at hp
       have hqp : q ≠ p := ne_of_none hT.hD np
       refine ⟨p, rfl, ⟨_, SqL.of hp⟩, ?_⟩
       refine for_list (K := K) (xs := xs.map V.int) (fun i σ H4 => ∃ (v2 : Nat) (left2 : List Int) (ps2 : List Edge) (rs2 : List Addr) (b2 : Bool) (y5 y6 : Option V), σ = [some (.ref r), some (.int h), some (.int v2), some (.ref q), some (.bl b2), y5, y6] ∧ Same H H4 ∧ H4 p = some (iL xs) ∧ LotIs v2 left2 ∧ TsAt H4 q rs2 ps2 ∧ RunL es (allM n) ps2 left2 ∧ (∀ e ∈ ps2, e.1 ∉ hs) ∧
         (xs.take i).foldl (stepA es) (left, ps) = (left2, ps2) ∧ (b2 = false → (left2 = left ∧ ps2 = ps) ∧ ∀ k x, k < i → xs[k]? = some x → ontoM es left x = []) ∧ (b2 = true → left2.length < left.length) ∧ (∀ k x, i ≤ k → xs[k]? = some x → x ∈ left2)) ?_ ?_ ?_ ?_
       · exact ⟨v, left, ps, rs, false, y5, y6, rfl, sm2.trans sm3, hp, hv, hT.same sm3, hR, hke, rfl, fun _ => ⟨⟨rfl, rfl⟩, fun k x hk => absurd hk (Nat.not_lt_zero k)⟩, (fun e => nomatch e), fun k x _ hx => (hxm x (List.mem_of_getElem? hx)).1⟩
       · rintro i σ H4 _ ⟨v2, left2, ps2, rs2, b2, y5, y6, rfl, sm, hp4, _⟩
         exact SqL.of hp4
       · rintro i x σ H4 hx ⟨v2, left2, ps2, rs2, b2, y5, y6, rfl, sm4, hp4, hv2, hT4, hR4, hke4, hfd, hf4, ht4, hm4⟩
         have htk : (xs.take (i + 1)).foldl (stepA es) (left, ps) = stepA es (left2, ps2) ((xs[i]?).getD 0) := by
           rw [List.take_add_one, List.foldl_append, hfd]
           cases hq : xs[i]? with
           | none => rw [List.getElem?_map, hq] at hx; cases hx
           | some r => rfl
         obtain ⟨z, hz, rfl⟩ : ∃ z, xs[i]? = some z ∧ x = V.int z := by
           rw [List.getElem?_map] at hx
           cases hq : xs[i]? with
           | none => rw [hq] at hx; cases hx
           | some r => rw [hq] at hx; exact ⟨r, rfl, (Option.some.inj hx).symm⟩
         have hI2 : InNet n left2 := (inNet_all n).run hR4
         have hz2 := hm4 i z (Nat.le_refl i) hz
         have hzr := hI2.rng z hz2
         have hzh := (hxm z (List.mem_of_getElem? hz)).2
         have hl4 := (hR4.length ((allM_lt n).imp fun h => by omega)).1
         rw [show (allM n).length = n by simp [allM]] at hl4
         obtain ⟨z, rfl⟩ : ∃ k : Nat, z = (k : Int) := ⟨z.toNat, by omega⟩
         refine ⟨_, rfl, _, rfl, _, rfl, ?_⟩
         refine call_first hn hSi (sm4 _ _ hr0) hv2 hI2 (by omega) (by omega) (fun H5 sm5 => ?_)
         have s5 := sm4.trans sm5
         have hT5 := hT4.same sm5
         have hp5 := sm5 _ _ hp4
         refine ⟨_, rfl, _, rfl, ?_⟩
         have hzero := ftM_zero (es := es) (fun x hx => (hI2.rng x hx).1) hz2
         by_cases h0 : ftM es left2 (z : Int) = 0
         · refine ifF (by rw [h0]; rfl) ?_
           refine ⟨v2, left2, ps2, rs2, b2, _, _, rfl, s5, hp5, hv2, hT5, hR4, hke4, ?_, fun e => ?_, ht4, fun k x hk => hm4 k x (by omega)⟩
           · rw [htk, hz]
             show stepA es (left2, ps2) (z : Int) = _
             unfold stepA
             rw [if_pos (hzero.mp h0)]
           obtain ⟨e1, e2⟩ := hf4 e
           refine ⟨e1, fun k x hk hx2 => ?_⟩
           by_cases hki : k = i
           · rw [hki, hz] at hx2
             cases hx2
             rw [← e1.1]
             exact hzero.mp h0
           · exact e2 k x (by omega) hx2
         · refine ifT (by simp [h0]) ?_
           have hft : ftM es left2 (z : Int) = minL (ontoM es left2 (z : Int)) := by unfold ftM; rw [if_pos hz2]
           have hgo : ftM es left2 (z : Int) ∈ ontoM es left2 (z : Int) := by
             rw [hft]
             exact minL_mem fun e => h0 (hzero.mpr e)
           have hst2 : stepA es (left2, ps2) (z : Int) = (without left2 z, ps2 ++ [((z : Int), ftM es left2 (z : Int))]) := by
             unfold stepA
             rw [if_neg (fun e => h0 (hzero.mpr e)), ← hft]
           generalize ftM es left2 (z : Int) = g at *
           refine ⟨_, rfl, .inl ⟨rfl, _, SqL.of hT5.hD⟩, ?_⟩
           refine ⟨_, rfl, _, rfl, (Nat.le_of_ble_eq_true rfl : _ ≤ sizeLine), fun c nc => ?_⟩
           have hqc : q ≠ c := ne_of_none hT5.hD nc
           have hpc : p ≠ c := ne_of_none hp5 nc
           refine ⟨q, _, _, rfl, rfl, (upd_ne hqc).trans hT5.hD, ?_, ?_⟩
           · rw [List.length_map, hT5.len]
             exact Nat.lt_of_le_of_lt (m := 20) (by omega) (by decide)
           have hT6 := hT5.push nc ((z : Int), g)
           have hR6 := hR4.snoc hz2 hgo
           have hl6 := (hR6.length ((allM_lt n).imp fun h => by omega)).1
           rw [show (allM n).length = n by simp [allM], List.length_append, List.length_singleton] at hl6
           refine ⟨_, rfl, _, rfl, _, _, rfl, rfl, ⟨by omega, by omega, by decide⟩, _, _, rfl, rfl, ?_⟩
           refine ⟨v2 ^^^ 2 ^ z, without left2 z, ps2 ++ [((z : Int), g)], rs2 ++ [c], true, some (.int z), some (.int g), ?_, same_upd (same_upd s5 (s5.free nc)) nq, ?_, xor_pow hv2 hz2, hT6, hR6, ?_, ?_, (fun e => nomatch e), fun _ => ?_, fun k x hk hx => ?_⟩
           · have e : Builtin.bitXor (v2 : Int) (1 * 2 ^ ((z : Int)).toNat) = ((v2 ^^^ 2 ^ z : Nat) : Int) := by
               rw [← bXor, Int.one_mul, Int.toNat_natCast, Int.natCast_pow]
               rfl
             show [some (V.ref r), some (V.int h), some (V.int (Builtin.bitXor (v2 : Int) (1 * 2 ^ ((z : Int)).toNat))), some (V.ref q), some (V.bl true), some (V.int z), some (V.int g)] = _
             rw [e]
           · exact (upd_ne hqp.symm).trans ((upd_ne hpc).trans hp5)
           · intro e he
             rcases List.mem_append.mp he with he | he
             · exact hke4 e he
             · rw [List.mem_singleton.mp he]
               exact hzh
           · rw [htk, hz]
             exact hst2
           · have : left2.length ≤ left.length := by
               cases b2 with
               | false => rw [(hf4 rfl).1.1]; exact Nat.le_refl _
               | true => exact Nat.le_of_lt (ht4 rfl)
             omega
           · refine without_mem.mpr ⟨hm4 k x (by omega) hx, fun e => ?_⟩
             rw [e] at hx
             have := nd_ix (hxl.imp fun h => by omega : xs.Nodup) hx hz
             omega
       · rintro σ H4 ⟨v2, left2, ps2, rs2, b2, y5, y6, rfl, sm4, hp4, hv2, hT4, hR4, hke4, hfd, hf4, ht4, hm4⟩
         rw [List.length_map, List.take_length] at hfd
         have hpp : passA es hs (left, ps) = (left2, ps2) := by unfold passA; rw [hxs]; exact hfd
         refine ⟨left2.length + (if b2 then 1 else 0), ?_, v2, left2, ps2, rs2, b2, y5, y6, rfl, rfl, sm4, hv2, hT4, hR4, hke4, fun e x hx hxh => ?_, ?_⟩
         · cases b2 with
           | false => rw [(hf4 rfl).1.1]; exact Nat.lt_succ_self _
           | true =>
             have := ht4 rfl
             simp only [if_true]
             omega
         · obtain ⟨e1, e2⟩ := hf4 e
           rw [e1.1] at hx ⊢
           obtain ⟨k, hk⟩ := List.getElem?_of_mem (show x ∈ xs by rw [← hxs]; exact List.mem_filter.mpr ⟨hx, decide_eq_true hxh⟩)
           exact e2 k x (by rw [List.length_map]; exact (List.getElem?_eq_some_iff.mp hk).1) hk
         · cases b2 with
           | false =>
             obtain ⟨e1, e2⟩ := (hf4 rfl).1
             subst e1
             subst e2
             exact ⟨kk, hkk, hkl, fun _ => hpp⟩
           | true =>
             have := ht4 rfl
             exact ⟨kk + 1, by show passA es hs (iterA n es hs kk) = _; rw [hkk]; exact hpp, by omega, (fun e => nomatch e)⟩
end
/-! piece PB -/
section
variable {P : Program} {w : World} {K : PySem.W.Frag} {mg : Str → Option Value} {base : Heap}
theorem lot_nil : LotIs 0 [] := fun k => by simp
/-- a comprehension over pairs, tuples, that filters and tells -/
theorem lc_ts {K : PySem.W.Frag} {q : Addr} {rs : List Addr} {ps : List Edge} {i j : Nat} {tt : TT} {te : TE} {vs : List Nat} {σ : Sl} {H1 : Hp} {D : Addr} {Qd : Hp → Prop} (f : Edge → Bool) (e : Edge → V)
    (hT : TsAt H1 q rs ps) (nD : H1 D = none) (hn : ps.length ≤ 10000) (hw : ∀ u v, wipe (((wipe σ vs).set i (some u)).set j (some v)) vs = wipe σ vs)
    (ht : ∀ x ∈ ps, ∀ H2, Same H1 H2 → ∀ R : Bool → Hp → Prop, (∀ H3, Same H2 H3 → R (f x) H3) → tt (((wipe σ vs).set i (some (.int x.1))).set j (some (.int x.2))) H2 R)
    (he : ∀ x ∈ ps, f x = true → ∀ H2, Same H1 H2 → ∀ R : V → Hp → Prop, (∀ H3, Same H2 H3 → R (e x) H3) → te (((wipe σ vs).set i (some (.int x.1))).set j (some (.int x.2))) H2 R)
    (hd : ∀ H2, Same H1 H2 → H2 D = some (.lst ((ps.filter f).map e)) → Qd H2) :
    ∃ W : Nat → Nat → Hp → Prop, (∃ m, W 0 m (upd H1 D (.lst []))) ∧ ∀ i' m H, W i' m H →
      ((Itl K q).stop i' H ∧ Qd H) ∨ ((Itl K q).go i' H ∧ ∃ Nx : Hp → Prop, (∀ H', Nx H' → ∃ m', m' < m ∧ W (i' + 1) m' H') ∧ ∀ x H', (Itl K q).yld i' H x H' → gOr (gTup K 2 (gCons (gName i) (gCons (gName j) gNil))) (gUnl K 2 (gCons (gName i) (gCons (gName j) gNil))) x (wipe σ vs) H' fun σ2 H2 => wipe σ2 vs = wipe σ vs ∧ tt σ2 H2 fun b H3 =>
        if b = true then te σ2 H3 fun y H4 => ∃ acc, H4 D = some (.lst acc) ∧ acc.length < sizeLine ∧ Nx (upd H4 D (.lst (acc ++ [y]))) else Nx H3) := by
  refine lc_list (K := K) (xs := rs.map V.ref) (fun k H2 => Same H1 H2 ∧ H2 D = some (.lst (((ps.take k).filter f).map e))) ⟨same_upd (Same.refl _) nD, upd_same⟩ ?_ ?_ ?_
  · rintro k H2 _ ⟨sm, _⟩
    exact SqL.of (sm _ _ hT.hD)
  · rintro k x H2 hx ⟨sm, hD⟩
    rw [List.getElem?_map] at hx
    cases hc : rs[k]? with
    | none => rw [hc] at hx; cases hx
    | some c =>
      rw [hc] at hx
      cases hx
      have hkl : k < ps.length := by rw [← hT.len]; exact (List.getElem?_eq_some_iff.mp hc).1
      have hv : ps[k]? = some ps[k] := List.getElem?_eq_getElem hkl
      have hce := sm _ _ (hT.at_ _ _ _ hc hv)
      have hm := List.getElem_mem hkl
      have htk : ps.take (k + 1) = ps.take k ++ [ps[k]] := by rw [List.take_add_one, hv]; rfl
      generalize ps[k] = y at *
      refine Or.inl ⟨c, [.int y.1, .int y.2], rfl, SqT.of hce, rfl, .int y.1, [.int y.2], rfl, .int y.2, [], rfl, rfl, ?_⟩
      refine ⟨hw _ _, ht y hm H2 sm _ fun H3 sm3 => ?_⟩
      cases hf : f y with
      | false =>
        refine ifF rfl ⟨sm.trans sm3, ?_⟩
        rw [htk, List.filter_append, List.filter_cons, hf]
        simpa using sm3 _ _ hD
      | true =>
        refine ifT rfl (he y hm hf H3 (sm.trans sm3) _ fun H4 sm4 => ?_)
        refine ⟨_, sm4 _ _ (sm3 _ _ hD), ?_, same_upd ((sm.trans sm3).trans sm4) nD, ?_⟩
        · rw [List.length_map]
          exact Nat.lt_of_le_of_lt (Nat.le_trans (List.length_filter_le ..) (Nat.le_trans (by rw [List.length_take]; exact Nat.min_le_right _ _) hn)) (by decide)
        · rw [upd_same, htk, List.filter_append, List.filter_cons, hf, List.map_append]
          simp
  · rintro H2 ⟨sm, hD⟩
    rw [List.length_map, hT.len, List.take_length] at hD
    exact hd H2 sm hD
/-! ### _order_around, full_order, end_size, all_lead -/
@[irreducible] def spOA : Sp := fun vs H Q _ => ∃ (r : Addr) (n h : Nat) (es : List Edge) (hs : List Int), vs = [.ref r, .int h] ∧ n ≤ 12 ∧ Simp n es ∧ H r = some (nLst (nearB n es)) ∧ LotIs h hs ∧
  ∀ p ps left H', aroundA n es hs = (left, ps) → Same H H' → H p = none → H' p = some (iL (ps.map (·.1))) → RunL es (allM n) ps left → (∀ e ∈ ps, e.1 ∉ hs) → (∀ x ∈ left, x ∉ hs → ontoM es left x = []) → Q (.ref p) H'
theorem call_oa {r : Addr} {n h : Nat} {es : List Edge} {hs : List Int} {H : Hp} {Q : VK} {E : XK} (hn : n ≤ 12) (hS : Simp n es) (hr : H r = some (nLst (nearB n es))) (hh : LotIs h hs)
    (fin : ∀ p ps left H', aroundA n es hs = (left, ps) → Same H H' → H p = none → H' p = some (iL (ps.map (·.1))) → RunL es (allM n) ps left → (∀ e ∈ ps, e.1 ∉ hs) → (∀ x ∈ left, x ∉ hs → ontoM es left x = []) → Q (.ref p) H') : spOA [.ref r, .int h] H Q E := by
  unfold spOA
  exact ⟨r, n, h, es, hs, rfl, hn, hS, hr, hh, fin⟩
set_option maxHeartbeats 4000000 in
theorem ok_oa {f : Addr} {fd : FuncData} (F : Fun K "_order_around" "_order_around" s_order_around f fd) (C : Cal P w K mg base "fold_around" 2 ["near", "held"] spAround) :
    FnOk P w K mg base CX0 3 f fd ["near", "held"] spOA := by
  refine F.ok sc_order_around (fun vs H Q E h => ?_) (fun cdv A outer s H vs Q E hr h => ?_)
  · unfold spOA at h
    obtain ⟨r, n, h, es, hs, rfl, _⟩ := h
    rfl
  · have nd := sc_order_around.nd
    have hS := sc_order_around
    have hKM : KMark K := ⟨⟩
    refine' mk_body ?body ?rd
    case body =>
      show PSs _ [_, _] _
      wtm_at "fo ss"
    case rd =>
     unfold spOA at h
     obtain ⟨r, n, h, es, hs, rfl, hn, hSi, hr0, hh, fin⟩ := h
     wtm_at "fo r"
     refine call_around hn hSi hr0 hh (fun p q rs v ps left H1 hA sm1 np nq hp hT hv hR hke hst => ?_)
     refine Or.inl ⟨p, [.int v, .ref q], rfl, SqT.of hp, rfl, .int v, [.ref q], rfl, .ref q, [], rfl, rfl, ?_⟩
     refine ⟨_, rfl, q, rfl, ⟨_, SqL.of hT.hD⟩, fun D nD => ?_⟩
     have hl := hR.len12
     refine lc_ts (fun _ => true) (fun e => V.int e.1) hT nD (by omega) (fun _ _ => rfl) (fun x _ H2 _ R hR => hR H2 (Same.refl _)) (fun x _ _ H2 _ R hR => ⟨_, rfl, hR H2 (Same.refl _)⟩) ?_
     intro H2 sm2 hD2
     rw [List.filter_eq_self.mpr (fun _ _ => rfl)] at hD2
     refine fin D ps left H2 hA (sm1.trans sm2) (sm1.free nD) ?_ hR hke hst
     rw [hD2]
     unfold iL
     rw [List.map_map]
     rfl
/-! what is left at last -/
structure EndOf (n : Nat) (es ps : List Edge) (left : List Int) : Prop where
  is : aroundA n es [] = (left, ps)
  run : RunL es (allM n) ps left
  st : foldableM es left = []
theorem EndOf.of {n : Nat} {es ps : List Edge} {left : List Int} (hA : aroundA n es [] = (left, ps)) (hR : RunL es (allM n) ps left) (hst : ∀ x ∈ left, x ∉ ([] : List Int) → ontoM es left x = []) : EndOf n es ps left := by
  refine ⟨hA, hR, ?_⟩
  unfold foldableM
  rw [List.filter_eq_nil_iff]
  intro x hx
  simp [hst x hx (by simp)]
@[irreducible] def spFull : Sp := fun vs H Q _ => ∃ (q : Addr) (n : Nat) (es : List Edge), vs = [.int n, .ref q] ∧ 1 ≤ n ∧ n ≤ 12 ∧ Pairs H q es ∧ Simp n es ∧ es.length ≤ 200 ∧
  ∀ p ps left H', EndOf n es ps left → Same H H' → H p = none → H' p = some (iL (ps.map (·.1))) → Q (.ref p) H'
theorem call_full {q : Addr} {n : Nat} {es : List Edge} {H : Hp} {Q : VK} {E : XK} (h1 : 1 ≤ n) (hn : n ≤ 12) (hq : Pairs H q es) (hS : Simp n es) (hl : es.length ≤ 200)
    (fin : ∀ p ps left H', EndOf n es ps left → Same H H' → H p = none → H' p = some (iL (ps.map (·.1))) → Q (.ref p) H') : spFull [.int n, .ref q] H Q E := by
  unfold spFull
  exact ⟨q, n, es, rfl, h1, hn, hq, hS, hl, fin⟩
set_option maxHeartbeats 4000000 in
theorem ok_full {f : Addr} {fd : FuncData} (F : Fun K "full_order" "full_order" s_full_order f fd) (C : Cal P w K mg base "read_net" 2 ["places", "lines"] spRead) (C2 : Cal P w K mg base "_order_around" 3 ["near", "held"] spOA) :
    FnOk P w K mg base CX0 4 f fd ["places", "lines"] spFull := by
  refine F.ok sc_full_order (fun vs H Q E h => ?_) (fun cdv A outer s H vs Q E hr h => ?_)
  · unfold spFull at h
    obtain ⟨q, n, es, rfl, _⟩ := h
    rfl
  · have nd := sc_full_order.nd
    have hS := sc_full_order
    have hKM : KMark K := ⟨⟩
    refine' mk_body ?body ?rd
    case body =>
      show PSs _ [_] _
      wtm_at "fo ss"
    case rd =>
     unfold spFull at h
     obtain ⟨q, n, es, rfl, h1, hn, hq, hSi, hl, fin⟩ := h
     wtm_at "fo r"
     refine call_read h1 hn hq hSi hl (fun r H1 sm1 nr hr1 => ?_)
     exact call_oa hn hSi hr1 lot_nil (fun p ps left H2 hA sm2 np hp hR hke hst => fin p ps left H2 (.of hA hR hst) (sm1.trans sm2) (sm1.free np) hp)
end
/-! piece PFm -/
section
/-! ### rows of numbers in a list -/
structure RwAt (H : Hp) (D : Addr) (rs : List Addr) (ts : List (List Int)) : Prop where
  hD : H D = some (.lst (rs.map V.ref))
  len : rs.length = ts.length
  at_ : ∀ (i : Nat) (r : Addr) (t : List Int), rs[i]? = some r → ts[i]? = some t → H r = some (iL t)
theorem RwAt.mem {H : Hp} {D : Addr} {rs : List Addr} {ts : List (List Int)} (h : RwAt H D rs ts) {r : Addr} (hr : r ∈ rs) : ∃ t ∈ ts, H r = some (iL t) := by
  obtain ⟨i, hi⟩ := List.getElem?_of_mem hr
  have hl : i < ts.length := by rw [← h.len]; exact (List.getElem?_eq_some_iff.mp hi).1
  exact ⟨ts[i], List.getElem_mem hl, h.at_ i r _ hi (List.getElem?_eq_getElem hl)⟩
theorem iL_ne_refs {t : List Int} {rs : List Addr} (h : t ≠ [] ∨ rs ≠ []) : iL t ≠ .lst (rs.map V.ref) := by
  intro e
  unfold iL at e
  injection e with e
  cases t with
  | nil => cases rs with
    | nil => rcases h with h | h <;> exact h rfl
    | cons b r => simp at e
  | cons a l => cases rs with
    | nil => simp at e
    | cons b r => simp at e
theorem RwAt.nil {H : Hp} {D : Addr} (h : H D = some (.lst [])) : RwAt H D [] [] := ⟨h, rfl, fun i r t h _ => by simp at h⟩
theorem RwAt.same {H H' : Hp} {D : Addr} {rs : List Addr} {ts : List (List Int)} (h : RwAt H D rs ts) (s : Same H H') : RwAt H' D rs ts :=
  ⟨s _ _ h.hD, h.len, fun i r t a b => s _ _ (h.at_ i r t a b)⟩
/-- one more row, that is not the list itself -/
theorem RwAt.push {H : Hp} {D r : Addr} {rs : List Addr} {ts : List (List Int)} {t : List Int} (h : RwAt H D rs ts) (hr : H r = some (iL t)) (hrD : r ≠ D) (hnD : D ∉ rs) :
    RwAt (upd H D (.lst (rs.map V.ref ++ [V.ref r]))) D (rs ++ [r]) (ts ++ [t]) := by
  refine ⟨?_, ?_, ?_⟩
  · rw [upd_same, List.map_append]
    rfl
  · rw [List.length_append, List.length_append, h.len]
    rfl
  · intro i a u ha hu
    by_cases hi : i < rs.length
    · rw [List.getElem?_append_left hi] at ha
      rw [List.getElem?_append_left (by rw [← h.len]; exact hi)] at hu
      rw [upd_ne (fun e => hnD (by rw [← e]; exact List.mem_of_getElem? ha))]
      exact h.at_ i a u ha hu
    · rw [List.getElem?_append_right (by omega)] at ha
      rw [List.getElem?_append_right (by rw [← h.len]; omega), ← h.len] at hu
      have e0 : i - rs.length = 0 := by
        have := (List.getElem?_eq_some_iff.mp ha).1
        simp at this
        omega
      rw [e0] at ha hu
      simp at ha hu
      subst ha hu
      rw [upd_ne hrD]
      exact hr
/-- a comprehension of new rows, with a test -/
theorem lc_rows {K : PySem.W.Frag} {a : Addr} {α : Type} {inj : α → V} {xs : List α} {i : Nat} {tt : TT} {te : TE} {vs : List Nat} {σ : Sl} {H1 : Hp} {D : Addr} {Qd : Hp → Prop} (f : α → Prop) (e : α → List Int)
    (hl : SqL K H1 a (xs.map inj)) (nD : H1 D = none) (hn : xs.length ≤ 10000) (hw : ∀ v, wipe ((wipe σ vs).set i (some v)) vs = wipe σ vs)
    (ht : ∀ x ∈ xs, ∀ H2, Same H1 H2 → ∀ R : Bool → Hp → Prop, (∀ b H3, Same H2 H3 → (b = true ↔ f x) → R b H3) → tt ((wipe σ vs).set i (some (inj x))) H2 R)
    (he : ∀ x ∈ xs, f x → ∀ H2, Same H1 H2 → ∀ R : V → Hp → Prop, (∀ H3 r, Same H2 H3 → H2 r = none → H3 r = some (iL (e x)) → R (.ref r) H3) → te ((wipe σ vs).set i (some (inj x))) H2 R)
    (hd : ∀ (H2 : Hp) (rs : List Addr) (ys : List α), Same H1 H2 → RwAt H2 D rs (ys.map e) → (∀ r ∈ rs, H1 r = none) → D ∉ rs → (∀ x, x ∈ ys ↔ x ∈ xs ∧ f x) → ys.Sublist xs → Qd H2) :
    ∃ W : Nat → Nat → Hp → Prop, (∃ m, W 0 m (upd H1 D (.lst []))) ∧ ∀ i' m H, W i' m H →
      ((Itl K a).stop i' H ∧ Qd H) ∨ ((Itl K a).go i' H ∧ ∃ Nx : Hp → Prop, (∀ H', Nx H' → ∃ m', m' < m ∧ W (i' + 1) m' H') ∧ ∀ x H', (Itl K a).yld i' H x H' → gName i x (wipe σ vs) H' fun σ2 H2 => wipe σ2 vs = wipe σ vs ∧ tt σ2 H2 fun b H3 =>
        if b = true then te σ2 H3 fun y H4 => ∃ acc, H4 D = some (.lst acc) ∧ acc.length < sizeLine ∧ Nx (upd H4 D (.lst (acc ++ [y]))) else Nx H3) := by
  refine lc_list (K := K) (xs := xs.map inj) (fun j H2 => Same H1 H2 ∧ ∃ (rs : List Addr) (ys : List α), RwAt H2 D rs (ys.map e) ∧ (∀ r ∈ rs, H1 r = none) ∧ D ∉ rs ∧ (∀ x, x ∈ ys ↔ x ∈ xs.take j ∧ f x) ∧ ys.Sublist (xs.take j)) ⟨same_upd (Same.refl _) nD, [], [], RwAt.nil upd_same, (fun _ h => nomatch h), (fun h => nomatch h), (fun x => by simp), List.Sublist.refl _⟩ ?_ ?_ ?_
  · rintro j H2 _ ⟨sm, _⟩
    exact sm.seq hl
  · rintro j x H2 hx ⟨sm, rs, ys, hP, hfr, hnD, hys, hsb⟩
    rw [List.getElem?_map] at hx
    cases hv : xs[j]? with
    | none => rw [hv] at hx; cases hx
    | some y =>
      rw [hv] at hx
      cases hx
      have hm := List.mem_of_getElem? hv
      have htk : xs.take (j + 1) = xs.take j ++ [y] := by rw [List.take_add_one, hv]; rfl
      have hyl : ys.length ≤ xs.length := Nat.le_trans hsb.length_le (by rw [List.length_take]; exact Nat.min_le_right _ _)
      refine ⟨hw _, ht y hm H2 sm _ fun b H3 sm3 hb => ?_⟩
      cases b with
      | false =>
        have hf : ¬ f y := fun h => nomatch hb.mpr h
        refine ifF rfl ⟨sm.trans sm3, rs, ys, hP.same sm3, hfr, hnD, fun x => ?_, ?_⟩
        · rw [hys, htk, List.mem_append, List.mem_singleton]
          constructor
          · exact fun h => ⟨.inl h.1, h.2⟩
          · rintro ⟨h | h, h2⟩
            · exact ⟨h, h2⟩
            · exact absurd (h ▸ h2) hf
        · rw [htk]
          exact hsb.trans (List.sublist_append_left _ _)
      | true =>
        have hf : f y := hb.mp rfl
        refine ifT rfl (he y hm hf H3 (sm.trans sm3) _ fun H4 r sm4 nr hr => ?_)
        have hP4 := (hP.same sm3).same sm4
        have s3 := sm.trans sm3
        have hrD : r ≠ D := fun h => by
          have := (hP.same sm3).hD
          rw [← h, nr] at this
          cases this
        refine ⟨_, hP4.hD, ?_, same_upd (s3.trans sm4) nD, rs ++ [r], ys ++ [y], ?_, ?_, ?_, fun x => ?_, ?_⟩
        · rw [List.length_map, hP4.len, List.length_map]
          exact Nat.lt_of_le_of_lt (Nat.le_trans hyl hn) (by decide)
        · rw [List.map_append]
          exact hP4.push hr hrD hnD
        · intro c hc
          rcases List.mem_append.mp hc with hc | hc
          · exact hfr c hc
          · rw [List.mem_singleton.mp hc]
            exact s3.free nr
        · intro hc
          rcases List.mem_append.mp hc with hc | hc
          · exact hnD hc
          · exact hrD (List.mem_singleton.mp hc).symm
        · rw [List.mem_append, List.mem_singleton, hys, htk, List.mem_append, List.mem_singleton]
          constructor
          · rintro (h | h)
            · exact ⟨.inl h.1, h.2⟩
            · exact ⟨.inr h, h ▸ hf⟩
          · rintro ⟨h | h, h2⟩
            · exact .inl ⟨h, h2⟩
            · exact .inr h
        · rw [htk]
          exact hsb.append (List.Sublist.refl _)
  · rintro H2 ⟨sm, rs, ys, hP, hfr, hnD, hys, hsb⟩
    rw [List.length_map, List.take_length] at hys hsb
    exact hd H2 rs ys sm hP hfr hnD hys hsb
end
/-! piece SR -/
section
/-! ### sorted of rows -/
def rSortedR (K : PySem.W.Frag) : List V → Hp → VK → Prop := fun vs H Q => ∃ (a : Addr) (rs : List Addr) (ts : List (List Int)), vs = [V.ref a] ∧ RwAt H a rs ts ∧ rs.length ≤ 5000 ∧
  ∀ (p : Addr) (rs' : List Addr) (ts' : List (List Int)), H p = none → rs'.Perm rs → ts'.Perm ts → RwAt (upd H p (.lst (rs'.map V.ref))) p rs' ts' → Q (.ref p) (upd H p (.lst (rs'.map V.ref)))
theorem each_refsR : ∀ {out : List Value} {bs : List (Addr × List Int)}, PySem.W.EachIs (fun (v : Value) (b : Addr × List Int) => v = .ref b.1) out bs → out = (bs.map (·.1)).map Value.ref
  | _, _, .nil => rfl
  | _, _, .cons h t => by rw [h, each_refsR t]; rfl
section
variable {X : Cx}
theorem cr_sortedR (hu : X.A.units + 64 < cLine) : CallR X (.builtin "sorted") (rSortedR X.K) := by
  intro pins s σ H vs us Q I r h
  obtain ⟨a, rs, ts, rfl, hP, hlen, q⟩ := h
  obtain ⟨its, rv, hl, hz⟩ := I.list (SqL.of hP.hD)
  rw [Vals.ref1 r]
  have ei := vals_refs rv
  let bs : List (Addr × List Int) := rs.zip ts
  have hbl : bs.length = rs.length := by simp [bs, hP.len]
  let enc : Addr × List Int → PyData := fun b => .list (b.2.map .int)
  have hb1 : bs.map (·.1) = rs := by simp [bs, List.map_fst_zip, hP.len]
  have hb2 : bs.map (·.2) = ts := by simp [bs, List.map_snd_zip, hP.len]
  have hget : ∀ b ∈ bs, H b.1 = some (iL b.2) := fun b hb => by
    obtain ⟨i, hi⟩ := List.getElem?_of_mem hb
    have h1 : rs[i]? = some b.1 := by rw [← hb1, List.getElem?_map, hi]; rfl
    have h2 : ts[i]? = some b.2 := by rw [← hb2, List.getElem?_map, hi]; rfl
    exact hP.at_ i b.1 b.2 h1 h2
  have e : PySem.W.EachIs (fun (v : Value) (b : Addr × List Int) => v = .ref b.1) its bs := each_of (by rw [hbl, ei, List.length_map]) fun i v b hv hb => by
    rw [ei, List.getElem?_map] at hv
    have h1 : rs[i]? = some b.1 := by rw [← hb1, List.getElem?_map, hb]; rfl
    rw [h1] at hv
    exact (Option.some.inj hv).symm
  have er : PySem.W.EachIs (fun (v : Value) (b : Addr × List Int) => ∃ as, Reads s.heap v (enc b) as) its bs := each_of (by rw [hbl, ei, List.length_map]) fun i v b hv hb => by
    rw [ei, List.getElem?_map] at hv
    have h1 : rs[i]? = some b.1 := by rw [← hb1, List.getElem?_map, hb]; rfl
    rw [h1] at hv
    have hv := (Option.some.inj hv).symm
    exact Dp.reads I (enc b) (.ref b.1) v (.lst (SqL.of (hget b (List.mem_of_getElem? hb))) (dp_ints _)) hv
  refine PySem.W.sorted_data (enc := enc) hl.isList e er (PySem.W.AllAlike.of fun b b' => by show PySem.W.alikeAll _ _ = true; exact PySem.W.alike_ints _ _) (PySem.W.Sortable.others fun b => ⟨(fun z => nomatch z), (fun xs z => nomatch z)⟩) (by rw [hbl]; exact Nat.le_trans hlen (by decide)) (fun b _ => by
    have : (enc b).depth ≤ 1 := by show PyData.depth (.list _) ≤ 1; unfold PyData.depth; rw [PySem.W.depth_ints]; exact Nat.le_refl _
    omega) fun out h1 h2 => ?_
  generalize hbs : bs.mergeSort (PySem.W.dataLe false enc) = bs' at h2
  have hperm : bs'.Perm bs := by rw [← hbs]; exact List.mergeSort_perm _ _
  have eo := each_refsR h2
  obtain ⟨ep, he'⟩ := PyProof.Rows.sortedAll_at s.heap its out.toArray
  have hn : H (s.heap.objs.size + 1) = none := I.hok.fresh (Nat.le_succ _)
  have hlo : ((bs'.map (·.1)).map V.ref).length ≤ sizeLine := by
    rw [List.length_map, List.length_map, hperm.length_eq, hbl]
    exact Nat.le_trans hlen (by decide)
  have rvo : Vals ((bs'.map (·.1)).map V.ref) out := by rw [eo]; exact refs_vals _
  refine ⟨.ref _, upd H (s.heap.objs.size + 1) (.lst ((bs'.map (·.1)).map V.ref)), I.laid (t' := s.toks) (fun _ _ => PyProof.Rows.sortedAll_old) (Nat.le_succ _) ⟨hlo, out, ep, rvo, he'⟩, rfl, ?_⟩
  refine q _ (bs'.map (·.1)) (bs'.map (·.2)) hn ?_ ?_ ⟨upd_same, by rw [List.length_map, List.length_map], ?_⟩
  · rw [← hb1]
    exact hperm.map _
  · rw [← hb2]
    exact hperm.map _
  · intro i r e hr he
    rw [List.getElem?_map] at hr he
    cases hb : bs'[i]? with
    | none => rw [hb] at hr; cases hr
    | some b =>
      rw [hb] at hr he
      cases hr
      cases he
      have := hget b (hperm.mem_iff.mp (List.mem_of_getElem? hb))
      rw [upd_ne (ne_of_none this hn)]
      exact this
theorem cr_sortedRK {K : PySem.W.Frag} (_ : KMark K) (h : X.K = K) (hu : X.A.units + 64 < cLine) : CallR X (.builtin "sorted") (rSortedR K) := h ▸ cr_sortedR hu
end
end
/-! piece PGm -/
section
/-! ### standings -/
def plc (xs : List Int) (i : Int) : Int := xs.getD (i.toNat - 1) 0
structure Stds (m n : Nat) (xs : List Int) : Prop where
  len : xs.length = m
  rng : ∀ x ∈ xs, 1 ≤ x ∧ x ≤ n
theorem plc_get {xs : List Int} {i : Int} (h1 : 1 ≤ i) (h2 : i ≤ xs.length) : xs[i.toNat - 1]? = some (plc xs i) := by
  unfold plc
  rw [List.getD_eq_getElem?_getD, List.getElem?_eq_getElem (by omega)]
  rfl
theorem plc_mem {xs : List Int} {i : Int} (h1 : 1 ≤ i) (h2 : i ≤ xs.length) : plc xs i ∈ xs := List.mem_of_getElem? (plc_get h1 h2)
theorem Stds.plc {m n : Nat} {xs : List Int} (h : Stds m n xs) {i : Int} (h1 : 1 ≤ i) (h2 : i ≤ m) : 1 ≤ plc xs i ∧ plc xs i ≤ n := h.rng _ (plc_mem h1 (by rw [h.len]; exact h2))
theorem plc_of {xs : List Int} {k : Nat} {x : Int} (h : xs[k]? = some x) : plc xs ((k : Int) + 1) = x := by
  unfold plc
  rw [show (((k : Int) + 1)).toNat - 1 = k by omega, List.getD_eq_getElem?_getD, h]
  rfl
theorem plc_ext {xs ys : List Int} (hl : xs.length = ys.length) (h : ∀ i : Int, 1 ≤ i → i ≤ xs.length → plc xs i = plc ys i) : xs = ys := by
  apply List.ext_getElem? 
  intro k
  by_cases hk : k < xs.length
  · have h1 := plc_get (xs := xs) (i := (k : Int) + 1) (by omega) (by omega)
    have h2 := plc_get (xs := ys) (i := (k : Int) + 1) (by omega) (by omega)
    rw [show (((k : Int) + 1)).toNat - 1 = k by omega] at h1 h2
    rw [h1, h2, h _ (by omega) (by omega)]
  · rw [List.getElem?_eq_none (by omega), List.getElem?_eq_none (by omega)]
def StandOk (es fs : List Edge) (xs : List Int) : Prop := ∀ e ∈ fs, Adj es (plc xs e.1) (plc xs e.2)
instance (es fs : List Edge) (xs : List Int) : Decidable (StandOk es fs xs) := by unfold StandOk; exact inferInstance
theorem StandOk.mate {es fs : List Edge} {xs : List Int} (h : StandOk es fs xs) {i j : Int} (hj : j ∈ mates i fs) : Adj es (plc xs i) (plc xs j) := by
  rcases mem_mates.mp hj with he | he
  · exact h _ he
  · exact adj_symm _ _ (h _ he)
/-- held against the greater ones alone -/
theorem standOk_of {m : Nat} {es fs : List Edge} {xs : List Int} (hS : Simp m fs) (h : ∀ k : Nat, k < m → ∀ o ∈ mates ((k : Int) + 1) fs, (k : Int) + 1 < o → Adj es (plc xs ((k : Int) + 1)) (plc xs o)) : StandOk es fs xs := by
  intro e he
  obtain ⟨h1, h2, h3, h4, h5⟩ := hS.rng e he
  by_cases hlt : e.1 < e.2
  · have := h (e.1.toNat - 1) (by omega) e.2 (mem_mates.mpr (.inl (by rw [show ((e.1.toNat - 1 : Nat) : Int) + 1 = e.1 by omega]; exact he))) (by omega)
    rwa [show ((e.1.toNat - 1 : Nat) : Int) + 1 = e.1 by omega] at this
  · have := h (e.2.toNat - 1) (by omega) e.1 (mem_mates.mpr (.inr (by rw [show ((e.2.toNat - 1 : Nat) : Int) + 1 = e.2 by omega]; exact he))) (by omega)
    rw [show ((e.2.toNat - 1 : Nat) : Int) + 1 = e.2 by omega] at this
    exact adj_symm _ _ this
theorem Simp.pos {n : Int} {es : List Edge} (h : Simp n es) : ∀ e ∈ es, 1 ≤ e.1 ∧ 1 ≤ e.2 ∧ e.1 ≠ e.2 := fun e he => by
  have := h.rng e he
  omega
/-- the lot beside a place -/
theorem near_lot {n : Nat} {es : List Edge} (hS : Simp n es) {p : Nat} (h1 : 1 ≤ p) (h2 : p ≤ n) : ∃ u, (nearB n es)[p]? = some u ∧ (∀ k : Nat, u.testBit k = decide (Adj es (p : Int) k)) ∧ LotIs u (besideM n es p) := by
  obtain ⟨u, hu, hb⟩ := nearB_bit hS.pos h1 h2
  refine ⟨u, hu, hb, fun k => ?_⟩
  rw [hb]
  apply decide_eq_decide.mpr
  exact (besideM_mem hS (by omega) (by omega) _).symm
theorem lot_and {v u : Nat} {a b : List Int} (hv : LotIs v a) (hu : LotIs u b) : LotIs (v &&& u) (a.filter fun x => decide (x ∈ b)) := fun k => by
  rw [Nat.testBit_and, hv, hu, ← Bool.decide_and]
  apply decide_eq_decide.mpr
  rw [List.mem_filter, decide_eq_true_eq]
theorem lot_pow (p : Nat) : LotIs (2 ^ p) [(p : Int)] := fun k => by
  rw [Nat.testBit_two_pow]
  apply decide_eq_decide.mpr
  rw [List.mem_singleton]
  omega
theorem LotIs.congr {v : Nat} {a b : List Int} (h : LotIs v a) (e : ∀ x, x ∈ a ↔ x ∈ b) : LotIs v b := fun k => by
  rw [h]
  exact decide_eq_decide.mpr (e _)
def mayH (n : Nat) (es : List Edge) (xs : List Int) (x : Int) (os : List Int) : List Int := (besideM n es x).filter fun g => decide (g ≠ x ∧ ∀ o ∈ os, Adj es (plc xs o) g)
/-- where a person may go -/
def mayG (n : Nat) (es fs : List Edge) (xs : List Int) (i x : Int) : List Int := (besideM n es x).filter fun g => decide (g ≠ x ∧ ∀ o ∈ mates i fs, Adj es (plc xs o) g)
def mayM (n : Nat) (es fs : List Edge) (xs : List Int) (k : Nat) : List Edge := (List.range k).flatMap fun (i : Nat) => (mayG n es fs xs ((i : Int) + 1) (plc xs ((i : Int) + 1))).map fun g => ((i : Int) + 1, g)
theorem mayM_succ (n : Nat) (es fs : List Edge) (xs : List Int) (k : Nat) : mayM n es fs xs (k + 1) = mayM n es fs xs k ++ (mayG n es fs xs ((k : Int) + 1) (plc xs ((k : Int) + 1))).map fun g => ((k : Int) + 1, g) := by
  unfold mayM
  rw [List.range_succ, List.flatMap_append]
  simp
theorem mayG_len {n : Nat} (hn : n ≤ 12) (es fs : List Edge) (xs : List Int) (i x : Int) : (mayG n es fs xs i x).length ≤ 12 := by
  unfold mayG
  exact Nat.le_trans (List.length_filter_le ..) (besideM_length hn)
theorem mayM_len {n : Nat} (hn : n ≤ 12) (es fs : List Edge) (xs : List Int) : ∀ k, (mayM n es fs xs k).length ≤ 12 * k
  | 0 => Nat.le_refl _
  | k + 1 => by
    rw [mayM_succ, List.length_append, List.length_map]
    have := mayM_len hn es fs xs k
    have := mayG_len hn es fs xs ((k : Int) + 1) (plc xs ((k : Int) + 1))
    omega
theorem mayG_lt {n : Nat} {es fs : List Edge} {xs : List Int} {i x : Int} : (mayG n es fs xs i x).Pairwise (· < ·) := List.Pairwise.filter _ (besideM_lt n es x)
theorem mayG_mem {n : Nat} {es fs : List Edge} {xs : List Int} {i x g : Int} (hS : Simp n es) (h1 : 1 ≤ x) (h2 : x ≤ n) : g ∈ mayG n es fs xs i x ↔ Adj es x g ∧ g ≠ x ∧ ∀ o ∈ mates i fs, Adj es (plc xs o) g := by
  unfold mayG
  rw [List.mem_filter, decide_eq_true_eq, besideM_mem hS h1 h2]
  exact Iff.rfl
theorem mayM_mem {n : Nat} {es fs : List Edge} {xs : List Int} {k : Nat} {e : Edge} : e ∈ mayM n es fs xs k ↔ (1 ≤ e.1 ∧ e.1 ≤ k) ∧ e.2 ∈ mayG n es fs xs e.1 (plc xs e.1) := by
  unfold mayM
  rw [List.mem_flatMap]
  constructor
  · rintro ⟨i, hi, he⟩
    obtain ⟨g, hg, rfl⟩ := List.mem_map.mp he
    have := List.mem_range.mp hi
    exact ⟨⟨by show (1 : Int) ≤ (i : Int) + 1; omega, by show (i : Int) + 1 ≤ k; omega⟩, hg⟩
  · rintro ⟨⟨h1, h2⟩, hg⟩
    refine ⟨e.1.toNat - 1, List.mem_range.mpr (by omega), List.mem_map.mpr ⟨e.2, ?_, ?_⟩⟩
    · rw [show ((e.1.toNat - 1 : Nat) : Int) + 1 = e.1 by omega]
      exact hg
    · rw [show ((e.1.toNat - 1 : Nat) : Int) + 1 = e.1 by omega]
end
/-! piece RC -/
section
/-! ### rows, one list of them behind another -/
theorem RwAt.cat {H : Hp} {D D2 p : Addr} {rs rs2 : List Addr} {ts ts2 : List (List Int)} (h : RwAt H D rs ts) (h2 : RwAt H D2 rs2 ts2) (np : H p = none) :
    RwAt (upd H p (.lst (rs.map V.ref ++ rs2.map V.ref))) p (rs ++ rs2) (ts ++ ts2) := by
  refine ⟨by rw [upd_same, List.map_append], by rw [List.length_append, List.length_append, h.len, h2.len], ?_⟩
  intro i a u ha hu
  by_cases hi : i < rs.length
  · rw [List.getElem?_append_left hi] at ha
    rw [List.getElem?_append_left (by rw [← h.len]; exact hi)] at hu
    rw [upd_ne (ne_of_none (h.at_ i a u ha hu) np)]
    exact h.at_ i a u ha hu
  · rw [List.getElem?_append_right (by omega)] at ha
    rw [List.getElem?_append_right (by rw [← h.len]; omega), ← h.len] at hu
    rw [upd_ne (ne_of_none (h2.at_ _ a u ha hu) np)]
    exact h2.at_ _ a u ha hu
theorem zip_rw {H : Hp} {D : Addr} {rs : List Addr} {ts : List (List Int)} (h : RwAt H D rs ts) : (∀ x ∈ rs.zip ts, H x.1 = some (iL x.2) ∧ x.2 ∈ ts) ∧ (rs.zip ts).map (fun x => V.ref x.1) = rs.map V.ref ∧ (rs.zip ts).map (fun x => x.2) = ts := by
  refine ⟨fun x hx => ?_, ?_, ?_⟩
  · obtain ⟨i, hi⟩ := List.getElem?_of_mem hx
    rw [List.getElem?_zip_eq_some] at hi
    exact ⟨h.at_ i _ _ hi.1 hi.2, List.mem_of_getElem? hi.2⟩
  · rw [show (fun x : Addr × List Int => V.ref x.1) = V.ref ∘ Prod.fst from rfl, ← List.map_map, List.map_fst_zip (by rw [h.len]; exact Nat.le_refl _)]
  · exact List.map_snd_zip (by rw [h.len]; exact Nat.le_refl _)
end
/-! piece PG -/
section
variable {P : Program} {w : World} {K : PySem.W.Frag} {mg : Str → Option Value} {base : Heap}
/-! ### _read_nets -/
@[irreducible] def spNets : Sp := fun vs H Q _ => ∃ (q q2 : Addr) (m n : Nat) (fs es : List Edge), vs = [.int m, .ref q, .int n, .ref q2] ∧ 1 ≤ m ∧ m ≤ 12 ∧ Pairs H q fs ∧ Simp m fs ∧ fs.length ≤ 200 ∧ 1 ≤ n ∧ n ≤ 12 ∧ Pairs H q2 es ∧ Simp n es ∧ es.length ≤ 200 ∧
  ∀ p r1 r2 H', Same H H' → H p = none → H' p = some (.tup [.ref r1, .ref r2]) → H' r1 = some (nLst (nearB m fs)) → H' r2 = some (nLst (nearB n es)) → Q (.ref p) H'
theorem call_nets {q q2 : Addr} {m n : Nat} {fs es : List Edge} {H : Hp} {Q : VK} {E : XK} (a1 : 1 ≤ m) (a2 : m ≤ 12) (a3 : Pairs H q fs) (a4 : Simp m fs) (a5 : fs.length ≤ 200) (b1 : 1 ≤ n) (b2 : n ≤ 12) (b3 : Pairs H q2 es) (b4 : Simp n es) (b5 : es.length ≤ 200)
    (fin : ∀ p r1 r2 H', Same H H' → H p = none → H' p = some (.tup [.ref r1, .ref r2]) → H' r1 = some (nLst (nearB m fs)) → H' r2 = some (nLst (nearB n es)) → Q (.ref p) H') : spNets [.int m, .ref q, .int n, .ref q2] H Q E := by
  unfold spNets
  exact ⟨q, q2, m, n, fs, es, rfl, a1, a2, a3, a4, a5, b1, b2, b3, b4, b5, fin⟩
set_option maxHeartbeats 4000000 in
theorem ok_nets {f : Addr} {fd : FuncData} (F : Fun K "_read_nets" "_read_nets" s_read_nets f fd) (C : Cal P w K mg base "read_net" 2 ["places", "lines"] spRead) :
    FnOk P w K mg base CX0 3 f fd ["people", "ties", "places", "lines"] spNets := by
  refine F.ok sc_read_nets (fun vs H Q E h => ?_) (fun cdv A outer s H vs Q E hr h => ?_)
  · unfold spNets at h
    obtain ⟨q, q2, m, n, fs, es, rfl, _⟩ := h
    rfl
  · have nd := sc_read_nets.nd
    have hS := sc_read_nets
    have hKM : KMark K := ⟨⟩
    refine' mk_body ?body ?rd
    case body =>
      show PSs _ [_, _] _
      wtm_at "fo ss"
    case rd =>
     unfold spNets at h
     obtain ⟨q, q2, m, n, fs, es, rfl, a1, a2, a3, a4, a5, b1, b2, b3, b4, b5, fin⟩ := h
     wtm_at "fo r"
     refine call_read a1 a2 a3 a4 a5 (fun r1 H1 sm1 n1 hr1 => ?_)
     wtm_at "fo r"
     refine call_read b1 b2 (b3.same sm1) b4 b5 (fun r2 H2 sm2 n2 hr2 => ?_)
     refine ⟨(Nat.le_of_ble_eq_true rfl : _ ≤ sizeLine), fun p np => ?_⟩
     have smp : Same H2 (upd H2 p (.tup [.ref r1, .ref r2])) := same_upd (Same.refl _) np
     have s2 := sm1.trans sm2
     exact fin p r1 r2 _ (s2.trans smp) (s2.free np) upd_same (smp _ _ (sm2 _ _ hr1)) (smp _ _ hr2)
/-! ### _check_places -/
@[irreducible] def spCheckP : Sp := fun vs H Q _ => ∃ (r1 r2 s : Addr) (as bs : List V) (m n : Nat) (xs : List Int), vs = [.ref r1, .ref r2, .ref s] ∧ H r1 = some (.lst as) ∧ as.length = m + 1 ∧ H r2 = some (.lst bs) ∧ bs.length = n + 1 ∧ H s = some (iL xs) ∧ Stds m n xs ∧ ∀ H', Same H H' → Q .non H'
theorem call_checkp {r1 r2 s : Addr} {as bs : List V} {m n : Nat} {xs : List Int} {H : Hp} {Q : VK} {E : XK} (h1 : H r1 = some (.lst as)) (l1 : as.length = m + 1) (h2 : H r2 = some (.lst bs)) (l2 : bs.length = n + 1) (h3 : H s = some (iL xs)) (h4 : Stds m n xs) (fin : ∀ H', Same H H' → Q .non H') : spCheckP [.ref r1, .ref r2, .ref s] H Q E := by
  unfold spCheckP
  exact ⟨r1, r2, s, as, bs, m, n, xs, rfl, h1, l1, h2, l2, h3, h4, fin⟩
set_option maxHeartbeats 4000000 in
theorem ok_checkp {f : Addr} {fd : FuncData} (F : Fun K "_check_places" "_check_places" s_check_places f fd) (mi : mg "isinstance" = none) (ml : mg "list" = none) (mn : mg "len" = none) (me : mg "enumerate" = none) (C : Cal P w K mg base "is_place" 1 ["place", "places"] spIsPlace) :
    FnOk P w K mg base CX0 2 f fd ["knows", "near", "standing"] spCheckP := by
  refine F.ok sc_check_places (fun vs H Q E h => ?_) (fun cdv A outer s H vs Q E hr h => ?_)
  · unfold spCheckP at h
    obtain ⟨r1, r2, s, as, bs, m, n, xs, rfl, _⟩ := h
    rfl
  · have nd := sc_check_places.nd
    have hS := sc_check_places
    have hKM : KMark K := ⟨⟩
    refine' mk_body ?body ?rd
    case body =>
      show PSs _ [_, _] _
      wtm_at "fo ss"
    case rd =>
     unfold spCheckP at h
     obtain ⟨r1, r2, st, as, bs, m, n, xs, rfl, h1, l1, h2, l2, h3, h4, fin⟩ := h
     wtm_at "fo r"
     refine ⟨.ref st, .ty "list", _, _, true, rfl, .ty "list", .base (.lst h3), kit_ty (by decide +kernel), ?_⟩
     refine ⟨true, rfl, ?_⟩
     refine ifF rfl ?_
     refine ⟨_, rfl, st, _, rfl, Or.inl (SqL.of h3), _, rfl, r1, _, rfl, Or.inl (SqL.of h1), _, _, rfl, rfl, Or.inl ⟨rfl, _, rfl, ?_⟩⟩
     have hxl : (xs.map V.int).length = m := by rw [List.length_map, h4.len]
     refine ifF (by rw [decide_eq_true (by rw [hxl, l1]; congr 1; omega)]; rfl) ?_
     refine ⟨_, rfl, st, _, rfl, SqL.of h3, ?_⟩
     refine for_enum (K := K) (xs := xs.map V.int) (fun i σ H3 => ∃ y3 y4, σ = [some (.ref r1), some (.ref r2), some (.ref st), y3, y4] ∧ Same H H3) ?_ ?_ ?_ ?_
     · exact ⟨none, none, rfl, Same.refl _⟩
     · rintro i σ H3 _ ⟨y3, y4, rfl, sm⟩
       exact SqL.of (sm _ _ h3)
     · rintro i x T σ H3 hx ⟨y3, y4, rfl, sm⟩ nT
       obtain ⟨z, hz, rfl⟩ := int_at hx
       have hzr := h4.rng z (List.mem_of_getElem? hz)
       have smT : Same H3 (upd H3 T (.tup [.int (i : Nat), .int z])) := same_upd (Same.refl _) nT
       have s4 := sm.trans smT
       refine Or.inl ⟨T, [.int (i : Nat), .int z], rfl, SqT.of upd_same, rfl, .int (i : Nat), [.int z], rfl, .int z, [], rfl, rfl, ?_⟩
       generalize upd H3 T (.tup [.int (i : Nat), .int z]) = H4 at *
       refine ⟨_, rfl, _, rfl, r2, _, rfl, Or.inl (SqL.of (s4 _ _ h2)), _, _, rfl, rfl, ?_⟩
       refine call_isplace ⟨_, rfl, ?_⟩
       refine ifF (by rw [decide_eq_true (by rw [l2]; omega)]; rfl) ?_
       exact ⟨_, _, rfl, s4⟩
     · rintro σ H3 ⟨y3, y4, rfl, sm⟩
       exact fin H3 sm
/-! ### _parted_pair -/
@[irreducible] def spPair : Sp := fun vs H Q _ => ∃ (r1 r2 s : Addr) (m n : Nat) (fs es : List Edge) (xs : List Int), vs = [.ref r1, .ref r2, .ref s] ∧ m ≤ 12 ∧ n ≤ 12 ∧ Simp m fs ∧ Simp n es ∧ H r1 = some (nLst (nearB m fs)) ∧ H r2 = some (nLst (nearB n es)) ∧ H s = some (iL xs) ∧ Stds m n xs ∧
  ∀ v H', Same H H' → (v = .non ↔ StandOk es fs xs) → Q v H'
theorem call_pair {r1 r2 s : Addr} {m n : Nat} {fs es : List Edge} {xs : List Int} {H : Hp} {Q : VK} {E : XK} (hm : m ≤ 12) (hn : n ≤ 12) (hS1 : Simp m fs) (hS2 : Simp n es) (h1 : H r1 = some (nLst (nearB m fs))) (h2 : H r2 = some (nLst (nearB n es))) (h3 : H s = some (iL xs)) (h4 : Stds m n xs)
    (fin : ∀ v H', Same H H' → (v = .non ↔ StandOk es fs xs) → Q v H') : spPair [.ref r1, .ref r2, .ref s] H Q E := by
  unfold spPair
  exact ⟨r1, r2, s, m, n, fs, es, xs, rfl, hm, hn, hS1, hS2, h1, h2, h3, h4, fin⟩
set_option maxHeartbeats 4000000 in
theorem ok_pair {f : Addr} {fd : FuncData} (F : Fun K "_parted_pair" "_parted_pair" s_parted_pair f fd) (me : mg "enumerate" = none) (C : Cal P w K mg base "members" 1 ["lot"] spMembers) :
    FnOk P w K mg base CX0 2 f fd ["knows", "near", "standing"] spPair := by
  refine F.ok sc_parted_pair (fun vs H Q E h => ?_) (fun cdv A outer s H vs Q E hr h => ?_)
  · unfold spPair at h
    obtain ⟨r1, r2, s, m, n, fs, es, xs, rfl, _⟩ := h
    rfl
  · have nd := sc_parted_pair.nd
    have hS := sc_parted_pair
    have hKM : KMark K := ⟨⟩
    refine' mk_body ?body ?rd
    case body =>
      show PSs _ [_, _] _
      wtm_at "fo ss"
    case rd =>
     unfold spPair at h
     obtain ⟨r1, r2, st, m, n, fs, es, xs, rfl, hm, hn, hS1, hS2, h1, h2, h3, h4, fin⟩ := h
     refine ⟨_, rfl, st, _, 1, rfl, rfl, SqL.of h3, ⟨by decide, by decide⟩, ?_⟩
     refine for_enumC (K := K) (xs := xs.map V.int) (fun i σ H3 => ∃ y3 y4 y5, σ = [some (.ref r1), some (.ref r2), some (.ref st), y3, y4, y5] ∧ Same H H3 ∧ ∀ k : Nat, k < i → ∀ o ∈ mates ((k : Int) + 1) fs, (k : Int) + 1 < o → Adj es (plc xs ((k : Int) + 1)) (plc xs o)) ?_ ?_ ?_ ?_
     · exact ⟨none, none, none, rfl, Same.refl _, fun k hk => absurd hk (Nat.not_lt_zero k)⟩
     · rintro i σ H3 _ ⟨y3, y4, y5, rfl, sm, _⟩
       exact SqL.of (sm _ _ h3)
     · rintro i x T σ H3 hx ⟨y3, y4, y5, rfl, sm, hgo⟩ nT
       obtain ⟨z, hz, rfl⟩ := int_at hx
       have hzr := h4.rng z (List.mem_of_getElem? hz)
       have him : i < m := by rw [← h4.len]; exact (List.getElem?_eq_some_iff.mp hz).1
       have hpz := plc_of hz
       obtain ⟨z, rfl⟩ : ∃ k : Nat, z = (k : Int) := ⟨z.toNat, by omega⟩
       have smT : Same H3 (upd H3 T (.tup [.int (1 + (i : Nat)), .int z])) := same_upd (Same.refl _) nT
       have s4 := sm.trans smT
       refine Or.inl ⟨T, [.int (1 + (i : Nat)), .int z], rfl, SqT.of upd_same, rfl, .int (1 + (i : Nat)), [.int z], rfl, .int z, [], rfl, rfl, ?_⟩
       generalize upd H3 T (.tup [.int (1 + (i : Nat)), .int z]) = H4 at *
       obtain ⟨u, hu, hub, hul⟩ := near_lot hS1 (p := i + 1) (by omega) (by omega)
       refine ⟨_, rfl, _, rfl, Or.inl ⟨r1, _, 1 + (i : Int), _, rfl, rfl, SqL.of (s4 _ _ h1), at_of (j := i + 1) (by omega) (get_nb hu), ?_⟩⟩
       refine call_members (Nat.lt_of_lt_of_le (nearB_small hS1 hu) (Nat.pow_le_pow_right (by decide) (by omega))) (fun p H5 sm5 np hp => ?_)
       rw [members_lot hul (besideM_lt m fs _) fun x hx => (besideM_rng hx).1] at hp
       have s5 := s4.trans sm5
       refine ⟨p, rfl, ⟨_, SqL.of hp⟩, ?_⟩
       obtain ⟨u2, hu2, hub2, hul2⟩ := near_lot hS2 (p := z) (by omega) (by omega)
       refine for_list (K := K) (xs := (besideM m fs ((i + 1 : Nat) : Int)).map V.int) (fun j σ H6 => ∃ y5, σ = [some (.ref r1), some (.ref r2), some (.ref st), some (.int (1 + (i : Nat))), some (.int z), y5] ∧ Same H5 H6 ∧
         ∀ (k : Nat) (o : Int), k < j → (besideM m fs ((i + 1 : Nat) : Int))[k]? = some o → (i : Int) + 1 < o → Adj es (plc xs ((i : Int) + 1)) (plc xs o)) ?_ ?_ ?_ ?_
       · exact ⟨_, rfl, Same.refl _, fun k o hk => absurd hk (Nat.not_lt_zero k)⟩
       · rintro j σ H6 _ ⟨y5, rfl, sm6, _⟩
         exact SqL.of (sm6 _ _ hp)
       · rintro j x σ H6 hx2 ⟨y5, rfl, sm6, hgj⟩
         obtain ⟨o, ho, rfl⟩ := int_at hx2
         have hor := besideM_rng (List.mem_of_getElem? ho)
         have hob := plc_get (xs := xs) (i := o) hor.1 (by rw [h4.len]; exact hor.2)
         have hopr := h4.plc hor.1 hor.2
         have s6 := s5.trans sm6
         obtain ⟨zo, hzo⟩ : ∃ k : Nat, plc xs o = (k : Int) := ⟨(plc xs o).toNat, by omega⟩
         refine ⟨_, rfl, _, rfl, _, _, rfl, rfl, _, rfl, ?_⟩
         refine ite2 (fun hc => ?_) (fun hc => ?_)
         · have hc := of_decide_eq_true hc
           refine ⟨_, rfl, _, rfl, Or.inl ⟨r2, _, (z : Int), _, rfl, rfl, SqL.of (s6 _ _ h2), at_nb hu2, ?_⟩⟩
           refine ⟨_, rfl, _, rfl, _, _, rfl, rfl, Or.inl ⟨st, _, o - 1, .int (plc xs o), rfl, rfl, SqL.of (s6 _ _ h3), at_of (j := o.toNat - 1) (by omega) (by rw [List.getElem?_map, hob]; rfl), ?_⟩⟩
           refine ⟨_, _, rfl, rfl, by omega, _, _, rfl, rfl, _, rfl, ?_⟩
           rw [hzo, show ((zo : Int)).toNat = zo by omega, bit_test, hub2]
           by_cases ha : Adj es (z : Int) (zo : Int)
           · refine ifF (by rw [decide_eq_true ha]; rfl) ⟨_, rfl, sm6, fun k o2 hk ho2 hlt => ?_⟩
             by_cases hkj : k = j
             · rw [hkj, ho] at ho2
               cases ho2
               rw [hpz, hzo]
               exact ha
             · exact hgj k o2 (by omega) ho2 hlt
           · refine ifT (by rw [decide_eq_false ha]; rfl) ?_
             refine ⟨_, rfl, _, rfl, (Nat.le_of_ble_eq_true rfl : _ ≤ sizeLine), fun c nc => ?_⟩
             refine fin _ _ (s6.trans (same_upd (Same.refl _) nc)) ⟨(fun e => nomatch e), fun hst => ?_⟩
             exfalso
             apply ha
             have hm2 : o ∈ mates ((i : Int) + 1) fs := by
               have h := (besideM_mem hS1 (p := ((i + 1 : Nat) : Int)) (by omega) (by omega) o).mp (List.mem_of_getElem? ho)
               rcases List.mem_cons.mp h with e | h
               · omega
               · exact h
             have := hst.mate hm2
             rwa [hpz, hzo] at this
         · have hc : ¬ (1 + (i : Int) < o) := fun h => hc (decide_eq_true h)
           refine ifF rfl ⟨_, rfl, sm6, fun k o2 hk ho2 hlt => ?_⟩
           by_cases hkj : k = j
           · rw [hkj, ho] at ho2
             cases ho2
             omega
           · exact hgj k o2 (by omega) ho2 hlt
       · rintro σ H6 ⟨y5, rfl, sm6, hgj⟩
         rw [List.length_map] at hgj
         refine ⟨_, _, _, rfl, s5.trans sm6, fun k hk o ho hlt => ?_⟩
         by_cases hki : k = i
         · subst hki
           obtain ⟨j, hj⟩ := List.getElem?_of_mem (show o ∈ besideM m fs ((k + 1 : Nat) : Int) from (besideM_mem hS1 (by omega) (by omega) o).mpr (List.mem_cons_of_mem _ ho))
           exact hgj j o (List.getElem?_eq_some_iff.mp hj).1 hj hlt
         · exact hgo k (by omega) o ho hlt
     · rintro σ H3 ⟨y3, y4, y5, rfl, sm, hgo⟩
       rw [List.length_map, h4.len] at hgo
       exact fin .non H3 sm ⟨fun _ => standOk_of hS1 hgo, fun _ => rfl⟩
end
/-! piece PH -/
section
variable {P : Program} {w : World} {K : PySem.W.Frag} {mg : Str → Option Value} {base : Heap}
/-! ### _check_standing, is_standing -/
@[irreducible] def spCheckS : Sp := fun vs H Q _ => ∃ (r1 r2 s : Addr) (m n : Nat) (fs es : List Edge) (xs : List Int), vs = [.ref r1, .ref r2, .ref s] ∧ m ≤ 12 ∧ n ≤ 12 ∧ Simp m fs ∧ Simp n es ∧ H r1 = some (nLst (nearB m fs)) ∧ H r2 = some (nLst (nearB n es)) ∧ H s = some (iL xs) ∧ Stds m n xs ∧ StandOk es fs xs ∧
  ∀ H', Same H H' → Q .non H'
theorem call_checks {r1 r2 s : Addr} {m n : Nat} {fs es : List Edge} {xs : List Int} {H : Hp} {Q : VK} {E : XK} (hm : m ≤ 12) (hn : n ≤ 12) (hS1 : Simp m fs) (hS2 : Simp n es) (h1 : H r1 = some (nLst (nearB m fs))) (h2 : H r2 = some (nLst (nearB n es))) (h3 : H s = some (iL xs)) (h4 : Stds m n xs) (h5 : StandOk es fs xs)
    (fin : ∀ H', Same H H' → Q .non H') : spCheckS [.ref r1, .ref r2, .ref s] H Q E := by
  unfold spCheckS
  exact ⟨r1, r2, s, m, n, fs, es, xs, rfl, hm, hn, hS1, hS2, h1, h2, h3, h4, h5, fin⟩
theorem nb_len (n : Nat) (es : List Edge) : ((nearB n es).map fun (v : Nat) => V.int v).length = n + 1 := by rw [List.length_map, nearB_length]
set_option maxHeartbeats 4000000 in
theorem ok_checks {f : Addr} {fd : FuncData} (F : Fun K "_check_standing" "_check_standing" s_check_standing f fd) (C : Cal P w K mg base "_check_places" 2 ["knows", "near", "standing"] spCheckP) (C2 : Cal P w K mg base "_parted_pair" 2 ["knows", "near", "standing"] spPair) :
    FnOk P w K mg base CX0 3 f fd ["knows", "near", "standing"] spCheckS := by
  refine F.ok sc_check_standing (fun vs H Q E h => ?_) (fun cdv A outer s H vs Q E hr h => ?_)
  · unfold spCheckS at h
    obtain ⟨r1, r2, s, m, n, fs, es, xs, rfl, _⟩ := h
    rfl
  · have nd := sc_check_standing.nd
    have hS := sc_check_standing
    have hKM : KMark K := ⟨⟩
    refine' mk_body ?body ?rd
    case body =>
      show PSs _ [_, _, _] _
      wtm_at "fo ss"
    case rd =>
     unfold spCheckS at h
     obtain ⟨r1, r2, st, m, n, fs, es, xs, rfl, hm, hn, hS1, hS2, h1, h2, h3, h4, h5, fin⟩ := h
     wtm_at "fo r"
     refine call_checkp h1 (nb_len m fs) h2 (nb_len n es) h3 h4 (fun H1 sm1 => ?_)
     wtm_at "fo r"
     refine call_pair hm hn hS1 hS2 (sm1 _ _ h1) (sm1 _ _ h2) (sm1 _ _ h3) h4 (fun v H2 sm2 hv => ?_)
     obtain rfl := hv.mpr h5
     refine ⟨_, rfl, rfl, _, rfl, ifF rfl ?_⟩
     exact fin H2 (sm1.trans sm2)
end
/-! piece PM -/
section
local macro_rules | `(tactic| wtm_at "fo s") => `(tactic| ((with_reducible show PS _ (.AugAssign (.Name _ _) .BitAnd _ _) _); refine' ps_aug (i := 10) (by assumption) rfl (by first | exact Or.inl rfl | exact Or.inr rfl) ?ka ip_and; (case ka => wtm_at "fo e")))
local macro_rules | `(tactic| wtm_at "fo meth") => `(tactic| ((with_reducible show PE _ (.Call (.Attribute _ (Str.ofString "extend") _) _ _ _) _); refine' pe_bm PySem.F.plainAttrs_list PySem.F.slot_list_extend PySem.F.type_list_extend mt_extend ?ka ?kb; (case ka => wtm_at "fo e"); (case kb => wtm_at "fo a")))
variable {P : Program} {w : World} {K : PySem.W.Frag} {mg : Str → Option Value} {base : Heap}
@[irreducible] def spMayGo : Sp := fun vs H Q _ => ∃ (q q2 s : Addr) (m n : Nat) (fs es : List Edge) (xs : List Int), vs = [.int m, .ref q, .int n, .ref q2, .ref s] ∧ 1 ≤ m ∧ m ≤ 12 ∧ Pairs H q fs ∧ Simp m fs ∧ fs.length ≤ 200 ∧ 1 ≤ n ∧ n ≤ 12 ∧ Pairs H q2 es ∧ Simp n es ∧ es.length ≤ 200 ∧ H s = some (iL xs) ∧ Stds m n xs ∧ StandOk es fs xs ∧
  ∀ p rs H', Same H H' → H p = none → PsF H H' p rs (mayM n es fs xs m) → Q (.ref p) H'
theorem call_maygo {q q2 s : Addr} {m n : Nat} {fs es : List Edge} {xs : List Int} {H : Hp} {Q : VK} {E : XK} (a1 : 1 ≤ m) (a2 : m ≤ 12) (a3 : Pairs H q fs) (a4 : Simp m fs) (a5 : fs.length ≤ 200) (b1 : 1 ≤ n) (b2 : n ≤ 12) (b3 : Pairs H q2 es) (b4 : Simp n es) (b5 : es.length ≤ 200) (c1 : H s = some (iL xs)) (c2 : Stds m n xs) (c3 : StandOk es fs xs)
    (fin : ∀ p rs H', Same H H' → H p = none → PsF H H' p rs (mayM n es fs xs m) → Q (.ref p) H') : spMayGo [.int m, .ref q, .int n, .ref q2, .ref s] H Q E := by
  unfold spMayGo
  exact ⟨q, q2, s, m, n, fs, es, xs, rfl, a1, a2, a3, a4, a5, b1, b2, b3, b4, b5, c1, c2, c3, fin⟩
set_option maxHeartbeats 4000000 in
theorem ok_maygo {f : Addr} {fd : FuncData} (F : Fun K "may_go" "may_go" s_may_go f fd) (me : mg "enumerate" = none) (C : Cal P w K mg base "_read_nets" 3 ["people", "ties", "places", "lines"] spNets) (C2 : Cal P w K mg base "_check_standing" 3 ["knows", "near", "standing"] spCheckS) (C3 : Cal P w K mg base "members" 1 ["lot"] spMembers) :
    FnOk P w K mg base CX0 4 f fd ["people", "ties", "places", "lines", "standing"] spMayGo := by
  refine F.ok sc_may_go (fun vs H Q E h => ?_) (fun cdv A outer s H vs Q E hr h => ?_)
  · unfold spMayGo at h
    obtain ⟨q, q2, s, m, n, fs, es, xs, rfl, _⟩ := h
    rfl
  · have nd := sc_may_go.nd
    have hS := sc_may_go
    have hKM : KMark K := ⟨⟩
    refine' mk_body ?body ?rd
    case body =>
      show PSs _ [_, _, _, _, _] _
      wtm_at "fo ss"
    case rd =>
     unfold spMayGo at h
     obtain ⟨q, q2, st, m, n, fs, es, xs, rfl, a1, a2, a3, a4, a5, b1, b2, b3, b4, b5, c1, c2, c3, fin⟩ := h
     wtm_at "fo r"
     refine call_nets a1 a2 a3 a4 a5 b1 b2 b3 b4 b5 (fun p r1 r2 H1 sm1 np hp hr1 hr2 => ?_)
     refine Or.inl ⟨p, [.ref r1, .ref r2], rfl, SqT.of hp, rfl, .ref r1, [.ref r2], rfl, .ref r2, [], rfl, rfl, ?_⟩
     wtm_at "fo r"
     refine call_checks a2 b2 a4 b4 hr1 hr2 (sm1 _ _ c1) c2 c3 (fun H2 sm2 => ?_)
     have s2 := sm1.trans sm2
     have h1 := sm2 _ _ hr1
     have h2 := sm2 _ _ hr2
     have h3 := s2 _ _ c1
     refine ⟨(Nat.le_of_ble_eq_true rfl : _ ≤ sizeLine), fun L nL => ?_⟩
     have smL : Same H2 (upd H2 L (.lst [])) := same_upd (Same.refl _) nL
     have hL : PsF H2 (upd H2 L (.lst [])) L [] (mayM n es fs xs 0) := ⟨PsAt.nil upd_same, List.nodup_nil, fun r h => nomatch h⟩
     generalize upd H2 L (.lst []) = H3 at *
     refine ⟨_, rfl, st, _, 1, rfl, rfl, SqL.of (smL _ _ h3), ⟨by decide, by decide⟩, ?_⟩
     refine for_enumC (K := K) (xs := xs.map V.int) (fun i σ H4 => ∃ (rs : List Addr) (y8 y9 y10 y11 : Option V), σ = [some (.int m), some (.ref q), some (.int n), some (.ref q2), some (.ref st), some (.ref r1), some (.ref r2), some (.ref L), y8, y9, y10, y11, none] ∧ Same H2 H4 ∧ PsF H2 H4 L rs (mayM n es fs xs i)) ?_ ?_ ?_ ?_
     · exact ⟨[], none, none, none, none, rfl, smL, hL⟩
     · rintro i σ H4 _ ⟨rs, y8, y9, y10, y11, rfl, sm, _⟩
       exact SqL.of (sm _ _ h3)
     · rintro i x T σ H4 hx ⟨rs, y8, y9, y10, y11, rfl, sm, hP⟩ nT
       obtain ⟨z, hz, rfl⟩ := int_at hx
       have hzr := c2.rng z (List.mem_of_getElem? hz)
       have him : i < m := by rw [← c2.len]; exact (List.getElem?_eq_some_iff.mp hz).1
       have hpz := plc_of hz
       obtain ⟨z, rfl⟩ : ∃ k : Nat, z = (k : Int) := ⟨z.toNat, by omega⟩
       have smT : Same H4 (upd H4 T (.tup [.int (1 + (i : Nat)), .int z])) := same_upd (Same.refl _) nT
       have s5 := sm.trans smT
       have hP5 := hP.same smT
       refine Or.inl ⟨T, [.int (1 + (i : Nat)), .int z], rfl, SqT.of upd_same, rfl, .int (1 + (i : Nat)), [.int z], rfl, .int z, [], rfl, rfl, ?_⟩
       generalize upd H4 T (.tup [.int (1 + (i : Nat)), .int z]) = H5 at *
       obtain ⟨u, hu, hub, hul⟩ := near_lot a4 (p := i + 1) (by omega) (by omega)
       obtain ⟨u2, hu2, hub2, hul2⟩ := near_lot b4 (p := z) (by omega) (by omega)
       obtain ⟨g0, hg0, hgl0⟩ := and_not_lot hul2 (lot_pow z)
       refine ⟨_, rfl, _, rfl, Or.inl ⟨r2, _, (z : Int), _, rfl, rfl, SqL.of (s5 _ _ h2), at_nb hu2, _, rfl, _, _, rfl, rfl, ⟨by omega, by omega, by decide⟩, _, rfl, _, _, rfl, rfl, ?_⟩⟩
       refine ⟨_, rfl, _, rfl, Or.inl ⟨r1, _, 1 + (i : Int), _, rfl, rfl, SqL.of (s5 _ _ h1), at_of (j := i + 1) (by omega) (get_nb hu), ?_⟩⟩
       refine call_members (Nat.lt_of_lt_of_le (nearB_small a4 hu) (Nat.pow_le_pow_right (by decide) (by omega))) (fun p6 H6 sm6 np6 hp6 => ?_)
       rw [members_lot hul (besideM_lt m fs _) fun x hx => (besideM_rng hx).1] at hp6
       have s6 := s5.trans sm6
       have hP6 := hP5.same sm6
       let G : Nat → List Int := fun j => mayH n es xs (z : Int) ((besideM m fs ((i + 1 : Nat) : Int)).take j)
       refine ⟨p6, rfl, ⟨_, SqL.of hp6⟩, ?_⟩
       refine for_list (K := K) (xs := (besideM m fs ((i + 1 : Nat) : Int)).map V.int) (fun j σ H7 => ∃ (gv : Nat) (y11 : Option V), σ = [some (.int m), some (.ref q), some (.int n), some (.ref q2), some (.ref st), some (.ref r1), some (.ref r2), some (.ref L), some (.int (1 + (i : Nat))), some (.int z), some (.int gv), y11, none] ∧ Same H6 H7 ∧ LotIs gv (G j)) ?_ ?_ ?_ ?_
       · refine ⟨g0, y11, ?_, Same.refl _, hgl0.congr fun x => ?_⟩
         · have e : Builtin.bitAnd (u2 : Int) (Builtin.bitNot (1 * 2 ^ ((z : Int)).toNat)) = (g0 : Int) := by
             rw [← hg0, Int.one_mul, Int.toNat_natCast, Int.natCast_pow]
             rfl
           show [some (V.int m), some (.ref q), some (.int n), some (.ref q2), some (.ref st), some (.ref r1), some (.ref r2), some (.ref L), some (.int (1 + (i : Nat))), some (.int z), some (.int (Builtin.bitAnd (u2 : Int) (Builtin.bitNot (1 * 2 ^ ((z : Int)).toNat)))), y11, none] = _
           rw [e]
         · show _ ↔ x ∈ mayH n es xs (z : Int) _
           unfold mayH
           rw [List.mem_filter, List.mem_filter, decide_eq_true_eq, decide_eq_true_eq, List.mem_singleton, List.take_zero]
           simp
       · rintro j σ H7 _ ⟨gv, y11, rfl, sm7, _⟩
         exact SqL.of (sm7 _ _ hp6)
       · rintro j x σ H7 hx2 ⟨gv, y11, rfl, sm7, hgl⟩
         obtain ⟨o, ho, rfl⟩ := int_at hx2
         have hor := besideM_rng (List.mem_of_getElem? ho)
         have hob := plc_get (xs := xs) (i := o) hor.1 (by rw [c2.len]; exact hor.2)
         have hopr := c2.plc hor.1 hor.2
         have s7 := s6.trans sm7
         obtain ⟨zo, hzo⟩ : ∃ k : Nat, plc xs o = (k : Int) := ⟨(plc xs o).toNat, by omega⟩
         obtain ⟨u3, hu3, hub3, hul3⟩ := near_lot b4 (p := zo) (by omega) (by omega)
         refine ⟨_, rfl, _, rfl, _, rfl, _, rfl, _, _, rfl, rfl, Or.inl ⟨st, _, o - 1, .int (plc xs o), rfl, rfl, SqL.of (s7 _ _ h3), at_of (j := o.toNat - 1) (by omega) (by rw [List.getElem?_map, hob]; rfl), ?_⟩⟩
         refine Or.inl ⟨r2, _, plc xs o, .int u3, rfl, rfl, SqL.of (s7 _ _ h2), by rw [hzo]; exact at_nb hu3, _, _, rfl, rfl, ?_⟩
         refine ⟨gv &&& u3, some (.int o), ?_, sm7, (lot_and hgl hul3).congr fun x => ?_⟩
         · show [some (V.int m), some (.ref q), some (.int n), some (.ref q2), some (.ref st), some (.ref r1), some (.ref r2), some (.ref L), some (.int (1 + (i : Nat))), some (.int z), some (.int (Builtin.bitAnd (gv : Int) (u3 : Int))), some (.int o), none] = _
           rw [bAnd]
         · have htk : (besideM m fs ((i + 1 : Nat) : Int)).take (j + 1) = (besideM m fs ((i + 1 : Nat) : Int)).take j ++ [o] := by rw [List.take_add_one, ho]; rfl
           show x ∈ List.filter _ (mayH n es xs (z : Int) _) ↔ x ∈ mayH n es xs (z : Int) _
           unfold mayH
           rw [List.mem_filter, List.mem_filter, List.mem_filter, decide_eq_true_eq, decide_eq_true_eq, decide_eq_true_eq, htk, besideM_mem b4 (by omega) (by omega) x, ← hzo]
           constructor
           · rintro ⟨⟨k1, k2, k3⟩, k4⟩
             refine ⟨k1, k2, fun o2 ho2 => ?_⟩
             rcases List.mem_append.mp ho2 with ho2 | ho2
             · exact k3 o2 ho2
             · rw [List.mem_singleton.mp ho2]
               exact (besideM_mem b4 (by omega) (by omega) x).mp k4
           · rintro ⟨k1, k2, k3⟩
             refine ⟨⟨k1, k2, fun o2 ho2 => k3 o2 (List.mem_append_left _ ho2)⟩, (besideM_mem b4 (by omega) (by omega) x).mpr (k3 o (List.mem_append_right _ (List.mem_singleton.mpr rfl)))⟩
       · rintro σ H7 ⟨gv, y11, rfl, sm7, hgl⟩
         rw [List.length_map] at hgl
         have hgl : LotIs gv (mayG n es fs xs ((i : Int) + 1) (z : Int)) := hgl.congr fun x => by
           show x ∈ mayH n es xs (z : Int) _ ↔ _
           unfold mayH
           rw [mayG_mem b4 (by omega) (by omega), List.mem_filter, decide_eq_true_eq, List.take_length, besideM_mem b4 (by omega) (by omega) x]
           constructor
           · rintro ⟨k1, k2, k3⟩
             exact ⟨k1, k2, fun o ho => k3 o ((besideM_mem a4 (by omega) (by omega) o).mpr (List.mem_cons_of_mem _ ho))⟩
           · rintro ⟨k1, k2, k3⟩
             refine ⟨k1, k2, fun o ho => ?_⟩
             rcases List.mem_cons.mp ((besideM_mem a4 (by omega) (by omega) o).mp ho) with e | ho
             · rw [e, show ((i + 1 : Nat) : Int) = (i : Int) + 1 by omega, hpz]
               exact k1
             · exact k3 o ho
         have hP7 := hP6.same sm7
         have s7 := s6.trans sm7
         have hrg : ∀ g ∈ mayG n es fs xs ((i : Int) + 1) (z : Int), 1 ≤ g ∧ g ≤ n := fun g hg => besideM_rng (List.mem_filter.mp hg).1
         have hgn := mayG_len b2 es fs xs ((i : Int) + 1) (z : Int)
         refine ⟨_, rfl, .inl ⟨rfl, _, SqL.of hP7.ps.hD⟩, ?_⟩
         refine ⟨_, rfl, ?_⟩
         refine call_members (Nat.lt_of_lt_of_le (lot_small hgl fun x hx => (hrg x hx).2) (Nat.pow_le_pow_right (by decide) (by omega))) (fun p8 H8 sm8 np8 hp8 => ?_)
         rw [members_lot hgl mayG_lt fun x hx => (hrg x hx).1] at hp8
         refine ⟨p8, rfl, ⟨_, SqL.of hp8⟩, fun D nD => ?_⟩
         refine lc_prs (K := K) (xs := mayG n es fs xs ((i : Int) + 1) (z : Int)) (fun g => ((i : Int) + 1, g)) (SqL.of hp8) nD (by omega) (fun _ => rfl) ?_ ?_
         · intro g hg H9 sm9 R hRR
           refine ⟨_, rfl, _, rfl, (Nat.le_of_ble_eq_true rfl : _ ≤ sizeLine), fun c nc => ?_⟩
           have := hRR H9 c (Same.refl _) nc
           rw [show (i : Int) + 1 = 1 + (i : Int) by omega] at this
           exact this
         · intro H9 rs9 sm9 hP9
           have sm89 := sm8.trans sm9
           have hL9 := sm89 _ _ hP7.ps.hD
           refine ⟨L, D, _, _, rfl, rfl, hL9, hP9.ps.hD, ?_, ?_⟩
           · rw [List.length_map, List.length_map, hP7.ps.len, hP9.ps.len, List.length_map]
             have := mayM_len b2 es fs xs i
             exact Nat.le_trans (m := 1000) (by omega) (by decide)
           · refine ⟨rs ++ rs9, _, _, _, _, rfl, same_upd (s7.trans sm89) nL, ?_⟩
             rw [mayM_succ, hpz]
             exact hP7.ext sm89 ⟨hP9.ps, hP9.nd, fun r hr => sm8.free (hP9.fr r hr)⟩ s7 nL
     · rintro σ H4 ⟨rs, y8, y9, y10, y11, rfl, sm, hP⟩
       rw [List.length_map, c2.len] at hP
       exact ⟨_, rfl, fin L rs H4 (s2.trans sm) (s2.free nL) ⟨hP.ps, hP.nd, fun r hr => s2.free (hP.fr r hr)⟩⟩
end
/-! piece PPm -/
section
/-! ### the people of an end, as a net -/
def rowT (es : List Edge) (xs : List Int) (i k : Nat) : List Edge := ((List.range k).filter fun (j : Nat) => decide (i < j ∧ Adj es (plc xs ((i : Int) + 1)) (plc xs ((j : Int) + 1)))).map fun (j : Nat) => ((i : Int) + 1, (j : Int) + 1)
def tiesM (es : List Edge) (xs : List Int) (k : Nat) : List Edge := (List.range k).flatMap fun (i : Nat) => rowT es xs i xs.length
theorem rowT_succ (es : List Edge) (xs : List Int) (i k : Nat) : rowT es xs i (k + 1) = rowT es xs i k ++ (if i < k ∧ Adj es (plc xs ((i : Int) + 1)) (plc xs ((k : Int) + 1)) then [((i : Int) + 1, (k : Int) + 1)] else []) := by
  unfold rowT
  rw [List.range_succ, List.filter_append, List.map_append]
  congr 1
  rw [List.filter_cons]
  by_cases hh : i < k ∧ Adj es (plc xs ((i : Int) + 1)) (plc xs ((k : Int) + 1))
  · rw [if_pos hh, if_pos (decide_eq_true hh)]
    rfl
  · rw [if_neg hh, if_neg (fun e => hh (of_decide_eq_true e))]
    rfl
theorem tiesM_succ (es : List Edge) (xs : List Int) (k : Nat) : tiesM es xs (k + 1) = tiesM es xs k ++ rowT es xs k xs.length := by
  unfold tiesM
  rw [List.range_succ, List.flatMap_append]
  simp
theorem rowT_len (es : List Edge) (xs : List Int) (i k : Nat) : (rowT es xs i k).length ≤ k := by
  unfold rowT
  rw [List.length_map]
  exact Nat.le_trans (List.length_filter_le ..) (by rw [List.length_range]; exact Nat.le_refl _)
theorem tiesM_len (es : List Edge) (xs : List Int) : ∀ k, (tiesM es xs k).length ≤ xs.length * k
  | 0 => Nat.zero_le _
  | k + 1 => by
    rw [tiesM_succ, List.length_append, Nat.mul_succ]
    exact Nat.add_le_add (tiesM_len es xs k) (rowT_len es xs k xs.length)
theorem rowT_mem {es : List Edge} {xs : List Int} {i k : Nat} {e : Edge} : e ∈ rowT es xs i k ↔ e.1 = (i : Int) + 1 ∧ e.1 < e.2 ∧ e.2 ≤ k ∧ Adj es (plc xs e.1) (plc xs e.2) := by
  unfold rowT
  rw [List.mem_map]
  constructor
  · rintro ⟨j, hj, rfl⟩
    obtain ⟨h1, h2⟩ := List.mem_filter.mp hj
    have h1 := List.mem_range.mp h1
    have h2 := of_decide_eq_true h2
    exact ⟨rfl, by show (i : Int) + 1 < (j : Int) + 1; omega, by show (j : Int) + 1 ≤ k; omega, h2.2⟩
  · rintro ⟨h1, h2, h3, h4⟩
    refine ⟨e.2.toNat - 1, List.mem_filter.mpr ⟨List.mem_range.mpr (by omega), decide_eq_true ⟨by omega, ?_⟩⟩, ?_⟩
    · rw [show ((e.2.toNat - 1 : Nat) : Int) + 1 = e.2 by omega, ← h1]
      exact h4
    · rw [show ((e.2.toNat - 1 : Nat) : Int) + 1 = e.2 by omega, ← h1]
theorem tiesM_mem {es : List Edge} {xs : List Int} {k : Nat} {e : Edge} : e ∈ tiesM es xs k ↔ 1 ≤ e.1 ∧ e.1 ≤ k ∧ e.1 < e.2 ∧ e.2 ≤ xs.length ∧ Adj es (plc xs e.1) (plc xs e.2) := by
  unfold tiesM
  rw [List.mem_flatMap]
  constructor
  · rintro ⟨i, hi, he⟩
    have hi := List.mem_range.mp hi
    obtain ⟨h1, h2⟩ := rowT_mem.mp he
    exact ⟨by omega, by omega, h2⟩
  · rintro ⟨h1, h2, h3⟩
    exact ⟨e.1.toNat - 1, List.mem_range.mpr (by omega), rowT_mem.mpr ⟨by omega, h3⟩⟩
theorem rowT_pw (es : List Edge) (xs : List Int) (i k : Nat) : (rowT es xs i k).Pairwise fun a b => a.1 = b.1 ∧ a.2 < b.2 := by
  unfold rowT
  rw [List.pairwise_map]
  exact (List.Pairwise.filter _ List.pairwise_lt_range).imp fun h => ⟨rfl, by show (_ : Int) + 1 < (_ : Int) + 1; omega⟩
theorem tiesM_pw (es : List Edge) (xs : List Int) : ∀ k, (tiesM es xs k).Pairwise fun a b => a.1 < b.1 ∨ (a.1 = b.1 ∧ a.2 < b.2)
  | 0 => List.Pairwise.nil
  | k + 1 => by
    rw [tiesM_succ, List.pairwise_append]
    refine ⟨tiesM_pw es xs k, (rowT_pw es xs k xs.length).imp fun h => .inr h, fun a ha b hb => ?_⟩
    have h1 := tiesM_mem.mp ha
    have h2 := rowT_mem.mp hb
    exact .inl (by omega)
/-- greater pairs ascending are a net's lines -/
theorem simp_asc {n : Int} {l : List Edge} (hr : ∀ e ∈ l, 1 ≤ e.1 ∧ e.1 < e.2 ∧ e.2 ≤ n) (hp : l.Pairwise fun a b => a.1 < b.1 ∨ (a.1 = b.1 ∧ a.2 < b.2)) : Simp n l := by
  refine ⟨fun e he => by have := hr e he; omega, hp.imp_of_mem fun {a b} ha hb hab => ?_⟩
  have h1 := hr a ha
  have h2 := hr b hb
  refine ⟨fun e => ?_, fun e => ?_⟩
  · subst e; omega
  · have e1 := congrArg Prod.fst e
    have e2 := congrArg Prod.snd e
    simp only at e1 e2
    omega
theorem tiesM_simp (es : List Edge) (xs : List Int) : Simp (xs.length : Int) (tiesM es xs xs.length) :=
  simp_asc (fun e he => by have := tiesM_mem.mp he; omega) (tiesM_pw es xs xs.length)
theorem tiesM_mates {es : List Edge} {xs : List Int} {i j : Int} (h1 : 1 ≤ i) (h2 : i ≤ xs.length) (h3 : 1 ≤ j) (h4 : j ≤ xs.length) : j ∈ mates i (tiesM es xs xs.length) ↔ i ≠ j ∧ Adj es (plc xs i) (plc xs j) := by
  rw [mem_mates, tiesM_mem, tiesM_mem]
  simp only
  constructor
  · rintro (⟨_, _, k3, _, k5⟩ | ⟨_, _, k3, _, k5⟩)
    · exact ⟨by omega, k5⟩
    · exact ⟨by omega, adj_symm _ _ k5⟩
  · rintro ⟨k1, k2⟩
    by_cases hlt : i < j
    · exact .inl ⟨by omega, by omega, hlt, by omega, k2⟩
    · exact .inr ⟨by omega, by omega, by omega, by omega, adj_symm _ _ k2⟩
theorem rep_flat (x : Int) : ∀ k, (List.replicate k [V.int x]).flatten = (List.replicate k x).map V.int
  | 0 => rfl
  | k + 1 => by
    rw [List.replicate_succ, List.replicate_succ, List.flatten_cons, rep_flat x k]
    rfl
end
/-! piece THm -/
section
/-! ### steps, told by any table of what is beside -/
def rowA (T : List (List Int)) (x : Int) : List Int := T.getD x.toNat []
theorem rowA_get {T : List (List Int)} {x : Int} (h0 : 0 ≤ x) (h : x < T.length) : T[x.toNat]? = some (rowA T x) := by
  unfold rowA
  rw [List.getD_eq_getElem?_getD, List.getElem?_eq_getElem (by omega)]
  rfl
def FitsT (T : List (List Int)) (fs : List Edge) (xs : List Int) : Prop := ∀ e ∈ fs, plc xs e.2 ∈ rowA T (plc xs e.1)
instance (T : List (List Int)) (fs : List Edge) (xs : List Int) : Decidable (FitsT T fs xs) := by unfold FitsT; exact inferInstance
def putP (xs : List Int) (i g : Int) : List Int := xs.set (i.toNat - 1) g
def MayE (T : List (List Int)) (m : Nat) (fs : List Edge) (xs : List Int) (e : Edge) : Prop := 1 ≤ e.1 ∧ e.1 ≤ m ∧ e.2 ∈ rowA T (plc xs e.1) ∧ e.2 ≠ plc xs e.1 ∧ FitsT T fs (putP xs e.1 e.2)
def ltE (a b : Edge) : Prop := a.1 < b.1 ∨ (a.1 = b.1 ∧ a.2 < b.2)
theorem ltE_unique : ∀ {l m : List Edge}, l.Pairwise ltE → m.Pairwise ltE → (∀ x, x ∈ l ↔ x ∈ m) → l = m
  | [], [], _, _, _ => rfl
  | [], b :: m, _, _, h => by have := (h b).mpr (List.mem_cons_self ..); simp at this
  | a :: l, [], _, _, h => by have := (h a).mp (List.mem_cons_self ..); simp at this
  | a :: l, b :: m, hl, hm, h => by
    rw [List.pairwise_cons] at hl hm
    have ir : ∀ x, ¬ ltE x x := fun x hx => by unfold ltE at hx; omega
    have as : ∀ x y, ltE x y → ¬ ltE y x := fun x y h1 h2 => by unfold ltE at h1 h2; omega
    have hab : a = b := by
      have h1 := (h a).mp (List.mem_cons_self ..)
      have h2 := (h b).mpr (List.mem_cons_self ..)
      rcases List.mem_cons.mp h1 with e | h1
      · exact e
      · rcases List.mem_cons.mp h2 with e | h2
        · exact e.symm
        · exact absurd (hl.1 b h2) (as _ _ (hm.1 a h1))
    subst hab
    rw [ltE_unique hl.2 hm.2 fun x => ?_]
    constructor
    · intro hx
      rcases List.mem_cons.mp ((h x).mp (List.mem_cons_of_mem _ hx)) with e | hx2
      · subst e; exact absurd (hl.1 x hx) (ir x)
      · exact hx2
    · intro hx
      rcases List.mem_cons.mp ((h x).mpr (List.mem_cons_of_mem _ hx)) with e | hx2
      · subst e; exact absurd (hm.1 x hx) (ir x)
      · exact hx2
theorem plc_put {xs : List Int} {i g j : Int} (h1 : 1 ≤ i) (h2 : i ≤ xs.length) (h3 : 1 ≤ j) : plc (putP xs i g) j = if j = i then g else plc xs j := by
  unfold plc putP
  rw [List.getD_eq_getElem?_getD, List.getElem?_set, List.getD_eq_getElem?_getD]
  by_cases e : j = i
  · subst e
    rw [if_pos rfl, if_pos rfl, if_pos (by omega)]
    rfl
  · rw [if_neg e, if_neg (by omega)]
theorem putP_len (xs : List Int) (i g : Int) : (putP xs i g).length = xs.length := by unfold putP; rw [List.length_set]
theorem Stds.put {m n : Nat} {xs : List Int} (h : Stds m n xs) {i g : Int} (h1 : 1 ≤ g) (h2 : g ≤ n) : Stds m n (putP xs i g) := by
  refine ⟨by rw [putP_len]; exact h.len, fun x hx => ?_⟩
  unfold putP at hx
  rcases List.mem_or_eq_of_mem_set hx with hx | hx
  · exact h.rng x hx
  · rw [hx]; exact ⟨h1, h2⟩
/-- what stands ahead of a place and behind it -/
theorem put_cut {xs : List Int} {i : Nat} {g : Int} (h : i < xs.length) : xs.take i ++ [g] ++ xs.drop (i + 1) = putP xs ((i : Int) + 1) g := by
  unfold putP
  rw [show ((i : Int) + 1).toNat - 1 = i by omega, List.set_eq_take_append_cons_drop, if_pos h, List.append_assoc]
  rfl
theorem cut_to (xs : List V) {k : Nat} (h : k ≤ xs.length) : cutV xs none (some (k : Int)) = xs.take k := by
  unfold cutV
  rw [HT.sIx_nat, HT.sIx_none, List.drop_zero, Nat.sub_zero, Nat.min_eq_left h]
theorem cut_from (xs : List V) {k : Nat} (h : k ≤ xs.length) : cutV xs (some (k : Int)) none = xs.drop k := by
  unfold cutV
  rw [HT.sIx_nat, HT.sIx_none, Nat.min_eq_left h]
  rw [List.take_of_length_le]
  rw [List.length_drop]
  exact Nat.le_refl _
theorem dpAll_map {K : PySem.W.Frag} {H : Hp} {α : Type} (g : α → V) (d : α → PyData) : ∀ {l : List α}, (∀ x ∈ l, Dp K H (g x) (d x)) → DpAll K H (l.map g) (l.map d)
  | [], _ => .nil
  | x :: l, h => .cons (h x (List.mem_cons_self ..)) (dpAll_map g d fun y hy => h y (List.mem_cons_of_mem _ hy))
end
/-! piece GA -/
section
/-! ### joined by steps, either way -/
inductive Joined {α : Type} (R : α → α → Prop) : α → α → Prop where
  | refl (x : α) : Joined R x x
  | next {x y z : α} (h : Joined R x y) (s : R y z ∨ R z y) : Joined R x z
section
variable {α β : Type} {R : α → α → Prop} {S : β → β → Prop}
theorem Joined.one {x y : α} (h : R x y) : Joined R x y := .next (.refl x) (.inl h)
theorem Joined.trans {x y z : α} (h : Joined R x y) (k : Joined R y z) : Joined R x z := by
  induction k with
  | refl => exact h
  | next _ s ih => exact .next ih s
theorem Joined.symm {x y : α} (h : Joined R x y) : Joined R y x := by
  induction h with
  | refl => exact .refl _
  | next _ s ih => exact Joined.trans (.next (.refl _) s.symm) ih
theorem Joined.of {T : α → α → Prop} (hT : ∀ x y, R x y → Joined T x y) {x y : α} (h : Joined R x y) : Joined T x y := by
  induction h with
  | refl => exact .refl _
  | next _ s ih => exact ih.trans (s.elim (hT _ _) fun s => (hT _ _ s).symm)
theorem Joined.via (f : α → β) (hf : ∀ x y, R x y → Joined S (f x) (f y)) {x y : α} (h : Joined R x y) : Joined S (f x) (f y) := by
  induction h with
  | refl => exact .refl _
  | next _ s ih => exact ih.trans (s.elim (hf _ _) fun s => (hf _ _ s).symm)
theorem Joined.inv (f : α → β) (hf : ∀ x y, R x y → f x = f y) {x y : α} (h : Joined R x y) : f x = f y := by
  induction h with
  | refl => rfl
  | next _ s ih => exact ih.trans (s.elim (hf _ _) fun s => (hf _ _ s).symm)
/-- a new mark for all that bear the mark of a: that of b -/
def remark (f : α → Int) (a b : α) : α → Int := fun z => if f z = f a then f b else f z
theorem remark_keep {f : α → Int} {p q : α} (a b : α) (h : f p = f q) : remark f a b p = remark f a b q := by
  unfold remark
  rw [h]
theorem remark_at (f : α → Int) (a b : α) : remark f a b a = remark f a b b := by
  unfold remark
  rw [if_pos rfl]
  by_cases h : f b = f a
  · rw [if_pos h]
  · rw [if_neg h]
theorem remark_sound {f : α → Int} {D : α → Prop} (hf : ∀ x y, D x → D y → f x = f y → Joined R x y) {a b : α} (ha : D a) (hb : D b) (hab : Joined R a b) : ∀ x y, D x → D y → remark f a b x = remark f a b y → Joined R x y := by
  intro x y hx hy
  unfold remark
  by_cases h1 : f x = f a
  · by_cases h2 : f y = f a
    · exact fun _ => hf x y hx hy (h1.trans h2.symm)
    · rw [if_pos h1, if_neg h2]
      exact fun e => (hf x a hx ha h1).trans (hab.trans (hf b y hb hy e))
  · by_cases h2 : f y = f a
    · rw [if_neg h1, if_pos h2]
      exact fun e => (hf x b hx hb e).trans (hab.symm.trans (hf a y ha hy h2.symm))
    · rw [if_neg h1, if_neg h2]
      exact hf x y hx hy
end
theorem plc_map {xs : List Int} {f : Int → Int} {i : Int} (h1 : 1 ≤ i) (h2 : i ≤ xs.length) : plc (xs.map f) i = f (plc xs i) := by
  have a := plc_get (xs := xs) h1 h2
  have b := plc_get (xs := xs.map f) (i := i) h1 (by rw [List.length_map]; exact h2)
  rw [List.getElem?_map, a] at b
  exact (Option.some.inj b).symm
/-! ### rows of people, and steps of one of them -/
structure RowOk (m : Nat) (es fs : List Edge) (S xs : List Int) : Prop where
  len : xs.length = m
  inn : ∀ x ∈ xs, x ∈ S
  ok : StandOk es fs xs
structure MvS (m : Nat) (es fs : List Edge) (S xs ys : List Int) : Prop where
  a : RowOk m es fs S xs
  b : RowOk m es fs S ys
  ex : ∃ i g : Int, 1 ≤ i ∧ i ≤ m ∧ ys = putP xs i g ∧ Adj es (plc xs i) g
theorem RowOk.mono {m : Nat} {es fs : List Edge} {S T xs : List Int} (h : RowOk m es fs S xs) (hs : ∀ x ∈ S, x ∈ T) : RowOk m es fs T xs := ⟨h.len, fun x hx => hs x (h.inn x hx), h.ok⟩
theorem MvS.mono {m : Nat} {es fs : List Edge} {S T xs ys : List Int} (h : MvS m es fs S xs ys) (hs : ∀ x ∈ S, x ∈ T) : MvS m es fs T xs ys := ⟨h.a.mono hs, h.b.mono hs, h.ex⟩
theorem RowOk.at {m : Nat} {es fs : List Edge} {S xs : List Int} (h : RowOk m es fs S xs) {i : Int} (h1 : 1 ≤ i) (h2 : i ≤ m) : plc xs i ∈ S := h.inn _ (plc_mem h1 (by rw [h.len]; exact h2))
theorem row_map {m : Nat} {es es2 fs : List Edge} {S T xs : List Int} (hf : Simp m fs) (g : Int → Int) (hin : ∀ x ∈ S, g x ∈ T) (hom : ∀ x ∈ S, ∀ y ∈ S, Adj es x y → Adj es2 (g x) (g y)) (h : RowOk m es fs S xs) : RowOk m es2 fs T (xs.map g) := by
  refine ⟨by rw [List.length_map, h.len], fun x hx => ?_, fun e he => ?_⟩
  · obtain ⟨y, hy, rfl⟩ := List.mem_map.mp hx
    exact hin y (h.inn y hy)
  · have hr := hf.rng e he
    rw [plc_map hr.1 (by rw [h.len]; exact hr.2.1), plc_map hr.2.2.1 (by rw [h.len]; exact hr.2.2.2.1)]
    exact hom _ (h.at hr.1 hr.2.1) _ (h.at hr.2.2.1 hr.2.2.2.1) (h.ok e he)
theorem put_map (xs : List Int) (i a : Int) (g : Int → Int) : (putP xs i a).map g = putP (xs.map g) i (g a) := by
  unfold putP
  rw [List.map_set]
theorem mv_map {m : Nat} {es es2 fs : List Edge} {S T xs ys : List Int} (hf : Simp m fs) (g : Int → Int) (hin : ∀ x ∈ S, g x ∈ T) (hom : ∀ x ∈ S, ∀ y ∈ S, Adj es x y → Adj es2 (g x) (g y)) (h : MvS m es fs S xs ys) : MvS m es2 fs T (xs.map g) (ys.map g) := by
  obtain ⟨i, a, h1, h2, e, ha⟩ := h.ex
  refine ⟨row_map hf g hin hom h.a, row_map hf g hin hom h.b, i, g a, h1, h2, by rw [e, put_map], ?_⟩
  have hl : i ≤ xs.length := by rw [h.a.len]; exact h2
  have hy := h.b.at h1 h2
  rw [e, plc_put h1 hl h1, if_pos rfl] at hy
  rw [plc_map h1 hl]
  exact hom _ (h.a.at h1 h2) _ hy ha
/-- all who stand on p go to q, one by one -/
def goOne (p q : Int) (ys : List Int) (k : Int) : List Int := if plc ys k = p then putP ys k q else ys
theorem goOne_len (p q : Int) (ys : List Int) (k : Int) : (goOne p q ys k).length = ys.length := by
  unfold goOne
  split
  · exact putP_len ..
  · rfl
theorem go_all {m : Nat} {es fs : List Edge} {S : List Int} (hf : Simp m fs) {p q : Int} (hs : StepOk (Adj es) (· ∈ S) p q) : ∀ (ks xs : List Int), (∀ k ∈ ks, 1 ≤ k ∧ k ≤ m) → RowOk m es fs S xs →
    Joined (MvS m es fs S) xs (ks.foldl (goOne p q) xs) ∧ RowOk m es fs S (ks.foldl (goOne p q) xs) ∧ ∀ i : Int, 1 ≤ i → plc (ks.foldl (goOne p q) xs) i = if i ∈ ks ∧ plc xs i = p then q else plc xs i
  | [], xs, _, h => ⟨.refl xs, h, fun i _ => by simp⟩
  | k :: ks, xs, hk, h => by
    obtain ⟨hp, hq, hne, hn⟩ := hs
    obtain ⟨h1, h2⟩ := hk k (List.mem_cons_self ..)
    have hl : k ≤ xs.length := by rw [h.len]; exact h2
    have one : Joined (MvS m es fs S) xs (goOne p q xs k) ∧ RowOk m es fs S (goOne p q xs k) := by
      unfold goOne
      by_cases e : plc xs k = p
      · rw [if_pos e]
        have hR : RowOk m es fs S (putP xs k q) := by
          refine ⟨by rw [putP_len, h.len], fun x hx => ?_, fun u hu => ?_⟩
          · unfold putP at hx
            rcases List.mem_or_eq_of_mem_set hx with hx | hx
            · exact h.inn x hx
            · rw [hx]; exact hq
          · have hr := hf.rng u hu
            have ha := h.ok u hu
            rw [plc_put h1 hl hr.1, plc_put h1 hl hr.2.2.1]
            by_cases e1 : u.1 = k
            · rw [if_pos e1, if_neg (fun e2 => hr.2.2.2.2 (e1.trans e2.symm))]
              rw [e1, e] at ha
              exact hn _ (h.at hr.2.2.1 hr.2.2.2.1) ha
            · rw [if_neg e1]
              by_cases e2 : u.2 = k
              · rw [if_pos e2]
                rw [e2, e] at ha
                exact adj_symm _ _ (hn _ (h.at hr.1 hr.2.1) (adj_symm _ _ ha))
              · rw [if_neg e2]
                exact ha
        exact ⟨.one ⟨h, hR, k, q, h1, h2, rfl, by rw [e]; exact adj_symm _ _ (hn p hp (adj_refl es p))⟩, hR⟩
      · rw [if_neg e]
        exact ⟨.refl xs, h⟩
    obtain ⟨j2, r2, at2⟩ := go_all hf ⟨hp, hq, hne, hn⟩ ks (goOne p q xs k) (fun j hj => hk j (List.mem_cons_of_mem _ hj)) one.2
    refine ⟨one.1.trans j2, r2, fun i hi => ?_⟩
    show plc (ks.foldl (goOne p q) (goOne p q xs k)) i = _
    rw [at2 i hi]
    have hg : plc (goOne p q xs k) i = if i = k ∧ plc xs k = p then q else plc xs i := by
      unfold goOne
      by_cases e : plc xs k = p
      · rw [if_pos e, plc_put h1 hl hi]
        by_cases e2 : i = k
        · rw [if_pos e2, if_pos ⟨e2, e⟩]
        · rw [if_neg e2, if_neg (fun z => e2 z.1)]
      · rw [if_neg e, if_neg (fun z => e z.2)]
    by_cases e2 : i = k
    · subst e2
      by_cases e : plc xs i = p
      · rw [show plc (goOne p q xs i) i = q by rw [hg, if_pos ⟨rfl, e⟩], if_neg (fun z => hne z.2.symm), if_pos ⟨List.mem_cons_self .., e⟩]
      · rw [show plc (goOne p q xs i) i = plc xs i by rw [hg, if_neg (fun z => e z.2)], if_neg (fun z => e z.2), if_neg (fun z => e z.2)]
    · rw [show plc (goOne p q xs k) i = plc xs i by rw [hg, if_neg (fun z => e2 z.1)]]
      by_cases e : i ∈ ks ∧ plc xs i = p
      · rw [if_pos e, if_pos ⟨List.mem_cons_of_mem _ e.1, e.2⟩]
      · rw [if_neg e, if_neg (fun z => e ⟨(List.mem_cons.mp z.1).resolve_left e2, z.2⟩)]
theorem fold_join {m : Nat} {es fs : List Edge} {S xs : List Int} (hf : Simp m fs) {p q : Int} (hs : StepOk (Adj es) (· ∈ S) p q) (h : RowOk m es fs S xs) :
    Joined (MvS m es fs S) xs (xs.map fun a => if a = p then q else a) ∧ RowOk m es fs S (xs.map fun a => if a = p then q else a) := by
  obtain ⟨j, r, at_⟩ := go_all hf hs (allM m) xs (fun k hk => allM_mem.mp hk) h
  have e : (allM m).foldl (goOne p q) xs = xs.map fun a => if a = p then q else a := by
    refine plc_ext (by rw [r.len, List.length_map, h.len]) fun i h1 h2 => ?_
    rw [r.len] at h2
    rw [at_ i h1, plc_map h1 (by rw [h.len]; exact h2)]
    by_cases e : plc xs i = p
    · rw [if_pos e, if_pos ⟨allM_mem.mpr ⟨h1, h2⟩, e⟩]
    · rw [if_neg e, if_neg (fun z => e z.2)]
  rw [e] at j r
  exact ⟨j, r⟩
theorem run_join {m : Nat} {es fs : List Edge} (hf : Simp m fs) {left left' : List Int} {l : List Edge} (r : RunL es left l left') : ∀ {xs : List Int}, RowOk m es fs left xs → Joined (MvS m es fs left) xs (xs.map (mapR l)) ∧ RowOk m es fs left' (xs.map (mapR l)) := by
  induction r with
  | nil left =>
    intro xs h
    have e : xs.map (mapR []) = xs := List.map_id xs
    rw [e]
    exact ⟨.refl xs, h⟩
  | @cons left left' p q l hp hq r ih =>
    intro xs h
    have hs := (ontoM_mem hp).mp hq
    obtain ⟨j, k⟩ := fold_join hf hs h
    have k2 : RowOk m es fs (without left p) (xs.map fun a => if a = p then q else a) := by
      refine ⟨k.len, fun x hx => without_mem.mpr ⟨k.inn x hx, fun e => ?_⟩, k.ok⟩
      obtain ⟨a, _, ha⟩ := List.mem_map.mp hx
      by_cases h : a = p
      · rw [if_pos h, e] at ha
        exact hs.2.2.1 ha.symm
      · rw [if_neg h, e] at ha
        exact h ha
    obtain ⟨j2, k3⟩ := ih k2
    have e : (xs.map fun a => if a = p then q else a).map (mapR l) = xs.map (mapR ((p, q) :: l)) := by
      rw [List.map_map]
      rfl
    rw [e] at j2 k3
    exact ⟨j.trans (j2.of fun x y h => .one (h.mono fun z hz => (without_mem.mp hz).1)), k3⟩
/-- two standings lead to one another just if those to which the map of the folds leads them do so on what is left -/
theorem ends_join {m : Nat} {es fs : List Edge} (hf : Simp m fs) {S left : List Int} {l : List Edge} (r : RunL es S l left) {xs ys : List Int} (hx : RowOk m es fs S xs) (hy : RowOk m es fs S ys) :
    Joined (MvS m es fs S) xs ys ↔ Joined (MvS m es fs left) (xs.map (mapR l)) (ys.map (mapR l)) := by
  constructor
  · exact fun h => h.via (List.map (mapR l)) fun x y h => .one (mv_map hf (mapR l) (fun x hx => mapR_in r.run hx) (fun x hx y hy ha => mapR_hom adj_symm r.run hx hy ha) h)
  · intro h
    have j := h.of (T := MvS m es fs S) fun x y h => .one (h.mono r.sub)
    exact (run_join hf r hx).1.trans (j.trans (run_join hf r hy).1.symm)
/-! ### people of whom one is left by folding -/
theorem plc_all {m : Nat} {i : Int} (h1 : 1 ≤ i) (h2 : i ≤ m) : plc (allM m) i = i := by
  have e := plc_of (xs := allM m) (k := i.toNat - 1) (x := i) (by
    unfold allM
    rw [List.getElem?_map, List.getElem?_range (by omega)]
    simp only [Option.map_some, Option.some.injEq]
    omega)
  rwa [show ((i.toNat - 1 : Nat) : Int) + 1 = i by omega] at e
theorem all_plc {m : Nat} {xs : List Int} (h : xs.length = m) : (allM m).map (plc xs) = xs := by
  have hl : (allM m).length = m := by unfold allM; simp
  refine plc_ext (by rw [List.length_map, hl, h]) fun i h1 h2 => ?_
  rw [List.length_map, hl] at h2
  rw [plc_map h1 (by rw [hl]; exact h2), plc_all h1 h2]
theorem RowOk.hom {m : Nat} {es fs : List Edge} {S xs : List Int} (h : RowOk m es fs S xs) {a b : Int} (hab : Adj fs a b) : Adj es (plc xs a) (plc xs b) := by
  rcases List.mem_cons.mp hab with e | hm
  · rw [e]; exact adj_refl _ _
  · exact h.ok.mate hm
theorem shrink_join {m : Nat} {es fs : List Edge} {S xs : List Int} (hf : Simp m fs) (hs : Shrinks m fs) (h : RowOk m es fs S xs) : ∃ r : Int, 1 ≤ r ∧ r ≤ m ∧ Joined (MvS m es fs S) xs (List.replicate m (plc xs r)) := by
  obtain ⟨l, r, hr⟩ := hs
  have hl : (allM m).length = m := by unfold allM; simp
  have hid : RowOk m fs fs (allM m) (allM m) := ⟨hl, fun _ h => h, fun e he => by
    have hr := hf.rng e he
    rw [plc_all hr.1 hr.2.1, plc_all hr.2.2.1 hr.2.2.2.1]
    exact List.mem_cons_of_mem _ (mem_mates.mpr (.inl he))⟩
  have hrm := allM_mem.mp (hr.sub r (List.mem_cons_self ..))
  have j := (run_join hf hr hid).1.via (S := MvS m es fs S) (List.map (plc xs)) fun x y k => .one (mv_map hf (plc xs) (fun i hi => h.at (allM_mem.mp hi).1 (allM_mem.mp hi).2) (fun a _ b _ hab => h.hom hab) k)
  rw [all_plc h.len] at j
  have e : ((allM m).map (mapR l)).map (plc xs) = List.replicate m (plc xs r) := by
    rw [List.eq_replicate_iff]
    refine ⟨by rw [List.length_map, List.length_map, hl], fun b hb => ?_⟩
    obtain ⟨c, hc, rfl⟩ := List.mem_map.mp hb
    obtain ⟨d, hd, rfl⟩ := List.mem_map.mp hc
    have := mapR_in hr.run hd
    rw [List.mem_singleton.mp this]
  rw [e] at j
  exact ⟨r, hrm.1, hrm.2, j⟩
theorem plc_repl {m : Nat} {c i : Int} (h1 : 1 ≤ i) (h2 : i ≤ m) : plc (List.replicate m c) i = c := by
  unfold plc
  rw [List.getD_eq_getElem?_getD, List.getElem?_replicate, if_pos (by omega)]
  rfl
theorem repl_row {m : Nat} {es fs : List Edge} {S : List Int} {c : Int} (hf : Simp m fs) (hc : c ∈ S) : RowOk m es fs S (List.replicate m c) :=
  ⟨List.length_replicate, fun x hx => by rw [(List.mem_replicate.mp hx).2]; exact hc, fun e he => by
    have hr := hf.rng e he
    rw [plc_repl hr.1 hr.2.1, plc_repl hr.2.2.1 hr.2.2.2.1]
    exact adj_refl es c⟩
theorem repl_join {m : Nat} {es fs : List Edge} {S : List Int} (hf : Simp m fs) {a b : Int} (ha : a ∈ S) (hb : b ∈ S) (hab : Adj es a b) : Joined (MvS m es fs S) (List.replicate m a) (List.replicate m b) := by
  by_cases e : a = b
  · rw [e]; exact .refl _
  have hs : StepOk (Adj es) (· ∈ [a, b]) a b := by
    refine ⟨by simp, by simp, e, fun z hz hza => ?_⟩
    rcases List.mem_cons.mp hz with rfl | hz
    · exact adj_symm _ _ hab
    · rw [List.mem_singleton.mp hz]; exact adj_refl es b
  have j := (fold_join (xs := List.replicate m a) hf hs (repl_row hf (List.mem_cons_self ..))).1
  rw [List.map_replicate, if_pos rfl] at j
  refine j.of fun x y h => .one (h.mono fun z hz => ?_)
  rcases List.mem_cons.mp hz with rfl | hz
  · exact ha
  · rw [List.mem_singleton.mp hz]; exact hb
theorem adj_in {n : Nat} {es : List Edge} (hS : Simp n es) {a b : Int} (h : Adj es a b) (ha : a ∈ allM n) : b ∈ allM n := by
  rcases List.mem_cons.mp h with e | hm
  · rw [e]; exact ha
  · have := mates_rng hS b hm
    exact allM_mem.mpr ⟨this.1, this.2.1⟩
theorem repl_path {n m : Nat} {es fs : List Edge} (hS : Simp n es) (hf : Simp m fs) {a b : Int} (h : Joined (Adj es) a b) (ha : a ∈ allM n) : b ∈ allM n ∧ Joined (MvS m es fs (allM n)) (List.replicate m a) (List.replicate m b) := by
  induction h with
  | refl => exact ⟨ha, .refl _⟩
  | next _ s ih =>
    have hab : Adj es _ _ := s.elim id (adj_symm _ _)
    have hz := adj_in hS hab ih.1
    exact ⟨hz, ih.2.trans (repl_join hf ih.1 hz hab)⟩
theorem first_join {m : Nat} {es fs : List Edge} {S xs ys : List Int} (hm : 1 ≤ m) (h : Joined (MvS m es fs S) xs ys) : Joined (Adj es) (plc xs 1) (plc ys 1) := by
  refine h.via (fun z => plc z 1) fun x y k => ?_
  obtain ⟨i, g, h1, h2, e, ha⟩ := k.ex
  show Joined (Adj es) (plc x 1) (plc y 1)
  rw [e, plc_put h1 (by rw [k.a.len]; exact h2) (Int.le_refl _)]
  by_cases e1 : (1 : Int) = i
  · rw [if_pos e1, e1]
    exact .one ha
  · rw [if_neg e1]
    exact .refl _
/-- where people are left alone by folding, their standings lead to one another just if their places hang together -/
theorem crowd_join {n m : Nat} {es fs : List Edge} (hS : Simp n es) (hf : Simp m fs) (hm : 1 ≤ m) (hs : Shrinks m fs) {xs ys : List Int} (hx : RowOk m es fs (allM n) xs) (hy : RowOk m es fs (allM n) ys) :
    Joined (MvS m es fs (allM n)) xs ys ↔ Joined (Adj es) (plc xs 1) (plc ys 1) := by
  refine ⟨first_join hm, fun h => ?_⟩
  obtain ⟨r, h1, h2, j1⟩ := shrink_join hf hs hx
  obtain ⟨r2, h3, h4, j2⟩ := shrink_join hf hs hy
  have k1 := first_join hm j1
  have k2 := first_join hm j2
  rw [plc_repl (Int.le_refl _) (by omega)] at k1 k2
  exact j1.trans ((repl_path hS hf (k1.symm.trans (h.trans k2)) (hx.at h1 h2)).2.trans j2.symm)
end
/-! piece WH -/
section
theorem cut5 (ns : List Int) : (cutV (ns.map V.int) none (some 5)).length ≤ 5 := by
  unfold cutV
  rw [List.length_take]
  refine Nat.le_trans (Nat.min_le_left _ _) (Nat.le_trans (Nat.sub_le _ _) ?_)
  unfold HT.sIx
  simp only [show ¬ (5 : Int) < 0 by decide, if_false]
  omega
theorem cutInt {ns : List Int} {lo hi : Option Int} {x : V} (h : x ∈ cutV (ns.map V.int) lo hi) : ∃ i, x = V.int i := by
  unfold cutV at h
  obtain ⟨i, _, rfl⟩ := List.mem_map.mp (List.mem_of_mem_drop (List.mem_of_mem_take h))
  exact ⟨i, rfl⟩
/-! ### nets written in the text -/
structure RowAt (H : Hp) (rs : List Addr) (es : List Edge) : Prop where
  len : rs.length = es.length
  at_ : ∀ (i : Nat) (r : Addr) (e : Edge), rs[i]? = some r → es[i]? = some e → H r = some (.lst [.int e.1, .int e.2])
theorem RowAt.nil (H : Hp) : RowAt H [] [] := ⟨rfl, fun i r e h _ => by simp at h⟩
theorem RowAt.same {H H' : Hp} {rs : List Addr} {es : List Edge} (h : RowAt H rs es) (s : Same H H') : RowAt H' rs es := ⟨h.len, fun i r e a b => s _ _ (h.at_ i r e a b)⟩
theorem RowAt.snoc {H : Hp} {rs : List Addr} {es : List Edge} {r : Addr} {a b : Int} (h : RowAt H rs es) (nr : H r = none) : RowAt (upd H r (.lst [.int a, .int b])) (rs ++ [r]) (es ++ [(a, b)]) := by
  have hs := h.same (same_upd (o := .lst [.int a, .int b]) (Same.refl _) nr)
  refine ⟨by simp [h.len], fun i r2 e h1 h2 => ?_⟩
  by_cases hi : i < rs.length
  · rw [List.getElem?_append_left hi] at h1
    rw [List.getElem?_append_left (by rw [← h.len]; exact hi)] at h2
    exact hs.at_ i r2 e h1 h2
  · have hlt : i < (rs ++ [r]).length := (List.getElem?_eq_some_iff.mp h1).1
    have hi2 : i = rs.length := by rw [List.length_append, List.length_singleton] at hlt; omega
    subst hi2
    rw [List.getElem?_concat_length] at h1
    rw [h.len, List.getElem?_concat_length] at h2
    cases h1
    cases h2
    exact upd_same
theorem RowAt.net {H : Hp} {rs : List Addr} {es : List Edge} {q : Addr} (h : RowAt H rs es) (nq : H q = none) : PsAt (upd H q (.lst (rs.map V.ref))) q rs es :=
  let hs := h.same (same_upd (o := .lst (rs.map V.ref)) (Same.refl _) nq)
  ⟨upd_same, hs.len, hs.at_⟩
theorem simp_of {n : Int} {es : List Edge} (h1 : ∀ e ∈ es, 1 ≤ e.1 ∧ e.1 ≤ n ∧ 1 ≤ e.2 ∧ e.2 ≤ n ∧ e.1 ≠ e.2) (h2 : es.Pairwise fun a b => a ≠ b ∧ a ≠ (b.2, b.1)) : Simp n es := ⟨h1, h2⟩
theorem eqv_dI (xs : List Int) : PyData.eqv (dI xs) (dI xs) = true := by
  unfold dI
  induction xs with
  | nil => simp [PyData.eqv, PyData.eqvAll]
  | cons a l ih => simp_all [PyData.eqv, PyData.eqvAll]
@[irreducible] def spLaw (K : PySem.W.Frag) : Sp := fun vs H Q _ => ∃ (a : Addr) (ns : List Int), vs = [.ref a] ∧ SqL K H a (ns.map V.int) ∧ ns.length ≤ sizeLine ∧ ∀ H', Q (.bl true) H'
theorem PsAt.take {H : Hp} {D c : Addr} {rs : List Addr} {es : List Edge} (h : PsAt H D rs es) (k : Nat) (nc : H c = none) : PsAt (upd H c (.lst ((rs.map V.ref).take k))) c (rs.take k) (es.take k) := by
  have sm : Same H (upd H c (.lst ((rs.map V.ref).take k))) := same_upd (Same.refl _) nc
  refine ⟨by rw [upd_same, List.map_take], by rw [List.length_take, List.length_take, h.len], fun i r e hr he => ?_⟩
  rw [List.getElem?_take] at hr he
  by_cases hi : i < k
  · rw [if_pos hi] at hr he
    exact sm _ _ (h.at_ i r e hr he)
  · rw [if_neg hi] at hr
    cases hr
theorem same_draw {A B C : Hp} {d : Addr} {o : HO} (h : Same A B) (n : B d = none) (s : SameBut d (upd B d o) C) : Same A C := fun b ob e => by
  have h1 := h b ob e
  have hne : b ≠ d := ne_of_none h1 n
  exact s b ob hne (by rw [upd_ne hne]; exact h1)
end
/-! piece TSV -/
section
/-! ### the written nets -/
def runC (es : List Edge) : List Int → List Edge → Option (List Int)
  | left, [] => some left
  | left, (p, q) :: l => if p ∈ left ∧ q ∈ ontoM es left p then runC es (without left p) l else none
theorem runC_run {es : List Edge} : ∀ {l : List Edge} {left left' : List Int}, runC es left l = some left' → RunL es left l left'
  | [], left, left', h => by cases Option.some.inj h; exact .nil _
  | (p, q) :: l, left, left', h => by
    unfold runC at h
    split at h
    · rename_i hc
      exact .cons hc.1 hc.2 (runC_run h)
    · cases h
def ring4 : List Edge := [(1, 2), (2, 3), (3, 4), (4, 1)]
def more3 : List Edge := [(1, 5), (2, 5), (4, 5)]
def tie1 : List Edge := [(1, 2)]
def tie2 : List Edge := [(1, 2), (3, 2)]
def tie4 : List Edge := [(1, 2), (2, 3), (3, 1), (3, 4)]
theorem simp_ring4 : Simp ((4 : Nat) : Int) ring4 := simp_of (by decide) (by decide)
theorem simp_more : Simp ((5 : Nat) : Int) (ring4 ++ more3) := simp_of (by decide) (by decide)
theorem simp_two : Simp ((4 : Nat) : Int) (ring4.take 2) := simp_of (by decide) (by decide)
theorem simp_tie1 : Simp ((2 : Nat) : Int) tie1 := simp_of (by decide) (by decide)
theorem simp_tie2 : Simp ((3 : Nat) : Int) tie2 := simp_of (by decide) (by decide)
theorem simp_tie4 : Simp ((4 : Nat) : Int) tie4 := simp_of (by decide) (by decide)
theorem simp_none (n : Nat) : Simp (n : Int) [] := simp_of (fun e h => nomatch h) List.Pairwise.nil
theorem shr_tie1 : Shrinks 2 tie1 := ⟨[(2, 1)], 1, runC_run (by decide +kernel)⟩
theorem shr_tie2 : Shrinks 3 tie2 := ⟨[(1, 2), (3, 2)], 2, runC_run (by decide +kernel)⟩
theorem shr_tie4 : Shrinks 4 tie4 := ⟨[(4, 3), (1, 2), (2, 3)], 3, runC_run (by decide +kernel)⟩
theorem ring_facts (n : Nat) (h1 : 4 ≤ n) (h2 : n ≤ 12) : Simp ((n : Nat) : Int) (ringM n) ∧ StandOk (ringM n) (ringM n) (allM n) ∧ mayM n (ringM n) (ringM n) (allM n) n = [] := by
  have h : n = 4 ∨ n = 5 ∨ n = 6 ∨ n = 7 ∨ n = 8 ∨ n = 9 ∨ n = 10 ∨ n = 11 ∨ n = 12 := by omega
  rcases h with rfl | rfl | rfl | rfl | rfl | rfl | rfl | rfl | rfl <;> exact ⟨simp_of (by decide +kernel) (by decide +kernel), by decide +kernel, by decide +kernel⟩
/-- a net that stands there as a tuple of a number and a list -/
def NetT (lo hi : Nat) (Z : Nat → List Edge → Prop) (H : Hp) (r : Addr) : Prop := ∃ (n : Nat) (q : Addr) (es : List Edge), H r = some (.tup [.int n, .ref q]) ∧ Pairs H q es ∧ Simp n es ∧ es.length ≤ 200 ∧ lo ≤ n ∧ n ≤ hi ∧ Z n es
theorem NetT.same {lo hi : Nat} {Z : Nat → List Edge → Prop} {H H' : Hp} {r : Addr} (h : NetT lo hi Z H r) (s : Same H H') : NetT lo hi Z H' r := by
  obtain ⟨n, q, es, a, b, c⟩ := h
  exact ⟨n, q, es, s _ _ a, b.same s, c⟩
end
/-! piece PLA -/
section
variable {P : Program} {w : World} {K : PySem.W.Frag} {mg : Str → Option Value} {base : Heap}
/-! ### left_after -/
@[irreducible] def spLeft : Sp := fun vs H Q _ => ∃ (q o : Addr) (n : Nat) (es l : List Edge) (left : List Int), vs = [.int n, .ref q, .ref o] ∧ 1 ≤ n ∧ n ≤ 12 ∧ Pairs H q es ∧ Simp n es ∧ es.length ≤ 200 ∧ H o = some (iL (l.map (·.1))) ∧ RunL es (allM n) l left ∧
  ∀ p H', Same H H' → H p = none → H' p = some (iL left) → Q (.ref p) H'
theorem call_left {q o : Addr} {n : Nat} {es l : List Edge} {left : List Int} {H : Hp} {Q : VK} {E : XK} (h1 : 1 ≤ n) (hn : n ≤ 12) (hq : Pairs H q es) (hS : Simp n es) (hl : es.length ≤ 200) (ho : H o = some (iL (l.map (·.1)))) (hR : RunL es (allM n) l left)
    (fin : ∀ p H', Same H H' → H p = none → H' p = some (iL left) → Q (.ref p) H') : spLeft [.int n, .ref q, .ref o] H Q E := by
  unfold spLeft
  exact ⟨q, o, n, es, l, left, rfl, h1, hn, hq, hS, hl, ho, hR, fin⟩
set_option maxHeartbeats 4000000 in
theorem ok_left {f : Addr} {fd : FuncData} (F : Fun K "left_after" "left_after" s_left_after f fd) (C : Cal P w K mg base "read_net" 2 ["places", "lines"] spRead) (C2 : Cal P w K mg base "read_folds" 2 ["near", "order"] spRFolds) (C3 : Cal P w K mg base "members" 1 ["lot"] spMembers) :
    FnOk P w K mg base CX0 3 f fd ["places", "lines", "order"] spLeft := by
  refine F.ok sc_left_after (fun vs H Q E h => ?_) (fun cdv A outer s H vs Q E hr h => ?_)
  · unfold spLeft at h
    obtain ⟨q, o, n, es, l, left, rfl, _⟩ := h
    rfl
  · have nd := sc_left_after.nd
    have hS := sc_left_after
    have hKM : KMark K := ⟨⟩
    refine' mk_body ?body ?rd
    case body =>
      show PSs _ [_, _] _
      wtm_at "fo ss"
    case rd =>
     unfold spLeft at h
     obtain ⟨q, o, n, es, l, left, rfl, h1, hn, hq, hSi, hl, ho, hR, fin⟩ := h
     wtm_at "fo r"
     refine call_read h1 hn hq hSi hl (fun r H1 sm1 nr hr1 => ?_)
     wtm_at "fo r"
     refine call_rfolds hn hSi hr1 (sm1 _ _ ho) hR (fun p q2 rs v H2 sm2 np nq2 hp2 hT hv => ?_)
     have hin : InNet n left := (inNet_all n).run hR
     refine Or.inl ⟨p, [.int v, .ref q2], rfl, SqT.of hp2, rfl, .int v, [.ref q2], rfl, .ref q2, [], rfl, rfl, ?_⟩
     wtm_at "fo r"
     refine call_members (Nat.lt_of_lt_of_le (lot_small hv fun y hy => (hin.rng y hy).2) (Nat.pow_le_pow_right (by decide) (by omega))) (fun p3 H3 sm3 np3 hp3 => ?_)
     rw [members_lot hv hin.lt fun x hx => (hin.rng x hx).1] at hp3
     exact fin p3 H3 ((sm1.trans sm2).trans sm3) ((sm1.trans sm2).free np3) hp3
end
/-! tactics TAC5 -/
local macro_rules | `(tactic| wtm_at "fo slice") => `(tactic| ((with_reducible show PE _ (.Subscript _ (.Slice none none (some _) _) _) _); refine' pe_stepK2 (by assumption) (by exact rfl) ?ka ?kb; (case ka => wtm_at "fo e"); (case kb => wtm_at "fo e")))
/-! piece TSL -/
section
variable {P : Program} {w : World} {K : PySem.W.Frag} {mg : Str → Option Value} {base : Heap}
/-! ### _law_let -/
def letF (es : List Edge) (xs : List Int) (z o : Int) : Bool := decide (o ≤ (xs.length : Int)) && !decide (Adj es z (plc xs o))
def letB (es : List Edge) (os xs : List Int) (z : Int) : Bool := (os.filter (letF es xs z)).isEmpty
@[irreducible] def spLet : Sp := fun vs H Q _ => ∃ (q fr r : Addr) (n : Nat) (es : List Edge) (os xs : List Int) (z : Int), vs = [.ref q, .ref fr, .ref r, .int z] ∧ n ≤ 12 ∧ Simp n es ∧ Lists H q (nearM n es) ∧ H fr = some (iL os) ∧ H r = some (iL xs) ∧ (∀ o ∈ os, 1 ≤ o) ∧ os.length ≤ 100 ∧ xs.length ≤ 12 ∧ 1 ≤ z ∧ z ≤ n ∧
  ∀ H', Same H H' → Q (.bl (letB es os xs z)) H'
theorem call_let {q fr r : Addr} {n : Nat} {es : List Edge} {os xs : List Int} {z : Int} {H : Hp} {Q : VK} {E : XK} (hn : n ≤ 12) (hS : Simp n es) (hq : Lists H q (nearM n es)) (hf : H fr = some (iL os)) (hr : H r = some (iL xs)) (ho : ∀ o ∈ os, 1 ≤ o) (hl : os.length ≤ 100) (hx : xs.length ≤ 12) (h1 : 1 ≤ z) (h2 : z ≤ n)
    (fin : ∀ H', Same H H' → Q (.bl (letB es os xs z)) H') : spLet [.ref q, .ref fr, .ref r, .int z] H Q E := by
  unfold spLet
  exact ⟨q, fr, r, n, es, os, xs, z, rfl, hn, hS, hq, hf, hr, ho, hl, hx, h1, h2, fin⟩
set_option maxHeartbeats 4000000 in
theorem ok_let {f : Addr} {fd : FuncData} (F : Fun K "_law_let" "_law_let" s_law_let f fd) (mn : mg "len" = none) :
    FnOk P w K mg base CX0 1 f fd ["_law_near_here", "_law_friends", "_law_row", "_law_spot"] spLet := by
  refine F.ok sc_law_let (fun vs H Q E h => ?_) (fun cdv A outer s H vs Q E hr h => ?_)
  · unfold spLet at h
    obtain ⟨q, fr, r, n, es, os, xs, z, rfl, _⟩ := h
    rfl
  · have nd := sc_law_let.nd
    have hS := sc_law_let
    have hKM : KMark K := ⟨⟩
    refine' mk_body ?body ?rd
    case body =>
      show PSs _ [_] _
      wtm_at "fo ss"
    case rd =>
     unfold spLet at h
     obtain ⟨q, fr, r, n, es, os, xs, z, rfl, hn, hSi, hq, hf, hr0, ho, hl, hx, h1, h2, fin⟩ := h
     wtm_at "fo r"
     obtain ⟨rs, hD, hnd, hrl, hat⟩ := hq
     obtain ⟨zn, rfl⟩ : ∃ k : Nat, z = (k : Int) := ⟨z.toNat, by omega⟩
     have hg := near_get hSi (show 1 ≤ zn by omega) (by omega)
     have hl1 : zn < rs.length := by rw [hrl]; exact (List.getElem?_eq_some_iff.mp hg).1
     have hrz : rs[zn]? = some rs[zn] := List.getElem?_eq_getElem hl1
     have hrow := hat _ _ _ hrz hg
     generalize rs[zn] = rz at *
     refine ⟨⟨_, SqL.of hf⟩, fun D nD => ?_⟩
     refine lc_filt (K := K) (xs := os) (letF es xs (zn : Int)) (SqL.of hf) nD (Nat.le_trans hl (by decide)) (Nat.le_of_ble_eq_true rfl) rfl (fun _ => rfl) ?_ ?_
     · intro o hoo H2 sm2 R hR
       have ho1 := ho o hoo
       refine ⟨_, rfl, _, rfl, r, _, rfl, Or.inl (SqL.of (sm2 _ _ hr0)), _, _, rfl, rfl, _, rfl, ?_⟩
       rw [List.length_map]
       refine ite2 (fun hc => ?_) (fun hc => ?_)
       · have hc := of_decide_eq_true hc
         refine ⟨_, rfl, _, rfl, _, _, rfl, rfl, Or.inl ⟨r, _, o - 1, .int (plc xs o), rfl, rfl, SqL.of (sm2 _ _ hr0), at_of (j := o.toNat - 1) (by omega) (by rw [List.getElem?_map, plc_get ho1 hc]; rfl), ?_⟩⟩
         refine ⟨_, rfl, _, rfl, Or.inl ⟨q, _, (zn : Int), .ref rz, rfl, rfl, SqL.of (sm2 _ _ hD), at_of (j := zn) (by omega) (by rw [List.getElem?_map, hrz]; rfl), ?_⟩⟩
         refine ⟨rz, _, rfl, Or.inl (SqL.of (sm2 _ _ hrow)), rfl, flat_ints _, _, rfl, ?_⟩
         show R (!inV (.int (plc xs o)) (((zn : Int) :: mates (zn : Int) es).map V.int)) H2
         rw [inV_ints]
         have hRR := hR H2 (Same.refl _)
         unfold letF at hRR
         rw [decide_eq_true hc, Bool.true_and] at hRR
         exact hRR
       · have hRR := hR H2 (Same.refl _)
         unfold letF at hRR
         rw [decide_eq_false (fun h => hc (decide_eq_true h)), Bool.false_and] at hRR
         exact hRR
     · intro H2 sm2 hD2
       generalize hfl : os.filter (letF es xs (zn : Int)) = fl at *
       wtm_at "fo r"
       rename_i e ne
       have hD5 := (upd_ne (o := HO.lst []) (ne_of_none hD2 ne)).trans hD2
       refine Or.inr ⟨.list (fl.map PyData.int), .list [], dp_dI' (SqL.of hD5), .lst (SqL.of upd_same) .nil, shaped_ints fl, rfl, ?_⟩
       rw [eqv_list_nil]
       have hRR := fin (upd H2 e (.lst [])) (sm2.trans (same_upd (Same.refl _) ne))
       unfold letB at hRR
       rw [hfl, show fl.isEmpty = (fl.map PyData.int).isEmpty by cases fl <;> rfl] at hRR
       exact hRR
end
/-! piece TST -/
section
local macro_rules | `(tactic| wtm_at "fo a") => `(tactic| first
  | exact pa_nil
  | (refine' pa_cons ?k1 ?k2; (case k1 => wtm_at "fo e"); (case k2 => wtm_at "fo a"))
  | fail "no")
local macro_rules | `(tactic| wtm_at "fo v") => `(tactic| first
  | exact pv 0
  | exact pv 1
  | exact pv 2
  | exact pv 3
  | exact pv 4
  | exact pv 5
  | exact pv 6
  | exact pv 7
  | exact pv 8
  | exact pv 9
  | exact pv 10
  | exact pv 11
  | exact pv 12
  | exact pv 13
  | exact pv 14
  | exact pv 15
  | fail "no")
local macro_rules | `(tactic| wtm_at "fo e") => `(tactic| first
  | with_reducible exact pe_int
  | with_reducible exact pe_bl
  | with_reducible exact pe_non
  | with_reducible exact pe_str
  | ((with_reducible show PE _ (.Name _ _) _); wtm_at "fo v")
  | ((with_reducible show PE _ (.BinOp _ .Add _ _) _); apply pe_op opAddB <;> wtm_at "fo e")
  | ((with_reducible show PE _ (.BinOp _ .Sub _ _) _); apply pe_op op_sub <;> wtm_at "fo e")
  | ((with_reducible show PE _ (.BinOp _ .Mult _ _) _); apply pe_op op_mul <;> wtm_at "fo e")
  | ((with_reducible show PE _ (.BinOp _ .Mod _ _) _); apply pe_op op_mod <;> wtm_at "fo e")
  | ((with_reducible show PE _ (.BinOp _ .FloorDiv _ _) _); apply pe_op op_fdiv <;> wtm_at "fo e")
  | ((with_reducible show PE _ (.BinOp _ .Pow _ _) _); apply pe_op op_powW <;> wtm_at "fo e")
  | ((with_reducible show PE _ (.BinOp _ .LShift _ _) _); apply pe_op op_shl <;> wtm_at "fo e")
  | ((with_reducible show PE _ (.BinOp _ .RShift _ _) _); apply pe_op op_shr <;> wtm_at "fo e")
  | ((with_reducible show PE _ (.BinOp _ .BitAnd _ _) _); apply pe_op op_and <;> wtm_at "fo e")
  | ((with_reducible show PE _ (.List _ _) _); apply pe_lst; wtm_at "fo a")
  | ((with_reducible show PE _ (.Tuple _ _ _) _); apply pe_tup; wtm_at "fo a")
  | ((with_reducible show PE _ (.ListComp _ [_] _ _) _); wtm_at "fo lc")
  | ((with_reducible show PE _ (.IfExp _ _ _ _) _); apply pe_ifExp; (· wtm_at "fo t"); (· wtm_at "fo e"); (· wtm_at "fo e"))
  | ((with_reducible show PE _ (.UnaryOp .USub _ _) _); apply pe_un un_neg; wtm_at "fo e")
  | ((with_reducible show PE _ (.Call (.Name _ _) [] (_ :: _) _) _); wtm_at "fo kcall")
  | ((with_reducible show PE _ (.Call (.Name _ _) _ _ _) _); wtm_at "fo call")
  | ((with_reducible show PE _ (.Call (.Attribute _ _ _) _ _ _) _); wtm_at "fo meth")
  | ((with_reducible show PE _ (.Compare _ _ _ _) _); wtm_at "fo cmp")
  | ((with_reducible show PE _ (.Subscript _ (.Slice _ _ _ _) _) _); wtm_at "fo slice")
  | ((with_reducible show PE _ (.Subscript _ _ _) _); refine' pe_ix (ix_seqK (by assumption) (by exact rfl)) ?ka ?kb (fun _ _ => rfl); (case ka => wtm_at "fo e"); (case kb => wtm_at "fo e"))
  | fail "no")
local macro_rules | `(tactic| wtm_at "fo own") => `(tactic| first
  | ((show _ = [0]); kernel_rfl!)
  | ((show _ = [1]); kernel_rfl!)
  | ((show _ = [2]); kernel_rfl!)
  | ((show _ = [3]); kernel_rfl!)
  | ((show _ = [4]); kernel_rfl!)
  | ((show _ = [5]); kernel_rfl!)
  | ((show _ = [6]); kernel_rfl!)
  | ((show _ = [7]); kernel_rfl!)
  | ((show _ = [8]); kernel_rfl!)
  | ((show _ = [9]); kernel_rfl!)
  | ((show _ = [10]); kernel_rfl!)
  | ((show _ = [11]); kernel_rfl!)
  | ((show _ = [12]); kernel_rfl!)
  | ((show _ = [13]); kernel_rfl!)
  | ((show _ = [14]); kernel_rfl!)
  | ((show _ = [15]); kernel_rfl!)
  | ((show _ = [0, 1]); kernel_rfl!)
  | ((show _ = [1, 2]); kernel_rfl!)
  | ((show _ = [2, 3]); kernel_rfl!)
  | ((show _ = [3, 4]); kernel_rfl!)
  | ((show _ = [4, 5]); kernel_rfl!)
  | ((show _ = [5, 6]); kernel_rfl!)
  | ((show _ = [6, 7]); kernel_rfl!)
  | ((show _ = [7, 8]); kernel_rfl!)
  | ((show _ = [8, 9]); kernel_rfl!)
  | ((show _ = [9, 10]); kernel_rfl!)
  | ((show _ = [10, 11]); kernel_rfl!)
  | ((show _ = [11, 12]); kernel_rfl!)
  | ((show _ = [12, 13]); kernel_rfl!)
  | ((show _ = [13, 14]); kernel_rfl!)
  | ((show _ = [14, 15]); kernel_rfl!)
  | fail "no")
local macro_rules | `(tactic| wtm_at "fo ts") => `(tactic| first
  | exact pts_nil
  | (apply pts_one; wtm_at "fo t")
  | fail "no")
local macro_rules | `(tactic| wtm_at "fo lc") => `(tactic| first
  | (refine' pe_lcO (by assumption) (by exact rfl) (by exact rfl) (by wtm_at "fo own") (by decide +kernel) rfl ?ki ?kg ?kt ?ke; (case ki => wtm_at "fo i"); (case kg => (intro _ _ _ _ _; wtm_at "fo g")); (case kt => (intro _ _ _ _ _; wtm_at "fo ts")); (case ke => (intro _ _ _ _ _; wtm_at "fo e")))
  | fail "no")
local macro_rules | `(tactic| wtm_at "fo part") => `(tactic| first
  | exact po_none
  | (apply po_some; wtm_at "fo e")
  | fail "no")
local macro_rules | `(tactic| wtm_at "fo slice") => `(tactic| first
  | ((with_reducible show PE _ (.Subscript _ (.Slice _ _ none _) _) _); refine' pe_slice (sl_listK (by assumption) (by exact rfl)) ?ka ?kb ?kc; (case ka => wtm_at "fo e"); (case kb => wtm_at "fo part"); (case kc => wtm_at "fo part"))
  | ((with_reducible show PE _ (.Subscript _ (.Slice none none (some _) _) _) _); refine' pe_stepK (by assumption) (by exact rfl) ?ka ?kb; (case ka => wtm_at "fo e"); (case kb => wtm_at "fo e"))
  | fail "no")
local macro_rules | `(tactic| wtm_at "fo cmp") => `(tactic| first
  | ((with_reducible show PE _ (.Compare _ [.Lt] _ _) _); refine' pe_cmpR op_lt ?ka ?kb (nomark _); (case ka => wtm_at "fo e"); (case kb => wtm_at "fo e"))
  | ((with_reducible show PE _ (.Compare _ [.LtE] _ _) _); refine' pe_cmpR op_le ?ka ?kb (nomark _); (case ka => wtm_at "fo e"); (case kb => wtm_at "fo e"))
  | ((with_reducible show PE _ (.Compare _ [.Gt] _ _) _); refine' pe_cmpR op_gt ?ka ?kb (nomark _); (case ka => wtm_at "fo e"); (case kb => wtm_at "fo e"))
  | ((with_reducible show PE _ (.Compare _ [.GtE] _ _) _); refine' pe_cmpR op_ge ?ka ?kb (nomark _); (case ka => wtm_at "fo e"); (case kb => wtm_at "fo e"))
  | ((with_reducible show PE _ (.Compare _ [.Eq] _ _) _); refine' pe_cmpR (op_eqK (by assumption) (by exact rfl) (Room.units (by assumption))) ?ka ?kb (nomark _); (case ka => wtm_at "fo e"); (case kb => wtm_at "fo e"))
  | ((with_reducible show PE _ (.Compare _ [.NotEq] _ _) _); refine' pe_cmpR (op_neK (by assumption) (by exact rfl) (Room.units (by assumption))) ?ka ?kb (nomark _); (case ka => wtm_at "fo e"); (case kb => wtm_at "fo e"))
  | fail "no")
local macro_rules | `(tactic| wtm_at "fo tcmp") => `(tactic| first
  | ((with_reducible show PT _ (.Compare _ [.Lt] _ _) _); refine' pt_cmpR op_lt ?ka ?kb (nomark _); (case ka => wtm_at "fo e"); (case kb => wtm_at "fo e"))
  | ((with_reducible show PT _ (.Compare _ [.LtE] _ _) _); refine' pt_cmpR op_le ?ka ?kb (nomark _); (case ka => wtm_at "fo e"); (case kb => wtm_at "fo e"))
  | ((with_reducible show PT _ (.Compare _ [.Gt] _ _) _); refine' pt_cmpR op_gt ?ka ?kb (nomark _); (case ka => wtm_at "fo e"); (case kb => wtm_at "fo e"))
  | ((with_reducible show PT _ (.Compare _ [.GtE] _ _) _); refine' pt_cmpR op_ge ?ka ?kb (nomark _); (case ka => wtm_at "fo e"); (case kb => wtm_at "fo e"))
  | ((with_reducible show PT _ (.Compare _ [.Eq] _ _) _); refine' pt_cmpR (op_eqK (by assumption) (by exact rfl) (Room.units (by assumption))) ?ka ?kb (nomark _); (case ka => wtm_at "fo e"); (case kb => wtm_at "fo e"))
  | ((with_reducible show PT _ (.Compare _ [.NotEq] _ _) _); refine' pt_cmpR (op_neK (by assumption) (by exact rfl) (Room.units (by assumption))) ?ka ?kb (nomark _); (case ka => wtm_at "fo e"); (case kb => wtm_at "fo e"))
  | ((with_reducible show PT _ (.Compare _ [.In] _ _) _); refine' pt_cmpR (op_inK (by assumption) (by exact rfl)) ?ka ?kb rfl; (case ka => wtm_at "fo e"); (case kb => wtm_at "fo e"))
  | ((with_reducible show PT _ (.Compare _ [.NotIn] _ _) _); refine' pt_cmpR (op_notInK (by assumption) (by exact rfl)) ?ka ?kb rfl; (case ka => wtm_at "fo e"); (case kb => wtm_at "fo e"))
  | fail "no")
local macro_rules | `(tactic| wtm_at "fo w") => `(tactic| first
  | ((with_reducible show PW _ (.BoolOp .And [_] _) _); apply pw_and1; wtm_at "fo t")
  | ((with_reducible show PW _ (.BoolOp .And _ _) _); apply pw_and; (· wtm_at "fo t"); (· wtm_at "fo w"))
  | ((with_reducible show PW _ (.BoolOp .Or [_] _) _); apply pw_or1; wtm_at "fo t")
  | ((with_reducible show PW _ (.BoolOp .Or _ _) _); apply pw_or; (· wtm_at "fo t"); (· wtm_at "fo w"))
  | fail "no")
local macro_rules | `(tactic| wtm_at "fo meth") => `(tactic| first
  | ((with_reducible show PE _ (.Call (.Attribute _ (Str.ofString "append") _) _ _ _) _); refine' pe_bm PySem.F.plainAttrs_list PySem.F.slot_list_append PySem.F.type_list_append mt_append ?ka ?kb; (case ka => wtm_at "fo e"); (case kb => wtm_at "fo a"))
  | ((with_reducible show PE _ (.Call (.Attribute _ (Str.ofString "pop") _) [_] _ _) _); refine' pe_bm PySem.F.plainAttrs_list PySem.F.slot_list_pop PySem.F.type_list_pop mt_popAt ?ka ?kb; (case ka => wtm_at "fo e"); (case kb => wtm_at "fo a"))
  | ((with_reducible show PE _ (.Call (.Attribute _ (Str.ofString "pop") _) [] _ _) _); refine' pe_bm0 PySem.F.plainAttrs_list PySem.F.slot_list_pop PySem.F.type_list_pop mt_pop ?ka; (case ka => wtm_at "fo e"))
  | fail "no")
local macro_rules | `(tactic| wtm_at "fo k") => `(tactic| first
  | exact pk_nil
  | (refine' pk_cons ?k1 ?k2; (case k1 => wtm_at "fo e"); (case k2 => wtm_at "fo k"))
  | fail "no")
local macro_rules | `(tactic| wtm_at "fo kcall") => `(tactic| first
  | (refine' pe_kcal (by assumption) (by assumption) (by decide) (by rfl) ?ka; (case ka => wtm_at "fo k"))
  | fail "no")
local macro_rules | `(tactic| wtm_at "fo call") => `(tactic| first
  | ((with_reducible show PE _ (.Call (.Name (Str.ofString "int") _) _ _ _) _); refine' pe_callTy call_intB (by rfl) (by assumption) (by decide +kernel) ?ka; (case ka => wtm_at "fo a"))
  | ((with_reducible show PE _ (.Call (.Name (Str.ofString "len") _) _ _ _) _); refine' pe_callB (call_lenK (by assumption) (by exact rfl)) (by rfl) (by assumption) PySem.boot_len ?ka; (case ka => wtm_at "fo a"))
  | ((with_reducible show PE _ (.Call (.Name (Str.ofString "list") _) [.Call (.Name (Str.ofString "range") _) [_, _] _ _] _ _) _); refine' pe_listRg rfl (by rfl) (by assumption) (prg_2 (by rfl) (by assumption) ?ka ?kb); (case ka => wtm_at "fo e"); (case kb => wtm_at "fo e"))
  | ((with_reducible show PE _ (.Call (.Name (Str.ofString "list") _) _ _ _) _); refine' pe_callTy (call_listK (by assumption) (by exact rfl)) (by rfl) (by assumption) (by decide +kernel) ?ka; (case ka => wtm_at "fo a"))
  | ((with_reducible show PE _ (.Call (.Name (Str.ofString "min") _) [_, _] _ _) _); refine' pe_callB (call_min2 rfl) (by rfl) (by assumption) (by decide +kernel) ?ka; (case ka => wtm_at "fo a"))
  | ((with_reducible show PE _ (.Call (.Name (Str.ofString "sorted") _) [_] _ _) _); refine' pe_callB (cr_sortedK (by assumption) (by exact rfl)) (by rfl) (by assumption) (by decide +kernel) ?ka; (case ka => wtm_at "fo a"))
  | ((with_reducible show PE _ (.Call (.Name (Str.ofString "repr") _) [_] _ _) _); refine' pe_callB (call_reprK (by assumption) (by exact rfl) (by assumption) (Room.units (by assumption))) (by rfl) (by assumption) (by decide +kernel) ?ka; (case ka => wtm_at "fo a"))
  | (refine' pe_cal (by assumption) (by assumption) (by decide) (by rfl) ?ka; (case ka => wtm_at "fo a"))
  | fail "no")
local macro_rules | `(tactic| wtm_at "fo setlc") => `(tactic| first
  | (refine' ps_setLcO (i := 0) (by assumption) (by exact rfl) (by exact rfl) (by wtm_at "fo own") (by decide +kernel) rfl rfl rfl (sw_true rfl rfl rfl (by decide +kernel)) ?ki ?kg ?kt ?ke; (case ki => wtm_at "fo i"); (case kg => (intro _ _ _ _ _; wtm_at "fo g")); (case kt => (intro _ _ _ _ _; wtm_at "fo ts")); (case ke => (intro _ _ _ _ _; wtm_at "fo e")))
  | (refine' ps_setLcO (i := 1) (by assumption) (by exact rfl) (by exact rfl) (by wtm_at "fo own") (by decide +kernel) rfl rfl rfl (sw_true rfl rfl rfl (by decide +kernel)) ?ki ?kg ?kt ?ke; (case ki => wtm_at "fo i"); (case kg => (intro _ _ _ _ _; wtm_at "fo g")); (case kt => (intro _ _ _ _ _; wtm_at "fo ts")); (case ke => (intro _ _ _ _ _; wtm_at "fo e")))
  | (refine' ps_setLcO (i := 2) (by assumption) (by exact rfl) (by exact rfl) (by wtm_at "fo own") (by decide +kernel) rfl rfl rfl (sw_true rfl rfl rfl (by decide +kernel)) ?ki ?kg ?kt ?ke; (case ki => wtm_at "fo i"); (case kg => (intro _ _ _ _ _; wtm_at "fo g")); (case kt => (intro _ _ _ _ _; wtm_at "fo ts")); (case ke => (intro _ _ _ _ _; wtm_at "fo e")))
  | (refine' ps_setLcO (i := 3) (by assumption) (by exact rfl) (by exact rfl) (by wtm_at "fo own") (by decide +kernel) rfl rfl rfl (sw_true rfl rfl rfl (by decide +kernel)) ?ki ?kg ?kt ?ke; (case ki => wtm_at "fo i"); (case kg => (intro _ _ _ _ _; wtm_at "fo g")); (case kt => (intro _ _ _ _ _; wtm_at "fo ts")); (case ke => (intro _ _ _ _ _; wtm_at "fo e")))
  | (refine' ps_setLcO (i := 4) (by assumption) (by exact rfl) (by exact rfl) (by wtm_at "fo own") (by decide +kernel) rfl rfl rfl (sw_true rfl rfl rfl (by decide +kernel)) ?ki ?kg ?kt ?ke; (case ki => wtm_at "fo i"); (case kg => (intro _ _ _ _ _; wtm_at "fo g")); (case kt => (intro _ _ _ _ _; wtm_at "fo ts")); (case ke => (intro _ _ _ _ _; wtm_at "fo e")))
  | (refine' ps_setLcO (i := 5) (by assumption) (by exact rfl) (by exact rfl) (by wtm_at "fo own") (by decide +kernel) rfl rfl rfl (sw_true rfl rfl rfl (by decide +kernel)) ?ki ?kg ?kt ?ke; (case ki => wtm_at "fo i"); (case kg => (intro _ _ _ _ _; wtm_at "fo g")); (case kt => (intro _ _ _ _ _; wtm_at "fo ts")); (case ke => (intro _ _ _ _ _; wtm_at "fo e")))
  | (refine' ps_setLcO (i := 6) (by assumption) (by exact rfl) (by exact rfl) (by wtm_at "fo own") (by decide +kernel) rfl rfl rfl (sw_true rfl rfl rfl (by decide +kernel)) ?ki ?kg ?kt ?ke; (case ki => wtm_at "fo i"); (case kg => (intro _ _ _ _ _; wtm_at "fo g")); (case kt => (intro _ _ _ _ _; wtm_at "fo ts")); (case ke => (intro _ _ _ _ _; wtm_at "fo e")))
  | (refine' ps_setLcO (i := 7) (by assumption) (by exact rfl) (by exact rfl) (by wtm_at "fo own") (by decide +kernel) rfl rfl rfl (sw_true rfl rfl rfl (by decide +kernel)) ?ki ?kg ?kt ?ke; (case ki => wtm_at "fo i"); (case kg => (intro _ _ _ _ _; wtm_at "fo g")); (case kt => (intro _ _ _ _ _; wtm_at "fo ts")); (case ke => (intro _ _ _ _ _; wtm_at "fo e")))
  | (refine' ps_setLcO (i := 8) (by assumption) (by exact rfl) (by exact rfl) (by wtm_at "fo own") (by decide +kernel) rfl rfl rfl (sw_true rfl rfl rfl (by decide +kernel)) ?ki ?kg ?kt ?ke; (case ki => wtm_at "fo i"); (case kg => (intro _ _ _ _ _; wtm_at "fo g")); (case kt => (intro _ _ _ _ _; wtm_at "fo ts")); (case ke => (intro _ _ _ _ _; wtm_at "fo e")))
  | (refine' ps_setLcO (i := 9) (by assumption) (by exact rfl) (by exact rfl) (by wtm_at "fo own") (by decide +kernel) rfl rfl rfl (sw_true rfl rfl rfl (by decide +kernel)) ?ki ?kg ?kt ?ke; (case ki => wtm_at "fo i"); (case kg => (intro _ _ _ _ _; wtm_at "fo g")); (case kt => (intro _ _ _ _ _; wtm_at "fo ts")); (case ke => (intro _ _ _ _ _; wtm_at "fo e")))
  | (refine' ps_setLcO (i := 10) (by assumption) (by exact rfl) (by exact rfl) (by wtm_at "fo own") (by decide +kernel) rfl rfl rfl (sw_true rfl rfl rfl (by decide +kernel)) ?ki ?kg ?kt ?ke; (case ki => wtm_at "fo i"); (case kg => (intro _ _ _ _ _; wtm_at "fo g")); (case kt => (intro _ _ _ _ _; wtm_at "fo ts")); (case ke => (intro _ _ _ _ _; wtm_at "fo e")))
  | (refine' ps_setLcO (i := 11) (by assumption) (by exact rfl) (by exact rfl) (by wtm_at "fo own") (by decide +kernel) rfl rfl rfl (sw_true rfl rfl rfl (by decide +kernel)) ?ki ?kg ?kt ?ke; (case ki => wtm_at "fo i"); (case kg => (intro _ _ _ _ _; wtm_at "fo g")); (case kt => (intro _ _ _ _ _; wtm_at "fo ts")); (case ke => (intro _ _ _ _ _; wtm_at "fo e")))
  | (refine' ps_setLcO (i := 12) (by assumption) (by exact rfl) (by exact rfl) (by wtm_at "fo own") (by decide +kernel) rfl rfl rfl (sw_true rfl rfl rfl (by decide +kernel)) ?ki ?kg ?kt ?ke; (case ki => wtm_at "fo i"); (case kg => (intro _ _ _ _ _; wtm_at "fo g")); (case kt => (intro _ _ _ _ _; wtm_at "fo ts")); (case ke => (intro _ _ _ _ _; wtm_at "fo e")))
  | (refine' ps_setLcO (i := 13) (by assumption) (by exact rfl) (by exact rfl) (by wtm_at "fo own") (by decide +kernel) rfl rfl rfl (sw_true rfl rfl rfl (by decide +kernel)) ?ki ?kg ?kt ?ke; (case ki => wtm_at "fo i"); (case kg => (intro _ _ _ _ _; wtm_at "fo g")); (case kt => (intro _ _ _ _ _; wtm_at "fo ts")); (case ke => (intro _ _ _ _ _; wtm_at "fo e")))
  | (refine' ps_setLcO (i := 14) (by assumption) (by exact rfl) (by exact rfl) (by wtm_at "fo own") (by decide +kernel) rfl rfl rfl (sw_true rfl rfl rfl (by decide +kernel)) ?ki ?kg ?kt ?ke; (case ki => wtm_at "fo i"); (case kg => (intro _ _ _ _ _; wtm_at "fo g")); (case kt => (intro _ _ _ _ _; wtm_at "fo ts")); (case ke => (intro _ _ _ _ _; wtm_at "fo e")))
  | (refine' ps_setLcO (i := 15) (by assumption) (by exact rfl) (by exact rfl) (by wtm_at "fo own") (by decide +kernel) rfl rfl rfl (sw_true rfl rfl rfl (by decide +kernel)) ?ki ?kg ?kt ?ke; (case ki => wtm_at "fo i"); (case kg => (intro _ _ _ _ _; wtm_at "fo g")); (case kt => (intro _ _ _ _ _; wtm_at "fo ts")); (case ke => (intro _ _ _ _ _; wtm_at "fo e")))
  | fail "no")
local macro_rules | `(tactic| wtm_at "fo set") => `(tactic| first
  | (refine' ps_set (i := 0) (by assumption) rfl (by first | exact Or.inl rfl | exact Or.inr rfl) ?ka; (case ka => wtm_at "fo e"))
  | (refine' ps_set (i := 1) (by assumption) rfl (by first | exact Or.inl rfl | exact Or.inr rfl) ?ka; (case ka => wtm_at "fo e"))
  | (refine' ps_set (i := 2) (by assumption) rfl (by first | exact Or.inl rfl | exact Or.inr rfl) ?ka; (case ka => wtm_at "fo e"))
  | (refine' ps_set (i := 3) (by assumption) rfl (by first | exact Or.inl rfl | exact Or.inr rfl) ?ka; (case ka => wtm_at "fo e"))
  | (refine' ps_set (i := 4) (by assumption) rfl (by first | exact Or.inl rfl | exact Or.inr rfl) ?ka; (case ka => wtm_at "fo e"))
  | (refine' ps_set (i := 5) (by assumption) rfl (by first | exact Or.inl rfl | exact Or.inr rfl) ?ka; (case ka => wtm_at "fo e"))
  | (refine' ps_set (i := 6) (by assumption) rfl (by first | exact Or.inl rfl | exact Or.inr rfl) ?ka; (case ka => wtm_at "fo e"))
  | (refine' ps_set (i := 7) (by assumption) rfl (by first | exact Or.inl rfl | exact Or.inr rfl) ?ka; (case ka => wtm_at "fo e"))
  | (refine' ps_set (i := 8) (by assumption) rfl (by first | exact Or.inl rfl | exact Or.inr rfl) ?ka; (case ka => wtm_at "fo e"))
  | (refine' ps_set (i := 9) (by assumption) rfl (by first | exact Or.inl rfl | exact Or.inr rfl) ?ka; (case ka => wtm_at "fo e"))
  | (refine' ps_set (i := 10) (by assumption) rfl (by first | exact Or.inl rfl | exact Or.inr rfl) ?ka; (case ka => wtm_at "fo e"))
  | (refine' ps_set (i := 11) (by assumption) rfl (by first | exact Or.inl rfl | exact Or.inr rfl) ?ka; (case ka => wtm_at "fo e"))
  | (refine' ps_set (i := 12) (by assumption) rfl (by first | exact Or.inl rfl | exact Or.inr rfl) ?ka; (case ka => wtm_at "fo e"))
  | (refine' ps_set (i := 13) (by assumption) rfl (by first | exact Or.inl rfl | exact Or.inr rfl) ?ka; (case ka => wtm_at "fo e"))
  | fail "no")
local macro_rules | `(tactic| wtm_at "fo t") => `(tactic| first
  | ((with_reducible show PT _ (.BoolOp _ _ _) _); apply PW.pt; wtm_at "fo w")
  | ((with_reducible show PT _ (.UnaryOp .Not _ _) _); apply pt_not; wtm_at "fo t")
  | ((with_reducible show PT _ (.Compare _ _ _ _) _); wtm_at "fo tcmp")
  | (refine' pt_truthK (by assumption) (by exact rfl) ?ka (by intro _; rfl); (case ka => wtm_at "fo e"))
  | fail "no")
local macro_rules | `(tactic| wtm_at "fo gn") => `(tactic| first
  | exact pg_name (i := 0) (by assumption) rfl (by first | exact Or.inl rfl | exact Or.inr rfl)
  | exact pg_name (i := 1) (by assumption) rfl (by first | exact Or.inl rfl | exact Or.inr rfl)
  | exact pg_name (i := 2) (by assumption) rfl (by first | exact Or.inl rfl | exact Or.inr rfl)
  | exact pg_name (i := 3) (by assumption) rfl (by first | exact Or.inl rfl | exact Or.inr rfl)
  | exact pg_name (i := 4) (by assumption) rfl (by first | exact Or.inl rfl | exact Or.inr rfl)
  | exact pg_name (i := 5) (by assumption) rfl (by first | exact Or.inl rfl | exact Or.inr rfl)
  | exact pg_name (i := 6) (by assumption) rfl (by first | exact Or.inl rfl | exact Or.inr rfl)
  | exact pg_name (i := 7) (by assumption) rfl (by first | exact Or.inl rfl | exact Or.inr rfl)
  | exact pg_name (i := 8) (by assumption) rfl (by first | exact Or.inl rfl | exact Or.inr rfl)
  | exact pg_name (i := 9) (by assumption) rfl (by first | exact Or.inl rfl | exact Or.inr rfl)
  | exact pg_name (i := 10) (by assumption) rfl (by first | exact Or.inl rfl | exact Or.inr rfl)
  | exact pg_name (i := 11) (by assumption) rfl (by first | exact Or.inl rfl | exact Or.inr rfl)
  | exact pg_name (i := 12) (by assumption) rfl (by first | exact Or.inl rfl | exact Or.inr rfl)
  | exact pg_name (i := 13) (by assumption) rfl (by first | exact Or.inl rfl | exact Or.inr rfl)
  | exact pg_name (i := 14) (by assumption) rfl (by first | exact Or.inl rfl | exact Or.inr rfl)
  | exact pg_name (i := 15) (by assumption) rfl (by first | exact Or.inl rfl | exact Or.inr rfl)
  | fail "no")
local macro_rules | `(tactic| wtm_at "fo par") => `(tactic| first
  | (refine' ps_par (i := 0) (j := 1) rfl (by assumption) rfl rfl (by decide) rfl rfl ?ka (by rfl); (case ka => wtm_at "fo a"))
  | (refine' ps_par (i := 1) (j := 2) rfl (by assumption) rfl rfl (by decide) rfl rfl ?ka (by rfl); (case ka => wtm_at "fo a"))
  | (refine' ps_par (i := 2) (j := 3) rfl (by assumption) rfl rfl (by decide) rfl rfl ?ka (by rfl); (case ka => wtm_at "fo a"))
  | (refine' ps_par (i := 3) (j := 4) rfl (by assumption) rfl rfl (by decide) rfl rfl ?ka (by rfl); (case ka => wtm_at "fo a"))
  | (refine' ps_par (i := 4) (j := 5) rfl (by assumption) rfl rfl (by decide) rfl rfl ?ka (by rfl); (case ka => wtm_at "fo a"))
  | (refine' ps_par (i := 5) (j := 6) rfl (by assumption) rfl rfl (by decide) rfl rfl ?ka (by rfl); (case ka => wtm_at "fo a"))
  | (refine' ps_par (i := 6) (j := 7) rfl (by assumption) rfl rfl (by decide) rfl rfl ?ka (by rfl); (case ka => wtm_at "fo a"))
  | (refine' ps_par (i := 7) (j := 8) rfl (by assumption) rfl rfl (by decide) rfl rfl ?ka (by rfl); (case ka => wtm_at "fo a"))
  | (refine' ps_par (i := 8) (j := 9) rfl (by assumption) rfl rfl (by decide) rfl rfl ?ka (by rfl); (case ka => wtm_at "fo a"))
  | (refine' ps_par (i := 9) (j := 10) rfl (by assumption) rfl rfl (by decide) rfl rfl ?ka (by rfl); (case ka => wtm_at "fo a"))
  | (refine' ps_par (i := 10) (j := 11) rfl (by assumption) rfl rfl (by decide) rfl rfl ?ka (by rfl); (case ka => wtm_at "fo a"))
  | (refine' ps_par (i := 11) (j := 12) rfl (by assumption) rfl rfl (by decide) rfl rfl ?ka (by rfl); (case ka => wtm_at "fo a"))
  | (refine' ps_par (i := 12) (j := 13) rfl (by assumption) rfl rfl (by decide) rfl rfl ?ka (by rfl); (case ka => wtm_at "fo a"))
  | (refine' ps_par (i := 13) (j := 14) rfl (by assumption) rfl rfl (by decide) rfl rfl ?ka (by rfl); (case ka => wtm_at "fo a"))
  | (refine' ps_par (i := 14) (j := 15) rfl (by assumption) rfl rfl (by decide) rfl rfl ?ka (by rfl); (case ka => wtm_at "fo a"))
  | fail "no")
local macro_rules | `(tactic| wtm_at "fo g") => `(tactic| first
  | ((with_reducible show PG _ (.Name _ _) _); wtm_at "fo gn")
  | ((with_reducible show PG _ (.Tuple _ _ _) _); apply PG_or; (· refine' pg_tup2 (by assumption) (by exact rfl) rfl ?kg; (case kg => wtm_at "fo gs")); (· refine' pg_unl2 (by assumption) (by exact rfl) rfl ?kg; (case kg => wtm_at "fo gs")))
  | fail "no")
local macro_rules | `(tactic| wtm_at "fo gs") => `(tactic| first
  | exact pgs_nil
  | (refine' pgs_cons ?k1 ?k2; (case k1 => wtm_at "fo g"); (case k2 => wtm_at "fo gs"))
  | fail "no")
local macro_rules | `(tactic| wtm_at "fo i") => `(tactic| first
  | ((with_reducible show PI _ _ (.Call (.Name (Str.ofString "range") _) [_] _ _) _); refine' pi_range1 (by rfl) (by assumption) ?ka; (case ka => wtm_at "fo a"))
  | ((with_reducible show PI _ _ (.Call (.Name (Str.ofString "range") _) [_, _] _ _) _); refine' pi_range2 (by rfl) (by assumption) ?ka; (case ka => wtm_at "fo a"))
  | ((with_reducible show PI _ _ (.Call (.Name (Str.ofString "enumerate") _) [_] _ _) _); refine' pi_enum (by rfl) (by assumption) ?ka; (case ka => wtm_at "fo a"))
  | (refine' pi_listK (by assumption) (by exact rfl) ?ka; (case ka => wtm_at "fo e"))
  | fail "no")
local macro_rules | `(tactic| wtm_at "fo s") => `(tactic| first
  | ((with_reducible show PS _ (.While _ _ _ _) _); refine' ps_while PassesOwn.never ?kt ?kb; (case kt => wtm_at "fo t"); (case kb => wtm_at "fo ss"))
  | ((with_reducible show PS _ (.For _ _ _ _ _) _); refine' ps_for PassesOwn.never rfl ?ki ?kg ?kb; (case ki => wtm_at "fo i"); (case kg => wtm_at "fo g"); (case kb => wtm_at "fo ss"))
  | ((with_reducible show PS _ (.Assign [.Name _ _] (.ListComp _ [_] _ _) _) _); wtm_at "fo setlc")
  | ((with_reducible show PS _ (.Assign [.Name _ _] _ _) _); wtm_at "fo set")
  | ((with_reducible show PS _ (.Assign [.Tuple [.Name _ _, .Name _ _] _ _] (.Tuple [_, _] _ _) _) _); wtm_at "fo par")
  | ((with_reducible show PS _ (.Assign [.Subscript _ _ _] _ _) _); refine' ps_asg ?ka (pg_sub ?kb ?kc set_list); (case ka => wtm_at "fo e"); (case kb => wtm_at "fo e"); (case kc => wtm_at "fo e"))
  | ((with_reducible show PS _ (.Return (some _) _) _); apply ps_ret; wtm_at "fo e")
  | ((with_reducible show PS _ (.Expr _ _) _); refine' ps_expr ?ka; (case ka => wtm_at "fo e"))
  | ((with_reducible show PS _ (.If _ _ _ _) _); apply ps_if; (· wtm_at "fo t"); (· wtm_at "fo ss"); (· wtm_at "fo ss"))
  | fail "no")
local macro_rules | `(tactic| wtm_at "fo ss") => `(tactic| first
  | with_reducible exact pss_nil
  | ((with_reducible show PSs _ [_] _); apply pss_one; wtm_at "fo s")
  | (apply pss_cons; (· wtm_at "fo s"); (· wtm_at "fo ss"))
  | fail "no")
local macro_rules | `(tactic| wtm_at "fo hp") => `(tactic| first
  | assumption
  | exact upd_same
  | (refine (upd_ne ?ne).trans ?hp; (case ne => wtm_at "fo ne"); (case hp => wtm_at "fo hp"))
  | fail "no")
local macro_rules | `(tactic| wtm_at "fo ne") => `(tactic| first
  | assumption
  | (apply Ne.symm; assumption)
  | exact ne_of_none (by assumption) (by assumption)
  | exact Ne.symm (ne_of_none (by assumption) (by assumption))
  | fail "no")
local macro_rules | `(tactic| wtm_at "fo sz") => `(tactic| first
  | exact (Nat.le_of_ble_eq_true rfl : _ ≤ sizeLine)
  | exact (Nat.le_of_ble_eq_true rfl : _ < sizeLine)
  | exact Nat.lt_of_le_of_lt (m := 100000) (by first | assumption | omega | (simp; omega)) (by decide)
  | exact Nat.le_trans (m := 100000) (by first | assumption | omega | (simp; omega)) (by decide)
  | fail "no")
local macro_rules | `(tactic| wtm_at "fo r1") => `(tactic| first
  | refine ⟨(Nat.le_of_ble_eq_true rfl : _ ≤ sizeLine), fun p np => ?_⟩
  | (refine' ⟨_, _, rfl, Or.inl (SqL.of ?h), ?_⟩; (case h => wtm_at "fo hp"))
  | refine ⟨_, rfl, ?_⟩
  | refine ⟨_, _, rfl, rfl, ?_⟩
  | refine ⟨_, _, rfl, ⟨by omega, by omega, by omega, by omega⟩, ?_⟩
  | refine ⟨_, rfl, by omega, by omega, ?_⟩
  | refine Or.inl ⟨_, rfl, ?_⟩
  | refine Or.inl ⟨rfl, ?_⟩
  | refine Or.inl ⟨_, _, rfl, rfl, ?_⟩
  | (refine' Or.inl ⟨_, _, _, _, rfl, rfl, SqL.of ?h, ?a, ?_⟩; (case h => wtm_at "fo hp"); (case a => rfl))
  | (refine' ⟨_, _, _, _, rfl, rfl, ?h, ?a, ?_⟩; (case h => wtm_at "fo hp"); (case a => rfl))
  | (refine' ⟨.inl ⟨rfl, _, SqL.of ?h⟩, ?_⟩; (case h => wtm_at "fo hp"))
  | (refine' ⟨_, _, _, rfl, rfl, ?h, ?z, ?_⟩; (case h => wtm_at "fo hp"); (case z => wtm_at "fo sz"))
  | (refine' ⟨_, rfl, ⟨_, SqL.of ?h⟩, ?_⟩; (case h => wtm_at "fo hp"))
  | fail "no")
local macro_rules | `(tactic| wtm_at "fo side") => `(tactic| ((try dsimp only [CMul, CDiv]); first
  | assumption
  | decide
  | omega
  | exact ⟨by decide, by decide⟩
  | exact ⟨by omega, by omega⟩
  | decide +kernel
  | fail "no"))
local macro_rules | `(tactic| wtm_at "fo r2") => `(tactic| first
  | wtm_at "fo r1"
  | refine And.intro (by wtm_at "fo side") ?_
  | fail "no")
local macro_rules | `(tactic| wtm_at "fo r") => `(tactic| repeat wtm_at "fo r2")
local macro_rules | `(tactic| wtm_at "fo v") => `(tactic| first
  | ((with_reducible show PE _ (.Name (Str.ofString "int") _) _); exact pe_bltn (v := .ty "int") (by rfl) (by assumption) (by decide +kernel) rfl)
  | ((with_reducible show PE _ (.Name (Str.ofString "list") _) _); exact pe_bltn (v := .ty "list") (by rfl) (by assumption) (by decide +kernel) rfl)
  | ((with_reducible show PE _ (.Name (Str.ofString "MOST_PLACES") _) _); exact pe_glob (v := .int 12) (by rfl) (by assumption) ⟨_, rfl⟩)
  | fail "no")
local macro_rules | `(tactic| wtm_at "fo e") => `(tactic| first
  | ((with_reducible show PE _ (.BoolOp .And [_] _) _); apply pe_one; wtm_at "fo e")
  | ((with_reducible show PE _ (.BoolOp .And _ _) _); apply pe_and; (· wtm_at "fo e"); (· wtm_at "fo e"))
  | ((with_reducible show PE _ (.Compare _ [.IsNot] [.Constant (.bool true) _ _] _) _); refine' pe_cmpR op_notT ?ka ?kb (nomark _); (case ka => wtm_at "fo e"); (case kb => wtm_at "fo e"))
  | ((with_reducible show PE _ (.Compare _ [.LtE, .LtE] _ _) _); refine' pe_chain op_le op_le ?ka ?kb ?kc; (case ka => wtm_at "fo e"); (case kb => wtm_at "fo e"); (case kc => wtm_at "fo e"))
  | ((with_reducible show PE _ (.Call (.Name (Str.ofString "isinstance") _) _ _ _) _); refine' pe_callB (call_isiK' (by assumption) (by exact rfl)) (by rfl) (by assumption) (by decide +kernel) ?ka; (case ka => wtm_at "fo a"))
  | ((with_reducible show PE _ (.Call (.Attribute _ (Str.ofString "bit_length") _) [] [] _) _); refine' pe_bits ?ka; (case ka => wtm_at "fo e"))
  | fail "no")
local macro_rules | `(tactic| wtm_at "fo t") => `(tactic| first
  | ((with_reducible show PT _ (.Compare _ [.IsNot] [.Constant (.bool true) _ _] _) _); refine' pt_cmpR op_notT ?ka ?kb (nomark _); (case ka => wtm_at "fo e"); (case kb => wtm_at "fo e"))
  | ((with_reducible show PT _ (.Compare _ [.Lt, .Lt, .LtE] _ _) _); refine' pt_chain3 op_lt op_lt op_le ?ka ?kb ?kc ?kd; (case ka => wtm_at "fo e"); (case kb => wtm_at "fo e"); (case kc => wtm_at "fo e"); (case kd => wtm_at "fo e"))
  | fail "no")
local macro_rules | `(tactic| wtm_at "fo s") => `(tactic| first
  | ((with_reducible show PS _ (.Raise _ _ _) _); exact ps_never)
  | ((with_reducible show PS _ (.Continue _) _); exact ps_continue)
  | ((with_reducible show PS _ (.AugAssign (.Subscript _ _ _) .BitOr _ _) _); refine' ps_augS ?ka ?kb get_list ?kc ip_or set_list; (case ka => wtm_at "fo e"); (case kb => wtm_at "fo e"); (case kc => wtm_at "fo e"))
  | ((with_reducible show PS _ (.Assign [.Tuple _ _ _] (.Name _ _) _) _); refine' ps_asg ?ka ?kb; (case ka => wtm_at "fo e"); (case kb => wtm_at "fo g"))
  | fail "no")
local macro_rules | `(tactic| wtm_at "fo lc") => `(tactic| (refine' pe_lcN (by assumption) (by exact rfl) (by exact rfl) (by wtm_at "fo own") (by kernel_rfl!) rfl ?ki ?kg ?kt ?ke; (case ki => wtm_at "fo i"); (case kg => (intro _ _ _ _ _; wtm_at "fo g")); (case kt => (intro _ _ _ _ _; wtm_at "fo ts")); (case ke => (intro _ _ _ _ _; wtm_at "fo e"))))
local macro_rules | `(tactic| wtm_at "fo s") => `(tactic| ((with_reducible show PS _ (.Assign [.Tuple _ _ _] (.Call _ _ _ _) _) _); refine' ps_asg ?ka ?kb; (case ka => wtm_at "fo e"); (case kb => wtm_at "fo g")))
local macro_rules | `(tactic| wtm_at "fo cmp") => `(tactic| ((with_reducible show PE _ (.Compare _ [.In] _ _) _); refine' pe_cmpR (op_inK (by assumption) (by exact rfl)) ?ka ?kb rfl; (case ka => wtm_at "fo e"); (case kb => wtm_at "fo e")))
local macro_rules | `(tactic| wtm_at "fo call") => `(tactic| ((with_reducible show PE _ (.Call (.Name (Str.ofString "list") _) [.Call (.Name (Str.ofString "range") _) [_] _ _] _ _) _); refine' pe_listRg rfl (by rfl) (by assumption) (prg_1 (by rfl) (by assumption) ?ka); (case ka => wtm_at "fo e")))
local macro_rules | `(tactic| wtm_at "fo call") => `(tactic| ((with_reducible show PE _ (.Call (.Name (Str.ofString "min") _) [_] _ _) _); refine' pe_callB (call_minK (by assumption) (by exact rfl) rfl) (by rfl) (by assumption) (by decide +kernel) ?ka; (case ka => wtm_at "fo a")))
local macro_rules | `(tactic| wtm_at "fo i") => `(tactic| ((with_reducible show PI _ _ (.Call (.Name (Str.ofString "reversed") _) [_] _ _) _); refine' pi_reversed (by rfl) (by assumption) ?ka; (case ka => wtm_at "fo a")))
local macro_rules | `(tactic| wtm_at "fo s") => `(tactic| ((with_reducible show PS _ (.AugAssign (.Name _ _) .BitXor _ _) _); first | (refine' ps_aug (i := 2) (by assumption) rfl (by first | exact Or.inl rfl | exact Or.inr rfl) ?ka ip_xor; (case ka => wtm_at "fo e")) | fail "no"))
local macro_rules | `(tactic| wtm_at "fo call") => `(tactic| (refine' pe_calG (by assumption) (by assumption) (by decide) (by assumption) (by rfl) ?ka; (case ka => wtm_at "fo a")))
local macro_rules | `(tactic| wtm_at "fo meth") => `(tactic| ((with_reducible show PE _ (.Call (.Attribute _ (Str.ofString "count") _) _ _ _) _); refine' pe_cntK (by assumption) (by exact rfl) ?ka ?kb; (case ka => wtm_at "fo e"); (case kb => wtm_at "fo a")))
local macro_rules | `(tactic| wtm_at "fo call") => `(tactic| ((with_reducible show PE _ (.Call (.Name (Str.ofString "sorted") _) [_] _ _) _); refine' pe_callB (cr_sortedB (by assumption) (by exact rfl) (Room.units (by assumption))) (by rfl) (by assumption) (by decide +kernel) ?ka; (case ka => wtm_at "fo a")))
local macro_rules | `(tactic| wtm_at "fo v") => `(tactic| first
  | exact pv 16
  | exact pv 17
  | exact pv 18
  | exact pv 19
  | fail "no")
local macro_rules | `(tactic| wtm_at "fo own") => `(tactic| first
  | ((show _ = [16]); kernel_rfl!)
  | ((show _ = [17]); kernel_rfl!)
  | ((show _ = [18]); kernel_rfl!)
  | ((show _ = [19]); kernel_rfl!)
  | ((show _ = [15, 16]); kernel_rfl!)
  | ((show _ = [16, 17]); kernel_rfl!)
  | ((show _ = [17, 18]); kernel_rfl!)
  | ((show _ = [18, 19]); kernel_rfl!)
  | fail "no")
local macro_rules | `(tactic| wtm_at "fo set") => `(tactic| first
  | (refine' ps_set (i := 14) (by assumption) rfl (by first | exact Or.inl rfl | exact Or.inr rfl) ?ka; (case ka => wtm_at "fo e"))
  | (refine' ps_set (i := 15) (by assumption) rfl (by first | exact Or.inl rfl | exact Or.inr rfl) ?ka; (case ka => wtm_at "fo e"))
  | (refine' ps_set (i := 16) (by assumption) rfl (by first | exact Or.inl rfl | exact Or.inr rfl) ?ka; (case ka => wtm_at "fo e"))
  | (refine' ps_set (i := 17) (by assumption) rfl (by first | exact Or.inl rfl | exact Or.inr rfl) ?ka; (case ka => wtm_at "fo e"))
  | (refine' ps_set (i := 18) (by assumption) rfl (by first | exact Or.inl rfl | exact Or.inr rfl) ?ka; (case ka => wtm_at "fo e"))
  | (refine' ps_set (i := 19) (by assumption) rfl (by first | exact Or.inl rfl | exact Or.inr rfl) ?ka; (case ka => wtm_at "fo e"))
  | fail "no")
local macro_rules | `(tactic| wtm_at "fo setlc") => `(tactic| first
  | (refine' ps_setLcO (i := 16) (by assumption) (by exact rfl) (by exact rfl) (by wtm_at "fo own") (by decide +kernel) rfl rfl rfl (sw_true rfl rfl rfl (by decide +kernel)) ?ki ?kg ?kt ?ke; (case ki => wtm_at "fo i"); (case kg => (intro _ _ _ _ _; wtm_at "fo g")); (case kt => (intro _ _ _ _ _; wtm_at "fo ts")); (case ke => (intro _ _ _ _ _; wtm_at "fo e")))
  | (refine' ps_setLcO (i := 17) (by assumption) (by exact rfl) (by exact rfl) (by wtm_at "fo own") (by decide +kernel) rfl rfl rfl (sw_true rfl rfl rfl (by decide +kernel)) ?ki ?kg ?kt ?ke; (case ki => wtm_at "fo i"); (case kg => (intro _ _ _ _ _; wtm_at "fo g")); (case kt => (intro _ _ _ _ _; wtm_at "fo ts")); (case ke => (intro _ _ _ _ _; wtm_at "fo e")))
  | (refine' ps_setLcO (i := 18) (by assumption) (by exact rfl) (by exact rfl) (by wtm_at "fo own") (by decide +kernel) rfl rfl rfl (sw_true rfl rfl rfl (by decide +kernel)) ?ki ?kg ?kt ?ke; (case ki => wtm_at "fo i"); (case kg => (intro _ _ _ _ _; wtm_at "fo g")); (case kt => (intro _ _ _ _ _; wtm_at "fo ts")); (case ke => (intro _ _ _ _ _; wtm_at "fo e")))
  | (refine' ps_setLcO (i := 19) (by assumption) (by exact rfl) (by exact rfl) (by wtm_at "fo own") (by decide +kernel) rfl rfl rfl (sw_true rfl rfl rfl (by decide +kernel)) ?ki ?kg ?kt ?ke; (case ki => wtm_at "fo i"); (case kg => (intro _ _ _ _ _; wtm_at "fo g")); (case kt => (intro _ _ _ _ _; wtm_at "fo ts")); (case ke => (intro _ _ _ _ _; wtm_at "fo e")))
  | fail "no")
local macro_rules | `(tactic| wtm_at "fo gn") => `(tactic| first
  | exact pg_name (i := 16) (by assumption) rfl (by first | exact Or.inl rfl | exact Or.inr rfl)
  | exact pg_name (i := 17) (by assumption) rfl (by first | exact Or.inl rfl | exact Or.inr rfl)
  | exact pg_name (i := 18) (by assumption) rfl (by first | exact Or.inl rfl | exact Or.inr rfl)
  | exact pg_name (i := 19) (by assumption) rfl (by first | exact Or.inl rfl | exact Or.inr rfl)
  | fail "no")
local macro_rules | `(tactic| wtm_at "fo s") => `(tactic| ((with_reducible show PS _ (.Assign [.Tuple _ _ _] (.Tuple _ _ _) _) _); refine' ps_asg ?ka ?kb; (case ka => wtm_at "fo e"); (case kb => wtm_at "fo g")))
local macro_rules | `(tactic| wtm_at "fo e") => `(tactic| first
  | ((with_reducible show PE _ (.UnaryOp .Invert _ _) _); apply pe_un un_inv; wtm_at "fo e")
  | ((with_reducible show PE _ (.BoolOp .Or [_] _) _); apply pe_one; wtm_at "fo e")
  | ((with_reducible show PE _ (.BoolOp .Or _ _) _); apply pe_or; (· wtm_at "fo e"); (· wtm_at "fo e"))
  | ((with_reducible show PE _ (.BinOp _ .Mult _ _) _); apply pe_op opMulB <;> wtm_at "fo e")
  | ((with_reducible show PE _ (.BinOp _ .BitOr _ _) _); apply pe_op op_or <;> wtm_at "fo e")
  | ((with_reducible show PE _ (.Compare _ [.Is] [.Constant .none _ _] _) _); refine' pe_cmpR op_isN ?ka ?kb (nomark _); (case ka => wtm_at "fo e"); (case kb => wtm_at "fo e"))
  | fail "no")
local macro_rules | `(tactic| wtm_at "fo t") => `(tactic| first
  | ((with_reducible show PT _ (.Compare _ [.Is] [.Constant .none _ _] _) _); refine' pt_cmpR op_isN ?ka ?kb (nomark _); (case ka => wtm_at "fo e"); (case kb => wtm_at "fo e"))
  | ((with_reducible show PT _ (.Compare _ [.IsNot] [.Constant .none _ _] _) _); refine' pt_cmpR op_notN ?ka ?kb (nomark _); (case ka => wtm_at "fo e"); (case kb => wtm_at "fo e"))
  | fail "no")
local macro_rules | `(tactic| wtm_at "fo i") => `(tactic| first
  | ((with_reducible show PI _ _ (.Call (.Name (Str.ofString "enumerate") _) [_, _] [] _) _); refine' pi_enumC (by assumption) (by exact rfl) (by rfl) (by assumption) ?ka; (case ka => wtm_at "fo a"))
  | ((with_reducible show PI _ _ (.Call (.Name (Str.ofString "enumerate") _) [_] [_] _) _); refine' pi_enumS (by assumption) (by exact rfl) (by rfl) (by assumption) ?ka ?kb; (case ka => wtm_at "fo a"); (case kb => wtm_at "fo k"))
  | fail "no")
local macro_rules | `(tactic| wtm_at "fo own") => `(tactic| first
  | ((show _ = [2, 4]); kernel_rfl!)
  | ((show _ = [4, 2]); kernel_rfl!)
  | fail "no")
local macro_rules | `(tactic| wtm_at "fo v") => `(tactic| ((with_reducible show PE _ (.Name (Str.ofString "tuple") _) _); exact pe_bltn (v := .ty "tuple") (by rfl) (by assumption) (by decide +kernel) rfl))
local macro_rules | `(tactic| wtm_at "fo slice") => `(tactic| ((with_reducible show PE _ (.Subscript _ (.Slice none none (some _) _) _) _); refine' pe_stepK2 (by assumption) (by exact rfl) ?ka ?kb; (case ka => wtm_at "fo e"); (case kb => wtm_at "fo e")))
variable {P : Program} {w : World} {K : PySem.W.Frag} {mg : Str → Option Value} {base : Heap}
/-! ### _law_stands -/
structure RowK (es fs : List Edge) (S : List Int) (k : Nat) (t : List Int) : Prop where
  len : t.length = k
  inn : ∀ x ∈ t, x ∈ S
  ok : ∀ e ∈ fs, e.1 ≤ k → e.2 ≤ k → Adj es (plc t e.1) (plc t e.2)
theorem rowK_zero {n : Nat} {es fs : List Edge} {S t : List Int} (hf : Simp n fs) : RowK es fs S 0 t ↔ t = [] := by
  constructor
  · exact fun h => List.length_eq_zero_iff.mp h.len
  · rintro rfl
    exact ⟨rfl, (fun _ h => nomatch h), fun e he h1 => by have := (hf.rng e he).1; omega⟩
theorem plc_left {t : List Int} {z i : Int} (h1 : 1 ≤ i) (h2 : i ≤ t.length) : plc (t ++ [z]) i = plc t i := by
  unfold plc
  rw [List.getD_eq_getElem?_getD, List.getElem?_append_left (by omega), List.getD_eq_getElem?_getD]
theorem plc_last {t : List Int} {z : Int} : plc (t ++ [z]) ((t.length : Int) + 1) = z := by
  unfold plc
  rw [List.getD_eq_getElem?_getD, show ((t.length : Int) + 1).toNat - 1 = t.length by omega, List.getElem?_append_right (Nat.le_refl _), Nat.sub_self]
  rfl
theorem letB_iff {es : List Edge} {os xs : List Int} {z : Int} : letB es os xs z = true ↔ ∀ o ∈ os, o ≤ (xs.length : Int) → Adj es z (plc xs o) := by
  unfold letB
  rw [List.isEmpty_iff, List.filter_eq_nil_iff]
  refine forall_congr' fun o => forall_congr' fun _ => ?_
  unfold letF
  by_cases h1 : o ≤ (xs.length : Int) <;> by_cases h2 : Adj es z (plc xs o) <;> simp [h1, h2]
theorem rowK_succ {n k : Nat} {es fs : List Edge} {S u : List Int} (hf : Simp n fs) : RowK es fs S (k + 1) u ↔ ∃ t, RowK es fs S k t ∧ ∃ z ∈ S, letB es (mates ((k : Int) + 1) fs) t z = true ∧ u = t ++ [z] := by
  constructor
  · intro h
    have hu : u ≠ [] := fun e => by have := h.len; rw [e] at this; cases this
    have e := (List.dropLast_concat_getLast hu).symm
    generalize u.dropLast = t at *
    generalize u.getLast hu = z at *
    subst e
    have hl : t.length = k := by have := h.len; rw [List.length_append] at this; simpa using this
    refine ⟨t, ⟨hl, fun x hx => h.inn x (List.mem_append_left _ hx), fun e he h1 h2 => ?_⟩, z, h.inn z (by simp), ?_, rfl⟩
    · have hr := hf.rng e he
      have := h.ok e he (by omega) (by omega)
      rwa [plc_left hr.1 (by omega), plc_left hr.2.2.1 (by omega)] at this
    · rw [letB_iff]
      intro o ho h1
      have hr := mates_rng hf o ho
      rcases mem_mates.mp ho with he | he
      · have := h.ok _ he (by simp) (by simp; omega)
        simp only at this
        rw [show (k : Int) = t.length by omega] at this
        rwa [plc_last, plc_left hr.1 (by omega)] at this
      · have := h.ok _ he (by simp; omega) (by simp)
        simp only at this
        rw [show (k : Int) = t.length by omega] at this
        rw [plc_last, plc_left hr.1 (by omega)] at this
        exact adj_symm _ _ this
  · rintro ⟨t, h, z, hz, hb, rfl⟩
    rw [letB_iff] at hb
    have hl := h.len
    refine ⟨by rw [List.length_append, h.len]; rfl, fun x hx => ?_, fun e he h1 h2 => ?_⟩
    · rcases List.mem_append.mp hx with hx | hx
      · exact h.inn x hx
      · rw [List.mem_singleton.mp hx]; exact hz
    · have hr := hf.rng e he
      by_cases e1 : e.1 = (k : Int) + 1
      · have hm : e.2 ∈ mates ((k : Int) + 1) fs := mem_mates.mpr (.inl (by rw [← e1]; exact he))
        have := hb _ hm (by omega)
        rw [e1, ← hl, plc_last, plc_left hr.2.2.1 (by omega)]
        exact this
      · by_cases e2 : e.2 = (k : Int) + 1
        · have hm : e.1 ∈ mates ((k : Int) + 1) fs := mem_mates.mpr (.inr (by rw [← e2]; exact he))
          have := hb _ hm (by omega)
          rw [e2, ← hl, plc_last, plc_left hr.1 (by omega)]
          exact adj_symm _ _ this
        · rw [plc_left hr.1 (by omega), plc_left hr.2.2.1 (by omega)]
          exact h.ok e he (by omega) (by omega)
theorem rowK_ok {m : Nat} {es fs : List Edge} {S t : List Int} (hf : Simp m fs) : RowK es fs S m t ↔ RowOk m es fs S t :=
  ⟨fun h => ⟨h.len, h.inn, fun e he => h.ok e he (hf.rng e he).2.1 (hf.rng e he).2.2.2.1⟩, fun h => ⟨h.len, h.inn, fun e he _ _ => h.ok e he⟩⟩
theorem grow_rows {es : List Edge} {os S : List Int} {ts us : List (List Int)} {ys : List Int} {j : Nat} {t : List Int} (hnd : ts.Nodup) (hj : ts[j]? = some t) (hun : us.Nodup)
    (hus : ∀ u, u ∈ us ↔ ∃ t' ∈ ts.take j, ∃ z ∈ S, letB es os t' z = true ∧ u = t' ++ [z]) (hl : us.length ≤ 5 * j) (hyn : ys.Nodup) (hys : ∀ x, x ∈ ys ↔ x ∈ S ∧ letB es os t x = true) (hyl : ys.length ≤ 5) :
    (us ++ ys.map fun z => t ++ [z]).Nodup ∧ (∀ u, u ∈ (us ++ ys.map fun z => t ++ [z]) ↔ ∃ t' ∈ ts.take (j + 1), ∃ z ∈ S, letB es os t' z = true ∧ u = t' ++ [z]) ∧ (us ++ ys.map fun z => t ++ [z]).length ≤ 5 * (j + 1) := by
  have htk : ts.take (j + 1) = ts.take j ++ [t] := by rw [List.take_add_one, hj]; rfl
  have hno : t ∉ ts.take j := fun h => by
    obtain ⟨i, hi⟩ := List.getElem?_of_mem h
    rw [List.getElem?_take] at hi
    split at hi
    · rename_i hlt
      have := nd_ix hnd hi hj
      omega
    · cases hi
  refine ⟨?_, fun u => ?_, ?_⟩
  · rw [List.nodup_append]
    refine ⟨hun, List.pairwise_map.mpr (hyn.imp fun h e => h (by have := List.append_cancel_left e; simpa using this)), fun a ha b hb e => ?_⟩
    subst e
    obtain ⟨t', h1, z, _, _, e⟩ := (hus a).mp ha
    obtain ⟨z', _, e2⟩ := List.mem_map.mp hb
    have := (List.append_inj' (e2.trans e) rfl).1
    exact hno (by rw [this]; exact h1)
  · rw [List.mem_append, hus, htk]
    constructor
    · rintro (⟨t', h1, h⟩ | h)
      · exact ⟨t', List.mem_append_left _ h1, h⟩
      · obtain ⟨z, hz, e⟩ := List.mem_map.mp h
        have := (hys z).mp hz
        exact ⟨t, List.mem_append_right _ (List.mem_singleton.mpr rfl), z, this.1, this.2, e.symm⟩
    · rintro ⟨t', h1, z, hz, hb, e⟩
      rcases List.mem_append.mp h1 with h1 | h1
      · exact .inl ⟨t', h1, z, hz, hb, e⟩
      · rw [List.mem_singleton.mp h1] at hb e
        exact .inr (List.mem_map.mpr ⟨z, (hys z).mpr ⟨hz, hb⟩, e.symm⟩)
  · rw [List.length_append, List.length_map]
    omega
@[irreducible] def spStands : Sp := fun vs H Q _ => ∃ (kq s q : Addr) (m n : Nat) (fs es : List Edge) (S : List Int), vs = [.int m, .ref kq, .ref s, .ref q] ∧ m ≤ 4 ∧ n ≤ 5 ∧ Pairs H kq fs ∧ Simp m fs ∧ fs.length ≤ 200 ∧ H s = some (iL S) ∧ InNet n S ∧ Simp n es ∧ Lists H q (nearM n es) ∧
  ∀ p rs ts H', Same H H' → H p = none → RwAt H' p rs ts → ts.Nodup → (∀ t, t ∈ ts ↔ RowOk m es fs S t) → ts.length ≤ 625 → Q (.ref p) H'
theorem call_stands {kq s q : Addr} {m n : Nat} {fs es : List Edge} {S : List Int} {H : Hp} {Q : VK} {E : XK} (hm : m ≤ 4) (hn : n ≤ 5) (hk : Pairs H kq fs) (hSf : Simp m fs) (hl : fs.length ≤ 200) (hs : H s = some (iL S)) (hI : InNet n S) (hS : Simp n es) (hq : Lists H q (nearM n es))
    (fin : ∀ p rs ts H', Same H H' → H p = none → RwAt H' p rs ts → ts.Nodup → (∀ t, t ∈ ts ↔ RowOk m es fs S t) → ts.length ≤ 625 → Q (.ref p) H') : spStands [.int m, .ref kq, .ref s, .ref q] H Q E := by
  unfold spStands
  exact ⟨kq, s, q, m, n, fs, es, S, rfl, hm, hn, hk, hSf, hl, hs, hI, hS, hq, fin⟩
set_option maxHeartbeats 8000000 in
theorem ok_stands {f : Addr} {fd : FuncData} (F : Fun K "_law_stands" "_law_stands" s_law_stands f fd) (mr : mg "range" = none) (C : Cal P w K mg base "_law_let" 1 ["_law_near_here", "_law_friends", "_law_row", "_law_spot"] spLet) :
    FnOk P w K mg base CX0 2 f fd ["_law_crowd", "_law_knots", "_law_spots", "_law_near_here"] spStands := by
  refine F.ok sc_law_stands (fun vs H Q E h => ?_) (fun cdv A outer s H vs Q E hr h => ?_)
  · unfold spStands at h
    obtain ⟨kq, s, q, m, n, fs, es, S, rfl, _⟩ := h
    rfl
  · have nd := sc_law_stands.nd
    have hS := sc_law_stands
    have hKM : KMark K := ⟨⟩
    refine' mk_body ?body ?rd
    case body =>
      show PSs _ [_, _, _] _
      wtm_at "fo ss"
    case rd =>
     unfold spStands at h
     obtain ⟨kq, s, q, m, n, fs, es, S, rfl, hm, hn, hk, hSf, hl, hs, hI, hSe, hq, fin⟩ := h
     wtm_at "fo r"
     rename_i p0 n0 p1 n1
     have h01 : p0 ≠ p1 := ne_of_none (upd_same (H := H) (a := p0) (o := HO.lst [])) n1
     have n1' : H p1 = none := by rw [upd_ne h01.symm] at n1; exact n1
     have sm0 : Same H (upd (upd H p0 (.lst [])) p1 (.lst [V.ref p0])) := same_upd (same_upd (Same.refl _) n0) n1'
     have rw0 : RwAt (upd (upd H p0 (.lst [])) p1 (.lst [V.ref p0])) p1 [p0] [[]] := by
       refine ⟨upd_same, rfl, fun i r t hr ht => ?_⟩
       cases i with
       | zero =>
         simp at hr ht
         subst hr ht
         rw [upd_ne h01]
         exact upd_same
       | succ i => simp at hr
     generalize upd (upd H p0 (.lst [])) p1 (.lst [V.ref p0]) = H0 at *
     have hN : ((m : Int) + 1 - 1).toNat = m := by omega
     have hSl : S.length ≤ 5 := Nat.le_trans hI.len hn
     have hSn : S.Nodup := hI.lt.imp fun h => by omega
     obtain ⟨qs, hq0⟩ := PsAt.of hk
     refine for_range (fun i σ H2 => ∃ t rs ts y5 y6 y9 y10, σ = [some (.int m), some (.ref kq), some (.ref s), some (.ref q), some (.ref t), y5, y6, none, none, y9, y10, none] ∧
       Same H H2 ∧ RwAt H2 t rs ts ∧ H t = none ∧ ts.Nodup ∧ (∀ u, u ∈ ts ↔ RowK es fs S i u) ∧ ts.length ≤ 5 ^ i) ?_ ?_ ?_
     · refine ⟨p1, [p0], [[]], none, none, none, none, rfl, sm0, rw0, n1', by simp, fun u => ?_, by simp⟩
       rw [List.mem_singleton]
       exact (rowK_zero hSf).symm
     · rintro i σ H2 hi ⟨t, rs, ts, y5, y6, y9, y10, rfl, sm2, hR, nt, hnd, hts, htl⟩
       rw [hN] at hi
       have hp2 := hq0.same sm2
       wtm_at "fo r"
       refine ⟨⟨_, SqL.of hp2.hD⟩, fun D nD => ?_⟩
       refine lc_list (K := K) (xs := qs.map V.ref) (fun j H4 => Same H2 H4 ∧ H4 D = some (.lst ((mates (1 + (i : Int)) (fs.take j)).map V.int))) ?_ ?_ ?_ ?_
       · exact ⟨same_upd (Same.refl _) nD, upd_same⟩
       · rintro j H4 _ ⟨sm4, _⟩
         exact SqL.of (sm4 _ _ hp2.hD)
       · rintro j x H4 hx ⟨sm4, h4⟩
         obtain ⟨r, hr, rfl⟩ := ref_at hx
         have hj : j < fs.length := by rw [← hp2.len]; exact (List.getElem?_eq_some_iff.mp hr).1
         have hes : fs[j]? = some fs[j] := List.getElem?_eq_getElem hj
         have hre := sm4 _ _ (hp2.at_ j r _ hr hes)
         have htk : mates (1 + (i : Int)) (fs.take (j + 1)) = mates (1 + (i : Int)) (fs.take j) ++ (if fs[j].1 = 1 + (i : Int) ∨ fs[j].2 = 1 + (i : Int) then [fs[j].1 + fs[j].2 - (1 + (i : Int))] else []) := by
           rw [List.take_add_one, hes]
           exact mates_snoc _ _ _
         have hml : (mates (1 + (i : Int)) (fs.take j)).length ≤ 200 := Nat.le_trans (mates_length ..) (Nat.le_trans (List.length_take_le ..) (by omega))
         rw [htk]
         generalize mates (1 + (i : Int)) (fs.take j) = ms0 at *
         generalize fs[j] = e at *
         obtain ⟨ea, eb⟩ := e
         simp only at hre
         refine Or.inr ⟨r, [.int ea, .int eb], rfl, SqL.of hre, rfl, .int ea, [.int eb], rfl, .int eb, [], rfl, rfl, rfl, ?_⟩
         wtm_at "fo r"
         rename_i p np
         refine ⟨rfl, rfl, _, rfl, ?_⟩
         have h4' : (upd H4 p (HO.lst [.int ea, .int eb])) D = some (.lst (ms0.map V.int)) := by
           rw [upd_ne (ne_of_none h4 np)]
           exact h4
         have sm5 : Same H2 (upd H4 p (HO.lst [.int ea, .int eb])) := same_upd sm4 (sm4.free np)
         by_cases hgm : ea = 1 + (i : Int) ∨ eb = 1 + (i : Int)
         · refine ifT (by show inV (.int (1 + (i : Int))) [.int ea, .int eb] = true; rw [inV2]; exact decide_eq_true hgm) ?_
           wtm_at "fo r"
           refine ⟨ms0.map V.int, h4', ?_, same_upd sm5 nD, ?_⟩
           · rw [List.length_map]
             exact Nat.lt_of_le_of_lt hml (by decide)
           · rw [upd_same, if_pos hgm, List.map_append]
             rfl
         · refine ifF (by show inV (.int (1 + (i : Int))) [.int ea, .int eb] = false; rw [inV2]; exact decide_eq_false hgm) ?_
           refine ⟨sm5, ?_⟩
           rw [if_neg hgm, List.append_nil]
           exact h4'
       rintro H4 ⟨sm4, h4⟩
       rw [List.length_map, hp2.len, List.take_length, show (1 : Int) + (i : Int) = (i : Int) + 1 by omega] at h4
       have hos : ∀ o ∈ mates ((i : Int) + 1) fs, 1 ≤ o := fun o ho => (mates_rng hSf o ho).1
       have hol : (mates ((i : Int) + 1) fs).length ≤ 100 := Nat.le_trans (nodup_le m _ (mates_nodup hSf) fun o ho => ⟨(mates_rng hSf o ho).1, (mates_rng hSf o ho).2.1⟩) (by omega)
       have hsucc := fun u => rowK_succ (es := es) (S := S) (k := i) (u := u) hSf
       generalize mates ((i : Int) + 1) fs = os at *
       have sm24 := sm2.trans sm4
       have hR4 := hR.same sm4
       wtm_at "fo r"
       rename_i o0 no0
       have hR5 : RwAt (upd H4 o0 (.lst [])) t rs ts := hR4.same (same_upd (Same.refl _) no0)
       have sm45 : Same H4 (upd H4 o0 (.lst [])) := same_upd (Same.refl _) no0
       have hq4 := hq.same sm24
       have hs4 := sm24 _ _ hs
       refine ⟨⟨_, SqL.of hR5.hD⟩, ?_⟩
       refine for_list (K := K) (xs := rs.map V.ref) (fun j σ H5 => ∃ o us rs5 y10, σ = [some (.int m), some (.ref kq), some (.ref s), some (.ref q), some (.ref t), some (.int (1 + (i : Int))), some (.ref D), none, none, some (.ref o), y10, none] ∧
         Same H4 H5 ∧ RwAt H5 o rs5 us ∧ H4 o = none ∧ us.Nodup ∧ (∀ u, u ∈ us ↔ ∃ t' ∈ ts.take j, ∃ z ∈ S, letB es os t' z = true ∧ u = t' ++ [z]) ∧ us.length ≤ 5 * j) ?_ ?_ ?_ ?_
       · exact ⟨o0, [], [], _, rfl, sm45, RwAt.nil upd_same, no0, List.nodup_nil, (fun u => by simp), Nat.le_refl _⟩
       · rintro j σ H5 _ ⟨o, us, rs5, y10', rfl, sm5, _⟩
         exact SqL.of (sm5 _ _ hR4.hD)
       · rintro j x σ H5 hx ⟨o, us, rs5, y10', rfl, sm5, hU, no, hun, hus, hul⟩
         obtain ⟨r, hr, rfl⟩ := ref_at hx
         have hj : j < ts.length := by rw [← hR4.len]; exact (List.getElem?_eq_some_iff.mp hr).1
         have htj : ts[j]? = some ts[j] := List.getElem?_eq_getElem hj
         have hrj := sm5 _ _ (hR4.at_ j r _ hr htj)
         have htK := (hts _).mp (List.getElem_mem hj)
         have hgrow := fun ys (a1 : List.Nodup ys) a2 a3 => grow_rows (ys := ys) hnd htj hun hus hul a1 a2 a3
         generalize ts[j] = tt at *
         have hq5 := hq4.same sm5
         have hs5 := sm5 _ _ hs4
         have hf5 := sm5 _ _ h4
         have hj4 : j < 5 ^ 4 := Nat.lt_of_lt_of_le (Nat.lt_of_lt_of_le hj htl) (Nat.pow_le_pow_right (by decide) (by omega))
         wtm_at "fo r"
         refine ⟨⟨_, SqL.of hs5⟩, fun D2 nD2 => ?_⟩
         refine lc_rows (K := K) (xs := S) (fun z => letB es os tt z = true) (fun z => tt ++ [z]) (SqL.of hs5) nD2 (Nat.le_trans hSl (by decide)) (fun _ => rfl) ?_ ?_ ?_
         · intro z hz H6 sm6 R hRR
           have hzr := hI.rng z hz
           wtm_at "fo r"
           refine call_let (by omega) hSe (hq5.same sm6) (sm6 _ _ hf5) (sm6 _ _ hrj) hos hol (by rw [htK.len]; omega) hzr.1 hzr.2 (fun H7 sm7 => ?_)
           exact ⟨_, rfl, hRR _ H7 sm7 Iff.rfl⟩
         · intro z hz hb H6 sm6 R hRR
           wtm_at "fo r"
           rename_i c1 nc1
           have hr6 := sm6 _ _ hrj
           have hrc : r ≠ c1 := ne_of_none hr6 nc1
           have smc : Same H6 (upd H6 c1 (.lst [.int z])) := same_upd (Same.refl _) nc1
           refine Or.inr ⟨r, c1, tt.map V.int, [.int z], rfl, rfl, smc _ _ hr6, upd_same, ?_, fun c2 nc2 => ?_⟩
           · rw [List.length_map, htK.len]
             exact Nat.le_trans (m := 100) (show i + 1 ≤ 100 by omega) (by decide)
           have nc2' : H6 c2 = none := smc.free nc2
           refine hRR _ c2 (smc.trans (same_upd (Same.refl _) nc2)) nc2' ?_
           rw [upd_same]
           unfold iL
           rw [List.map_append]
           rfl
         · intro H6 rs6 ys sm6 hU6 hfr6 hD6 hys hsub
           have hyl : ys.length ≤ 5 := Nat.le_trans hsub.length_le hSl
           have hO6 := hU.same sm6
           obtain ⟨g1, g2, g3⟩ := hgrow ys (hSn.sublist hsub) hys hyl
           refine Or.inr ⟨o, D2, rs5.map V.ref, rs6.map V.ref, rfl, rfl, hO6.hD, hU6.hD, ?_, fun c nc => ?_⟩
           · rw [List.length_map, List.length_map, hO6.len, hU6.len, List.length_map]
             exact Nat.le_trans (m := 10000) (by omega) (by decide)
           have hcat := hO6.cat hU6 nc
           have nc5 : H5 c = none := sm6.free nc
           have nc4 : H4 c = none := sm5.free nc5
           exact ⟨c, _, _, _, rfl, (sm5.trans sm6).trans (same_upd (Same.refl _) nc), hcat, nc4, g1, g2, g3⟩
       · rintro σ H5 ⟨o, us, rs5, y10', rfl, sm5, hU, no, hun, hus, hul⟩
         have hrl : (rs.map V.ref).length = ts.length := by rw [List.length_map, hR4.len]
         rw [hrl] at hus hul
         rw [List.take_length] at hus
         refine ⟨_, rfl, o, rs5, us, _, _, _, _, rfl, sm24.trans sm5, hU, sm24.free no, hun, fun u => ?_, ?_⟩
         · rw [hus, hsucc]
           constructor
           · rintro ⟨t', h1, z, hz, hb, e⟩
             exact ⟨t', (hts t').mp h1, z, hz, hb, e⟩
           · rintro ⟨t', h1, z, hz, hb, e⟩
             exact ⟨t', (hts t').mpr h1, z, hz, hb, e⟩
         · rw [Nat.pow_succ]
           omega
     · rintro σ H2 ⟨t, rs, ts, y5, y6, y9, y10, rfl, sm2, hR, nt, hnd, hts, htl⟩
       rw [hN] at hts htl
       refine ⟨_, rfl, fin t rs ts H2 sm2 nt hR hnd (fun u => (hts u).trans (rowK_ok hSf)) (Nat.le_trans htl ?_)⟩
       exact Nat.le_trans (Nat.pow_le_pow_right (by decide) hm) (by decide)
end
/-! piece TSO -/
section
local macro_rules | `(tactic| wtm_at "fo a") => `(tactic| first
  | exact pa_nil
  | (refine' pa_cons ?k1 ?k2; (case k1 => wtm_at "fo e"); (case k2 => wtm_at "fo a"))
  | fail "no")
local macro_rules | `(tactic| wtm_at "fo v") => `(tactic| first
  | exact pv 0
  | exact pv 1
  | exact pv 2
  | exact pv 3
  | exact pv 4
  | exact pv 5
  | exact pv 6
  | exact pv 7
  | exact pv 8
  | exact pv 9
  | exact pv 10
  | exact pv 11
  | exact pv 12
  | exact pv 13
  | exact pv 14
  | exact pv 15
  | fail "no")
local macro_rules | `(tactic| wtm_at "fo e") => `(tactic| first
  | with_reducible exact pe_int
  | with_reducible exact pe_bl
  | with_reducible exact pe_non
  | with_reducible exact pe_str
  | ((with_reducible show PE _ (.Name _ _) _); wtm_at "fo v")
  | ((with_reducible show PE _ (.BinOp _ .Add _ _) _); apply pe_op opAddB <;> wtm_at "fo e")
  | ((with_reducible show PE _ (.BinOp _ .Sub _ _) _); apply pe_op op_sub <;> wtm_at "fo e")
  | ((with_reducible show PE _ (.BinOp _ .Mult _ _) _); apply pe_op op_mul <;> wtm_at "fo e")
  | ((with_reducible show PE _ (.BinOp _ .Mod _ _) _); apply pe_op op_mod <;> wtm_at "fo e")
  | ((with_reducible show PE _ (.BinOp _ .FloorDiv _ _) _); apply pe_op op_fdiv <;> wtm_at "fo e")
  | ((with_reducible show PE _ (.BinOp _ .Pow _ _) _); apply pe_op op_powW <;> wtm_at "fo e")
  | ((with_reducible show PE _ (.BinOp _ .LShift _ _) _); apply pe_op op_shl <;> wtm_at "fo e")
  | ((with_reducible show PE _ (.BinOp _ .RShift _ _) _); apply pe_op op_shr <;> wtm_at "fo e")
  | ((with_reducible show PE _ (.BinOp _ .BitAnd _ _) _); apply pe_op op_and <;> wtm_at "fo e")
  | ((with_reducible show PE _ (.List _ _) _); apply pe_lst; wtm_at "fo a")
  | ((with_reducible show PE _ (.Tuple _ _ _) _); apply pe_tup; wtm_at "fo a")
  | ((with_reducible show PE _ (.ListComp _ [_] _ _) _); wtm_at "fo lc")
  | ((with_reducible show PE _ (.IfExp _ _ _ _) _); apply pe_ifExp; (· wtm_at "fo t"); (· wtm_at "fo e"); (· wtm_at "fo e"))
  | ((with_reducible show PE _ (.UnaryOp .USub _ _) _); apply pe_un un_neg; wtm_at "fo e")
  | ((with_reducible show PE _ (.Call (.Name _ _) [] (_ :: _) _) _); wtm_at "fo kcall")
  | ((with_reducible show PE _ (.Call (.Name _ _) _ _ _) _); wtm_at "fo call")
  | ((with_reducible show PE _ (.Call (.Attribute _ _ _) _ _ _) _); wtm_at "fo meth")
  | ((with_reducible show PE _ (.Compare _ _ _ _) _); wtm_at "fo cmp")
  | ((with_reducible show PE _ (.Subscript _ (.Slice _ _ _ _) _) _); wtm_at "fo slice")
  | ((with_reducible show PE _ (.Subscript _ _ _) _); refine' pe_ix (ix_seqK (by assumption) (by exact rfl)) ?ka ?kb (fun _ _ => rfl); (case ka => wtm_at "fo e"); (case kb => wtm_at "fo e"))
  | fail "no")
local macro_rules | `(tactic| wtm_at "fo own") => `(tactic| first
  | ((show _ = [0]); kernel_rfl!)
  | ((show _ = [1]); kernel_rfl!)
  | ((show _ = [2]); kernel_rfl!)
  | ((show _ = [3]); kernel_rfl!)
  | ((show _ = [4]); kernel_rfl!)
  | ((show _ = [5]); kernel_rfl!)
  | ((show _ = [6]); kernel_rfl!)
  | ((show _ = [7]); kernel_rfl!)
  | ((show _ = [8]); kernel_rfl!)
  | ((show _ = [9]); kernel_rfl!)
  | ((show _ = [10]); kernel_rfl!)
  | ((show _ = [11]); kernel_rfl!)
  | ((show _ = [12]); kernel_rfl!)
  | ((show _ = [13]); kernel_rfl!)
  | ((show _ = [14]); kernel_rfl!)
  | ((show _ = [15]); kernel_rfl!)
  | ((show _ = [0, 1]); kernel_rfl!)
  | ((show _ = [1, 2]); kernel_rfl!)
  | ((show _ = [2, 3]); kernel_rfl!)
  | ((show _ = [3, 4]); kernel_rfl!)
  | ((show _ = [4, 5]); kernel_rfl!)
  | ((show _ = [5, 6]); kernel_rfl!)
  | ((show _ = [6, 7]); kernel_rfl!)
  | ((show _ = [7, 8]); kernel_rfl!)
  | ((show _ = [8, 9]); kernel_rfl!)
  | ((show _ = [9, 10]); kernel_rfl!)
  | ((show _ = [10, 11]); kernel_rfl!)
  | ((show _ = [11, 12]); kernel_rfl!)
  | ((show _ = [12, 13]); kernel_rfl!)
  | ((show _ = [13, 14]); kernel_rfl!)
  | ((show _ = [14, 15]); kernel_rfl!)
  | fail "no")
local macro_rules | `(tactic| wtm_at "fo ts") => `(tactic| first
  | exact pts_nil
  | (apply pts_one; wtm_at "fo t")
  | fail "no")
local macro_rules | `(tactic| wtm_at "fo lc") => `(tactic| first
  | (refine' pe_lcO (by assumption) (by exact rfl) (by exact rfl) (by wtm_at "fo own") (by decide +kernel) rfl ?ki ?kg ?kt ?ke; (case ki => wtm_at "fo i"); (case kg => (intro _ _ _ _ _; wtm_at "fo g")); (case kt => (intro _ _ _ _ _; wtm_at "fo ts")); (case ke => (intro _ _ _ _ _; wtm_at "fo e")))
  | fail "no")
local macro_rules | `(tactic| wtm_at "fo part") => `(tactic| first
  | exact po_none
  | (apply po_some; wtm_at "fo e")
  | fail "no")
local macro_rules | `(tactic| wtm_at "fo slice") => `(tactic| first
  | ((with_reducible show PE _ (.Subscript _ (.Slice _ _ none _) _) _); refine' pe_slice (sl_listK (by assumption) (by exact rfl)) ?ka ?kb ?kc; (case ka => wtm_at "fo e"); (case kb => wtm_at "fo part"); (case kc => wtm_at "fo part"))
  | ((with_reducible show PE _ (.Subscript _ (.Slice none none (some _) _) _) _); refine' pe_stepK (by assumption) (by exact rfl) ?ka ?kb; (case ka => wtm_at "fo e"); (case kb => wtm_at "fo e"))
  | fail "no")
local macro_rules | `(tactic| wtm_at "fo cmp") => `(tactic| first
  | ((with_reducible show PE _ (.Compare _ [.Lt] _ _) _); refine' pe_cmpR op_lt ?ka ?kb (nomark _); (case ka => wtm_at "fo e"); (case kb => wtm_at "fo e"))
  | ((with_reducible show PE _ (.Compare _ [.LtE] _ _) _); refine' pe_cmpR op_le ?ka ?kb (nomark _); (case ka => wtm_at "fo e"); (case kb => wtm_at "fo e"))
  | ((with_reducible show PE _ (.Compare _ [.Gt] _ _) _); refine' pe_cmpR op_gt ?ka ?kb (nomark _); (case ka => wtm_at "fo e"); (case kb => wtm_at "fo e"))
  | ((with_reducible show PE _ (.Compare _ [.GtE] _ _) _); refine' pe_cmpR op_ge ?ka ?kb (nomark _); (case ka => wtm_at "fo e"); (case kb => wtm_at "fo e"))
  | ((with_reducible show PE _ (.Compare _ [.Eq] _ _) _); refine' pe_cmpR (op_eqK (by assumption) (by exact rfl) (Room.units (by assumption))) ?ka ?kb (nomark _); (case ka => wtm_at "fo e"); (case kb => wtm_at "fo e"))
  | ((with_reducible show PE _ (.Compare _ [.NotEq] _ _) _); refine' pe_cmpR (op_neK (by assumption) (by exact rfl) (Room.units (by assumption))) ?ka ?kb (nomark _); (case ka => wtm_at "fo e"); (case kb => wtm_at "fo e"))
  | fail "no")
local macro_rules | `(tactic| wtm_at "fo tcmp") => `(tactic| first
  | ((with_reducible show PT _ (.Compare _ [.Lt] _ _) _); refine' pt_cmpR op_lt ?ka ?kb (nomark _); (case ka => wtm_at "fo e"); (case kb => wtm_at "fo e"))
  | ((with_reducible show PT _ (.Compare _ [.LtE] _ _) _); refine' pt_cmpR op_le ?ka ?kb (nomark _); (case ka => wtm_at "fo e"); (case kb => wtm_at "fo e"))
  | ((with_reducible show PT _ (.Compare _ [.Gt] _ _) _); refine' pt_cmpR op_gt ?ka ?kb (nomark _); (case ka => wtm_at "fo e"); (case kb => wtm_at "fo e"))
  | ((with_reducible show PT _ (.Compare _ [.GtE] _ _) _); refine' pt_cmpR op_ge ?ka ?kb (nomark _); (case ka => wtm_at "fo e"); (case kb => wtm_at "fo e"))
  | ((with_reducible show PT _ (.Compare _ [.Eq] _ _) _); refine' pt_cmpR (op_eqK (by assumption) (by exact rfl) (Room.units (by assumption))) ?ka ?kb (nomark _); (case ka => wtm_at "fo e"); (case kb => wtm_at "fo e"))
  | ((with_reducible show PT _ (.Compare _ [.NotEq] _ _) _); refine' pt_cmpR (op_neK (by assumption) (by exact rfl) (Room.units (by assumption))) ?ka ?kb (nomark _); (case ka => wtm_at "fo e"); (case kb => wtm_at "fo e"))
  | ((with_reducible show PT _ (.Compare _ [.In] _ _) _); refine' pt_cmpR (op_inK (by assumption) (by exact rfl)) ?ka ?kb rfl; (case ka => wtm_at "fo e"); (case kb => wtm_at "fo e"))
  | ((with_reducible show PT _ (.Compare _ [.NotIn] _ _) _); refine' pt_cmpR (op_notInK (by assumption) (by exact rfl)) ?ka ?kb rfl; (case ka => wtm_at "fo e"); (case kb => wtm_at "fo e"))
  | fail "no")
local macro_rules | `(tactic| wtm_at "fo w") => `(tactic| first
  | ((with_reducible show PW _ (.BoolOp .And [_] _) _); apply pw_and1; wtm_at "fo t")
  | ((with_reducible show PW _ (.BoolOp .And _ _) _); apply pw_and; (· wtm_at "fo t"); (· wtm_at "fo w"))
  | ((with_reducible show PW _ (.BoolOp .Or [_] _) _); apply pw_or1; wtm_at "fo t")
  | ((with_reducible show PW _ (.BoolOp .Or _ _) _); apply pw_or; (· wtm_at "fo t"); (· wtm_at "fo w"))
  | fail "no")
local macro_rules | `(tactic| wtm_at "fo meth") => `(tactic| first
  | ((with_reducible show PE _ (.Call (.Attribute _ (Str.ofString "append") _) _ _ _) _); refine' pe_bm PySem.F.plainAttrs_list PySem.F.slot_list_append PySem.F.type_list_append mt_append ?ka ?kb; (case ka => wtm_at "fo e"); (case kb => wtm_at "fo a"))
  | ((with_reducible show PE _ (.Call (.Attribute _ (Str.ofString "pop") _) [_] _ _) _); refine' pe_bm PySem.F.plainAttrs_list PySem.F.slot_list_pop PySem.F.type_list_pop mt_popAt ?ka ?kb; (case ka => wtm_at "fo e"); (case kb => wtm_at "fo a"))
  | ((with_reducible show PE _ (.Call (.Attribute _ (Str.ofString "pop") _) [] _ _) _); refine' pe_bm0 PySem.F.plainAttrs_list PySem.F.slot_list_pop PySem.F.type_list_pop mt_pop ?ka; (case ka => wtm_at "fo e"))
  | fail "no")
local macro_rules | `(tactic| wtm_at "fo k") => `(tactic| first
  | exact pk_nil
  | (refine' pk_cons ?k1 ?k2; (case k1 => wtm_at "fo e"); (case k2 => wtm_at "fo k"))
  | fail "no")
local macro_rules | `(tactic| wtm_at "fo kcall") => `(tactic| first
  | (refine' pe_kcal (by assumption) (by assumption) (by decide) (by rfl) ?ka; (case ka => wtm_at "fo k"))
  | fail "no")
local macro_rules | `(tactic| wtm_at "fo call") => `(tactic| first
  | ((with_reducible show PE _ (.Call (.Name (Str.ofString "int") _) _ _ _) _); refine' pe_callTy call_intB (by rfl) (by assumption) (by decide +kernel) ?ka; (case ka => wtm_at "fo a"))
  | ((with_reducible show PE _ (.Call (.Name (Str.ofString "len") _) _ _ _) _); refine' pe_callB (call_lenK (by assumption) (by exact rfl)) (by rfl) (by assumption) PySem.boot_len ?ka; (case ka => wtm_at "fo a"))
  | ((with_reducible show PE _ (.Call (.Name (Str.ofString "list") _) [.Call (.Name (Str.ofString "range") _) [_, _] _ _] _ _) _); refine' pe_listRg rfl (by rfl) (by assumption) (prg_2 (by rfl) (by assumption) ?ka ?kb); (case ka => wtm_at "fo e"); (case kb => wtm_at "fo e"))
  | ((with_reducible show PE _ (.Call (.Name (Str.ofString "list") _) _ _ _) _); refine' pe_callTy (call_listK (by assumption) (by exact rfl)) (by rfl) (by assumption) (by decide +kernel) ?ka; (case ka => wtm_at "fo a"))
  | ((with_reducible show PE _ (.Call (.Name (Str.ofString "min") _) [_, _] _ _) _); refine' pe_callB (call_min2 rfl) (by rfl) (by assumption) (by decide +kernel) ?ka; (case ka => wtm_at "fo a"))
  | ((with_reducible show PE _ (.Call (.Name (Str.ofString "sorted") _) [_] _ _) _); refine' pe_callB (cr_sortedK (by assumption) (by exact rfl)) (by rfl) (by assumption) (by decide +kernel) ?ka; (case ka => wtm_at "fo a"))
  | ((with_reducible show PE _ (.Call (.Name (Str.ofString "repr") _) [_] _ _) _); refine' pe_callB (call_reprK (by assumption) (by exact rfl) (by assumption) (Room.units (by assumption))) (by rfl) (by assumption) (by decide +kernel) ?ka; (case ka => wtm_at "fo a"))
  | (refine' pe_cal (by assumption) (by assumption) (by decide) (by rfl) ?ka; (case ka => wtm_at "fo a"))
  | fail "no")
local macro_rules | `(tactic| wtm_at "fo setlc") => `(tactic| first
  | (refine' ps_setLcO (i := 0) (by assumption) (by exact rfl) (by exact rfl) (by wtm_at "fo own") (by decide +kernel) rfl rfl rfl (sw_true rfl rfl rfl (by decide +kernel)) ?ki ?kg ?kt ?ke; (case ki => wtm_at "fo i"); (case kg => (intro _ _ _ _ _; wtm_at "fo g")); (case kt => (intro _ _ _ _ _; wtm_at "fo ts")); (case ke => (intro _ _ _ _ _; wtm_at "fo e")))
  | (refine' ps_setLcO (i := 1) (by assumption) (by exact rfl) (by exact rfl) (by wtm_at "fo own") (by decide +kernel) rfl rfl rfl (sw_true rfl rfl rfl (by decide +kernel)) ?ki ?kg ?kt ?ke; (case ki => wtm_at "fo i"); (case kg => (intro _ _ _ _ _; wtm_at "fo g")); (case kt => (intro _ _ _ _ _; wtm_at "fo ts")); (case ke => (intro _ _ _ _ _; wtm_at "fo e")))
  | (refine' ps_setLcO (i := 2) (by assumption) (by exact rfl) (by exact rfl) (by wtm_at "fo own") (by decide +kernel) rfl rfl rfl (sw_true rfl rfl rfl (by decide +kernel)) ?ki ?kg ?kt ?ke; (case ki => wtm_at "fo i"); (case kg => (intro _ _ _ _ _; wtm_at "fo g")); (case kt => (intro _ _ _ _ _; wtm_at "fo ts")); (case ke => (intro _ _ _ _ _; wtm_at "fo e")))
  | (refine' ps_setLcO (i := 3) (by assumption) (by exact rfl) (by exact rfl) (by wtm_at "fo own") (by decide +kernel) rfl rfl rfl (sw_true rfl rfl rfl (by decide +kernel)) ?ki ?kg ?kt ?ke; (case ki => wtm_at "fo i"); (case kg => (intro _ _ _ _ _; wtm_at "fo g")); (case kt => (intro _ _ _ _ _; wtm_at "fo ts")); (case ke => (intro _ _ _ _ _; wtm_at "fo e")))
  | (refine' ps_setLcO (i := 4) (by assumption) (by exact rfl) (by exact rfl) (by wtm_at "fo own") (by decide +kernel) rfl rfl rfl (sw_true rfl rfl rfl (by decide +kernel)) ?ki ?kg ?kt ?ke; (case ki => wtm_at "fo i"); (case kg => (intro _ _ _ _ _; wtm_at "fo g")); (case kt => (intro _ _ _ _ _; wtm_at "fo ts")); (case ke => (intro _ _ _ _ _; wtm_at "fo e")))
  | (refine' ps_setLcO (i := 5) (by assumption) (by exact rfl) (by exact rfl) (by wtm_at "fo own") (by decide +kernel) rfl rfl rfl (sw_true rfl rfl rfl (by decide +kernel)) ?ki ?kg ?kt ?ke; (case ki => wtm_at "fo i"); (case kg => (intro _ _ _ _ _; wtm_at "fo g")); (case kt => (intro _ _ _ _ _; wtm_at "fo ts")); (case ke => (intro _ _ _ _ _; wtm_at "fo e")))
  | (refine' ps_setLcO (i := 6) (by assumption) (by exact rfl) (by exact rfl) (by wtm_at "fo own") (by decide +kernel) rfl rfl rfl (sw_true rfl rfl rfl (by decide +kernel)) ?ki ?kg ?kt ?ke; (case ki => wtm_at "fo i"); (case kg => (intro _ _ _ _ _; wtm_at "fo g")); (case kt => (intro _ _ _ _ _; wtm_at "fo ts")); (case ke => (intro _ _ _ _ _; wtm_at "fo e")))
  | (refine' ps_setLcO (i := 7) (by assumption) (by exact rfl) (by exact rfl) (by wtm_at "fo own") (by decide +kernel) rfl rfl rfl (sw_true rfl rfl rfl (by decide +kernel)) ?ki ?kg ?kt ?ke; (case ki => wtm_at "fo i"); (case kg => (intro _ _ _ _ _; wtm_at "fo g")); (case kt => (intro _ _ _ _ _; wtm_at "fo ts")); (case ke => (intro _ _ _ _ _; wtm_at "fo e")))
  | (refine' ps_setLcO (i := 8) (by assumption) (by exact rfl) (by exact rfl) (by wtm_at "fo own") (by decide +kernel) rfl rfl rfl (sw_true rfl rfl rfl (by decide +kernel)) ?ki ?kg ?kt ?ke; (case ki => wtm_at "fo i"); (case kg => (intro _ _ _ _ _; wtm_at "fo g")); (case kt => (intro _ _ _ _ _; wtm_at "fo ts")); (case ke => (intro _ _ _ _ _; wtm_at "fo e")))
  | (refine' ps_setLcO (i := 9) (by assumption) (by exact rfl) (by exact rfl) (by wtm_at "fo own") (by decide +kernel) rfl rfl rfl (sw_true rfl rfl rfl (by decide +kernel)) ?ki ?kg ?kt ?ke; (case ki => wtm_at "fo i"); (case kg => (intro _ _ _ _ _; wtm_at "fo g")); (case kt => (intro _ _ _ _ _; wtm_at "fo ts")); (case ke => (intro _ _ _ _ _; wtm_at "fo e")))
  | (refine' ps_setLcO (i := 10) (by assumption) (by exact rfl) (by exact rfl) (by wtm_at "fo own") (by decide +kernel) rfl rfl rfl (sw_true rfl rfl rfl (by decide +kernel)) ?ki ?kg ?kt ?ke; (case ki => wtm_at "fo i"); (case kg => (intro _ _ _ _ _; wtm_at "fo g")); (case kt => (intro _ _ _ _ _; wtm_at "fo ts")); (case ke => (intro _ _ _ _ _; wtm_at "fo e")))
  | (refine' ps_setLcO (i := 11) (by assumption) (by exact rfl) (by exact rfl) (by wtm_at "fo own") (by decide +kernel) rfl rfl rfl (sw_true rfl rfl rfl (by decide +kernel)) ?ki ?kg ?kt ?ke; (case ki => wtm_at "fo i"); (case kg => (intro _ _ _ _ _; wtm_at "fo g")); (case kt => (intro _ _ _ _ _; wtm_at "fo ts")); (case ke => (intro _ _ _ _ _; wtm_at "fo e")))
  | (refine' ps_setLcO (i := 12) (by assumption) (by exact rfl) (by exact rfl) (by wtm_at "fo own") (by decide +kernel) rfl rfl rfl (sw_true rfl rfl rfl (by decide +kernel)) ?ki ?kg ?kt ?ke; (case ki => wtm_at "fo i"); (case kg => (intro _ _ _ _ _; wtm_at "fo g")); (case kt => (intro _ _ _ _ _; wtm_at "fo ts")); (case ke => (intro _ _ _ _ _; wtm_at "fo e")))
  | (refine' ps_setLcO (i := 13) (by assumption) (by exact rfl) (by exact rfl) (by wtm_at "fo own") (by decide +kernel) rfl rfl rfl (sw_true rfl rfl rfl (by decide +kernel)) ?ki ?kg ?kt ?ke; (case ki => wtm_at "fo i"); (case kg => (intro _ _ _ _ _; wtm_at "fo g")); (case kt => (intro _ _ _ _ _; wtm_at "fo ts")); (case ke => (intro _ _ _ _ _; wtm_at "fo e")))
  | (refine' ps_setLcO (i := 14) (by assumption) (by exact rfl) (by exact rfl) (by wtm_at "fo own") (by decide +kernel) rfl rfl rfl (sw_true rfl rfl rfl (by decide +kernel)) ?ki ?kg ?kt ?ke; (case ki => wtm_at "fo i"); (case kg => (intro _ _ _ _ _; wtm_at "fo g")); (case kt => (intro _ _ _ _ _; wtm_at "fo ts")); (case ke => (intro _ _ _ _ _; wtm_at "fo e")))
  | (refine' ps_setLcO (i := 15) (by assumption) (by exact rfl) (by exact rfl) (by wtm_at "fo own") (by decide +kernel) rfl rfl rfl (sw_true rfl rfl rfl (by decide +kernel)) ?ki ?kg ?kt ?ke; (case ki => wtm_at "fo i"); (case kg => (intro _ _ _ _ _; wtm_at "fo g")); (case kt => (intro _ _ _ _ _; wtm_at "fo ts")); (case ke => (intro _ _ _ _ _; wtm_at "fo e")))
  | fail "no")
local macro_rules | `(tactic| wtm_at "fo set") => `(tactic| first
  | (refine' ps_set (i := 0) (by assumption) rfl (by first | exact Or.inl rfl | exact Or.inr rfl) ?ka; (case ka => wtm_at "fo e"))
  | (refine' ps_set (i := 1) (by assumption) rfl (by first | exact Or.inl rfl | exact Or.inr rfl) ?ka; (case ka => wtm_at "fo e"))
  | (refine' ps_set (i := 2) (by assumption) rfl (by first | exact Or.inl rfl | exact Or.inr rfl) ?ka; (case ka => wtm_at "fo e"))
  | (refine' ps_set (i := 3) (by assumption) rfl (by first | exact Or.inl rfl | exact Or.inr rfl) ?ka; (case ka => wtm_at "fo e"))
  | (refine' ps_set (i := 4) (by assumption) rfl (by first | exact Or.inl rfl | exact Or.inr rfl) ?ka; (case ka => wtm_at "fo e"))
  | (refine' ps_set (i := 5) (by assumption) rfl (by first | exact Or.inl rfl | exact Or.inr rfl) ?ka; (case ka => wtm_at "fo e"))
  | (refine' ps_set (i := 6) (by assumption) rfl (by first | exact Or.inl rfl | exact Or.inr rfl) ?ka; (case ka => wtm_at "fo e"))
  | (refine' ps_set (i := 7) (by assumption) rfl (by first | exact Or.inl rfl | exact Or.inr rfl) ?ka; (case ka => wtm_at "fo e"))
  | (refine' ps_set (i := 8) (by assumption) rfl (by first | exact Or.inl rfl | exact Or.inr rfl) ?ka; (case ka => wtm_at "fo e"))
  | (refine' ps_set (i := 9) (by assumption) rfl (by first | exact Or.inl rfl | exact Or.inr rfl) ?ka; (case ka => wtm_at "fo e"))
  | (refine' ps_set (i := 10) (by assumption) rfl (by first | exact Or.inl rfl | exact Or.inr rfl) ?ka; (case ka => wtm_at "fo e"))
  | (refine' ps_set (i := 11) (by assumption) rfl (by first | exact Or.inl rfl | exact Or.inr rfl) ?ka; (case ka => wtm_at "fo e"))
  | (refine' ps_set (i := 12) (by assumption) rfl (by first | exact Or.inl rfl | exact Or.inr rfl) ?ka; (case ka => wtm_at "fo e"))
  | (refine' ps_set (i := 13) (by assumption) rfl (by first | exact Or.inl rfl | exact Or.inr rfl) ?ka; (case ka => wtm_at "fo e"))
  | fail "no")
local macro_rules | `(tactic| wtm_at "fo t") => `(tactic| first
  | ((with_reducible show PT _ (.BoolOp _ _ _) _); apply PW.pt; wtm_at "fo w")
  | ((with_reducible show PT _ (.UnaryOp .Not _ _) _); apply pt_not; wtm_at "fo t")
  | ((with_reducible show PT _ (.Compare _ _ _ _) _); wtm_at "fo tcmp")
  | (refine' pt_truthK (by assumption) (by exact rfl) ?ka (by intro _; rfl); (case ka => wtm_at "fo e"))
  | fail "no")
local macro_rules | `(tactic| wtm_at "fo gn") => `(tactic| first
  | exact pg_name (i := 0) (by assumption) rfl (by first | exact Or.inl rfl | exact Or.inr rfl)
  | exact pg_name (i := 1) (by assumption) rfl (by first | exact Or.inl rfl | exact Or.inr rfl)
  | exact pg_name (i := 2) (by assumption) rfl (by first | exact Or.inl rfl | exact Or.inr rfl)
  | exact pg_name (i := 3) (by assumption) rfl (by first | exact Or.inl rfl | exact Or.inr rfl)
  | exact pg_name (i := 4) (by assumption) rfl (by first | exact Or.inl rfl | exact Or.inr rfl)
  | exact pg_name (i := 5) (by assumption) rfl (by first | exact Or.inl rfl | exact Or.inr rfl)
  | exact pg_name (i := 6) (by assumption) rfl (by first | exact Or.inl rfl | exact Or.inr rfl)
  | exact pg_name (i := 7) (by assumption) rfl (by first | exact Or.inl rfl | exact Or.inr rfl)
  | exact pg_name (i := 8) (by assumption) rfl (by first | exact Or.inl rfl | exact Or.inr rfl)
  | exact pg_name (i := 9) (by assumption) rfl (by first | exact Or.inl rfl | exact Or.inr rfl)
  | exact pg_name (i := 10) (by assumption) rfl (by first | exact Or.inl rfl | exact Or.inr rfl)
  | exact pg_name (i := 11) (by assumption) rfl (by first | exact Or.inl rfl | exact Or.inr rfl)
  | exact pg_name (i := 12) (by assumption) rfl (by first | exact Or.inl rfl | exact Or.inr rfl)
  | exact pg_name (i := 13) (by assumption) rfl (by first | exact Or.inl rfl | exact Or.inr rfl)
  | exact pg_name (i := 14) (by assumption) rfl (by first | exact Or.inl rfl | exact Or.inr rfl)
  | exact pg_name (i := 15) (by assumption) rfl (by first | exact Or.inl rfl | exact Or.inr rfl)
  | fail "no")
local macro_rules | `(tactic| wtm_at "fo par") => `(tactic| first
  | (refine' ps_par (i := 0) (j := 1) rfl (by assumption) rfl rfl (by decide) rfl rfl ?ka (by rfl); (case ka => wtm_at "fo a"))
  | (refine' ps_par (i := 1) (j := 2) rfl (by assumption) rfl rfl (by decide) rfl rfl ?ka (by rfl); (case ka => wtm_at "fo a"))
  | (refine' ps_par (i := 2) (j := 3) rfl (by assumption) rfl rfl (by decide) rfl rfl ?ka (by rfl); (case ka => wtm_at "fo a"))
  | (refine' ps_par (i := 3) (j := 4) rfl (by assumption) rfl rfl (by decide) rfl rfl ?ka (by rfl); (case ka => wtm_at "fo a"))
  | (refine' ps_par (i := 4) (j := 5) rfl (by assumption) rfl rfl (by decide) rfl rfl ?ka (by rfl); (case ka => wtm_at "fo a"))
  | (refine' ps_par (i := 5) (j := 6) rfl (by assumption) rfl rfl (by decide) rfl rfl ?ka (by rfl); (case ka => wtm_at "fo a"))
  | (refine' ps_par (i := 6) (j := 7) rfl (by assumption) rfl rfl (by decide) rfl rfl ?ka (by rfl); (case ka => wtm_at "fo a"))
  | (refine' ps_par (i := 7) (j := 8) rfl (by assumption) rfl rfl (by decide) rfl rfl ?ka (by rfl); (case ka => wtm_at "fo a"))
  | (refine' ps_par (i := 8) (j := 9) rfl (by assumption) rfl rfl (by decide) rfl rfl ?ka (by rfl); (case ka => wtm_at "fo a"))
  | (refine' ps_par (i := 9) (j := 10) rfl (by assumption) rfl rfl (by decide) rfl rfl ?ka (by rfl); (case ka => wtm_at "fo a"))
  | (refine' ps_par (i := 10) (j := 11) rfl (by assumption) rfl rfl (by decide) rfl rfl ?ka (by rfl); (case ka => wtm_at "fo a"))
  | (refine' ps_par (i := 11) (j := 12) rfl (by assumption) rfl rfl (by decide) rfl rfl ?ka (by rfl); (case ka => wtm_at "fo a"))
  | (refine' ps_par (i := 12) (j := 13) rfl (by assumption) rfl rfl (by decide) rfl rfl ?ka (by rfl); (case ka => wtm_at "fo a"))
  | (refine' ps_par (i := 13) (j := 14) rfl (by assumption) rfl rfl (by decide) rfl rfl ?ka (by rfl); (case ka => wtm_at "fo a"))
  | (refine' ps_par (i := 14) (j := 15) rfl (by assumption) rfl rfl (by decide) rfl rfl ?ka (by rfl); (case ka => wtm_at "fo a"))
  | fail "no")
local macro_rules | `(tactic| wtm_at "fo g") => `(tactic| first
  | ((with_reducible show PG _ (.Name _ _) _); wtm_at "fo gn")
  | ((with_reducible show PG _ (.Tuple _ _ _) _); apply PG_or; (· refine' pg_tup2 (by assumption) (by exact rfl) rfl ?kg; (case kg => wtm_at "fo gs")); (· refine' pg_unl2 (by assumption) (by exact rfl) rfl ?kg; (case kg => wtm_at "fo gs")))
  | fail "no")
local macro_rules | `(tactic| wtm_at "fo gs") => `(tactic| first
  | exact pgs_nil
  | (refine' pgs_cons ?k1 ?k2; (case k1 => wtm_at "fo g"); (case k2 => wtm_at "fo gs"))
  | fail "no")
local macro_rules | `(tactic| wtm_at "fo i") => `(tactic| first
  | ((with_reducible show PI _ _ (.Call (.Name (Str.ofString "range") _) [_] _ _) _); refine' pi_range1 (by rfl) (by assumption) ?ka; (case ka => wtm_at "fo a"))
  | ((with_reducible show PI _ _ (.Call (.Name (Str.ofString "range") _) [_, _] _ _) _); refine' pi_range2 (by rfl) (by assumption) ?ka; (case ka => wtm_at "fo a"))
  | ((with_reducible show PI _ _ (.Call (.Name (Str.ofString "enumerate") _) [_] _ _) _); refine' pi_enum (by rfl) (by assumption) ?ka; (case ka => wtm_at "fo a"))
  | (refine' pi_listK (by assumption) (by exact rfl) ?ka; (case ka => wtm_at "fo e"))
  | fail "no")
local macro_rules | `(tactic| wtm_at "fo s") => `(tactic| first
  | ((with_reducible show PS _ (.While _ _ _ _) _); refine' ps_while PassesOwn.never ?kt ?kb; (case kt => wtm_at "fo t"); (case kb => wtm_at "fo ss"))
  | ((with_reducible show PS _ (.For _ _ _ _ _) _); refine' ps_for PassesOwn.never rfl ?ki ?kg ?kb; (case ki => wtm_at "fo i"); (case kg => wtm_at "fo g"); (case kb => wtm_at "fo ss"))
  | ((with_reducible show PS _ (.Assign [.Name _ _] (.ListComp _ [_] _ _) _) _); wtm_at "fo setlc")
  | ((with_reducible show PS _ (.Assign [.Name _ _] _ _) _); wtm_at "fo set")
  | ((with_reducible show PS _ (.Assign [.Tuple [.Name _ _, .Name _ _] _ _] (.Tuple [_, _] _ _) _) _); wtm_at "fo par")
  | ((with_reducible show PS _ (.Assign [.Subscript _ _ _] _ _) _); refine' ps_asg ?ka (pg_sub ?kb ?kc set_list); (case ka => wtm_at "fo e"); (case kb => wtm_at "fo e"); (case kc => wtm_at "fo e"))
  | ((with_reducible show PS _ (.Return (some _) _) _); apply ps_ret; wtm_at "fo e")
  | ((with_reducible show PS _ (.Expr _ _) _); refine' ps_expr ?ka; (case ka => wtm_at "fo e"))
  | ((with_reducible show PS _ (.If _ _ _ _) _); apply ps_if; (· wtm_at "fo t"); (· wtm_at "fo ss"); (· wtm_at "fo ss"))
  | fail "no")
local macro_rules | `(tactic| wtm_at "fo ss") => `(tactic| first
  | with_reducible exact pss_nil
  | ((with_reducible show PSs _ [_] _); apply pss_one; wtm_at "fo s")
  | (apply pss_cons; (· wtm_at "fo s"); (· wtm_at "fo ss"))
  | fail "no")
local macro_rules | `(tactic| wtm_at "fo hp") => `(tactic| first
  | assumption
  | exact upd_same
  | (refine (upd_ne ?ne).trans ?hp; (case ne => wtm_at "fo ne"); (case hp => wtm_at "fo hp"))
  | fail "no")
local macro_rules | `(tactic| wtm_at "fo ne") => `(tactic| first
  | assumption
  | (apply Ne.symm; assumption)
  | exact ne_of_none (by assumption) (by assumption)
  | exact Ne.symm (ne_of_none (by assumption) (by assumption))
  | fail "no")
local macro_rules | `(tactic| wtm_at "fo sz") => `(tactic| first
  | exact (Nat.le_of_ble_eq_true rfl : _ ≤ sizeLine)
  | exact (Nat.le_of_ble_eq_true rfl : _ < sizeLine)
  | exact Nat.lt_of_le_of_lt (m := 100000) (by first | assumption | omega | (simp; omega)) (by decide)
  | exact Nat.le_trans (m := 100000) (by first | assumption | omega | (simp; omega)) (by decide)
  | fail "no")
local macro_rules | `(tactic| wtm_at "fo r1") => `(tactic| first
  | refine ⟨(Nat.le_of_ble_eq_true rfl : _ ≤ sizeLine), fun p np => ?_⟩
  | (refine' ⟨_, _, rfl, Or.inl (SqL.of ?h), ?_⟩; (case h => wtm_at "fo hp"))
  | refine ⟨_, rfl, ?_⟩
  | refine ⟨_, _, rfl, rfl, ?_⟩
  | refine ⟨_, _, rfl, ⟨by omega, by omega, by omega, by omega⟩, ?_⟩
  | refine ⟨_, rfl, by omega, by omega, ?_⟩
  | refine Or.inl ⟨_, rfl, ?_⟩
  | refine Or.inl ⟨rfl, ?_⟩
  | refine Or.inl ⟨_, _, rfl, rfl, ?_⟩
  | (refine' Or.inl ⟨_, _, _, _, rfl, rfl, SqL.of ?h, ?a, ?_⟩; (case h => wtm_at "fo hp"); (case a => rfl))
  | (refine' ⟨_, _, _, _, rfl, rfl, ?h, ?a, ?_⟩; (case h => wtm_at "fo hp"); (case a => rfl))
  | (refine' ⟨.inl ⟨rfl, _, SqL.of ?h⟩, ?_⟩; (case h => wtm_at "fo hp"))
  | (refine' ⟨_, _, _, rfl, rfl, ?h, ?z, ?_⟩; (case h => wtm_at "fo hp"); (case z => wtm_at "fo sz"))
  | (refine' ⟨_, rfl, ⟨_, SqL.of ?h⟩, ?_⟩; (case h => wtm_at "fo hp"))
  | fail "no")
local macro_rules | `(tactic| wtm_at "fo side") => `(tactic| ((try dsimp only [CMul, CDiv]); first
  | assumption
  | decide
  | omega
  | exact ⟨by decide, by decide⟩
  | exact ⟨by omega, by omega⟩
  | decide +kernel
  | fail "no"))
local macro_rules | `(tactic| wtm_at "fo r2") => `(tactic| first
  | wtm_at "fo r1"
  | refine And.intro (by wtm_at "fo side") ?_
  | fail "no")
local macro_rules | `(tactic| wtm_at "fo r") => `(tactic| repeat wtm_at "fo r2")
local macro_rules | `(tactic| wtm_at "fo v") => `(tactic| first
  | ((with_reducible show PE _ (.Name (Str.ofString "int") _) _); exact pe_bltn (v := .ty "int") (by rfl) (by assumption) (by decide +kernel) rfl)
  | ((with_reducible show PE _ (.Name (Str.ofString "list") _) _); exact pe_bltn (v := .ty "list") (by rfl) (by assumption) (by decide +kernel) rfl)
  | ((with_reducible show PE _ (.Name (Str.ofString "MOST_PLACES") _) _); exact pe_glob (v := .int 12) (by rfl) (by assumption) ⟨_, rfl⟩)
  | fail "no")
local macro_rules | `(tactic| wtm_at "fo e") => `(tactic| first
  | ((with_reducible show PE _ (.BoolOp .And [_] _) _); apply pe_one; wtm_at "fo e")
  | ((with_reducible show PE _ (.BoolOp .And _ _) _); apply pe_and; (· wtm_at "fo e"); (· wtm_at "fo e"))
  | ((with_reducible show PE _ (.Compare _ [.IsNot] [.Constant (.bool true) _ _] _) _); refine' pe_cmpR op_notT ?ka ?kb (nomark _); (case ka => wtm_at "fo e"); (case kb => wtm_at "fo e"))
  | ((with_reducible show PE _ (.Compare _ [.LtE, .LtE] _ _) _); refine' pe_chain op_le op_le ?ka ?kb ?kc; (case ka => wtm_at "fo e"); (case kb => wtm_at "fo e"); (case kc => wtm_at "fo e"))
  | ((with_reducible show PE _ (.Call (.Name (Str.ofString "isinstance") _) _ _ _) _); refine' pe_callB (call_isiK' (by assumption) (by exact rfl)) (by rfl) (by assumption) (by decide +kernel) ?ka; (case ka => wtm_at "fo a"))
  | ((with_reducible show PE _ (.Call (.Attribute _ (Str.ofString "bit_length") _) [] [] _) _); refine' pe_bits ?ka; (case ka => wtm_at "fo e"))
  | fail "no")
local macro_rules | `(tactic| wtm_at "fo t") => `(tactic| first
  | ((with_reducible show PT _ (.Compare _ [.IsNot] [.Constant (.bool true) _ _] _) _); refine' pt_cmpR op_notT ?ka ?kb (nomark _); (case ka => wtm_at "fo e"); (case kb => wtm_at "fo e"))
  | ((with_reducible show PT _ (.Compare _ [.Lt, .Lt, .LtE] _ _) _); refine' pt_chain3 op_lt op_lt op_le ?ka ?kb ?kc ?kd; (case ka => wtm_at "fo e"); (case kb => wtm_at "fo e"); (case kc => wtm_at "fo e"); (case kd => wtm_at "fo e"))
  | fail "no")
local macro_rules | `(tactic| wtm_at "fo s") => `(tactic| first
  | ((with_reducible show PS _ (.Raise _ _ _) _); exact ps_never)
  | ((with_reducible show PS _ (.Continue _) _); exact ps_continue)
  | ((with_reducible show PS _ (.AugAssign (.Subscript _ _ _) .BitOr _ _) _); refine' ps_augS ?ka ?kb get_list ?kc ip_or set_list; (case ka => wtm_at "fo e"); (case kb => wtm_at "fo e"); (case kc => wtm_at "fo e"))
  | ((with_reducible show PS _ (.Assign [.Tuple _ _ _] (.Name _ _) _) _); refine' ps_asg ?ka ?kb; (case ka => wtm_at "fo e"); (case kb => wtm_at "fo g"))
  | fail "no")
local macro_rules | `(tactic| wtm_at "fo lc") => `(tactic| (refine' pe_lcN (by assumption) (by exact rfl) (by exact rfl) (by wtm_at "fo own") (by kernel_rfl!) rfl ?ki ?kg ?kt ?ke; (case ki => wtm_at "fo i"); (case kg => (intro _ _ _ _ _; wtm_at "fo g")); (case kt => (intro _ _ _ _ _; wtm_at "fo ts")); (case ke => (intro _ _ _ _ _; wtm_at "fo e"))))
local macro_rules | `(tactic| wtm_at "fo s") => `(tactic| ((with_reducible show PS _ (.Assign [.Tuple _ _ _] (.Call _ _ _ _) _) _); refine' ps_asg ?ka ?kb; (case ka => wtm_at "fo e"); (case kb => wtm_at "fo g")))
local macro_rules | `(tactic| wtm_at "fo cmp") => `(tactic| ((with_reducible show PE _ (.Compare _ [.In] _ _) _); refine' pe_cmpR (op_inK (by assumption) (by exact rfl)) ?ka ?kb rfl; (case ka => wtm_at "fo e"); (case kb => wtm_at "fo e")))
local macro_rules | `(tactic| wtm_at "fo call") => `(tactic| ((with_reducible show PE _ (.Call (.Name (Str.ofString "list") _) [.Call (.Name (Str.ofString "range") _) [_] _ _] _ _) _); refine' pe_listRg rfl (by rfl) (by assumption) (prg_1 (by rfl) (by assumption) ?ka); (case ka => wtm_at "fo e")))
local macro_rules | `(tactic| wtm_at "fo call") => `(tactic| ((with_reducible show PE _ (.Call (.Name (Str.ofString "min") _) [_] _ _) _); refine' pe_callB (call_minK (by assumption) (by exact rfl) rfl) (by rfl) (by assumption) (by decide +kernel) ?ka; (case ka => wtm_at "fo a")))
local macro_rules | `(tactic| wtm_at "fo i") => `(tactic| ((with_reducible show PI _ _ (.Call (.Name (Str.ofString "reversed") _) [_] _ _) _); refine' pi_reversed (by rfl) (by assumption) ?ka; (case ka => wtm_at "fo a")))
local macro_rules | `(tactic| wtm_at "fo s") => `(tactic| ((with_reducible show PS _ (.AugAssign (.Name _ _) .BitXor _ _) _); first | (refine' ps_aug (i := 2) (by assumption) rfl (by first | exact Or.inl rfl | exact Or.inr rfl) ?ka ip_xor; (case ka => wtm_at "fo e")) | fail "no"))
local macro_rules | `(tactic| wtm_at "fo call") => `(tactic| (refine' pe_calG (by assumption) (by assumption) (by decide) (by assumption) (by rfl) ?ka; (case ka => wtm_at "fo a")))
local macro_rules | `(tactic| wtm_at "fo meth") => `(tactic| ((with_reducible show PE _ (.Call (.Attribute _ (Str.ofString "count") _) _ _ _) _); refine' pe_cntK (by assumption) (by exact rfl) ?ka ?kb; (case ka => wtm_at "fo e"); (case kb => wtm_at "fo a")))
local macro_rules | `(tactic| wtm_at "fo call") => `(tactic| ((with_reducible show PE _ (.Call (.Name (Str.ofString "sorted") _) [_] _ _) _); refine' pe_callB (cr_sortedB (by assumption) (by exact rfl) (Room.units (by assumption))) (by rfl) (by assumption) (by decide +kernel) ?ka; (case ka => wtm_at "fo a")))
local macro_rules | `(tactic| wtm_at "fo v") => `(tactic| first
  | exact pv 16
  | exact pv 17
  | exact pv 18
  | exact pv 19
  | fail "no")
local macro_rules | `(tactic| wtm_at "fo own") => `(tactic| first
  | ((show _ = [16]); kernel_rfl!)
  | ((show _ = [17]); kernel_rfl!)
  | ((show _ = [18]); kernel_rfl!)
  | ((show _ = [19]); kernel_rfl!)
  | ((show _ = [15, 16]); kernel_rfl!)
  | ((show _ = [16, 17]); kernel_rfl!)
  | ((show _ = [17, 18]); kernel_rfl!)
  | ((show _ = [18, 19]); kernel_rfl!)
  | fail "no")
local macro_rules | `(tactic| wtm_at "fo set") => `(tactic| first
  | (refine' ps_set (i := 14) (by assumption) rfl (by first | exact Or.inl rfl | exact Or.inr rfl) ?ka; (case ka => wtm_at "fo e"))
  | (refine' ps_set (i := 15) (by assumption) rfl (by first | exact Or.inl rfl | exact Or.inr rfl) ?ka; (case ka => wtm_at "fo e"))
  | (refine' ps_set (i := 16) (by assumption) rfl (by first | exact Or.inl rfl | exact Or.inr rfl) ?ka; (case ka => wtm_at "fo e"))
  | (refine' ps_set (i := 17) (by assumption) rfl (by first | exact Or.inl rfl | exact Or.inr rfl) ?ka; (case ka => wtm_at "fo e"))
  | (refine' ps_set (i := 18) (by assumption) rfl (by first | exact Or.inl rfl | exact Or.inr rfl) ?ka; (case ka => wtm_at "fo e"))
  | (refine' ps_set (i := 19) (by assumption) rfl (by first | exact Or.inl rfl | exact Or.inr rfl) ?ka; (case ka => wtm_at "fo e"))
  | fail "no")
local macro_rules | `(tactic| wtm_at "fo setlc") => `(tactic| first
  | (refine' ps_setLcO (i := 16) (by assumption) (by exact rfl) (by exact rfl) (by wtm_at "fo own") (by decide +kernel) rfl rfl rfl (sw_true rfl rfl rfl (by decide +kernel)) ?ki ?kg ?kt ?ke; (case ki => wtm_at "fo i"); (case kg => (intro _ _ _ _ _; wtm_at "fo g")); (case kt => (intro _ _ _ _ _; wtm_at "fo ts")); (case ke => (intro _ _ _ _ _; wtm_at "fo e")))
  | (refine' ps_setLcO (i := 17) (by assumption) (by exact rfl) (by exact rfl) (by wtm_at "fo own") (by decide +kernel) rfl rfl rfl (sw_true rfl rfl rfl (by decide +kernel)) ?ki ?kg ?kt ?ke; (case ki => wtm_at "fo i"); (case kg => (intro _ _ _ _ _; wtm_at "fo g")); (case kt => (intro _ _ _ _ _; wtm_at "fo ts")); (case ke => (intro _ _ _ _ _; wtm_at "fo e")))
  | (refine' ps_setLcO (i := 18) (by assumption) (by exact rfl) (by exact rfl) (by wtm_at "fo own") (by decide +kernel) rfl rfl rfl (sw_true rfl rfl rfl (by decide +kernel)) ?ki ?kg ?kt ?ke; (case ki => wtm_at "fo i"); (case kg => (intro _ _ _ _ _; wtm_at "fo g")); (case kt => (intro _ _ _ _ _; wtm_at "fo ts")); (case ke => (intro _ _ _ _ _; wtm_at "fo e")))
  | (refine' ps_setLcO (i := 19) (by assumption) (by exact rfl) (by exact rfl) (by wtm_at "fo own") (by decide +kernel) rfl rfl rfl (sw_true rfl rfl rfl (by decide +kernel)) ?ki ?kg ?kt ?ke; (case ki => wtm_at "fo i"); (case kg => (intro _ _ _ _ _; wtm_at "fo g")); (case kt => (intro _ _ _ _ _; wtm_at "fo ts")); (case ke => (intro _ _ _ _ _; wtm_at "fo e")))
  | fail "no")
local macro_rules | `(tactic| wtm_at "fo gn") => `(tactic| first
  | exact pg_name (i := 16) (by assumption) rfl (by first | exact Or.inl rfl | exact Or.inr rfl)
  | exact pg_name (i := 17) (by assumption) rfl (by first | exact Or.inl rfl | exact Or.inr rfl)
  | exact pg_name (i := 18) (by assumption) rfl (by first | exact Or.inl rfl | exact Or.inr rfl)
  | exact pg_name (i := 19) (by assumption) rfl (by first | exact Or.inl rfl | exact Or.inr rfl)
  | fail "no")
local macro_rules | `(tactic| wtm_at "fo s") => `(tactic| ((with_reducible show PS _ (.Assign [.Tuple _ _ _] (.Tuple _ _ _) _) _); refine' ps_asg ?ka ?kb; (case ka => wtm_at "fo e"); (case kb => wtm_at "fo g")))
local macro_rules | `(tactic| wtm_at "fo e") => `(tactic| first
  | ((with_reducible show PE _ (.UnaryOp .Invert _ _) _); apply pe_un un_inv; wtm_at "fo e")
  | ((with_reducible show PE _ (.BoolOp .Or [_] _) _); apply pe_one; wtm_at "fo e")
  | ((with_reducible show PE _ (.BoolOp .Or _ _) _); apply pe_or; (· wtm_at "fo e"); (· wtm_at "fo e"))
  | ((with_reducible show PE _ (.BinOp _ .Mult _ _) _); apply pe_op opMulB <;> wtm_at "fo e")
  | ((with_reducible show PE _ (.BinOp _ .BitOr _ _) _); apply pe_op op_or <;> wtm_at "fo e")
  | ((with_reducible show PE _ (.Compare _ [.Is] [.Constant .none _ _] _) _); refine' pe_cmpR op_isN ?ka ?kb (nomark _); (case ka => wtm_at "fo e"); (case kb => wtm_at "fo e"))
  | fail "no")
local macro_rules | `(tactic| wtm_at "fo t") => `(tactic| first
  | ((with_reducible show PT _ (.Compare _ [.Is] [.Constant .none _ _] _) _); refine' pt_cmpR op_isN ?ka ?kb (nomark _); (case ka => wtm_at "fo e"); (case kb => wtm_at "fo e"))
  | ((with_reducible show PT _ (.Compare _ [.IsNot] [.Constant .none _ _] _) _); refine' pt_cmpR op_notN ?ka ?kb (nomark _); (case ka => wtm_at "fo e"); (case kb => wtm_at "fo e"))
  | fail "no")
local macro_rules | `(tactic| wtm_at "fo i") => `(tactic| first
  | ((with_reducible show PI _ _ (.Call (.Name (Str.ofString "enumerate") _) [_, _] [] _) _); refine' pi_enumC (by assumption) (by exact rfl) (by rfl) (by assumption) ?ka; (case ka => wtm_at "fo a"))
  | ((with_reducible show PI _ _ (.Call (.Name (Str.ofString "enumerate") _) [_] [_] _) _); refine' pi_enumS (by assumption) (by exact rfl) (by rfl) (by assumption) ?ka ?kb; (case ka => wtm_at "fo a"); (case kb => wtm_at "fo k"))
  | fail "no")
local macro_rules | `(tactic| wtm_at "fo own") => `(tactic| first
  | ((show _ = [2, 4]); kernel_rfl!)
  | ((show _ = [4, 2]); kernel_rfl!)
  | fail "no")
local macro_rules | `(tactic| wtm_at "fo v") => `(tactic| ((with_reducible show PE _ (.Name (Str.ofString "tuple") _) _); exact pe_bltn (v := .ty "tuple") (by rfl) (by assumption) (by decide +kernel) rfl))
local macro_rules | `(tactic| wtm_at "fo slice") => `(tactic| ((with_reducible show PE _ (.Subscript _ (.Slice none none (some _) _) _) _); refine' pe_stepK2 (by assumption) (by exact rfl) ?ka ?kb; (case ka => wtm_at "fo e"); (case kb => wtm_at "fo e")))
local macro_rules | `(tactic| wtm_at "fo call") => `(tactic| ((with_reducible show PE _ (.Call (.Name (Str.ofString "tuple") _) [_] _ _) _); refine' pe_callTy (call_tupleK (by assumption) (by exact rfl)) (by rfl) (by assumption) (by decide +kernel) ?ka; (case ka => wtm_at "fo a")))
local macro_rules | `(tactic| wtm_at "fo call") => `(tactic| ((with_reducible show PE _ (.Call (.Name (Str.ofString "dict") _) [_] _ _) _); refine' pe_callTy (call_dictTK (by assumption) (by exact rfl) (by rfl) (Room.units (by assumption))) (by rfl) (by assumption) (by decide +kernel) ?ka; (case ka => wtm_at "fo a")))
local macro_rules | `(tactic| wtm_at "fo i") => `(tactic| ((with_reducible show PI _ _ (.Name (Str.ofString "_law_marks") _) _); refine' pi_keys ?ka; (case ka => wtm_at "fo e")))
local macro_rules | `(tactic| wtm_at "fo e") => `(tactic| ((with_reducible show PE _ (.ListComp _ [⟨_, .Name (Str.ofString "_law_marks") _, _, _⟩] _ _) _); refine' pe_lock ?kl; (case kl => wtm_at "fo lc")))
local macro_rules | `(tactic| wtm_at "fo e") => `(tactic| ((with_reducible show PE _ (.Subscript (.Name (Str.ofString "_law_marks") _) _ _) _); refine' pe_dget (u1 (Room.units (by assumption))) ?ka ?kb (fun _ _ => rfl); (case ka => wtm_at "fo e"); (case kb => wtm_at "fo e")))
local macro_rules | `(tactic| wtm_at "fo tcmp") => `(tactic| ((with_reducible show PT _ (.Compare _ [.In] [.Name (Str.ofString "_law_marks") _] _) _); refine' pt_cmp (pc_din (u1 (Room.units (by assumption))) ?ka ?kb); (case ka => wtm_at "fo e"); (case kb => wtm_at "fo e")))
variable {P : Program} {w : World} {K : PySem.W.Frag} {mg : Str → Option Value} {base : Heap}
/-! ### _law_lots -/
@[irreducible] def spLots : Sp := fun vs H Q _ => ∃ (kq s q : Addr) (m n : Nat) (fs es : List Edge) (S : List Int), vs = [.int m, .ref kq, .ref s, .ref q] ∧ 1 ≤ m ∧ m ≤ 4 ∧ n ≤ 5 ∧ Pairs H kq fs ∧ Simp m fs ∧ fs.length ≤ 200 ∧ H s = some (iL S) ∧ InNet n S ∧ Simp n es ∧ Lists H q (nearM n es) ∧
  ∀ d ts f H', Same H H' → H d = none → H' d = some (.dT (kvT ts f)) → ts.Nodup → (∀ t, t ∈ ts ↔ RowOk m es fs S t) → ts.length ≤ 625 → (∀ x ∈ ts, ∀ y ∈ ts, (f x = f y ↔ Joined (MvS m es fs S) x y)) → Q (.ref d) H'
theorem call_lots {kq s q : Addr} {m n : Nat} {fs es : List Edge} {S : List Int} {H : Hp} {Q : VK} {E : XK} (hm1 : 1 ≤ m) (hm : m ≤ 4) (hn : n ≤ 5) (hk : Pairs H kq fs) (hSf : Simp m fs) (hl : fs.length ≤ 200) (hs : H s = some (iL S)) (hI : InNet n S) (hS : Simp n es) (hq : Lists H q (nearM n es))
    (fin : ∀ d ts f H', Same H H' → H d = none → H' d = some (.dT (kvT ts f)) → ts.Nodup → (∀ t, t ∈ ts ↔ RowOk m es fs S t) → ts.length ≤ 625 → (∀ x ∈ ts, ∀ y ∈ ts, (f x = f y ↔ Joined (MvS m es fs S) x y)) → Q (.ref d) H') : spLots [.int m, .ref kq, .ref s, .ref q] H Q E := by
  unfold spLots
  exact ⟨kq, s, q, m, n, fs, es, S, rfl, hm1, hm, hn, hk, hSf, hl, hs, hI, hS, hq, fin⟩
theorem idx_at {ts : List (List Int)} (hnd : ts.Nodup) {j : Nat} {t : List Int} (h : ts[j]? = some t) : ts.idxOf t = j := by
  have hl := List.idxOf_lt_length_of_mem (List.mem_of_getElem? h)
  have h2 : ts[ts.idxOf t]? = some t := by rw [List.getElem?_eq_getElem hl, List.getElem_idxOf]
  exact nd_ix hnd h2 h
/-- this step of this row is told: both bear one mark -/
def Cpl (es : List Edge) (ts : List (List Int)) (f : List Int → Int) (t : List Int) (k : Nat) (z : Int) : Prop := Adj es (plc t ((k : Int) + 1)) z → putP t ((k : Int) + 1) z ∈ ts → f (putP t ((k : Int) + 1) z) = f t
theorem Cpl.re {es : List Edge} {ts : List (List Int)} {f : List Int → Int} {t : List Int} {k : Nat} {z : Int} (h : Cpl es ts f t k z) (a b : List Int) : Cpl es ts (remark f a b) t k z := fun h1 h2 => remark_keep a b (h h1 h2)
structure Mk (m : Nat) (es fs : List Edge) (S : List Int) (ts : List (List Int)) (f : List Int → Int) : Prop where
  snd : ∀ x y, x ∈ ts → y ∈ ts → f x = f y → Joined (MvS m es fs S) x y
theorem mk_done {m : Nat} {es fs : List Edge} {S : List Int} {ts : List (List Int)} {f : List Int → Int} (hts : ∀ t, t ∈ ts ↔ RowOk m es fs S t) (h : Mk m es fs S ts f) (hc : ∀ t ∈ ts, ∀ k, k < m → ∀ z ∈ S, Cpl es ts f t k z) :
    ∀ x ∈ ts, ∀ y ∈ ts, (f x = f y ↔ Joined (MvS m es fs S) x y) := by
  refine fun x hx y hy => ⟨h.snd x y hx hy, fun j => j.inv f fun a b hab => ?_⟩
  obtain ⟨i, g, h1, h2, e, ha⟩ := hab.ex
  have hb := (hts b).mpr hab.b
  have hg : g ∈ S := by
    have := hab.b.at h1 h2
    rwa [e, plc_put h1 (by rw [hab.a.len]; exact h2) h1, if_pos rfl] at this
  have hk : ((i.toNat - 1 : Nat) : Int) + 1 = i := by omega
  have := hc a ((hts a).mpr hab.a) (i.toNat - 1) (by omega) g hg
  unfold Cpl at this
  rw [hk, ← e] at this
  exact (this ha hb).symm
/-- the rows ahead of a row, and what of this one is gone through -/
structure Dn (m : Nat) (es : List Edge) (S : List Int) (ts : List (List Int)) (f : List Int → Int) (j : Nat) (t : List Int) (i l : Nat) : Prop where
  a : ∀ t' ∈ ts.take j, ∀ k, k < m → ∀ z ∈ S, Cpl es ts f t' k z
  b : ∀ k, k < i → ∀ z ∈ S, Cpl es ts f t k z
  c : ∀ z ∈ S.take l, Cpl es ts f t i z
theorem Dn.re {m : Nat} {es : List Edge} {S : List Int} {ts : List (List Int)} {f : List Int → Int} {j : Nat} {t : List Int} {i l : Nat} (h : Dn m es S ts f j t i l) (x y : List Int) : Dn m es S ts (remark f x y) j t i l :=
  ⟨fun t' h1 k h2 z h3 => (h.a t' h1 k h2 z h3).re x y, fun k h2 z h3 => (h.b k h2 z h3).re x y, fun z h3 => (h.c z h3).re x y⟩
theorem Dn.spot {m : Nat} {es : List Edge} {S : List Int} {ts : List (List Int)} {f : List Int → Int} {j : Nat} {t : List Int} {i l : Nat} {z : Int} (h : Dn m es S ts f j t i l) (hz : S[l]? = some z) (hc : Cpl es ts f t i z) : Dn m es S ts f j t i (l + 1) :=
  ⟨h.a, h.b, fun z' hz' => by
    rw [List.take_add_one, hz] at hz'
    rcases List.mem_append.mp hz' with h1 | h1
    · exact h.c z' h1
    · rw [List.mem_singleton.mp h1]; exact hc⟩
theorem Dn.person {m : Nat} {es : List Edge} {S : List Int} {ts : List (List Int)} {f : List Int → Int} {j : Nat} {t : List Int} {i : Nat} (h : Dn m es S ts f j t i S.length) : Dn m es S ts f j t (i + 1) 0 :=
  ⟨h.a, fun k hk z hz => by
    by_cases e : k = i
    · subst e
      exact h.c z (by rw [List.take_length]; exact hz)
    · exact h.b k (by omega) z hz, fun z hz => by simp at hz⟩
theorem Dn.row {m : Nat} {es : List Edge} {S : List Int} {ts : List (List Int)} {f : List Int → Int} {j : Nat} {t : List Int} (h : Dn m es S ts f j t m 0) (ht : ts[j]? = some t) : ∀ t' ∈ ts.take (j + 1), ∀ k, k < m → ∀ z ∈ S, Cpl es ts f t' k z := fun t' h1 k hk z hz => by
  rw [List.take_add_one, ht] at h1
  rcases List.mem_append.mp h1 with h1 | h1
  · exact h.a t' h1 k hk z hz
  · rw [List.mem_singleton.mp h1]; exact h.b k hk z hz
theorem SameBut.locked {d : Addr} {u : HO} {H H' : Hp} (s : SameBut d H H') (h : H d = some u) : Same H (upd H' d u) := fun b o e => by
  by_cases hb : b = d
  · subst hb
    rw [h] at e
    cases e
    exact upd_same
  · rw [upd_ne hb]
    exact s b o hb e
set_option maxHeartbeats 8000000 in
theorem ok_lots {f : Addr} {fd : FuncData} (F : Fun K "_law_lots" "_law_lots" s_law_lots f fd) (mr : mg "range" = none) (md : mg "dict" = none) (mt : mg "tuple" = none) (me : mg "enumerate" = none)
    (C : Cal P w K mg base "_law_stands" 2 ["_law_crowd", "_law_knots", "_law_spots", "_law_near_here"] spStands) :
    FnOk P w K mg base CX0 3 f fd ["_law_crowd", "_law_knots", "_law_spots", "_law_near_here"] spLots := by
  refine F.ok sc_law_lots (fun vs H Q E h => ?_) (fun cdv A outer s H vs Q E hr h => ?_)
  · unfold spLots at h
    obtain ⟨kq, s, q, m, n, fs, es, S, rfl, _⟩ := h
    rfl
  · have nd := sc_law_lots.nd
    have hS := sc_law_lots
    have hKM : KMark K := ⟨⟩
    refine' mk_body ?body ?rd
    case body =>
      show PSs _ [_, _, _, _] _
      wtm_at "fo ss"
    case rd =>
     unfold spLots at h
     obtain ⟨kq, s, q, m, n, fs, es, S, rfl, hm1, hm, hn, hk, hSf, hl, hs, hI, hSe, hq, fin⟩ := h
     wtm_at "fo r"
     refine call_stands hm hn hk hSf hl hs hI hSe hq (fun p rs ts H1 sm1 np hR hnd hts htl => ?_)
     wtm_at "fo r"
     refine ⟨p, _, rfl, SqL.of hR.hD, fun D nD => ?_⟩
     refine lc_it (walk_enum (xs := rs.map V.ref)) (fun j H2 => ∃ ps qs, Same H1 H2 ∧ H2 D = some (.lst (ps.map V.ref)) ∧ ps.length = j ∧ Paired (PrF H2) ps qs ∧ qs.map (·.2) = kvT (ts.take j) fun t => (ts.idxOf t : Int)) ?_ ?_ ?_ ?_
     · exact ⟨[], [], same_upd (Same.refl _) nD, upd_same, rfl, .nil, rfl⟩
     · rintro j H2 _ ⟨ps, qs, sm2, _⟩
       exact SqL.of (sm2 _ _ hR.hD)
     · rintro j x H2 _ hj ⟨ps, qs, sm2, hD2, hpl, hP, hqs⟩ ⟨T, a, b, rfl, nT, rfl, ha, hb⟩
       obtain rfl := Option.some.inj ha
       obtain ⟨r, hr, rfl⟩ := ref_at hb
       have hjl : j < ts.length := by rw [← hR.len]; exact (List.getElem?_eq_some_iff.mp hr).1
       have htj : ts[j]? = some ts[j] := List.getElem?_eq_getElem hjl
       have hix := idx_at hnd htj
       have htk : ts.take (j + 1) = ts.take j ++ [ts[j]] := by rw [List.take_add_one, htj]; rfl
       have hrow := sm2 _ _ (hR.at_ j r _ hr htj)
       rw [htk]
       generalize ts[j] = t at *
       have smT : Same H2 (upd H2 T (.tup [.int (j : Nat), .ref r])) := same_upd (Same.refl _) nT
       have hT := upd_same (H := H2) (a := T) (o := HO.tup [.int (j : Nat), .ref r])
       generalize upd H2 T (.tup [.int (j : Nat), .ref r]) = H3 at *
       refine Or.inl ⟨T, [.int (j : Nat), .ref r], rfl, SqT.of hT, rfl, .int (j : Nat), [.ref r], rfl, .ref r, [], rfl, rfl, rfl, ?_⟩
       wtm_at "fo r"
       dsimp only [tNil]
       refine ⟨r, _, rfl, Or.inl ⟨SqL.of (smT _ _ hrow), fun l nl => ?_⟩⟩
       have sml : Same H3 (upd H3 l (.tup (t.map V.int))) := same_upd (Same.refl _) nl
       have hl4 := upd_same (H := H3) (a := l) (o := HO.tup (t.map V.int))
       generalize upd H3 l (.tup (t.map V.int)) = H4 at *
       refine ⟨_, rfl, (Nat.le_of_ble_eq_true rfl : _ ≤ sizeLine), fun o no => ?_⟩
       have smo : Same H4 (upd H4 o (.tup [.ref l, .int (j : Nat)])) := same_upd (Same.refl _) no
       have ho := upd_same (H := H4) (a := o) (o := HO.tup [.ref l, .int (j : Nat)])
       have sm24 : Same H2 (upd H4 o (.tup [.ref l, .int (j : Nat)])) := (smT.trans sml).trans smo
       generalize upd H4 o (.tup [.ref l, .int (j : Nat)]) = H5 at *
       have hD5 := sm24 _ _ hD2
       have nD5 : H1 D = none := nD
       obtain ⟨k1, k2⟩ := PrF.push hD5 (PrF.same hP sm24) ho (smo _ _ hl4)
       have hrl : ts.length ≤ 1000 := by omega
       refine ⟨ps.map V.ref, hD5, ?_, ps ++ [o], qs ++ [(l, keyT t, .int (j : Nat))], same_upd (sm2.trans sm24) nD, k1, by rw [List.length_append, hpl]; rfl, k2, ?_⟩
       · rw [List.length_map, hpl]
         exact Nat.lt_of_lt_of_le hjl (Nat.le_trans hrl (by decide))
       · rw [kvT_snoc, List.map_append, hqs]
         show _ = _ ++ [(keyT t, V.int ((ts.idxOf t : Nat) : Int))]
         rw [hix]
         rfl
     · rintro H2 ⟨ps, qs, sm2, hD2, hpl, hP, hqs⟩
       rw [List.length_map, hR.len] at hpl hqs
       rw [List.take_length] at hqs
       wtm_at "fo r"
       have hkn : ∀ f : List Int → Int, ((kvT ts f).map (·.1)).Nodup := fun f => by
         unfold kvT
         rw [List.map_map]
         exact List.pairwise_map.mpr (hnd.imp fun h e => h (keyT_inj e))
       have hqk : (qs.map (·.2.1)).Nodup := by
         rw [show (qs.map fun x => x.2.1) = (qs.map (·.2)).map (·.1) by rw [List.map_map]; rfl, hqs]
         exact hkn _
       dsimp only [tNil]
       refine ⟨D, ps, qs, rfl, SqL.of hD2, PrF.ready hP, hqk, fun d nd0 => ?_⟩
       rw [hqs]
       have hMk : Mk m es fs S ts fun t => (ts.idxOf t : Int) := ⟨fun x y hx hy e => by
         have h1 := List.idxOf_lt_length_of_mem hx
         have h2 := List.idxOf_lt_length_of_mem hy
         have e : ts.idxOf x = ts.idxOf y := by omega
         have k1 : ts[ts.idxOf x]? = some x := by rw [List.getElem?_eq_getElem h1, List.getElem_idxOf]
         have k2 : ts[ts.idxOf y]? = some y := by rw [List.getElem?_eq_getElem h2, List.getElem_idxOf]
         rw [e, k2] at k1
         cases k1
         exact .refl _⟩
       generalize (fun t : List Int => (ts.idxOf t : Int)) = f0 at *
       have smd : Same H1 (upd H2 d (.dT (kvT ts f0))) := sm2.trans (same_upd (Same.refl _) nd0)
       have hd0 := upd_same (H := H2) (a := d) (o := HO.dT (kvT ts f0))
       have nd1 : H1 d = none := sm2.free nd0
       generalize upd H2 d (.dT (kvT ts f0)) = H3 at *
       clear hP hqs hD2 hqk sm2
       have hR3 := hR.same smd
       wtm_at "fo r"
       have hqH := hq.same sm1
       have hsH := sm1 _ _ hs
       have hSl : S.length ≤ 5 := Nat.le_trans hI.len hn
       refine ⟨⟨_, SqL.of hR3.hD⟩, ?_⟩
       refine for_list (K := K) (xs := rs.map V.ref) (fun j σ H4 => ∃ d f y7 y8 y9 y10 y11 y12, σ = [some (.int m), some (.ref kq), some (.ref s), some (.ref q), some (.ref p), some (.ref d), none, y7, y8, y9, y10, y11, y12, none] ∧ Same H1 H4 ∧ H4 d = some (.dT (kvT ts f)) ∧ H1 d = none ∧ Mk m es fs S ts f ∧
         ∀ t' ∈ ts.take j, ∀ k, k < m → ∀ z ∈ S, Cpl es ts f t' k z) ?_ ?_ ?_ ?_
       · exact ⟨d, f0, none, none, none, none, none, none, rfl, smd, hd0, nd1, hMk, fun t' h => by simp at h⟩
       · rintro j σ H4 _ ⟨d', f, y7, y8, y9, y10, y11, y12, rfl, sm4, _⟩
         exact SqL.of (sm4 _ _ hR.hD)
       · rintro j x σ H4 hx ⟨d4, f4, y7, y8, y9, y10, y11, y12, rfl, sm4, hd4, nd4, hM4, hC4⟩
         obtain ⟨r, hr, rfl⟩ := ref_at hx
         have hjl : j < ts.length := by rw [← hR.len]; exact (List.getElem?_eq_some_iff.mp hr).1
         have htj : ts[j]? = some ts[j] := List.getElem?_eq_getElem hjl
         have hrow := hR.at_ j r _ hr htj
         have htm := List.getElem_mem hjl
         generalize ts[j] = t at *
         have htR := (hts t).mp htm
         wtm_at "fo r"
         have hN : (m : Int).toNat = m := by omega
         refine for_range (fun i σ H5 => ∃ d f y8 y9 y10 y11 y12, σ = [some (.int m), some (.ref kq), some (.ref s), some (.ref q), some (.ref p), some (.ref d), none, some (.ref r), y8, y9, y10, y11, y12, none] ∧ Same H1 H5 ∧ H5 d = some (.dT (kvT ts f)) ∧ H1 d = none ∧ Mk m es fs S ts f ∧ Dn m es S ts f j t i 0) ?_ ?_ ?_
         · exact ⟨d4, f4, _, _, _, _, _, rfl, sm4, hd4, nd4, hM4, hC4, (fun k h => by omega), fun z h => by simp at h⟩
         · rintro i σ H5 hi ⟨d5, f5, y8, y9, y10, y11, y12, rfl, sm5, hd5, nd5, hM5, hD5⟩
           rw [hN] at hi
           wtm_at "fo r"
           refine ⟨⟨_, SqL.of (sm5 _ _ hsH)⟩, ?_⟩
           refine for_list (K := K) (xs := S.map V.int) (fun l σ H6 => ∃ d f y9 y10 y11 y12, σ = [some (.int m), some (.ref kq), some (.ref s), some (.ref q), some (.ref p), some (.ref d), none, some (.ref r), some (.int (0 + (i : Int))), y9, y10, y11, y12, none] ∧ Same H1 H6 ∧ H6 d = some (.dT (kvT ts f)) ∧ H1 d = none ∧ Mk m es fs S ts f ∧ Dn m es S ts f j t i l) ?_ ?_ ?_ ?_
           · exact ⟨d5, f5, _, _, _, _, rfl, sm5, hd5, nd5, hM5, hD5⟩
           · rintro l σ H6 _ ⟨d6, f6, y9, y10, y11, y12, rfl, sm6, _⟩
             exact SqL.of (sm6 _ _ hsH)
           · rintro l x σ H6 hx2 ⟨d6, f6, y9, y10, y11, y12, rfl, sm6, hd6, nd6, hM6, hD6⟩
             obtain ⟨z, hz, rfl⟩ := int_at hx2
             have hzS := List.mem_of_getElem? hz
             have hzr := hI.rng z hzS
             have hr6 := sm6 _ _ hrow
             have him : i < t.length := by rw [htR.len]; exact hi
             have hVl : (t.map V.int).length = t.length := List.length_map _
             have h63 : ∀ k, k ≤ 100 → k ≤ sizeLine := fun k hk => Nat.le_trans hk (by decide)
             have htl4 : t.length ≤ 4 := by rw [htR.len]; exact hm
             refine ⟨_, rfl, _, rfl, _, rfl, r, _, rfl, SqL.of hr6, fun c1 nc1 => ?_⟩
             rw [show (0 : Int) + (i : Int) = (i : Int) by omega, cut_to _ (by rw [hVl]; omega), ← List.map_take]
             have sa : Same H6 (upd H6 c1 (.lst ((t.take i).map V.int))) := same_upd (Same.refl _) nc1
             have ha1 : (upd H6 c1 (.lst ((t.take i).map V.int))) c1 = some (iL (t.take i)) := upd_same
             generalize upd H6 c1 (.lst ((t.take i).map V.int)) = Ha at *
             refine ⟨_, rfl, (Nat.le_of_ble_eq_true rfl : _ ≤ sizeLine), fun c2 nc2 => ?_⟩
             have sb : Same Ha (upd Ha c2 (.lst [.int z])) := same_upd (Same.refl _) nc2
             have hb1 := sb _ _ ha1
             have hb2 : (upd Ha c2 (.lst [.int z])) c2 = some (.lst [.int z]) := upd_same
             have s6b := sa.trans sb
             generalize upd Ha c2 (.lst [.int z]) = Hb at *
             refine Or.inr ⟨c1, c2, _, _, rfl, rfl, hb1, hb2, ?_, fun c3 nc3 => ?_⟩
             · rw [List.length_map, List.length_take]
               exact h63 _ (by simp; omega)
             have sc : Same Hb (upd Hb c3 (.lst ((t.take i).map V.int ++ [.int z]))) := same_upd (Same.refl _) nc3
             have hc3 : (upd Hb c3 (.lst ((t.take i).map V.int ++ [.int z]))) c3 = some (iL (t.take i ++ [z])) := by
               rw [upd_same]; unfold iL; rw [List.map_append]; rfl
             have s6c := s6b.trans sc
             generalize upd Hb c3 (.lst ((t.take i).map V.int ++ [.int z])) = Hc at *
             refine ⟨_, rfl, _, rfl, Or.inl ⟨_, _, rfl, rfl, _, rfl, r, _, rfl, SqL.of (s6c _ _ hr6), fun c4 nc4 => ?_⟩⟩
             have hcf : cutV (t.map V.int) (some ((i : Int) + 1)) none = (t.drop (i + 1)).map V.int := by
               rw [show (i : Int) + 1 = ((i + 1 : Nat) : Int) by omega, cut_from _ (by rw [hVl]; omega), ← List.map_drop]
             rw [hcf]
             have sd : Same Hc (upd Hc c4 (.lst ((t.drop (i + 1)).map V.int))) := same_upd (Same.refl _) nc4
             have hd4' : (upd Hc c4 (.lst ((t.drop (i + 1)).map V.int))) c4 = some (iL (t.drop (i + 1))) := upd_same
             have hd3' := sd _ _ hc3
             have s6d := s6c.trans sd
             generalize upd Hc c4 (.lst ((t.drop (i + 1)).map V.int)) = Hd at *
             refine Or.inr ⟨c3, c4, _, _, rfl, rfl, hd3', hd4', ?_, fun c5 nc5 => ?_⟩
             · rw [List.length_map, List.length_map, List.length_append, List.length_take, List.length_drop]
               exact h63 _ (by simp; omega)
             have se : Same Hd (upd Hd c5 (.lst ((t.take i ++ [z]).map V.int ++ (t.drop (i + 1)).map V.int))) := same_upd (Same.refl _) nc5
             have he5 : (upd Hd c5 (.lst ((t.take i ++ [z]).map V.int ++ (t.drop (i + 1)).map V.int))) c5 = some (iL (putP t ((i : Int) + 1) z)) := by
               rw [upd_same, ← put_cut him]; unfold iL; simp only [List.map_append]
             have s6e := s6d.trans se
             generalize upd Hd c5 (.lst ((t.take i ++ [z]).map V.int ++ (t.drop (i + 1)).map V.int)) = He at *
             generalize hu : putP t ((i : Int) + 1) z = u at *
             dsimp only [tNil]
             refine ⟨c5, _, rfl, Or.inl ⟨SqL.of he5, fun l5 nl5 => ?_⟩⟩
             have sf : Same He (upd He l5 (.tup (u.map V.int))) := same_upd (Same.refl _) nl5
             have hf5 : (upd He l5 (.tup (u.map V.int))) l5 = some (.tup ((keyT u).map kV)) := by rw [keyT_V]; exact upd_same
             have s6f := s6e.trans sf
             generalize upd He l5 (.tup (u.map V.int)) = Hf at *
             have hd7 := s6f _ _ hd6
             have sm7 := sm6.trans s6f
             have hCp : Cpl es ts f6 t i z ↔ (Adj es (plc t ((i : Int) + 1)) z → u ∈ ts → f6 u = f6 t) := by unfold Cpl; rw [hu]
             clear hd3' hd4' he5 hc3 hb1 hb2 ha1 sa sb sc sd se sf s6b s6c s6d s6e
             obtain ⟨qrs, hqD, hqn, hql, hqat⟩ := hqH.same sm7
             have hxS := htR.at (i := (i : Int) + 1) (by omega) (by omega)
             have hxr := hI.rng _ hxS
             have hpt : t[i]? = some (plc t ((i : Int) + 1)) := by
               have := plc_get (xs := t) (i := (i : Int) + 1) (by omega) (by omega)
               rwa [show ((i : Int) + 1).toNat - 1 = i by omega] at this
             generalize hx0 : plc t ((i : Int) + 1) = x0 at *
             have hng := near_get hSe (p := x0.toNat) (by omega) (by omega)
             rw [show ((x0.toNat : Nat) : Int) = x0 by omega] at hng
             have hqlt : x0.toNat < qrs.length := by rw [hql]; exact (List.getElem?_eq_some_iff.mp hng).1
             have hqx : qrs[x0.toNat]? = some qrs[x0.toNat] := List.getElem?_eq_getElem hqlt
             have hqrow := hqat _ _ _ hqx hng
             generalize qrs[x0.toNat] = rx at *
             have hr7 := sm7 _ _ hrow
             refine ⟨_, rfl, _, rfl, _, rfl, _, rfl, Or.inl ⟨r, _, (i : Int), .int x0, rfl, rfl, SqL.of hr7, at_of (j := i) (by omega) (by rw [List.getElem?_map, hpt]; rfl), ?_⟩⟩
             refine Or.inl ⟨q, _, x0, .ref rx, rfl, rfl, SqL.of hqD, at_of (j := x0.toNat) (by omega) (by rw [List.getElem?_map, hqx]; rfl), ?_⟩
             refine ⟨rx, _, rfl, Or.inl (SqL.of hqrow), rfl, flat_ints _, _, rfl, ?_⟩
             have hin : inV (.int z) ((x0 :: mates x0 es).map V.int) = decide (Adj es x0 z) := by rw [inV_ints]; rfl
             rw [hin]
             refine ite2 (fun hA => ?_) (fun hA => ?_)
             · have hA := of_decide_eq_true hA
               refine ⟨_, rfl, _, rfl, d6, _, rfl, DGet.t hd7 hf5, _, rfl, ?_⟩
               by_cases hut : u ∈ ts
               · have hv := val_kvT (f := f6) hut
                 refine ifT (by rw [hv]; rfl) ?_
                 have hvt := val_kvT (f := f6) htm
                 refine ⟨_, rfl, _, rfl, d6, _, rfl, hv ▸ DGet.t hd7 hf5, _, rfl, _, rfl, ?_⟩
                 dsimp only [tNil]
                 refine ⟨r, _, rfl, Or.inl ⟨SqL.of hr7, fun l6 nl6 => ?_⟩⟩
                 have sg : Same Hf (upd Hf l6 (.tup (t.map V.int))) := same_upd (Same.refl _) nl6
                 have hg6 : (upd Hf l6 (.tup (t.map V.int))) l6 = some (.tup ((keyT t).map kV)) := by rw [keyT_V]; exact upd_same
                 generalize upd Hf l6 (.tup (t.map V.int)) = Hg at *
                 have hd8 := sg _ _ hd7
                 have sm8 := sm7.trans sg
                 refine ⟨d6, _, rfl, hvt ▸ DGet.t hd8 hg6, ?_⟩
                 refine Or.inl ⟨rfl, _, rfl, ?_⟩
                 refine ite2 (fun hne => ?_) (fun heq => ?_)
                 · refine ⟨_, rfl, _, rfl, d6, _, rfl, hv ▸ DGet.t hd8 (sg _ _ hf5), _, rfl, _, rfl, ?_⟩
                   dsimp only [tNil]
                   refine ⟨r, _, rfl, Or.inl ⟨SqL.of (sm8 _ _ hrow), fun l7 nl7 => ?_⟩⟩
                   have sh : Same Hg (upd Hg l7 (.tup (t.map V.int))) := same_upd (Same.refl _) nl7
                   have hh7 : (upd Hg l7 (.tup (t.map V.int))) l7 = some (.tup ((keyT t).map kV)) := by rw [keyT_V]; exact upd_same
                   generalize upd Hg l7 (.tup (t.map V.int)) = Hh at *
                   have hd9 := sh _ _ hd8
                   have sm9 := sm8.trans sh
                   refine ⟨d6, _, rfl, hvt ▸ DGet.t hd9 hh7, ?_⟩
                   refine ⟨(Nat.le_of_ble_eq_true rfl : _ ≤ sizeLine), fun T nT => ?_⟩
                   have si : Same Hh (upd Hh T (.tup [.int (f6 u), .int (f6 t)])) := same_upd (Same.refl _) nT
                   have hT := upd_same (H := Hh) (a := T) (o := HO.tup [.int (f6 u), .int (f6 t)])
                   generalize upd Hh T (.tup [.int (f6 u), .int (f6 t)]) = Hi at *
                   have hd10 := si _ _ hd9
                   have sm10 := sm9.trans si
                   refine Or.inl ⟨T, [.int (f6 u), .int (f6 t)], rfl, SqT.of hT, rfl, .int (f6 u), [.int (f6 t)], rfl, .int (f6 t), [], rfl, rfl, ?_⟩
                   refine ⟨d6, _, hd10, trivial, fun od => ?_⟩
                   have sbj : SameBut d6 Hi (upd Hi d6 (.frz od (.dT (kvT ts f6)))) := fun b o hb e => by rw [upd_ne hb]; exact e
                   have hdj : (upd Hi d6 (.frz od (.dT (kvT ts f6)))) d6 = some (.frz od (.dT (kvT ts f6))) := upd_same
                   generalize upd Hi d6 (.frz od (.dT (kvT ts f6))) = Hj at *
                   refine ⟨_, rfl, d6, od, rfl, Or.inr ⟨kvT ts f6, hdj, fun D2 nD2 => ?_⟩⟩
                   have hD2d : D2 ≠ d6 := (ne_of_none hdj nD2).symm
                   refine lc_it (walk_keysT (kvs := kvT ts f6)) (fun j H2 => ∃ ps qs, SameBut d6 Hi H2 ∧ H2 d6 = some (.frz od (.dT (kvT ts f6))) ∧ H2 D2 = some (.lst (ps.map V.ref)) ∧ ps.length = j ∧ Paired (PrF H2) ps qs ∧ qs.map (·.2) = kvT (ts.take j) (remark f6 u t)) ?_ ?_ ?_ ?_
                   · refine ⟨[], [], fun b o hb e => ?_, ?_, upd_same, rfl, .nil, rfl⟩
                     · have := sbj b o hb e
                       rw [upd_ne (ne_of_none this nD2)]
                       exact this
                     · rw [upd_ne hD2d.symm]
                       exact hdj
                   · rintro j H2 _ ⟨ps, qs, sb2, hf2, _⟩
                     exact hf2
                   · rintro j' x H2 H3' hjlt ⟨ps, qs, sb2, hf2, hD2, hpl, hP, hqs⟩ ⟨eH, k, v, q0, hkv, rfl, hq0⟩
                     subst eH
                     unfold kvT at hkv
                     rw [List.getElem?_map] at hkv
                     cases htj' : ts[j']? with
                     | none => rw [htj'] at hkv; cases hkv
                     | some x0' =>
                     rw [htj'] at hkv
                     obtain ⟨rfl, rfl⟩ : k = keyT x0' ∧ v = V.int (f6 x0') := by
                       have := Option.some.inj hkv
                       exact ⟨(congrArg Prod.fst this).symm, (congrArg Prod.snd this).symm⟩
                     have hjl' : j' < ts.length := (List.getElem?_eq_some_iff.mp htj').1
                     have htk' : ts.take (j' + 1) = ts.take j' ++ [x0'] := by rw [List.take_add_one, htj']; rfl
                     have hxv := val_kvT (f := f6) (List.mem_of_getElem? htj')
                     have hg : DGet H3' d6 (.ref q0) (some (.int (f6 x0'))) := .inr ⟨kvT ts f6, keyT x0', q0, .inr ⟨od, hf2⟩, rfl, hq0, hxv.symm⟩
                     have fin2 : ∀ c : Int, c = remark f6 u t x0' → ∀ o, H3' o = none → ∃ acc, (upd H3' o (.tup [.ref q0, .int c])) D2 = some (.lst acc) ∧ acc.length < sizeLine ∧
                         ∃ ps qs, SameBut d6 Hi (upd (upd H3' o (.tup [.ref q0, .int c])) D2 (.lst (acc ++ [V.ref o]))) ∧ (upd (upd H3' o (.tup [.ref q0, .int c])) D2 (.lst (acc ++ [V.ref o]))) d6 = some (.frz od (.dT (kvT ts f6))) ∧
                           (upd (upd H3' o (.tup [.ref q0, .int c])) D2 (.lst (acc ++ [V.ref o]))) D2 = some (.lst (ps.map V.ref)) ∧ ps.length = j' + 1 ∧ Paired (PrF (upd (upd H3' o (.tup [.ref q0, .int c])) D2 (.lst (acc ++ [V.ref o])))) ps qs ∧ qs.map (·.2) = kvT (ts.take (j' + 1)) (remark f6 u t) := by
                       intro c hc o no
                       have so : Same H3' (upd H3' o (.tup [.ref q0, .int c])) := same_upd (Same.refl _) no
                       have ho := upd_same (H := H3') (a := o) (o := HO.tup [.ref q0, .int c])
                       generalize upd H3' o (.tup [.ref q0, .int c]) = Ho at *
                       have hDo := so _ _ hD2
                       have hq0o := so _ _ hq0
                       rw [keyT_V] at hq0o
                       obtain ⟨k1, k2⟩ := PrF.push hDo (PrF.same hP so) ho hq0o
                       refine ⟨ps.map V.ref, hDo, ?_, ps ++ [o], qs ++ [(q0, keyT x0', .int c)], fun b o' hb e => ?_, ?_, k1, by rw [List.length_append, hpl]; rfl, k2, ?_⟩
                       · rw [List.length_map, hpl]
                         exact Nat.lt_of_lt_of_le hjl' (Nat.le_trans htl (by decide))
                       · have e2 := so _ _ (sb2 b o' hb e)
                         by_cases hbD : b = D2
                         · have := sbj b o' hb e
                           rw [hbD, nD2] at this
                           cases this
                         · rw [upd_ne hbD]
                           exact e2
                       · rw [upd_ne hD2d.symm]
                         exact so _ _ hf2
                       · rw [htk', kvT_snoc, List.map_append, hqs, hc]
                         rfl
                     refine ⟨rfl, ?_⟩
                     wtm_at "fo r"
                     refine ⟨d6, _, rfl, hg, _, rfl, Or.inl ⟨rfl, _, rfl, ?_⟩⟩
                     refine ite2 (fun hc => ?_) (fun hc => ?_)
                     · have hc : f6 x0' = f6 u := by simpa using hc
                       refine ⟨_, rfl, (Nat.le_of_ble_eq_true rfl : _ ≤ sizeLine), fun o no => ?_⟩
                       exact fin2 (f6 t) (by unfold remark; rw [if_pos hc]) o no
                     · have hc : f6 x0' ≠ f6 u := fun e => hc (by simp [e])
                       refine ⟨_, rfl, _, rfl, d6, _, rfl, hg, (Nat.le_of_ble_eq_true rfl : _ ≤ sizeLine), fun o no => ?_⟩
                       exact fin2 (f6 x0') (by unfold remark; rw [if_neg hc]) o no
                   · rintro H2 ⟨ps, qs, sb2, hf2, hD2, hpl, hP, hqs⟩
                     have hkl : (kvT ts f6).length = ts.length := by unfold kvT; rw [List.length_map]
                     rw [hkl] at hpl hqs
                     rw [List.take_length] at hqs
                     refine ⟨hf2, ?_⟩
                     have sk := sb2.locked hd10
                     have hdk : (upd H2 d6 (.dT (kvT ts f6))) d6 = some (.dT (kvT ts f6)) := upd_same
                     have hDk : (upd H2 d6 (.dT (kvT ts f6))) D2 = some (.lst (ps.map V.ref)) := by rw [upd_ne hD2d]; exact hD2
                     have hPk : Paired (PrF (upd H2 d6 (.dT (kvT ts f6)))) ps qs := Paired.mapP hP fun a b z => ⟨by rw [upd_ne (ne_of z.1 hf2 (by intro e; cases e))]; exact z.1, by rw [upd_ne (ne_of z.2 hf2 (by intro e; cases e))]; exact z.2⟩
                     generalize upd H2 d6 (.dT (kvT ts f6)) = Hk at *
                     have hqk2 : (qs.map (·.2.1)).Nodup := by
                       rw [show (qs.map fun x => x.2.1) = (qs.map (·.2)).map (·.1) by rw [List.map_map]; rfl, hqs]
                       exact hkn _
                     dsimp only [tNil]
                     refine ⟨D2, ps, qs, rfl, SqL.of hDk, PrF.ready hPk, hqk2, fun d11 nd11 => ?_⟩
                     rw [hqs]
                     have sm11 := sm10.trans sk
                     have nd1' : H1 d11 = none := sm11.free nd11
                     have hmv : MvS m es fs S t u := ⟨htR, (hts u).mp hut, (i : Int) + 1, z, by omega, by omega, hu.symm, by rw [hx0]; exact hA⟩
                     refine ⟨d11, remark f6 u t, _, _, _, _, rfl, sm11.trans (same_upd (Same.refl _) nd11), upd_same, nd1', ⟨remark_sound (D := (· ∈ ts)) hM6.snd hut htm (Joined.one hmv).symm⟩, (hD6.re u t).spot hz ?_⟩
                     unfold Cpl
                     rw [hu]
                     exact fun _ _ => remark_at f6 u t
                 · have heq : f6 u = f6 t := by
                     apply Classical.byContradiction
                     intro hne
                     exact heq (by simp [hne])
                   exact ⟨d6, f6, _, _, _, _, rfl, sm8, hd8, nd6, hM6, hD6.spot hz (hCp.mpr fun _ _ => heq)⟩
               · refine ifF (by rw [val_kvT_none hut]; rfl) ?_
                 exact ⟨d6, f6, _, _, _, _, rfl, sm7, hd7, nd6, hM6, hD6.spot hz (hCp.mpr fun _ h => absurd h hut)⟩
             · exact ⟨d6, f6, _, _, _, _, rfl, sm7, hd7, nd6, hM6, hD6.spot hz (hCp.mpr fun h => absurd (decide_eq_true h) hA)⟩
           · rintro σ H6 ⟨d6, f6, y9, y10, y11, y12, rfl, sm6, hd6, nd6, hM6, hD6⟩
             rw [List.length_map] at hD6
             exact ⟨d6, f6, _, _, _, _, _, rfl, sm6, hd6, nd6, hM6, hD6.person⟩
         · rintro σ H5 ⟨d5, f5, y8, y9, y10, y11, y12, rfl, sm5, hd5, nd5, hM5, hD5⟩
           rw [hN] at hD5
           exact ⟨d5, f5, _, _, _, _, _, _, rfl, sm5, hd5, nd5, hM5, hD5.row htj⟩
       · rintro σ H4 ⟨d4, f4, y7, y8, y9, y10, y11, y12, rfl, sm4, hd4, nd4, hM4, hC4⟩
         rw [List.length_map, hR.len, List.take_length] at hC4
         refine ⟨_, rfl, fin d4 ts f4 H4 (sm1.trans sm4) (sm1.free nd4) hd4 hnd hts htl (mk_done hts hM4 hC4)⟩
end
/-! piece TSE -/
section
local macro_rules | `(tactic| wtm_at "fo a") => `(tactic| first
  | exact pa_nil
  | (refine' pa_cons ?k1 ?k2; (case k1 => wtm_at "fo e"); (case k2 => wtm_at "fo a"))
  | fail "no")
local macro_rules | `(tactic| wtm_at "fo v") => `(tactic| first
  | exact pv 0
  | exact pv 1
  | exact pv 2
  | exact pv 3
  | exact pv 4
  | exact pv 5
  | exact pv 6
  | exact pv 7
  | exact pv 8
  | exact pv 9
  | exact pv 10
  | exact pv 11
  | exact pv 12
  | exact pv 13
  | exact pv 14
  | exact pv 15
  | fail "no")
local macro_rules | `(tactic| wtm_at "fo e") => `(tactic| first
  | with_reducible exact pe_int
  | with_reducible exact pe_bl
  | with_reducible exact pe_non
  | with_reducible exact pe_str
  | ((with_reducible show PE _ (.Name _ _) _); wtm_at "fo v")
  | ((with_reducible show PE _ (.BinOp _ .Add _ _) _); apply pe_op opAddB <;> wtm_at "fo e")
  | ((with_reducible show PE _ (.BinOp _ .Sub _ _) _); apply pe_op op_sub <;> wtm_at "fo e")
  | ((with_reducible show PE _ (.BinOp _ .Mult _ _) _); apply pe_op op_mul <;> wtm_at "fo e")
  | ((with_reducible show PE _ (.BinOp _ .Mod _ _) _); apply pe_op op_mod <;> wtm_at "fo e")
  | ((with_reducible show PE _ (.BinOp _ .FloorDiv _ _) _); apply pe_op op_fdiv <;> wtm_at "fo e")
  | ((with_reducible show PE _ (.BinOp _ .Pow _ _) _); apply pe_op op_powW <;> wtm_at "fo e")
  | ((with_reducible show PE _ (.BinOp _ .LShift _ _) _); apply pe_op op_shl <;> wtm_at "fo e")
  | ((with_reducible show PE _ (.BinOp _ .RShift _ _) _); apply pe_op op_shr <;> wtm_at "fo e")
  | ((with_reducible show PE _ (.BinOp _ .BitAnd _ _) _); apply pe_op op_and <;> wtm_at "fo e")
  | ((with_reducible show PE _ (.List _ _) _); apply pe_lst; wtm_at "fo a")
  | ((with_reducible show PE _ (.Tuple _ _ _) _); apply pe_tup; wtm_at "fo a")
  | ((with_reducible show PE _ (.ListComp _ [_] _ _) _); wtm_at "fo lc")
  | ((with_reducible show PE _ (.IfExp _ _ _ _) _); apply pe_ifExp; (· wtm_at "fo t"); (· wtm_at "fo e"); (· wtm_at "fo e"))
  | ((with_reducible show PE _ (.UnaryOp .USub _ _) _); apply pe_un un_neg; wtm_at "fo e")
  | ((with_reducible show PE _ (.Call (.Name _ _) [] (_ :: _) _) _); wtm_at "fo kcall")
  | ((with_reducible show PE _ (.Call (.Name _ _) _ _ _) _); wtm_at "fo call")
  | ((with_reducible show PE _ (.Call (.Attribute _ _ _) _ _ _) _); wtm_at "fo meth")
  | ((with_reducible show PE _ (.Compare _ _ _ _) _); wtm_at "fo cmp")
  | ((with_reducible show PE _ (.Subscript _ (.Slice _ _ _ _) _) _); wtm_at "fo slice")
  | ((with_reducible show PE _ (.Subscript _ _ _) _); refine' pe_ix (ix_seqK (by assumption) (by exact rfl)) ?ka ?kb (fun _ _ => rfl); (case ka => wtm_at "fo e"); (case kb => wtm_at "fo e"))
  | fail "no")
local macro_rules | `(tactic| wtm_at "fo own") => `(tactic| first
  | ((show _ = [0]); kernel_rfl!)
  | ((show _ = [1]); kernel_rfl!)
  | ((show _ = [2]); kernel_rfl!)
  | ((show _ = [3]); kernel_rfl!)
  | ((show _ = [4]); kernel_rfl!)
  | ((show _ = [5]); kernel_rfl!)
  | ((show _ = [6]); kernel_rfl!)
  | ((show _ = [7]); kernel_rfl!)
  | ((show _ = [8]); kernel_rfl!)
  | ((show _ = [9]); kernel_rfl!)
  | ((show _ = [10]); kernel_rfl!)
  | ((show _ = [11]); kernel_rfl!)
  | ((show _ = [12]); kernel_rfl!)
  | ((show _ = [13]); kernel_rfl!)
  | ((show _ = [14]); kernel_rfl!)
  | ((show _ = [15]); kernel_rfl!)
  | ((show _ = [0, 1]); kernel_rfl!)
  | ((show _ = [1, 2]); kernel_rfl!)
  | ((show _ = [2, 3]); kernel_rfl!)
  | ((show _ = [3, 4]); kernel_rfl!)
  | ((show _ = [4, 5]); kernel_rfl!)
  | ((show _ = [5, 6]); kernel_rfl!)
  | ((show _ = [6, 7]); kernel_rfl!)
  | ((show _ = [7, 8]); kernel_rfl!)
  | ((show _ = [8, 9]); kernel_rfl!)
  | ((show _ = [9, 10]); kernel_rfl!)
  | ((show _ = [10, 11]); kernel_rfl!)
  | ((show _ = [11, 12]); kernel_rfl!)
  | ((show _ = [12, 13]); kernel_rfl!)
  | ((show _ = [13, 14]); kernel_rfl!)
  | ((show _ = [14, 15]); kernel_rfl!)
  | fail "no")
local macro_rules | `(tactic| wtm_at "fo ts") => `(tactic| first
  | exact pts_nil
  | (apply pts_one; wtm_at "fo t")
  | fail "no")
local macro_rules | `(tactic| wtm_at "fo lc") => `(tactic| first
  | (refine' pe_lcO (by assumption) (by exact rfl) (by exact rfl) (by wtm_at "fo own") (by decide +kernel) rfl ?ki ?kg ?kt ?ke; (case ki => wtm_at "fo i"); (case kg => (intro _ _ _ _ _; wtm_at "fo g")); (case kt => (intro _ _ _ _ _; wtm_at "fo ts")); (case ke => (intro _ _ _ _ _; wtm_at "fo e")))
  | fail "no")
local macro_rules | `(tactic| wtm_at "fo part") => `(tactic| first
  | exact po_none
  | (apply po_some; wtm_at "fo e")
  | fail "no")
local macro_rules | `(tactic| wtm_at "fo slice") => `(tactic| first
  | ((with_reducible show PE _ (.Subscript _ (.Slice _ _ none _) _) _); refine' pe_slice (sl_listK (by assumption) (by exact rfl)) ?ka ?kb ?kc; (case ka => wtm_at "fo e"); (case kb => wtm_at "fo part"); (case kc => wtm_at "fo part"))
  | ((with_reducible show PE _ (.Subscript _ (.Slice none none (some _) _) _) _); refine' pe_stepK (by assumption) (by exact rfl) ?ka ?kb; (case ka => wtm_at "fo e"); (case kb => wtm_at "fo e"))
  | fail "no")
local macro_rules | `(tactic| wtm_at "fo cmp") => `(tactic| first
  | ((with_reducible show PE _ (.Compare _ [.Lt] _ _) _); refine' pe_cmpR op_lt ?ka ?kb (nomark _); (case ka => wtm_at "fo e"); (case kb => wtm_at "fo e"))
  | ((with_reducible show PE _ (.Compare _ [.LtE] _ _) _); refine' pe_cmpR op_le ?ka ?kb (nomark _); (case ka => wtm_at "fo e"); (case kb => wtm_at "fo e"))
  | ((with_reducible show PE _ (.Compare _ [.Gt] _ _) _); refine' pe_cmpR op_gt ?ka ?kb (nomark _); (case ka => wtm_at "fo e"); (case kb => wtm_at "fo e"))
  | ((with_reducible show PE _ (.Compare _ [.GtE] _ _) _); refine' pe_cmpR op_ge ?ka ?kb (nomark _); (case ka => wtm_at "fo e"); (case kb => wtm_at "fo e"))
  | ((with_reducible show PE _ (.Compare _ [.Eq] _ _) _); refine' pe_cmpR (op_eqK (by assumption) (by exact rfl) (Room.units (by assumption))) ?ka ?kb (nomark _); (case ka => wtm_at "fo e"); (case kb => wtm_at "fo e"))
  | ((with_reducible show PE _ (.Compare _ [.NotEq] _ _) _); refine' pe_cmpR (op_neK (by assumption) (by exact rfl) (Room.units (by assumption))) ?ka ?kb (nomark _); (case ka => wtm_at "fo e"); (case kb => wtm_at "fo e"))
  | fail "no")
local macro_rules | `(tactic| wtm_at "fo tcmp") => `(tactic| first
  | ((with_reducible show PT _ (.Compare _ [.Lt] _ _) _); refine' pt_cmpR op_lt ?ka ?kb (nomark _); (case ka => wtm_at "fo e"); (case kb => wtm_at "fo e"))
  | ((with_reducible show PT _ (.Compare _ [.LtE] _ _) _); refine' pt_cmpR op_le ?ka ?kb (nomark _); (case ka => wtm_at "fo e"); (case kb => wtm_at "fo e"))
  | ((with_reducible show PT _ (.Compare _ [.Gt] _ _) _); refine' pt_cmpR op_gt ?ka ?kb (nomark _); (case ka => wtm_at "fo e"); (case kb => wtm_at "fo e"))
  | ((with_reducible show PT _ (.Compare _ [.GtE] _ _) _); refine' pt_cmpR op_ge ?ka ?kb (nomark _); (case ka => wtm_at "fo e"); (case kb => wtm_at "fo e"))
  | ((with_reducible show PT _ (.Compare _ [.Eq] _ _) _); refine' pt_cmpR (op_eqK (by assumption) (by exact rfl) (Room.units (by assumption))) ?ka ?kb (nomark _); (case ka => wtm_at "fo e"); (case kb => wtm_at "fo e"))
  | ((with_reducible show PT _ (.Compare _ [.NotEq] _ _) _); refine' pt_cmpR (op_neK (by assumption) (by exact rfl) (Room.units (by assumption))) ?ka ?kb (nomark _); (case ka => wtm_at "fo e"); (case kb => wtm_at "fo e"))
  | ((with_reducible show PT _ (.Compare _ [.In] _ _) _); refine' pt_cmpR (op_inK (by assumption) (by exact rfl)) ?ka ?kb rfl; (case ka => wtm_at "fo e"); (case kb => wtm_at "fo e"))
  | ((with_reducible show PT _ (.Compare _ [.NotIn] _ _) _); refine' pt_cmpR (op_notInK (by assumption) (by exact rfl)) ?ka ?kb rfl; (case ka => wtm_at "fo e"); (case kb => wtm_at "fo e"))
  | fail "no")
local macro_rules | `(tactic| wtm_at "fo w") => `(tactic| first
  | ((with_reducible show PW _ (.BoolOp .And [_] _) _); apply pw_and1; wtm_at "fo t")
  | ((with_reducible show PW _ (.BoolOp .And _ _) _); apply pw_and; (· wtm_at "fo t"); (· wtm_at "fo w"))
  | ((with_reducible show PW _ (.BoolOp .Or [_] _) _); apply pw_or1; wtm_at "fo t")
  | ((with_reducible show PW _ (.BoolOp .Or _ _) _); apply pw_or; (· wtm_at "fo t"); (· wtm_at "fo w"))
  | fail "no")
local macro_rules | `(tactic| wtm_at "fo meth") => `(tactic| first
  | ((with_reducible show PE _ (.Call (.Attribute _ (Str.ofString "append") _) _ _ _) _); refine' pe_bm PySem.F.plainAttrs_list PySem.F.slot_list_append PySem.F.type_list_append mt_append ?ka ?kb; (case ka => wtm_at "fo e"); (case kb => wtm_at "fo a"))
  | ((with_reducible show PE _ (.Call (.Attribute _ (Str.ofString "pop") _) [_] _ _) _); refine' pe_bm PySem.F.plainAttrs_list PySem.F.slot_list_pop PySem.F.type_list_pop mt_popAt ?ka ?kb; (case ka => wtm_at "fo e"); (case kb => wtm_at "fo a"))
  | ((with_reducible show PE _ (.Call (.Attribute _ (Str.ofString "pop") _) [] _ _) _); refine' pe_bm0 PySem.F.plainAttrs_list PySem.F.slot_list_pop PySem.F.type_list_pop mt_pop ?ka; (case ka => wtm_at "fo e"))
  | fail "no")
local macro_rules | `(tactic| wtm_at "fo k") => `(tactic| first
  | exact pk_nil
  | (refine' pk_cons ?k1 ?k2; (case k1 => wtm_at "fo e"); (case k2 => wtm_at "fo k"))
  | fail "no")
local macro_rules | `(tactic| wtm_at "fo kcall") => `(tactic| first
  | (refine' pe_kcal (by assumption) (by assumption) (by decide) (by rfl) ?ka; (case ka => wtm_at "fo k"))
  | fail "no")
local macro_rules | `(tactic| wtm_at "fo call") => `(tactic| first
  | ((with_reducible show PE _ (.Call (.Name (Str.ofString "int") _) _ _ _) _); refine' pe_callTy call_intB (by rfl) (by assumption) (by decide +kernel) ?ka; (case ka => wtm_at "fo a"))
  | ((with_reducible show PE _ (.Call (.Name (Str.ofString "len") _) _ _ _) _); refine' pe_callB (call_lenK (by assumption) (by exact rfl)) (by rfl) (by assumption) PySem.boot_len ?ka; (case ka => wtm_at "fo a"))
  | ((with_reducible show PE _ (.Call (.Name (Str.ofString "list") _) [.Call (.Name (Str.ofString "range") _) [_, _] _ _] _ _) _); refine' pe_listRg rfl (by rfl) (by assumption) (prg_2 (by rfl) (by assumption) ?ka ?kb); (case ka => wtm_at "fo e"); (case kb => wtm_at "fo e"))
  | ((with_reducible show PE _ (.Call (.Name (Str.ofString "list") _) _ _ _) _); refine' pe_callTy (call_listK (by assumption) (by exact rfl)) (by rfl) (by assumption) (by decide +kernel) ?ka; (case ka => wtm_at "fo a"))
  | ((with_reducible show PE _ (.Call (.Name (Str.ofString "min") _) [_, _] _ _) _); refine' pe_callB (call_min2 rfl) (by rfl) (by assumption) (by decide +kernel) ?ka; (case ka => wtm_at "fo a"))
  | ((with_reducible show PE _ (.Call (.Name (Str.ofString "sorted") _) [_] _ _) _); refine' pe_callB (cr_sortedK (by assumption) (by exact rfl)) (by rfl) (by assumption) (by decide +kernel) ?ka; (case ka => wtm_at "fo a"))
  | ((with_reducible show PE _ (.Call (.Name (Str.ofString "repr") _) [_] _ _) _); refine' pe_callB (call_reprK (by assumption) (by exact rfl) (by assumption) (Room.units (by assumption))) (by rfl) (by assumption) (by decide +kernel) ?ka; (case ka => wtm_at "fo a"))
  | (refine' pe_cal (by assumption) (by assumption) (by decide) (by rfl) ?ka; (case ka => wtm_at "fo a"))
  | fail "no")
local macro_rules | `(tactic| wtm_at "fo setlc") => `(tactic| first
  | (refine' ps_setLcO (i := 0) (by assumption) (by exact rfl) (by exact rfl) (by wtm_at "fo own") (by decide +kernel) rfl rfl rfl (sw_true rfl rfl rfl (by decide +kernel)) ?ki ?kg ?kt ?ke; (case ki => wtm_at "fo i"); (case kg => (intro _ _ _ _ _; wtm_at "fo g")); (case kt => (intro _ _ _ _ _; wtm_at "fo ts")); (case ke => (intro _ _ _ _ _; wtm_at "fo e")))
  | (refine' ps_setLcO (i := 1) (by assumption) (by exact rfl) (by exact rfl) (by wtm_at "fo own") (by decide +kernel) rfl rfl rfl (sw_true rfl rfl rfl (by decide +kernel)) ?ki ?kg ?kt ?ke; (case ki => wtm_at "fo i"); (case kg => (intro _ _ _ _ _; wtm_at "fo g")); (case kt => (intro _ _ _ _ _; wtm_at "fo ts")); (case ke => (intro _ _ _ _ _; wtm_at "fo e")))
  | (refine' ps_setLcO (i := 2) (by assumption) (by exact rfl) (by exact rfl) (by wtm_at "fo own") (by decide +kernel) rfl rfl rfl (sw_true rfl rfl rfl (by decide +kernel)) ?ki ?kg ?kt ?ke; (case ki => wtm_at "fo i"); (case kg => (intro _ _ _ _ _; wtm_at "fo g")); (case kt => (intro _ _ _ _ _; wtm_at "fo ts")); (case ke => (intro _ _ _ _ _; wtm_at "fo e")))
  | (refine' ps_setLcO (i := 3) (by assumption) (by exact rfl) (by exact rfl) (by wtm_at "fo own") (by decide +kernel) rfl rfl rfl (sw_true rfl rfl rfl (by decide +kernel)) ?ki ?kg ?kt ?ke; (case ki => wtm_at "fo i"); (case kg => (intro _ _ _ _ _; wtm_at "fo g")); (case kt => (intro _ _ _ _ _; wtm_at "fo ts")); (case ke => (intro _ _ _ _ _; wtm_at "fo e")))
  | (refine' ps_setLcO (i := 4) (by assumption) (by exact rfl) (by exact rfl) (by wtm_at "fo own") (by decide +kernel) rfl rfl rfl (sw_true rfl rfl rfl (by decide +kernel)) ?ki ?kg ?kt ?ke; (case ki => wtm_at "fo i"); (case kg => (intro _ _ _ _ _; wtm_at "fo g")); (case kt => (intro _ _ _ _ _; wtm_at "fo ts")); (case ke => (intro _ _ _ _ _; wtm_at "fo e")))
  | (refine' ps_setLcO (i := 5) (by assumption) (by exact rfl) (by exact rfl) (by wtm_at "fo own") (by decide +kernel) rfl rfl rfl (sw_true rfl rfl rfl (by decide +kernel)) ?ki ?kg ?kt ?ke; (case ki => wtm_at "fo i"); (case kg => (intro _ _ _ _ _; wtm_at "fo g")); (case kt => (intro _ _ _ _ _; wtm_at "fo ts")); (case ke => (intro _ _ _ _ _; wtm_at "fo e")))
  | (refine' ps_setLcO (i := 6) (by assumption) (by exact rfl) (by exact rfl) (by wtm_at "fo own") (by decide +kernel) rfl rfl rfl (sw_true rfl rfl rfl (by decide +kernel)) ?ki ?kg ?kt ?ke; (case ki => wtm_at "fo i"); (case kg => (intro _ _ _ _ _; wtm_at "fo g")); (case kt => (intro _ _ _ _ _; wtm_at "fo ts")); (case ke => (intro _ _ _ _ _; wtm_at "fo e")))
  | (refine' ps_setLcO (i := 7) (by assumption) (by exact rfl) (by exact rfl) (by wtm_at "fo own") (by decide +kernel) rfl rfl rfl (sw_true rfl rfl rfl (by decide +kernel)) ?ki ?kg ?kt ?ke; (case ki => wtm_at "fo i"); (case kg => (intro _ _ _ _ _; wtm_at "fo g")); (case kt => (intro _ _ _ _ _; wtm_at "fo ts")); (case ke => (intro _ _ _ _ _; wtm_at "fo e")))
  | (refine' ps_setLcO (i := 8) (by assumption) (by exact rfl) (by exact rfl) (by wtm_at "fo own") (by decide +kernel) rfl rfl rfl (sw_true rfl rfl rfl (by decide +kernel)) ?ki ?kg ?kt ?ke; (case ki => wtm_at "fo i"); (case kg => (intro _ _ _ _ _; wtm_at "fo g")); (case kt => (intro _ _ _ _ _; wtm_at "fo ts")); (case ke => (intro _ _ _ _ _; wtm_at "fo e")))
  | (refine' ps_setLcO (i := 9) (by assumption) (by exact rfl) (by exact rfl) (by wtm_at "fo own") (by decide +kernel) rfl rfl rfl (sw_true rfl rfl rfl (by decide +kernel)) ?ki ?kg ?kt ?ke; (case ki => wtm_at "fo i"); (case kg => (intro _ _ _ _ _; wtm_at "fo g")); (case kt => (intro _ _ _ _ _; wtm_at "fo ts")); (case ke => (intro _ _ _ _ _; wtm_at "fo e")))
  | (refine' ps_setLcO (i := 10) (by assumption) (by exact rfl) (by exact rfl) (by wtm_at "fo own") (by decide +kernel) rfl rfl rfl (sw_true rfl rfl rfl (by decide +kernel)) ?ki ?kg ?kt ?ke; (case ki => wtm_at "fo i"); (case kg => (intro _ _ _ _ _; wtm_at "fo g")); (case kt => (intro _ _ _ _ _; wtm_at "fo ts")); (case ke => (intro _ _ _ _ _; wtm_at "fo e")))
  | (refine' ps_setLcO (i := 11) (by assumption) (by exact rfl) (by exact rfl) (by wtm_at "fo own") (by decide +kernel) rfl rfl rfl (sw_true rfl rfl rfl (by decide +kernel)) ?ki ?kg ?kt ?ke; (case ki => wtm_at "fo i"); (case kg => (intro _ _ _ _ _; wtm_at "fo g")); (case kt => (intro _ _ _ _ _; wtm_at "fo ts")); (case ke => (intro _ _ _ _ _; wtm_at "fo e")))
  | (refine' ps_setLcO (i := 12) (by assumption) (by exact rfl) (by exact rfl) (by wtm_at "fo own") (by decide +kernel) rfl rfl rfl (sw_true rfl rfl rfl (by decide +kernel)) ?ki ?kg ?kt ?ke; (case ki => wtm_at "fo i"); (case kg => (intro _ _ _ _ _; wtm_at "fo g")); (case kt => (intro _ _ _ _ _; wtm_at "fo ts")); (case ke => (intro _ _ _ _ _; wtm_at "fo e")))
  | (refine' ps_setLcO (i := 13) (by assumption) (by exact rfl) (by exact rfl) (by wtm_at "fo own") (by decide +kernel) rfl rfl rfl (sw_true rfl rfl rfl (by decide +kernel)) ?ki ?kg ?kt ?ke; (case ki => wtm_at "fo i"); (case kg => (intro _ _ _ _ _; wtm_at "fo g")); (case kt => (intro _ _ _ _ _; wtm_at "fo ts")); (case ke => (intro _ _ _ _ _; wtm_at "fo e")))
  | (refine' ps_setLcO (i := 14) (by assumption) (by exact rfl) (by exact rfl) (by wtm_at "fo own") (by decide +kernel) rfl rfl rfl (sw_true rfl rfl rfl (by decide +kernel)) ?ki ?kg ?kt ?ke; (case ki => wtm_at "fo i"); (case kg => (intro _ _ _ _ _; wtm_at "fo g")); (case kt => (intro _ _ _ _ _; wtm_at "fo ts")); (case ke => (intro _ _ _ _ _; wtm_at "fo e")))
  | (refine' ps_setLcO (i := 15) (by assumption) (by exact rfl) (by exact rfl) (by wtm_at "fo own") (by decide +kernel) rfl rfl rfl (sw_true rfl rfl rfl (by decide +kernel)) ?ki ?kg ?kt ?ke; (case ki => wtm_at "fo i"); (case kg => (intro _ _ _ _ _; wtm_at "fo g")); (case kt => (intro _ _ _ _ _; wtm_at "fo ts")); (case ke => (intro _ _ _ _ _; wtm_at "fo e")))
  | fail "no")
local macro_rules | `(tactic| wtm_at "fo set") => `(tactic| first
  | (refine' ps_set (i := 0) (by assumption) rfl (by first | exact Or.inl rfl | exact Or.inr rfl) ?ka; (case ka => wtm_at "fo e"))
  | (refine' ps_set (i := 1) (by assumption) rfl (by first | exact Or.inl rfl | exact Or.inr rfl) ?ka; (case ka => wtm_at "fo e"))
  | (refine' ps_set (i := 2) (by assumption) rfl (by first | exact Or.inl rfl | exact Or.inr rfl) ?ka; (case ka => wtm_at "fo e"))
  | (refine' ps_set (i := 3) (by assumption) rfl (by first | exact Or.inl rfl | exact Or.inr rfl) ?ka; (case ka => wtm_at "fo e"))
  | (refine' ps_set (i := 4) (by assumption) rfl (by first | exact Or.inl rfl | exact Or.inr rfl) ?ka; (case ka => wtm_at "fo e"))
  | (refine' ps_set (i := 5) (by assumption) rfl (by first | exact Or.inl rfl | exact Or.inr rfl) ?ka; (case ka => wtm_at "fo e"))
  | (refine' ps_set (i := 6) (by assumption) rfl (by first | exact Or.inl rfl | exact Or.inr rfl) ?ka; (case ka => wtm_at "fo e"))
  | (refine' ps_set (i := 7) (by assumption) rfl (by first | exact Or.inl rfl | exact Or.inr rfl) ?ka; (case ka => wtm_at "fo e"))
  | (refine' ps_set (i := 8) (by assumption) rfl (by first | exact Or.inl rfl | exact Or.inr rfl) ?ka; (case ka => wtm_at "fo e"))
  | (refine' ps_set (i := 9) (by assumption) rfl (by first | exact Or.inl rfl | exact Or.inr rfl) ?ka; (case ka => wtm_at "fo e"))
  | (refine' ps_set (i := 10) (by assumption) rfl (by first | exact Or.inl rfl | exact Or.inr rfl) ?ka; (case ka => wtm_at "fo e"))
  | (refine' ps_set (i := 11) (by assumption) rfl (by first | exact Or.inl rfl | exact Or.inr rfl) ?ka; (case ka => wtm_at "fo e"))
  | (refine' ps_set (i := 12) (by assumption) rfl (by first | exact Or.inl rfl | exact Or.inr rfl) ?ka; (case ka => wtm_at "fo e"))
  | (refine' ps_set (i := 13) (by assumption) rfl (by first | exact Or.inl rfl | exact Or.inr rfl) ?ka; (case ka => wtm_at "fo e"))
  | fail "no")
local macro_rules | `(tactic| wtm_at "fo t") => `(tactic| first
  | ((with_reducible show PT _ (.BoolOp _ _ _) _); apply PW.pt; wtm_at "fo w")
  | ((with_reducible show PT _ (.UnaryOp .Not _ _) _); apply pt_not; wtm_at "fo t")
  | ((with_reducible show PT _ (.Compare _ _ _ _) _); wtm_at "fo tcmp")
  | (refine' pt_truthK (by assumption) (by exact rfl) ?ka (by intro _; rfl); (case ka => wtm_at "fo e"))
  | fail "no")
local macro_rules | `(tactic| wtm_at "fo gn") => `(tactic| first
  | exact pg_name (i := 0) (by assumption) rfl (by first | exact Or.inl rfl | exact Or.inr rfl)
  | exact pg_name (i := 1) (by assumption) rfl (by first | exact Or.inl rfl | exact Or.inr rfl)
  | exact pg_name (i := 2) (by assumption) rfl (by first | exact Or.inl rfl | exact Or.inr rfl)
  | exact pg_name (i := 3) (by assumption) rfl (by first | exact Or.inl rfl | exact Or.inr rfl)
  | exact pg_name (i := 4) (by assumption) rfl (by first | exact Or.inl rfl | exact Or.inr rfl)
  | exact pg_name (i := 5) (by assumption) rfl (by first | exact Or.inl rfl | exact Or.inr rfl)
  | exact pg_name (i := 6) (by assumption) rfl (by first | exact Or.inl rfl | exact Or.inr rfl)
  | exact pg_name (i := 7) (by assumption) rfl (by first | exact Or.inl rfl | exact Or.inr rfl)
  | exact pg_name (i := 8) (by assumption) rfl (by first | exact Or.inl rfl | exact Or.inr rfl)
  | exact pg_name (i := 9) (by assumption) rfl (by first | exact Or.inl rfl | exact Or.inr rfl)
  | exact pg_name (i := 10) (by assumption) rfl (by first | exact Or.inl rfl | exact Or.inr rfl)
  | exact pg_name (i := 11) (by assumption) rfl (by first | exact Or.inl rfl | exact Or.inr rfl)
  | exact pg_name (i := 12) (by assumption) rfl (by first | exact Or.inl rfl | exact Or.inr rfl)
  | exact pg_name (i := 13) (by assumption) rfl (by first | exact Or.inl rfl | exact Or.inr rfl)
  | exact pg_name (i := 14) (by assumption) rfl (by first | exact Or.inl rfl | exact Or.inr rfl)
  | exact pg_name (i := 15) (by assumption) rfl (by first | exact Or.inl rfl | exact Or.inr rfl)
  | fail "no")
local macro_rules | `(tactic| wtm_at "fo par") => `(tactic| first
  | (refine' ps_par (i := 0) (j := 1) rfl (by assumption) rfl rfl (by decide) rfl rfl ?ka (by rfl); (case ka => wtm_at "fo a"))
  | (refine' ps_par (i := 1) (j := 2) rfl (by assumption) rfl rfl (by decide) rfl rfl ?ka (by rfl); (case ka => wtm_at "fo a"))
  | (refine' ps_par (i := 2) (j := 3) rfl (by assumption) rfl rfl (by decide) rfl rfl ?ka (by rfl); (case ka => wtm_at "fo a"))
  | (refine' ps_par (i := 3) (j := 4) rfl (by assumption) rfl rfl (by decide) rfl rfl ?ka (by rfl); (case ka => wtm_at "fo a"))
  | (refine' ps_par (i := 4) (j := 5) rfl (by assumption) rfl rfl (by decide) rfl rfl ?ka (by rfl); (case ka => wtm_at "fo a"))
  | (refine' ps_par (i := 5) (j := 6) rfl (by assumption) rfl rfl (by decide) rfl rfl ?ka (by rfl); (case ka => wtm_at "fo a"))
  | (refine' ps_par (i := 6) (j := 7) rfl (by assumption) rfl rfl (by decide) rfl rfl ?ka (by rfl); (case ka => wtm_at "fo a"))
  | (refine' ps_par (i := 7) (j := 8) rfl (by assumption) rfl rfl (by decide) rfl rfl ?ka (by rfl); (case ka => wtm_at "fo a"))
  | (refine' ps_par (i := 8) (j := 9) rfl (by assumption) rfl rfl (by decide) rfl rfl ?ka (by rfl); (case ka => wtm_at "fo a"))
  | (refine' ps_par (i := 9) (j := 10) rfl (by assumption) rfl rfl (by decide) rfl rfl ?ka (by rfl); (case ka => wtm_at "fo a"))
  | (refine' ps_par (i := 10) (j := 11) rfl (by assumption) rfl rfl (by decide) rfl rfl ?ka (by rfl); (case ka => wtm_at "fo a"))
  | (refine' ps_par (i := 11) (j := 12) rfl (by assumption) rfl rfl (by decide) rfl rfl ?ka (by rfl); (case ka => wtm_at "fo a"))
  | (refine' ps_par (i := 12) (j := 13) rfl (by assumption) rfl rfl (by decide) rfl rfl ?ka (by rfl); (case ka => wtm_at "fo a"))
  | (refine' ps_par (i := 13) (j := 14) rfl (by assumption) rfl rfl (by decide) rfl rfl ?ka (by rfl); (case ka => wtm_at "fo a"))
  | (refine' ps_par (i := 14) (j := 15) rfl (by assumption) rfl rfl (by decide) rfl rfl ?ka (by rfl); (case ka => wtm_at "fo a"))
  | fail "no")
local macro_rules | `(tactic| wtm_at "fo g") => `(tactic| first
  | ((with_reducible show PG _ (.Name _ _) _); wtm_at "fo gn")
  | ((with_reducible show PG _ (.Tuple _ _ _) _); apply PG_or; (· refine' pg_tup2 (by assumption) (by exact rfl) rfl ?kg; (case kg => wtm_at "fo gs")); (· refine' pg_unl2 (by assumption) (by exact rfl) rfl ?kg; (case kg => wtm_at "fo gs")))
  | fail "no")
local macro_rules | `(tactic| wtm_at "fo gs") => `(tactic| first
  | exact pgs_nil
  | (refine' pgs_cons ?k1 ?k2; (case k1 => wtm_at "fo g"); (case k2 => wtm_at "fo gs"))
  | fail "no")
local macro_rules | `(tactic| wtm_at "fo i") => `(tactic| first
  | ((with_reducible show PI _ _ (.Call (.Name (Str.ofString "range") _) [_] _ _) _); refine' pi_range1 (by rfl) (by assumption) ?ka; (case ka => wtm_at "fo a"))
  | ((with_reducible show PI _ _ (.Call (.Name (Str.ofString "range") _) [_, _] _ _) _); refine' pi_range2 (by rfl) (by assumption) ?ka; (case ka => wtm_at "fo a"))
  | ((with_reducible show PI _ _ (.Call (.Name (Str.ofString "enumerate") _) [_] _ _) _); refine' pi_enum (by rfl) (by assumption) ?ka; (case ka => wtm_at "fo a"))
  | (refine' pi_listK (by assumption) (by exact rfl) ?ka; (case ka => wtm_at "fo e"))
  | fail "no")
local macro_rules | `(tactic| wtm_at "fo s") => `(tactic| first
  | ((with_reducible show PS _ (.While _ _ _ _) _); refine' ps_while PassesOwn.never ?kt ?kb; (case kt => wtm_at "fo t"); (case kb => wtm_at "fo ss"))
  | ((with_reducible show PS _ (.For _ _ _ _ _) _); refine' ps_for PassesOwn.never rfl ?ki ?kg ?kb; (case ki => wtm_at "fo i"); (case kg => wtm_at "fo g"); (case kb => wtm_at "fo ss"))
  | ((with_reducible show PS _ (.Assign [.Name _ _] (.ListComp _ [_] _ _) _) _); wtm_at "fo setlc")
  | ((with_reducible show PS _ (.Assign [.Name _ _] _ _) _); wtm_at "fo set")
  | ((with_reducible show PS _ (.Assign [.Tuple [.Name _ _, .Name _ _] _ _] (.Tuple [_, _] _ _) _) _); wtm_at "fo par")
  | ((with_reducible show PS _ (.Assign [.Subscript _ _ _] _ _) _); refine' ps_asg ?ka (pg_sub ?kb ?kc set_list); (case ka => wtm_at "fo e"); (case kb => wtm_at "fo e"); (case kc => wtm_at "fo e"))
  | ((with_reducible show PS _ (.Return (some _) _) _); apply ps_ret; wtm_at "fo e")
  | ((with_reducible show PS _ (.Expr _ _) _); refine' ps_expr ?ka; (case ka => wtm_at "fo e"))
  | ((with_reducible show PS _ (.If _ _ _ _) _); apply ps_if; (· wtm_at "fo t"); (· wtm_at "fo ss"); (· wtm_at "fo ss"))
  | fail "no")
local macro_rules | `(tactic| wtm_at "fo ss") => `(tactic| first
  | with_reducible exact pss_nil
  | ((with_reducible show PSs _ [_] _); apply pss_one; wtm_at "fo s")
  | (apply pss_cons; (· wtm_at "fo s"); (· wtm_at "fo ss"))
  | fail "no")
local macro_rules | `(tactic| wtm_at "fo hp") => `(tactic| first
  | assumption
  | exact upd_same
  | (refine (upd_ne ?ne).trans ?hp; (case ne => wtm_at "fo ne"); (case hp => wtm_at "fo hp"))
  | fail "no")
local macro_rules | `(tactic| wtm_at "fo ne") => `(tactic| first
  | assumption
  | (apply Ne.symm; assumption)
  | exact ne_of_none (by assumption) (by assumption)
  | exact Ne.symm (ne_of_none (by assumption) (by assumption))
  | fail "no")
local macro_rules | `(tactic| wtm_at "fo sz") => `(tactic| first
  | exact (Nat.le_of_ble_eq_true rfl : _ ≤ sizeLine)
  | exact (Nat.le_of_ble_eq_true rfl : _ < sizeLine)
  | exact Nat.lt_of_le_of_lt (m := 100000) (by first | assumption | omega | (simp; omega)) (by decide)
  | exact Nat.le_trans (m := 100000) (by first | assumption | omega | (simp; omega)) (by decide)
  | fail "no")
local macro_rules | `(tactic| wtm_at "fo r1") => `(tactic| first
  | refine ⟨(Nat.le_of_ble_eq_true rfl : _ ≤ sizeLine), fun p np => ?_⟩
  | (refine' ⟨_, _, rfl, Or.inl (SqL.of ?h), ?_⟩; (case h => wtm_at "fo hp"))
  | refine ⟨_, rfl, ?_⟩
  | refine ⟨_, _, rfl, rfl, ?_⟩
  | refine ⟨_, _, rfl, ⟨by omega, by omega, by omega, by omega⟩, ?_⟩
  | refine ⟨_, rfl, by omega, by omega, ?_⟩
  | refine Or.inl ⟨_, rfl, ?_⟩
  | refine Or.inl ⟨rfl, ?_⟩
  | refine Or.inl ⟨_, _, rfl, rfl, ?_⟩
  | (refine' Or.inl ⟨_, _, _, _, rfl, rfl, SqL.of ?h, ?a, ?_⟩; (case h => wtm_at "fo hp"); (case a => rfl))
  | (refine' ⟨_, _, _, _, rfl, rfl, ?h, ?a, ?_⟩; (case h => wtm_at "fo hp"); (case a => rfl))
  | (refine' ⟨.inl ⟨rfl, _, SqL.of ?h⟩, ?_⟩; (case h => wtm_at "fo hp"))
  | (refine' ⟨_, _, _, rfl, rfl, ?h, ?z, ?_⟩; (case h => wtm_at "fo hp"); (case z => wtm_at "fo sz"))
  | (refine' ⟨_, rfl, ⟨_, SqL.of ?h⟩, ?_⟩; (case h => wtm_at "fo hp"))
  | fail "no")
local macro_rules | `(tactic| wtm_at "fo side") => `(tactic| ((try dsimp only [CMul, CDiv]); first
  | assumption
  | decide
  | omega
  | exact ⟨by decide, by decide⟩
  | exact ⟨by omega, by omega⟩
  | decide +kernel
  | fail "no"))
local macro_rules | `(tactic| wtm_at "fo r2") => `(tactic| first
  | wtm_at "fo r1"
  | refine And.intro (by wtm_at "fo side") ?_
  | fail "no")
local macro_rules | `(tactic| wtm_at "fo r") => `(tactic| repeat wtm_at "fo r2")
local macro_rules | `(tactic| wtm_at "fo v") => `(tactic| first
  | ((with_reducible show PE _ (.Name (Str.ofString "int") _) _); exact pe_bltn (v := .ty "int") (by rfl) (by assumption) (by decide +kernel) rfl)
  | ((with_reducible show PE _ (.Name (Str.ofString "list") _) _); exact pe_bltn (v := .ty "list") (by rfl) (by assumption) (by decide +kernel) rfl)
  | ((with_reducible show PE _ (.Name (Str.ofString "MOST_PLACES") _) _); exact pe_glob (v := .int 12) (by rfl) (by assumption) ⟨_, rfl⟩)
  | fail "no")
local macro_rules | `(tactic| wtm_at "fo e") => `(tactic| first
  | ((with_reducible show PE _ (.BoolOp .And [_] _) _); apply pe_one; wtm_at "fo e")
  | ((with_reducible show PE _ (.BoolOp .And _ _) _); apply pe_and; (· wtm_at "fo e"); (· wtm_at "fo e"))
  | ((with_reducible show PE _ (.Compare _ [.IsNot] [.Constant (.bool true) _ _] _) _); refine' pe_cmpR op_notT ?ka ?kb (nomark _); (case ka => wtm_at "fo e"); (case kb => wtm_at "fo e"))
  | ((with_reducible show PE _ (.Compare _ [.LtE, .LtE] _ _) _); refine' pe_chain op_le op_le ?ka ?kb ?kc; (case ka => wtm_at "fo e"); (case kb => wtm_at "fo e"); (case kc => wtm_at "fo e"))
  | ((with_reducible show PE _ (.Call (.Name (Str.ofString "isinstance") _) _ _ _) _); refine' pe_callB (call_isiK' (by assumption) (by exact rfl)) (by rfl) (by assumption) (by decide +kernel) ?ka; (case ka => wtm_at "fo a"))
  | ((with_reducible show PE _ (.Call (.Attribute _ (Str.ofString "bit_length") _) [] [] _) _); refine' pe_bits ?ka; (case ka => wtm_at "fo e"))
  | fail "no")
local macro_rules | `(tactic| wtm_at "fo t") => `(tactic| first
  | ((with_reducible show PT _ (.Compare _ [.IsNot] [.Constant (.bool true) _ _] _) _); refine' pt_cmpR op_notT ?ka ?kb (nomark _); (case ka => wtm_at "fo e"); (case kb => wtm_at "fo e"))
  | ((with_reducible show PT _ (.Compare _ [.Lt, .Lt, .LtE] _ _) _); refine' pt_chain3 op_lt op_lt op_le ?ka ?kb ?kc ?kd; (case ka => wtm_at "fo e"); (case kb => wtm_at "fo e"); (case kc => wtm_at "fo e"); (case kd => wtm_at "fo e"))
  | fail "no")
local macro_rules | `(tactic| wtm_at "fo s") => `(tactic| first
  | ((with_reducible show PS _ (.Raise _ _ _) _); exact ps_never)
  | ((with_reducible show PS _ (.Continue _) _); exact ps_continue)
  | ((with_reducible show PS _ (.AugAssign (.Subscript _ _ _) .BitOr _ _) _); refine' ps_augS ?ka ?kb get_list ?kc ip_or set_list; (case ka => wtm_at "fo e"); (case kb => wtm_at "fo e"); (case kc => wtm_at "fo e"))
  | ((with_reducible show PS _ (.Assign [.Tuple _ _ _] (.Name _ _) _) _); refine' ps_asg ?ka ?kb; (case ka => wtm_at "fo e"); (case kb => wtm_at "fo g"))
  | fail "no")
local macro_rules | `(tactic| wtm_at "fo lc") => `(tactic| (refine' pe_lcN (by assumption) (by exact rfl) (by exact rfl) (by wtm_at "fo own") (by kernel_rfl!) rfl ?ki ?kg ?kt ?ke; (case ki => wtm_at "fo i"); (case kg => (intro _ _ _ _ _; wtm_at "fo g")); (case kt => (intro _ _ _ _ _; wtm_at "fo ts")); (case ke => (intro _ _ _ _ _; wtm_at "fo e"))))
local macro_rules | `(tactic| wtm_at "fo s") => `(tactic| ((with_reducible show PS _ (.Assign [.Tuple _ _ _] (.Call _ _ _ _) _) _); refine' ps_asg ?ka ?kb; (case ka => wtm_at "fo e"); (case kb => wtm_at "fo g")))
local macro_rules | `(tactic| wtm_at "fo cmp") => `(tactic| ((with_reducible show PE _ (.Compare _ [.In] _ _) _); refine' pe_cmpR (op_inK (by assumption) (by exact rfl)) ?ka ?kb rfl; (case ka => wtm_at "fo e"); (case kb => wtm_at "fo e")))
local macro_rules | `(tactic| wtm_at "fo call") => `(tactic| ((with_reducible show PE _ (.Call (.Name (Str.ofString "list") _) [.Call (.Name (Str.ofString "range") _) [_] _ _] _ _) _); refine' pe_listRg rfl (by rfl) (by assumption) (prg_1 (by rfl) (by assumption) ?ka); (case ka => wtm_at "fo e")))
local macro_rules | `(tactic| wtm_at "fo call") => `(tactic| ((with_reducible show PE _ (.Call (.Name (Str.ofString "min") _) [_] _ _) _); refine' pe_callB (call_minK (by assumption) (by exact rfl) rfl) (by rfl) (by assumption) (by decide +kernel) ?ka; (case ka => wtm_at "fo a")))
local macro_rules | `(tactic| wtm_at "fo i") => `(tactic| ((with_reducible show PI _ _ (.Call (.Name (Str.ofString "reversed") _) [_] _ _) _); refine' pi_reversed (by rfl) (by assumption) ?ka; (case ka => wtm_at "fo a")))
local macro_rules | `(tactic| wtm_at "fo s") => `(tactic| ((with_reducible show PS _ (.AugAssign (.Name _ _) .BitXor _ _) _); first | (refine' ps_aug (i := 2) (by assumption) rfl (by first | exact Or.inl rfl | exact Or.inr rfl) ?ka ip_xor; (case ka => wtm_at "fo e")) | fail "no"))
local macro_rules | `(tactic| wtm_at "fo call") => `(tactic| (refine' pe_calG (by assumption) (by assumption) (by decide) (by assumption) (by rfl) ?ka; (case ka => wtm_at "fo a")))
local macro_rules | `(tactic| wtm_at "fo meth") => `(tactic| ((with_reducible show PE _ (.Call (.Attribute _ (Str.ofString "count") _) _ _ _) _); refine' pe_cntK (by assumption) (by exact rfl) ?ka ?kb; (case ka => wtm_at "fo e"); (case kb => wtm_at "fo a")))
local macro_rules | `(tactic| wtm_at "fo call") => `(tactic| ((with_reducible show PE _ (.Call (.Name (Str.ofString "sorted") _) [_] _ _) _); refine' pe_callB (cr_sortedB (by assumption) (by exact rfl) (Room.units (by assumption))) (by rfl) (by assumption) (by decide +kernel) ?ka; (case ka => wtm_at "fo a")))
local macro_rules | `(tactic| wtm_at "fo v") => `(tactic| first
  | exact pv 16
  | exact pv 17
  | exact pv 18
  | exact pv 19
  | fail "no")
local macro_rules | `(tactic| wtm_at "fo own") => `(tactic| first
  | ((show _ = [16]); kernel_rfl!)
  | ((show _ = [17]); kernel_rfl!)
  | ((show _ = [18]); kernel_rfl!)
  | ((show _ = [19]); kernel_rfl!)
  | ((show _ = [15, 16]); kernel_rfl!)
  | ((show _ = [16, 17]); kernel_rfl!)
  | ((show _ = [17, 18]); kernel_rfl!)
  | ((show _ = [18, 19]); kernel_rfl!)
  | fail "no")
local macro_rules | `(tactic| wtm_at "fo set") => `(tactic| first
  | (refine' ps_set (i := 14) (by assumption) rfl (by first | exact Or.inl rfl | exact Or.inr rfl) ?ka; (case ka => wtm_at "fo e"))
  | (refine' ps_set (i := 15) (by assumption) rfl (by first | exact Or.inl rfl | exact Or.inr rfl) ?ka; (case ka => wtm_at "fo e"))
  | (refine' ps_set (i := 16) (by assumption) rfl (by first | exact Or.inl rfl | exact Or.inr rfl) ?ka; (case ka => wtm_at "fo e"))
  | (refine' ps_set (i := 17) (by assumption) rfl (by first | exact Or.inl rfl | exact Or.inr rfl) ?ka; (case ka => wtm_at "fo e"))
  | (refine' ps_set (i := 18) (by assumption) rfl (by first | exact Or.inl rfl | exact Or.inr rfl) ?ka; (case ka => wtm_at "fo e"))
  | (refine' ps_set (i := 19) (by assumption) rfl (by first | exact Or.inl rfl | exact Or.inr rfl) ?ka; (case ka => wtm_at "fo e"))
  | fail "no")
local macro_rules | `(tactic| wtm_at "fo setlc") => `(tactic| first
  | (refine' ps_setLcO (i := 16) (by assumption) (by exact rfl) (by exact rfl) (by wtm_at "fo own") (by decide +kernel) rfl rfl rfl (sw_true rfl rfl rfl (by decide +kernel)) ?ki ?kg ?kt ?ke; (case ki => wtm_at "fo i"); (case kg => (intro _ _ _ _ _; wtm_at "fo g")); (case kt => (intro _ _ _ _ _; wtm_at "fo ts")); (case ke => (intro _ _ _ _ _; wtm_at "fo e")))
  | (refine' ps_setLcO (i := 17) (by assumption) (by exact rfl) (by exact rfl) (by wtm_at "fo own") (by decide +kernel) rfl rfl rfl (sw_true rfl rfl rfl (by decide +kernel)) ?ki ?kg ?kt ?ke; (case ki => wtm_at "fo i"); (case kg => (intro _ _ _ _ _; wtm_at "fo g")); (case kt => (intro _ _ _ _ _; wtm_at "fo ts")); (case ke => (intro _ _ _ _ _; wtm_at "fo e")))
  | (refine' ps_setLcO (i := 18) (by assumption) (by exact rfl) (by exact rfl) (by wtm_at "fo own") (by decide +kernel) rfl rfl rfl (sw_true rfl rfl rfl (by decide +kernel)) ?ki ?kg ?kt ?ke; (case ki => wtm_at "fo i"); (case kg => (intro _ _ _ _ _; wtm_at "fo g")); (case kt => (intro _ _ _ _ _; wtm_at "fo ts")); (case ke => (intro _ _ _ _ _; wtm_at "fo e")))
  | (refine' ps_setLcO (i := 19) (by assumption) (by exact rfl) (by exact rfl) (by wtm_at "fo own") (by decide +kernel) rfl rfl rfl (sw_true rfl rfl rfl (by decide +kernel)) ?ki ?kg ?kt ?ke; (case ki => wtm_at "fo i"); (case kg => (intro _ _ _ _ _; wtm_at "fo g")); (case kt => (intro _ _ _ _ _; wtm_at "fo ts")); (case ke => (intro _ _ _ _ _; wtm_at "fo e")))
  | fail "no")
local macro_rules | `(tactic| wtm_at "fo gn") => `(tactic| first
  | exact pg_name (i := 16) (by assumption) rfl (by first | exact Or.inl rfl | exact Or.inr rfl)
  | exact pg_name (i := 17) (by assumption) rfl (by first | exact Or.inl rfl | exact Or.inr rfl)
  | exact pg_name (i := 18) (by assumption) rfl (by first | exact Or.inl rfl | exact Or.inr rfl)
  | exact pg_name (i := 19) (by assumption) rfl (by first | exact Or.inl rfl | exact Or.inr rfl)
  | fail "no")
local macro_rules | `(tactic| wtm_at "fo s") => `(tactic| ((with_reducible show PS _ (.Assign [.Tuple _ _ _] (.Tuple _ _ _) _) _); refine' ps_asg ?ka ?kb; (case ka => wtm_at "fo e"); (case kb => wtm_at "fo g")))
local macro_rules | `(tactic| wtm_at "fo e") => `(tactic| first
  | ((with_reducible show PE _ (.UnaryOp .Invert _ _) _); apply pe_un un_inv; wtm_at "fo e")
  | ((with_reducible show PE _ (.BoolOp .Or [_] _) _); apply pe_one; wtm_at "fo e")
  | ((with_reducible show PE _ (.BoolOp .Or _ _) _); apply pe_or; (· wtm_at "fo e"); (· wtm_at "fo e"))
  | ((with_reducible show PE _ (.BinOp _ .Mult _ _) _); apply pe_op opMulB <;> wtm_at "fo e")
  | ((with_reducible show PE _ (.BinOp _ .BitOr _ _) _); apply pe_op op_or <;> wtm_at "fo e")
  | ((with_reducible show PE _ (.Compare _ [.Is] [.Constant .none _ _] _) _); refine' pe_cmpR op_isN ?ka ?kb (nomark _); (case ka => wtm_at "fo e"); (case kb => wtm_at "fo e"))
  | fail "no")
local macro_rules | `(tactic| wtm_at "fo t") => `(tactic| first
  | ((with_reducible show PT _ (.Compare _ [.Is] [.Constant .none _ _] _) _); refine' pt_cmpR op_isN ?ka ?kb (nomark _); (case ka => wtm_at "fo e"); (case kb => wtm_at "fo e"))
  | ((with_reducible show PT _ (.Compare _ [.IsNot] [.Constant .none _ _] _) _); refine' pt_cmpR op_notN ?ka ?kb (nomark _); (case ka => wtm_at "fo e"); (case kb => wtm_at "fo e"))
  | fail "no")
local macro_rules | `(tactic| wtm_at "fo i") => `(tactic| first
  | ((with_reducible show PI _ _ (.Call (.Name (Str.ofString "enumerate") _) [_, _] [] _) _); refine' pi_enumC (by assumption) (by exact rfl) (by rfl) (by assumption) ?ka; (case ka => wtm_at "fo a"))
  | ((with_reducible show PI _ _ (.Call (.Name (Str.ofString "enumerate") _) [_] [_] _) _); refine' pi_enumS (by assumption) (by exact rfl) (by rfl) (by assumption) ?ka ?kb; (case ka => wtm_at "fo a"); (case kb => wtm_at "fo k"))
  | fail "no")
local macro_rules | `(tactic| wtm_at "fo own") => `(tactic| first
  | ((show _ = [2, 4]); kernel_rfl!)
  | ((show _ = [4, 2]); kernel_rfl!)
  | fail "no")
local macro_rules | `(tactic| wtm_at "fo v") => `(tactic| ((with_reducible show PE _ (.Name (Str.ofString "tuple") _) _); exact pe_bltn (v := .ty "tuple") (by rfl) (by assumption) (by decide +kernel) rfl))
local macro_rules | `(tactic| wtm_at "fo slice") => `(tactic| ((with_reducible show PE _ (.Subscript _ (.Slice none none (some _) _) _) _); refine' pe_stepK2 (by assumption) (by exact rfl) ?ka ?kb; (case ka => wtm_at "fo e"); (case kb => wtm_at "fo e")))
local macro_rules | `(tactic| wtm_at "fo i") => `(tactic| ((with_reducible show PI _ _ (.Name (Str.ofString "_law_key") _) _); refine' pi_tup ?ka; (case ka => wtm_at "fo e")))
local macro_rules | `(tactic| wtm_at "fo i") => `(tactic| ((with_reducible show PI _ _ (.Name (Str.ofString "_law_marks") _) _); refine' pi_keys ?ka; (case ka => wtm_at "fo e")))
local macro_rules | `(tactic| wtm_at "fo s") => `(tactic| ((with_reducible show PS _ (.For _ (.Name (Str.ofString "_law_marks") _) _ _ _) _); refine' ps_lock (ps_for PassesOwn.never rfl ?ki ?kg ?kb); (case ki => wtm_at "fo i"); (case kg => wtm_at "fo g"); (case kb => wtm_at "fo ss")))
local macro_rules | `(tactic| wtm_at "fo s") => `(tactic| ((with_reducible show PS _ (.Assign [.Subscript (.Name (Str.ofString "_law_there") _) _ _] _ _) _); refine' ps_dput (hu_of (by assumption)) ?ka ?kb ?kc (by rfl); (case ka => wtm_at "fo e"); (case kb => wtm_at "fo e"); (case kc => wtm_at "fo e")))
local macro_rules | `(tactic| wtm_at "fo e") => `(tactic| ((with_reducible show PE _ (.Subscript (.Name (Str.ofString "_law_marks") _) _ _) _); refine' pe_dget (u1 (Room.units (by assumption))) ?ka ?kb (fun _ _ => rfl); (case ka => wtm_at "fo e"); (case kb => wtm_at "fo e")))
local macro_rules | `(tactic| wtm_at "fo e") => `(tactic| ((with_reducible show PE _ (.Subscript (.Name (Str.ofString "_law_less") _) _ _) _); refine' pe_dget (u1 (Room.units (by assumption))) ?ka ?kb (fun _ _ => rfl); (case ka => wtm_at "fo e"); (case kb => wtm_at "fo e")))
local macro_rules | `(tactic| wtm_at "fo e") => `(tactic| ((with_reducible show PE _ (.Dict [] [] _) _); exact pe_dnewK))
local macro_rules | `(tactic| wtm_at "fo meth") => `(tactic| ((with_reducible show PE _ (.Call (.Attribute _ (Str.ofString "get") _) [_, _] [] _) _); refine' pe_dget2 (hu_of (by assumption)) ?ka ?kb ?kc ⟨by rfl, by rfl, by rfl, by rfl⟩; (case ka => wtm_at "fo e"); (case kb => wtm_at "fo e"); (case kc => wtm_at "fo e")))
local macro_rules | `(tactic| wtm_at "fo call") => `(tactic| ((with_reducible show PE _ (.Call (.Name (Str.ofString "tuple") _) [_] _ _) _); refine' pe_callTy (call_tupleK (by assumption) (by exact rfl)) (by rfl) (by assumption) (by decide +kernel) ?ka; (case ka => wtm_at "fo a")))
local macro_rules | `(tactic| wtm_at "fo call") => `(tactic| ((with_reducible show PE _ (.Call (.Name (Str.ofString "list") _) [.Call (.Attribute _ (Str.ofString "values") _) [] [] _] [] _) _); refine' pe_listVals rfl (by rfl) (by assumption) ?ka; (case ka => wtm_at "fo e")))
local macro_rules | `(tactic| wtm_at "fo call") => `(tactic| ((with_reducible show PE _ (.Call (.Name (Str.ofString "len") _) [.Call (.Name (Str.ofString "set") _) _ _ _] _ _) _); refine' pe_lenSetL rfl (by rfl) (by assumption) (by rfl) (by assumption) ?ka; (case ka => wtm_at "fo e")))
local macro_rules | `(tactic| wtm_at "fo call") => `(tactic| ((with_reducible show PE _ (.Call (.Name (Str.ofString "len") _) [.Name (Str.ofString "_law_there") _] _ _) _); refine' pe_callB call_lenD (by rfl) (by assumption) PySem.boot_len ?ka; (case ka => wtm_at "fo a")))
variable {P : Program} {w : World} {K : PySem.W.Frag} {mg : Str → Option Value} {base : Heap}
/-! ### _law_ends_right -/
theorem dok_nets {es fs : List Edge} (h1 : es.length ≤ 200) (h2 : fs.length ≤ 200) (a : ∀ e ∈ es, e.1.natAbs < 1000 ∧ e.2.natAbs < 1000) (b : ∀ e ∈ fs, e.1.natAbs < 1000 ∧ e.2.natAbs < 1000) : DOk 3 10000 (.list [dE es, dE fs]) := by
  refine (dok_list (n := 2) (b := 4410) (xs := [dE es, dE fs]) (fun x hx => ?_)).mono (Nat.le_refl _) (by simp)
  simp only [List.mem_cons, List.not_mem_nil, or_false] at hx
  rcases hx with rfl | rfl
  · exact (dok_dE a).mono (Nat.le_refl _) (by omega)
  · exact (dok_dE b).mono (Nat.le_refl _) (by omega)
@[irreducible] def spEnds2 : Sp := fun vs H Q _ => ∃ (q kq : Addr) (n m : Nat) (es fs : List Edge), vs = [.int n, .ref q, .int m, .ref kq] ∧ 1 ≤ n ∧ n ≤ 5 ∧ Pairs H q es ∧ Simp n es ∧ es.length ≤ 200 ∧ 1 ≤ m ∧ m ≤ 4 ∧ Pairs H kq fs ∧ Simp m fs ∧ fs.length ≤ 200 ∧
  ∀ H', Same H H' → Q (.bl true) H'
theorem call_ends2 {q kq : Addr} {n m : Nat} {es fs : List Edge} {H : Hp} {Q : VK} {E : XK} (a1 : 1 ≤ n) (a2 : n ≤ 5) (a3 : Pairs H q es) (a4 : Simp n es) (a5 : es.length ≤ 200) (b1 : 1 ≤ m) (b2 : m ≤ 4) (b3 : Pairs H kq fs) (b4 : Simp m fs) (b5 : fs.length ≤ 200)
    (fin : ∀ H', Same H H' → Q (.bl true) H') : spEnds2 [.int n, .ref q, .int m, .ref kq] H Q E := by
  unfold spEnds2
  exact ⟨q, kq, n, m, es, fs, rfl, a1, a2, a3, a4, a5, b1, b2, b3, b4, b5, fin⟩
set_option maxHeartbeats 8000000 in
theorem ok_ends2 {f : Addr} {fd : FuncData} (F : Fun K "_law_ends_right" "_law_ends_right" s_law_ends_right f fd) (mp : mg "repr" = none) (mr : mg "range" = none) (ml : mg "list" = none) (mn : mg "len" = none) (ms : mg "set" = none) (mt : mg "tuple" = none)
    (C : Cal P w K mg base "_law_lots" 3 ["_law_crowd", "_law_knots", "_law_spots", "_law_near_here"] spLots) (C2 : Cal P w K mg base "_law_near" 1 ["_law_size", "_law_sides"] spNear) (C3 : Cal P w K mg base "full_order" 4 ["places", "lines"] spFull)
    (C4 : Cal P w K mg base "fold_map" 3 ["places", "lines", "order"] spFMap) (C5 : Cal P w K mg base "left_after" 3 ["places", "lines", "order"] spLeft) :
    FnG P w K mg base CX0 5 f fd ["_law_size", "_law_sides", "_law_crowd", "_law_knots"] spEnds2 := by
  refine okG F sc_law_ends_right (fun vs H Q E h => ?_) (fun cdv A outer s H vs Q E hr hgd h => ?_)
  · unfold spEnds2 at h
    obtain ⟨q, kq, n, m, es, fs, rfl, _⟩ := h
    rfl
  · have nd := sc_law_ends_right.nd
    have hS := sc_law_ends_right
    have hKM : KMark K := ⟨⟩
    refine' mk_body ?body ?rd
    case body =>
      show PSs _ [_, _, _, _, _, _, _, _, _, _] _
      wtm_at "fo ss"
    case rd =>
     unfold spEnds2 at h
     obtain ⟨q, kq, n, m, es, fs, rfl, a1, a2, a3, a4, a5, b1, b2, b3, b4, b5, fin⟩ := h
     wtm_at "fo r"
     rename_i p0 np0
     have okN := dok_nets a5 b5 (a4.small (by omega)) (b4.small (by omega))
     have szN : (PyData.list [dE es, dE fs]).shown.length ≤ sizeLine := Nat.le_trans okN.len (by decide)
     have sm1 : Same H (upd H p0 (.lst [.ref q, .ref kq])) := same_upd (Same.refl _) np0
     have hp01 : (upd H p0 (.lst [.ref q, .ref kq])) p0 = some (.lst [.ref q, .ref kq]) := upd_same
     generalize upd H p0 (.lst [.ref q, .ref kq]) = H1 at *
     refine ⟨p0, .list [dE es, dE fs], rfl, .lst (SqL.of hp01) (.cons (dp_dE (a3.same sm1)) (.cons (dp_dE (b3.same sm1)) .nil)), okN.sh, okN.nd, Nat.le_trans okN.dep (by decide), szN, ?_⟩
     wtm_at "fo r"
     refine call_near (by omega) (a3.same sm1) a5 (fun e he => ?_) (fun p H2 sm2 np hL => ?_)
     · have := a4.rng e he
       exact ⟨this.1, this.2.1, this.2.2.1, this.2.2.2.1⟩
     have s2 := sm1.trans sm2
     wtm_at "fo r"
     refine call_full a1 (by omega) (a3.same s2) a4 a5 (fun o ps left H3 hE sm3 no ho => ?_)
     have s3 := s2.trans sm3
     wtm_at "fo r"
     refine call_fmap a1 (by omega) (a3.same s3) a4 a5 ho hE.run (fun gg H4 sm4 ngg hgg => ?_)
     have s4 := s3.trans sm4
     wtm_at "fo r"
     refine call_left a1 (by omega) (a3.same s4) a4 a5 (sm4 _ _ ho) hE.run (fun lf H5 sm5 nlf hlf => ?_)
     have s5 := s4.trans sm5
     have hR := hE.run.least
     generalize leastM es (allM n) (ps.map (·.1)) = ls at *
     have hLn := ((hL.same sm3).same sm4).same sm5
     have hg5 := sm5 _ _ hgg
     wtm_at "fo r"
     intro al nal
     rw [rgV_all]
     have sm6 : Same H5 (upd H5 al (.lst ((allM n).map V.int))) := same_upd (Same.refl _) nal
     have hal : (upd H5 al (.lst ((allM n).map V.int))) al = some (iL (allM n)) := upd_same
     generalize upd H5 al (.lst ((allM n).map V.int)) = H6 at *
     have s6 := s5.trans sm6
     wtm_at "fo r"
     refine call_lots b1 b2 a2 (b3.same s6) b4 b5 hal (inNet_all n) a4 (hLn.same sm6) (fun d ts f H7 sm7 nd7 hd hnd hts htl hf => ?_)
     have s7 := s6.trans sm7
     wtm_at "fo r"
     refine call_lots b1 b2 a2 (b3.same s7) b4 b5 (sm7 _ _ (sm6 _ _ hlf)) ((inNet_all n).run hE.run) a4 ((hLn.same sm6).same sm7) (fun d2 ts2 f2 H8 sm8 nd8 hd2 hnd2 hts2 htl2 hf2 => ?_)
     have s8 := s7.trans sm8
     have hd8 := sm8 _ _ hd
     have hg8 := sm8 _ _ (sm7 _ _ (sm6 _ _ hg5))
     have hin2 : ∀ x ∈ ts, x.map (mapR ls) ∈ ts2 := fun x hx => (hts2 _).mpr (run_join b4 hR ((hts x).mp hx)).2
     have key : ∀ x ∈ ts, ∀ y ∈ ts, (f x = f y ↔ f2 (x.map (mapR ls)) = f2 (y.map (mapR ls))) := fun x hx y hy => by
       rw [hf x hx y hy, ends_join b4 hR ((hts x).mp hx) ((hts y).mp hy), hf2 _ (hin2 x hx) _ (hin2 y hy)]
     have hgi : ∀ t ∈ ts, ∀ t' ∈ ts, f t' = f t → f2 (t'.map (mapR ls)) = f2 (t.map (mapR ls)) := fun t ht t' ht' e => (key t' ht' t ht).mp e
     clear hE hL hLn hal hlf hg5 hgg ho
     wtm_at "fo r"
     intro L nL
     have sm9 : Same H8 (upd H8 L (.dK [])) := same_upd (Same.refl _) nL
     have hL9 : (upd H8 L (.dK [])) L = some (.dK (kvI [])) := upd_same
     have hd9 := sm9 _ _ hd8
     have hLd : L ≠ d := (ne_of_none hd8 nL).symm
     generalize upd H8 L (.dK []) = H9 at *
     have hd2d : d2 ≠ d := (ne_of_none hd nd8).symm
     have hgd2 : gg ≠ d := ne_of hg8 hd8 (by intro e; cases e)
     refine ⟨d, _, hd9, trivial, fun od => ?_⟩
     have sb10 : SameBut d H9 (upd H9 d (.frz od (.dT (kvT ts f)))) := fun b o hb e => by rw [upd_ne hb]; exact e
     have hd10 : (upd H9 d (.frz od (.dT (kvT ts f)))) d = some (.frz od (.dT (kvT ts f))) := upd_same
     generalize upd H9 d (.frz od (.dT (kvT ts f))) = H10 at *
     refine ⟨_, rfl, d, od, rfl, Or.inr ⟨kvT ts f, hd10, ?_⟩⟩
     refine for_it (walk_keysT (kvs := kvT ts f)) (fun j σ Hx => ∃ y12 y13 ps, σ = [some (.int n), some (.ref q), some (.int m), some (.ref kq), some (.str (PyData.list [dE es, dE fs]).shown), some (.ref p), some (.ref o), some (.ref gg), some (.ref lf), some (.ref d), some (.ref d2), some (.ref L), y12, y13, none] ∧ SameBut d H8 Hx ∧ Hx d = some (.frz od (.dT (kvT ts f))) ∧ Hx L = some (.dK (kvI ps)) ∧ Thr f (fun x => f2 (x.map (mapR ls))) (ts.take j) ps) ?_ ?_ ?_ ?_
     · exact ⟨none, none, [], rfl, fun b o hb e => sb10 b o hb (sm9 _ _ e), hd10, sb10 _ _ hLd hL9, Thr.nil⟩
     · rintro j σ Hx _ ⟨y12, y13, ps, rfl, sb7, hd7, _⟩
       exact hd7
     · rintro j x σ Hx Hy hjl ⟨y12, y13, ps, rfl, sb7, hd7, hL7, hT7⟩ ⟨eH, k, v, q0, hkv, rfl, hq0⟩
       subst eH
       unfold kvT at hkv
       rw [List.getElem?_map] at hkv
       cases htj : ts[j]? with
       | none => rw [htj] at hkv; cases hkv
       | some x0 =>
       rw [htj] at hkv
       obtain ⟨rfl, rfl⟩ : k = keyT x0 ∧ v = V.int (f x0) := by
         have := Option.some.inj hkv
         exact ⟨(congrArg Prod.fst this).symm, (congrArg Prod.snd this).symm⟩
       have hx0 := List.mem_of_getElem? htj
       have hX := (hts x0).mp hx0
       have htk : ts.take (j + 1) = ts.take j ++ [x0] := by rw [List.take_add_one, htj]; rfl
       have hg1 : DGet Hy d (.ref q0) (some (.int (f x0))) := .inr ⟨kvT ts f, keyT x0, q0, .inr ⟨od, hd7⟩, rfl, hq0, (val_kvT hx0).symm⟩
       have hc : ∀ t' ∈ ts.take j, f t' = f x0 → f2 (t'.map (mapR ls)) = f2 (x0.map (mapR ls)) := fun t' h e => hgi x0 hx0 t' (List.mem_of_mem_take h) e
       have hq0V := hq0
       rw [keyT_V] at hq0V
       have hgy := sb7 _ _ hgd2 hg8
       have hval : (valV (kvI ps) (Sum.inl (f x0))).getD (.int (f2 (x0.map (mapR ls)))) = .int (f2 (x0.map (mapR ls))) := hT7.val hc
       obtain ⟨ps2, hput, hT8⟩ : ∃ ps', putK (kvI ps) (Sum.inl (f x0)) (.int (f2 (x0.map (mapR ls)))) = kvI ps' ∧ Thr f (fun x => f2 (x.map (mapR ls))) (ts.take j ++ [x0]) ps' := hT7.put hc
       rw [← htk] at hT8
       have hpl : ps.length ≤ 625 := Nat.le_trans hT7.len (Nat.le_trans (List.take_sublist j ts).length_le htl)
       have hv2 := val_kvT (f := f2) (hin2 x0 hx0)
       have hd2y := sb7 _ _ hd2d hd2
       wtm_at "fo r"
       refine ⟨⟨_, SqT.of hq0V⟩, fun D nD => ?_⟩
       refine lc_it (walk_tup (xs := x0.map V.int)) (fun i H2 => Same Hy H2 ∧ H2 D = some (.lst (((x0.take i).map (mapR ls)).map V.int))) ⟨same_upd (Same.refl _) nD, upd_same⟩ ?_ ?_ ?_
       · rintro i H2 _ ⟨sm, _⟩
         exact SqT.of (sm _ _ hq0V)
       · rintro i x H2 H2' hi ⟨sm2', hD2⟩ ⟨eH, hx⟩
         subst eH
         obtain ⟨z, hz, rfl⟩ := int_at hx
         have hzr := allM_mem.mp (hX.inn z (List.mem_of_getElem? hz))
         have htz : x0.take (i + 1) = x0.take i ++ [z] := by rw [List.take_add_one, hz]; rfl
         have hgz : ((whereL n ls).drop 1)[z.toNat - 1]? = some (mapR ls z) := by
           have := whereL_get (n := n) (ps := ls) (i := z.toNat) (by omega)
           rw [List.getElem?_drop, show 1 + (z.toNat - 1) = z.toNat by omega, this, show ((z.toNat : Nat) : Int) = z by omega]
         refine ⟨rfl, ?_⟩
         wtm_at "fo r"
         refine Or.inl ⟨gg, _, z - 1, .int (mapR ls z), rfl, rfl, SqL.of (sm2' _ _ hgy), at_of (j := z.toNat - 1) (by omega) (by rw [List.getElem?_map, hgz]; rfl), ?_⟩
         refine ⟨_, hD2, ?_, same_upd sm2' nD, ?_⟩
         · rw [List.length_map, List.length_map]
           exact Nat.lt_of_le_of_lt (Nat.le_trans (List.take_sublist i x0).length_le (Nat.le_of_eq hX.len)) (Nat.lt_of_le_of_lt b2 (by decide))
         · rw [upd_same, htz, List.map_append, List.map_append]
           rfl
       rintro H2 ⟨sm2', hD2⟩
       rw [List.length_map, List.take_length] at hD2
       dsimp only [tNil]
       refine ⟨D, _, rfl, Or.inl ⟨SqL.of hD2, fun l nl => ?_⟩⟩
       have sml : Same H2 (upd H2 l (.tup ((x0.map (mapR ls)).map V.int))) := same_upd (Same.refl _) nl
       have hl3 : (upd H2 l (.tup ((x0.map (mapR ls)).map V.int))) l = some (.tup ((keyT (x0.map (mapR ls))).map kV)) := by rw [keyT_V]; exact upd_same
       generalize upd H2 l (.tup ((x0.map (mapR ls)).map V.int)) = H3' at *
       have smy := sm2'.trans sml
       have hd7' := smy _ _ hd7
       have hL7' := smy _ _ hL7
       have hg1' : DGet H3' d (.ref q0) (some (.int (f x0))) := .inr ⟨kvT ts f, keyT x0, q0, .inr ⟨od, hd7'⟩, rfl, smy _ _ hq0, (val_kvT hx0).symm⟩
       refine ⟨d2, _, rfl, hv2 ▸ DGet.t (smy _ _ hd2y) hl3, ?_⟩
       refine ⟨_, rfl, L, rfl, .inl ⟨_, .inl hL7'⟩, _, rfl, _, rfl, d, _, rfl, hg1', _, rfl, _, DGet.k (k := Sum.inl (f x0)) hL7', ?_⟩
       rw [hval]
       refine ⟨_, rfl, Or.inl ⟨rfl, _, rfl, ?_⟩⟩
       refine ifF (by simp) ?_
       refine ⟨_, rfl, _, rfl, _, rfl, _, rfl, d, _, rfl, hg1', L, _, rfl, DPut.k (k := Sum.inl (f x0)) hL7' ?_, ?_⟩
       · unfold kvI
         rw [List.length_map]
         exact Nat.lt_of_le_of_lt hpl (by decide)
       rw [hput]
       refine ⟨_, _, ps2, rfl, fun b o hb e => ?_, ?_, upd_same, hT8⟩
       · rw [upd_ne (ne_of_none e nL)]
         exact smy _ _ (sb7 b o hb e)
       · rw [upd_ne hLd.symm]
         exact hd7'
     · rintro σ Hx ⟨y12, y13, ps, rfl, sb7, hd7, hL7, hT7⟩
       have hkl : (kvT ts f).length = ts.length := by unfold kvT; rw [List.length_map]
       rw [hkl, List.take_length] at hT7
       refine ⟨hd7, ?_⟩
       have sm11 := sb7.locked hd8
       have hL8 : (upd Hx d (.dT (kvT ts f))) L = some (.dK (kvI ps)) := by rw [upd_ne hLd]; exact hL7
       generalize upd Hx d (.dT (kvT ts f)) = H11 at *
       have hvn := hT7.vals fun a ha b hb e => (key a ha b hb).mpr e
       have hpl : ps.length ≤ 625 := Nat.le_trans hT7.len htl
       wtm_at "fo r"
       refine ⟨L, kvI ps, rfl, hL8, fun v nv => ?_⟩
       have sm12 : Same H11 (upd H11 v (.lst ((kvI ps).map (·.2)))) := same_upd (Same.refl _) nv
       have hv12 : (upd H11 v (.lst ((kvI ps).map (·.2)))) v = some (.lst ((ps.map (·.2)).map V.int)) := by rw [upd_same, kvI_vals]
       generalize upd H11 v (.lst ((kvI ps).map (·.2))) = H12 at *
       refine ⟨v, ps.map (·.2), rfl, SqL.of hv12, by rw [List.length_map]; omega, hvn, _, rfl, L, kvI ps, rfl, sm12 _ _ hL8, ?_⟩
       have s12 := (s8.trans sm11).trans sm12
       have ev : decide (V.int (((ps.map (·.2)).length : Nat) : Int) = V.int (((kvI ps).length : Nat) : Int)) = true := by
         apply decide_eq_true
         unfold kvI
         rw [List.length_map, List.length_map]
       refine Or.inl ⟨rfl, _, rfl, ifT ev ?_⟩
       wtm_at "fo r"
       rename_i r2 nr2
       have sm13 : Same H12 (upd H12 r2 (.lst [.ref q, .ref kq])) := same_upd (Same.refl _) nr2
       have hr2 : (upd H12 r2 (.lst [.ref q, .ref kq])) r2 = some (.lst [.ref q, .ref kq]) := upd_same
       generalize upd H12 r2 (.lst [.ref q, .ref kq]) = H13 at *
       have s13 := s12.trans sm13
       refine ⟨r2, .list [dE es, dE fs], rfl, .lst (SqL.of hr2) (.cons (dp_dE (a3.same s13)) (.cons (dp_dE (b3.same s13)) .nil)), okN.sh, okN.nd, Nat.le_trans okN.dep (by decide), szN, ?_⟩
       refine ⟨_, rfl, Or.inl ⟨rfl, ?_⟩⟩
       have hfin := fin H13 s13
       rw [show (true : Bool) = decide (V.str (PyData.list [dE es, dE fs]).shown = V.str (PyData.list [dE es, dE fs]).shown) by simp] at hfin
       exact hfin
end
/-! piece TSH -/
section
variable {P : Program} {w : World} {K : PySem.W.Frag} {mg : Str → Option Value} {base : Heap}
/-! ### _law_hangs -/
def mkL (n : Nat) (g : Int → Int) : List Int := (List.range (n + 1)).map fun (i : Nat) => g (i : Int)
theorem mkL_get {n k : Nat} {g : Int → Int} (h : k ≤ n) : (mkL n g)[k]? = some (g (k : Int)) := by
  unfold mkL
  rw [List.getElem?_map, List.getElem?_range (by omega)]
  rfl
theorem mkL_re (n : Nat) (g : Int → Int) (a b : Int) : (mkL n g).map (fun v => if v = g a then g b else v) = mkL n (remark g a b) := by
  unfold mkL
  rw [List.map_map]
  rfl
theorem mkL_rg (n : Nat) : rgV 0 ((n : Int) + 1) = (mkL n fun x => x).map V.int := by
  unfold rgV mkL
  rw [show ((n : Int) + 1 - 0).toNat = n + 1 by omega, List.map_map]
  exact List.map_congr_left fun i _ => by simp
@[irreducible] def spHangs : Sp := fun vs H Q _ => ∃ (q : Addr) (n : Nat) (es : List Edge), vs = [.int n, .ref q] ∧ n ≤ 12 ∧ Pairs H q es ∧ Simp n es ∧ es.length ≤ 200 ∧
  ∀ p g H', Same H H' → H p = none → H' p = some (iL (mkL n g)) → (∀ x y : Int, x ∈ allM n → y ∈ allM n → (g x = g y ↔ Joined (Adj es) x y)) → Q (.ref p) H'
theorem call_hangs {q : Addr} {n : Nat} {es : List Edge} {H : Hp} {Q : VK} {E : XK} (hn : n ≤ 12) (hq : Pairs H q es) (hS : Simp n es) (hl : es.length ≤ 200)
    (fin : ∀ p g H', Same H H' → H p = none → H' p = some (iL (mkL n g)) → (∀ x y : Int, x ∈ allM n → y ∈ allM n → (g x = g y ↔ Joined (Adj es) x y)) → Q (.ref p) H') : spHangs [.int n, .ref q] H Q E := by
  unfold spHangs
  exact ⟨q, n, es, rfl, hn, hq, hS, hl, fin⟩
theorem hangs_done {n : Nat} {es : List Edge} {g : Int → Int} (h1 : ∀ x y : Int, x ∈ allM n → y ∈ allM n → g x = g y → Joined (Adj es) x y) (h2 : ∀ e ∈ es, g e.1 = g e.2) : ∀ x y : Int, x ∈ allM n → y ∈ allM n → (g x = g y ↔ Joined (Adj es) x y) :=
  fun x y hx hy => ⟨h1 x y hx hy, fun j => j.inv g fun a b hab => by
    rcases List.mem_cons.mp hab with e | hm
    · rw [e]
    · rcases mem_mates.mp hm with h | h
      · exact h2 _ h
      · exact (h2 _ h).symm⟩
set_option maxHeartbeats 8000000 in
theorem ok_hangs {f : Addr} {fd : FuncData} (F : Fun K "_law_hangs" "_law_hangs" s_law_hangs f fd) (mr : mg "range" = none) (ml : mg "list" = none) :
    FnOk P w K mg base CX0 1 f fd ["_law_size", "_law_sides"] spHangs := by
  refine F.ok sc_law_hangs (fun vs H Q E h => ?_) (fun cdv A outer s H vs Q E hr h => ?_)
  · unfold spHangs at h
    obtain ⟨q, n, es, rfl, _⟩ := h
    rfl
  · have nd := sc_law_hangs.nd
    have hS := sc_law_hangs
    have hKM : KMark K := ⟨⟩
    refine' mk_body ?body ?rd
    case body =>
      show PSs _ [_, _, _] _
      wtm_at "fo ss"
    case rd =>
     unfold spHangs at h
     obtain ⟨q, n, es, rfl, hn, hq, hSi, hl, fin⟩ := h
     wtm_at "fo r"
     intro t nt
     rw [mkL_rg]
     have sm1 : Same H (upd H t (.lst ((mkL n fun x => x).map V.int))) := same_upd (Same.refl _) nt
     have ht1 : (upd H t (.lst ((mkL n fun x => x).map V.int))) t = some (iL (mkL n fun x => x)) := upd_same
     generalize upd H t (.lst ((mkL n fun x => x).map V.int)) = H1 at *
     obtain ⟨qs, hq0⟩ := PsAt.of hq
     wtm_at "fo r"
     refine ⟨⟨_, SqL.of (sm1 _ _ hq0.hD)⟩, ?_⟩
     refine for_list (K := K) (xs := qs.map V.ref) (fun j σ H3 => ∃ t g y3 y4 y5 y6, σ = [some (.int n), some (.ref q), some (.ref t), y3, y4, y5, y6, none] ∧ Same H H3 ∧ H t = none ∧ H3 t = some (iL (mkL n g)) ∧
       (∀ x y : Int, x ∈ allM n → y ∈ allM n → g x = g y → Joined (Adj es) x y) ∧ ∀ e ∈ es.take j, g e.1 = g e.2) ?_ ?_ ?_ ?_
     · exact ⟨t, fun x => x, none, none, none, none, rfl, sm1, nt, ht1, (fun x y _ _ e => by rw [show x = y from e]; exact .refl _), fun e h => by simp at h⟩
     · rintro j σ H3 _ ⟨t, g, y3, y4, y5, y6, rfl, sm3, _⟩
       exact SqL.of (sm3 _ _ hq0.hD)
     · rintro j x σ H3 hx ⟨t, g, y3, y4, y5, y6, rfl, sm3, nt, ht, hg, hc⟩
       obtain ⟨r, hr, rfl⟩ := ref_at hx
       have hjl : j < es.length := by rw [← hq0.len]; exact (List.getElem?_eq_some_iff.mp hr).1
       have hes : es[j]? = some es[j] := List.getElem?_eq_getElem hjl
       have hre := sm3 _ _ (hq0.at_ j r _ hr hes)
       have hme := List.getElem_mem hjl
       have htk : es.take (j + 1) = es.take j ++ [es[j]] := by rw [List.take_add_one, hes]; rfl
       have hrg := hSi.rng _ hme
       generalize es[j] = e at *
       obtain ⟨ea, eb⟩ := e
       simp only at hre hrg
       have hga := mkL_get (g := g) (show ea.toNat ≤ n by omega)
       have hgb := mkL_get (g := g) (show eb.toNat ≤ n by omega)
       rw [show ((ea.toNat : Nat) : Int) = ea by omega] at hga
       rw [show ((eb.toNat : Nat) : Int) = eb by omega] at hgb
       refine Or.inr ⟨r, [.int ea, .int eb], rfl, SqL.of hre, rfl, .int ea, [.int eb], rfl, .int eb, [], rfl, rfl, ?_⟩
       refine ⟨_, rfl, _, rfl, Or.inl ⟨t, _, ea, .int (g ea), rfl, rfl, SqL.of ht, at_of (j := ea.toNat) (by omega) (by rw [List.getElem?_map, hga]; rfl), ?_⟩⟩
       refine ⟨_, rfl, _, rfl, Or.inl ⟨t, _, eb, .int (g eb), rfl, rfl, SqL.of ht, at_of (j := eb.toNat) (by omega) (by rw [List.getElem?_map, hgb]; rfl), ?_⟩⟩
       refine ⟨(Nat.le_of_ble_eq_true rfl : _ ≤ sizeLine), fun T nT => ?_⟩
       have sT : Same H3 (upd H3 T (.tup [.int (g ea), .int (g eb)])) := same_upd (Same.refl _) nT
       have hT := upd_same (H := H3) (a := T) (o := HO.tup [.int (g ea), .int (g eb)])
       generalize upd H3 T (.tup [.int (g ea), .int (g eb)]) = H4 at *
       refine Or.inl ⟨T, [.int (g ea), .int (g eb)], rfl, SqT.of hT, rfl, .int (g ea), [.int (g eb)], rfl, .int (g eb), [], rfl, rfl, ?_⟩
       have ht4 := sT _ _ ht
       wtm_at "fo r"
       refine ⟨⟨_, SqL.of ht4⟩, fun D nD => ?_⟩
       have hml : (mkL n g).length ≤ 100 := by unfold mkL; rw [List.length_map, List.length_range]; omega
       refine lc_vals (K := K) (xs := mkL n g) (inj := V.int) (fun v => .int (if v = g ea then g eb else v)) (SqL.of ht4) nD (Nat.le_trans hml (by decide)) (fun _ => rfl) ?_ ?_
       · intro v hv H5 sm5 R hR
         refine ⟨_, rfl, _, rfl, Or.inl ⟨rfl, _, rfl, ?_⟩⟩
         refine ite2 (fun h => ?_) (fun h => ?_)
         · have h : v = g ea := by simpa using h
           rw [if_pos h] at hR
           exact ⟨_, rfl, hR H5 (Same.refl _)⟩
         · have h : v ≠ g ea := fun e => h (by simp [e])
           rw [if_neg h] at hR
           exact ⟨_, rfl, hR H5 (Same.refl _)⟩
       · intro H5 sm5 hD5
         have e1 : (mkL n g).map (fun v => V.int (if v = g ea then g eb else v)) = (mkL n (remark g ea eb)).map V.int := by
           rw [← mkL_re, List.map_map]
           rfl
         rw [e1] at hD5
         have ha : ea ∈ allM n := allM_mem.mpr ⟨hrg.1, hrg.2.1⟩
         have hb : eb ∈ allM n := allM_mem.mpr ⟨hrg.2.2.1, hrg.2.2.2.1⟩
         refine ⟨D, remark g ea eb, _, _, _, _, rfl, (sm3.trans sT).trans sm5, (sm3.trans sT).free nD, hD5, remark_sound (D := (· ∈ allM n)) hg ha hb (Joined.one (List.mem_cons_of_mem _ (mem_mates.mpr (.inl hme)))), fun e he => ?_⟩
         rw [htk] at he
         rcases List.mem_append.mp he with he | he
         · exact remark_keep _ _ (hc e he)
         · rw [List.mem_singleton.mp he]
           exact remark_at g ea eb
     · rintro σ H3 ⟨t, g, y3, y4, y5, y6, rfl, sm3, nt, ht, hg, hc⟩
       rw [List.length_map, hq0.len, List.take_length] at hc
       exact ⟨_, rfl, fin t g H3 sm3 nt ht (hangs_done hg hc)⟩
end
/-! piece TSC -/
section
local macro_rules | `(tactic| wtm_at "fo a") => `(tactic| first
  | exact pa_nil
  | (refine' pa_cons ?k1 ?k2; (case k1 => wtm_at "fo e"); (case k2 => wtm_at "fo a"))
  | fail "no")
local macro_rules | `(tactic| wtm_at "fo v") => `(tactic| first
  | exact pv 0
  | exact pv 1
  | exact pv 2
  | exact pv 3
  | exact pv 4
  | exact pv 5
  | exact pv 6
  | exact pv 7
  | exact pv 8
  | exact pv 9
  | exact pv 10
  | exact pv 11
  | exact pv 12
  | exact pv 13
  | exact pv 14
  | exact pv 15
  | fail "no")
local macro_rules | `(tactic| wtm_at "fo e") => `(tactic| first
  | with_reducible exact pe_int
  | with_reducible exact pe_bl
  | with_reducible exact pe_non
  | with_reducible exact pe_str
  | ((with_reducible show PE _ (.Name _ _) _); wtm_at "fo v")
  | ((with_reducible show PE _ (.BinOp _ .Add _ _) _); apply pe_op opAddB <;> wtm_at "fo e")
  | ((with_reducible show PE _ (.BinOp _ .Sub _ _) _); apply pe_op op_sub <;> wtm_at "fo e")
  | ((with_reducible show PE _ (.BinOp _ .Mult _ _) _); apply pe_op op_mul <;> wtm_at "fo e")
  | ((with_reducible show PE _ (.BinOp _ .Mod _ _) _); apply pe_op op_mod <;> wtm_at "fo e")
  | ((with_reducible show PE _ (.BinOp _ .FloorDiv _ _) _); apply pe_op op_fdiv <;> wtm_at "fo e")
  | ((with_reducible show PE _ (.BinOp _ .Pow _ _) _); apply pe_op op_powW <;> wtm_at "fo e")
  | ((with_reducible show PE _ (.BinOp _ .LShift _ _) _); apply pe_op op_shl <;> wtm_at "fo e")
  | ((with_reducible show PE _ (.BinOp _ .RShift _ _) _); apply pe_op op_shr <;> wtm_at "fo e")
  | ((with_reducible show PE _ (.BinOp _ .BitAnd _ _) _); apply pe_op op_and <;> wtm_at "fo e")
  | ((with_reducible show PE _ (.List _ _) _); apply pe_lst; wtm_at "fo a")
  | ((with_reducible show PE _ (.Tuple _ _ _) _); apply pe_tup; wtm_at "fo a")
  | ((with_reducible show PE _ (.ListComp _ [_] _ _) _); wtm_at "fo lc")
  | ((with_reducible show PE _ (.IfExp _ _ _ _) _); apply pe_ifExp; (· wtm_at "fo t"); (· wtm_at "fo e"); (· wtm_at "fo e"))
  | ((with_reducible show PE _ (.UnaryOp .USub _ _) _); apply pe_un un_neg; wtm_at "fo e")
  | ((with_reducible show PE _ (.Call (.Name _ _) [] (_ :: _) _) _); wtm_at "fo kcall")
  | ((with_reducible show PE _ (.Call (.Name _ _) _ _ _) _); wtm_at "fo call")
  | ((with_reducible show PE _ (.Call (.Attribute _ _ _) _ _ _) _); wtm_at "fo meth")
  | ((with_reducible show PE _ (.Compare _ _ _ _) _); wtm_at "fo cmp")
  | ((with_reducible show PE _ (.Subscript _ (.Slice _ _ _ _) _) _); wtm_at "fo slice")
  | ((with_reducible show PE _ (.Subscript _ _ _) _); refine' pe_ix (ix_seqK (by assumption) (by exact rfl)) ?ka ?kb (fun _ _ => rfl); (case ka => wtm_at "fo e"); (case kb => wtm_at "fo e"))
  | fail "no")
local macro_rules | `(tactic| wtm_at "fo own") => `(tactic| first
  | ((show _ = [0]); kernel_rfl!)
  | ((show _ = [1]); kernel_rfl!)
  | ((show _ = [2]); kernel_rfl!)
  | ((show _ = [3]); kernel_rfl!)
  | ((show _ = [4]); kernel_rfl!)
  | ((show _ = [5]); kernel_rfl!)
  | ((show _ = [6]); kernel_rfl!)
  | ((show _ = [7]); kernel_rfl!)
  | ((show _ = [8]); kernel_rfl!)
  | ((show _ = [9]); kernel_rfl!)
  | ((show _ = [10]); kernel_rfl!)
  | ((show _ = [11]); kernel_rfl!)
  | ((show _ = [12]); kernel_rfl!)
  | ((show _ = [13]); kernel_rfl!)
  | ((show _ = [14]); kernel_rfl!)
  | ((show _ = [15]); kernel_rfl!)
  | ((show _ = [0, 1]); kernel_rfl!)
  | ((show _ = [1, 2]); kernel_rfl!)
  | ((show _ = [2, 3]); kernel_rfl!)
  | ((show _ = [3, 4]); kernel_rfl!)
  | ((show _ = [4, 5]); kernel_rfl!)
  | ((show _ = [5, 6]); kernel_rfl!)
  | ((show _ = [6, 7]); kernel_rfl!)
  | ((show _ = [7, 8]); kernel_rfl!)
  | ((show _ = [8, 9]); kernel_rfl!)
  | ((show _ = [9, 10]); kernel_rfl!)
  | ((show _ = [10, 11]); kernel_rfl!)
  | ((show _ = [11, 12]); kernel_rfl!)
  | ((show _ = [12, 13]); kernel_rfl!)
  | ((show _ = [13, 14]); kernel_rfl!)
  | ((show _ = [14, 15]); kernel_rfl!)
  | fail "no")
local macro_rules | `(tactic| wtm_at "fo ts") => `(tactic| first
  | exact pts_nil
  | (apply pts_one; wtm_at "fo t")
  | fail "no")
local macro_rules | `(tactic| wtm_at "fo lc") => `(tactic| first
  | (refine' pe_lcO (by assumption) (by exact rfl) (by exact rfl) (by wtm_at "fo own") (by decide +kernel) rfl ?ki ?kg ?kt ?ke; (case ki => wtm_at "fo i"); (case kg => (intro _ _ _ _ _; wtm_at "fo g")); (case kt => (intro _ _ _ _ _; wtm_at "fo ts")); (case ke => (intro _ _ _ _ _; wtm_at "fo e")))
  | fail "no")
local macro_rules | `(tactic| wtm_at "fo part") => `(tactic| first
  | exact po_none
  | (apply po_some; wtm_at "fo e")
  | fail "no")
local macro_rules | `(tactic| wtm_at "fo slice") => `(tactic| first
  | ((with_reducible show PE _ (.Subscript _ (.Slice _ _ none _) _) _); refine' pe_slice (sl_listK (by assumption) (by exact rfl)) ?ka ?kb ?kc; (case ka => wtm_at "fo e"); (case kb => wtm_at "fo part"); (case kc => wtm_at "fo part"))
  | ((with_reducible show PE _ (.Subscript _ (.Slice none none (some _) _) _) _); refine' pe_stepK (by assumption) (by exact rfl) ?ka ?kb; (case ka => wtm_at "fo e"); (case kb => wtm_at "fo e"))
  | fail "no")
local macro_rules | `(tactic| wtm_at "fo cmp") => `(tactic| first
  | ((with_reducible show PE _ (.Compare _ [.Lt] _ _) _); refine' pe_cmpR op_lt ?ka ?kb (nomark _); (case ka => wtm_at "fo e"); (case kb => wtm_at "fo e"))
  | ((with_reducible show PE _ (.Compare _ [.LtE] _ _) _); refine' pe_cmpR op_le ?ka ?kb (nomark _); (case ka => wtm_at "fo e"); (case kb => wtm_at "fo e"))
  | ((with_reducible show PE _ (.Compare _ [.Gt] _ _) _); refine' pe_cmpR op_gt ?ka ?kb (nomark _); (case ka => wtm_at "fo e"); (case kb => wtm_at "fo e"))
  | ((with_reducible show PE _ (.Compare _ [.GtE] _ _) _); refine' pe_cmpR op_ge ?ka ?kb (nomark _); (case ka => wtm_at "fo e"); (case kb => wtm_at "fo e"))
  | ((with_reducible show PE _ (.Compare _ [.Eq] _ _) _); refine' pe_cmpR (op_eqK (by assumption) (by exact rfl) (Room.units (by assumption))) ?ka ?kb (nomark _); (case ka => wtm_at "fo e"); (case kb => wtm_at "fo e"))
  | ((with_reducible show PE _ (.Compare _ [.NotEq] _ _) _); refine' pe_cmpR (op_neK (by assumption) (by exact rfl) (Room.units (by assumption))) ?ka ?kb (nomark _); (case ka => wtm_at "fo e"); (case kb => wtm_at "fo e"))
  | fail "no")
local macro_rules | `(tactic| wtm_at "fo tcmp") => `(tactic| first
  | ((with_reducible show PT _ (.Compare _ [.Lt] _ _) _); refine' pt_cmpR op_lt ?ka ?kb (nomark _); (case ka => wtm_at "fo e"); (case kb => wtm_at "fo e"))
  | ((with_reducible show PT _ (.Compare _ [.LtE] _ _) _); refine' pt_cmpR op_le ?ka ?kb (nomark _); (case ka => wtm_at "fo e"); (case kb => wtm_at "fo e"))
  | ((with_reducible show PT _ (.Compare _ [.Gt] _ _) _); refine' pt_cmpR op_gt ?ka ?kb (nomark _); (case ka => wtm_at "fo e"); (case kb => wtm_at "fo e"))
  | ((with_reducible show PT _ (.Compare _ [.GtE] _ _) _); refine' pt_cmpR op_ge ?ka ?kb (nomark _); (case ka => wtm_at "fo e"); (case kb => wtm_at "fo e"))
  | ((with_reducible show PT _ (.Compare _ [.Eq] _ _) _); refine' pt_cmpR (op_eqK (by assumption) (by exact rfl) (Room.units (by assumption))) ?ka ?kb (nomark _); (case ka => wtm_at "fo e"); (case kb => wtm_at "fo e"))
  | ((with_reducible show PT _ (.Compare _ [.NotEq] _ _) _); refine' pt_cmpR (op_neK (by assumption) (by exact rfl) (Room.units (by assumption))) ?ka ?kb (nomark _); (case ka => wtm_at "fo e"); (case kb => wtm_at "fo e"))
  | ((with_reducible show PT _ (.Compare _ [.In] _ _) _); refine' pt_cmpR (op_inK (by assumption) (by exact rfl)) ?ka ?kb rfl; (case ka => wtm_at "fo e"); (case kb => wtm_at "fo e"))
  | ((with_reducible show PT _ (.Compare _ [.NotIn] _ _) _); refine' pt_cmpR (op_notInK (by assumption) (by exact rfl)) ?ka ?kb rfl; (case ka => wtm_at "fo e"); (case kb => wtm_at "fo e"))
  | fail "no")
local macro_rules | `(tactic| wtm_at "fo w") => `(tactic| first
  | ((with_reducible show PW _ (.BoolOp .And [_] _) _); apply pw_and1; wtm_at "fo t")
  | ((with_reducible show PW _ (.BoolOp .And _ _) _); apply pw_and; (· wtm_at "fo t"); (· wtm_at "fo w"))
  | ((with_reducible show PW _ (.BoolOp .Or [_] _) _); apply pw_or1; wtm_at "fo t")
  | ((with_reducible show PW _ (.BoolOp .Or _ _) _); apply pw_or; (· wtm_at "fo t"); (· wtm_at "fo w"))
  | fail "no")
local macro_rules | `(tactic| wtm_at "fo meth") => `(tactic| first
  | ((with_reducible show PE _ (.Call (.Attribute _ (Str.ofString "append") _) _ _ _) _); refine' pe_bm PySem.F.plainAttrs_list PySem.F.slot_list_append PySem.F.type_list_append mt_append ?ka ?kb; (case ka => wtm_at "fo e"); (case kb => wtm_at "fo a"))
  | ((with_reducible show PE _ (.Call (.Attribute _ (Str.ofString "pop") _) [_] _ _) _); refine' pe_bm PySem.F.plainAttrs_list PySem.F.slot_list_pop PySem.F.type_list_pop mt_popAt ?ka ?kb; (case ka => wtm_at "fo e"); (case kb => wtm_at "fo a"))
  | ((with_reducible show PE _ (.Call (.Attribute _ (Str.ofString "pop") _) [] _ _) _); refine' pe_bm0 PySem.F.plainAttrs_list PySem.F.slot_list_pop PySem.F.type_list_pop mt_pop ?ka; (case ka => wtm_at "fo e"))
  | fail "no")
local macro_rules | `(tactic| wtm_at "fo k") => `(tactic| first
  | exact pk_nil
  | (refine' pk_cons ?k1 ?k2; (case k1 => wtm_at "fo e"); (case k2 => wtm_at "fo k"))
  | fail "no")
local macro_rules | `(tactic| wtm_at "fo kcall") => `(tactic| first
  | (refine' pe_kcal (by assumption) (by assumption) (by decide) (by rfl) ?ka; (case ka => wtm_at "fo k"))
  | fail "no")
local macro_rules | `(tactic| wtm_at "fo call") => `(tactic| first
  | ((with_reducible show PE _ (.Call (.Name (Str.ofString "int") _) _ _ _) _); refine' pe_callTy call_intB (by rfl) (by assumption) (by decide +kernel) ?ka; (case ka => wtm_at "fo a"))
  | ((with_reducible show PE _ (.Call (.Name (Str.ofString "len") _) _ _ _) _); refine' pe_callB (call_lenK (by assumption) (by exact rfl)) (by rfl) (by assumption) PySem.boot_len ?ka; (case ka => wtm_at "fo a"))
  | ((with_reducible show PE _ (.Call (.Name (Str.ofString "list") _) [.Call (.Name (Str.ofString "range") _) [_, _] _ _] _ _) _); refine' pe_listRg rfl (by rfl) (by assumption) (prg_2 (by rfl) (by assumption) ?ka ?kb); (case ka => wtm_at "fo e"); (case kb => wtm_at "fo e"))
  | ((with_reducible show PE _ (.Call (.Name (Str.ofString "list") _) _ _ _) _); refine' pe_callTy (call_listK (by assumption) (by exact rfl)) (by rfl) (by assumption) (by decide +kernel) ?ka; (case ka => wtm_at "fo a"))
  | ((with_reducible show PE _ (.Call (.Name (Str.ofString "min") _) [_, _] _ _) _); refine' pe_callB (call_min2 rfl) (by rfl) (by assumption) (by decide +kernel) ?ka; (case ka => wtm_at "fo a"))
  | ((with_reducible show PE _ (.Call (.Name (Str.ofString "sorted") _) [_] _ _) _); refine' pe_callB (cr_sortedK (by assumption) (by exact rfl)) (by rfl) (by assumption) (by decide +kernel) ?ka; (case ka => wtm_at "fo a"))
  | ((with_reducible show PE _ (.Call (.Name (Str.ofString "repr") _) [_] _ _) _); refine' pe_callB (call_reprK (by assumption) (by exact rfl) (by assumption) (Room.units (by assumption))) (by rfl) (by assumption) (by decide +kernel) ?ka; (case ka => wtm_at "fo a"))
  | (refine' pe_cal (by assumption) (by assumption) (by decide) (by rfl) ?ka; (case ka => wtm_at "fo a"))
  | fail "no")
local macro_rules | `(tactic| wtm_at "fo setlc") => `(tactic| first
  | (refine' ps_setLcO (i := 0) (by assumption) (by exact rfl) (by exact rfl) (by wtm_at "fo own") (by decide +kernel) rfl rfl rfl (sw_true rfl rfl rfl (by decide +kernel)) ?ki ?kg ?kt ?ke; (case ki => wtm_at "fo i"); (case kg => (intro _ _ _ _ _; wtm_at "fo g")); (case kt => (intro _ _ _ _ _; wtm_at "fo ts")); (case ke => (intro _ _ _ _ _; wtm_at "fo e")))
  | (refine' ps_setLcO (i := 1) (by assumption) (by exact rfl) (by exact rfl) (by wtm_at "fo own") (by decide +kernel) rfl rfl rfl (sw_true rfl rfl rfl (by decide +kernel)) ?ki ?kg ?kt ?ke; (case ki => wtm_at "fo i"); (case kg => (intro _ _ _ _ _; wtm_at "fo g")); (case kt => (intro _ _ _ _ _; wtm_at "fo ts")); (case ke => (intro _ _ _ _ _; wtm_at "fo e")))
  | (refine' ps_setLcO (i := 2) (by assumption) (by exact rfl) (by exact rfl) (by wtm_at "fo own") (by decide +kernel) rfl rfl rfl (sw_true rfl rfl rfl (by decide +kernel)) ?ki ?kg ?kt ?ke; (case ki => wtm_at "fo i"); (case kg => (intro _ _ _ _ _; wtm_at "fo g")); (case kt => (intro _ _ _ _ _; wtm_at "fo ts")); (case ke => (intro _ _ _ _ _; wtm_at "fo e")))
  | (refine' ps_setLcO (i := 3) (by assumption) (by exact rfl) (by exact rfl) (by wtm_at "fo own") (by decide +kernel) rfl rfl rfl (sw_true rfl rfl rfl (by decide +kernel)) ?ki ?kg ?kt ?ke; (case ki => wtm_at "fo i"); (case kg => (intro _ _ _ _ _; wtm_at "fo g")); (case kt => (intro _ _ _ _ _; wtm_at "fo ts")); (case ke => (intro _ _ _ _ _; wtm_at "fo e")))
  | (refine' ps_setLcO (i := 4) (by assumption) (by exact rfl) (by exact rfl) (by wtm_at "fo own") (by decide +kernel) rfl rfl rfl (sw_true rfl rfl rfl (by decide +kernel)) ?ki ?kg ?kt ?ke; (case ki => wtm_at "fo i"); (case kg => (intro _ _ _ _ _; wtm_at "fo g")); (case kt => (intro _ _ _ _ _; wtm_at "fo ts")); (case ke => (intro _ _ _ _ _; wtm_at "fo e")))
  | (refine' ps_setLcO (i := 5) (by assumption) (by exact rfl) (by exact rfl) (by wtm_at "fo own") (by decide +kernel) rfl rfl rfl (sw_true rfl rfl rfl (by decide +kernel)) ?ki ?kg ?kt ?ke; (case ki => wtm_at "fo i"); (case kg => (intro _ _ _ _ _; wtm_at "fo g")); (case kt => (intro _ _ _ _ _; wtm_at "fo ts")); (case ke => (intro _ _ _ _ _; wtm_at "fo e")))
  | (refine' ps_setLcO (i := 6) (by assumption) (by exact rfl) (by exact rfl) (by wtm_at "fo own") (by decide +kernel) rfl rfl rfl (sw_true rfl rfl rfl (by decide +kernel)) ?ki ?kg ?kt ?ke; (case ki => wtm_at "fo i"); (case kg => (intro _ _ _ _ _; wtm_at "fo g")); (case kt => (intro _ _ _ _ _; wtm_at "fo ts")); (case ke => (intro _ _ _ _ _; wtm_at "fo e")))
  | (refine' ps_setLcO (i := 7) (by assumption) (by exact rfl) (by exact rfl) (by wtm_at "fo own") (by decide +kernel) rfl rfl rfl (sw_true rfl rfl rfl (by decide +kernel)) ?ki ?kg ?kt ?ke; (case ki => wtm_at "fo i"); (case kg => (intro _ _ _ _ _; wtm_at "fo g")); (case kt => (intro _ _ _ _ _; wtm_at "fo ts")); (case ke => (intro _ _ _ _ _; wtm_at "fo e")))
  | (refine' ps_setLcO (i := 8) (by assumption) (by exact rfl) (by exact rfl) (by wtm_at "fo own") (by decide +kernel) rfl rfl rfl (sw_true rfl rfl rfl (by decide +kernel)) ?ki ?kg ?kt ?ke; (case ki => wtm_at "fo i"); (case kg => (intro _ _ _ _ _; wtm_at "fo g")); (case kt => (intro _ _ _ _ _; wtm_at "fo ts")); (case ke => (intro _ _ _ _ _; wtm_at "fo e")))
  | (refine' ps_setLcO (i := 9) (by assumption) (by exact rfl) (by exact rfl) (by wtm_at "fo own") (by decide +kernel) rfl rfl rfl (sw_true rfl rfl rfl (by decide +kernel)) ?ki ?kg ?kt ?ke; (case ki => wtm_at "fo i"); (case kg => (intro _ _ _ _ _; wtm_at "fo g")); (case kt => (intro _ _ _ _ _; wtm_at "fo ts")); (case ke => (intro _ _ _ _ _; wtm_at "fo e")))
  | (refine' ps_setLcO (i := 10) (by assumption) (by exact rfl) (by exact rfl) (by wtm_at "fo own") (by decide +kernel) rfl rfl rfl (sw_true rfl rfl rfl (by decide +kernel)) ?ki ?kg ?kt ?ke; (case ki => wtm_at "fo i"); (case kg => (intro _ _ _ _ _; wtm_at "fo g")); (case kt => (intro _ _ _ _ _; wtm_at "fo ts")); (case ke => (intro _ _ _ _ _; wtm_at "fo e")))
  | (refine' ps_setLcO (i := 11) (by assumption) (by exact rfl) (by exact rfl) (by wtm_at "fo own") (by decide +kernel) rfl rfl rfl (sw_true rfl rfl rfl (by decide +kernel)) ?ki ?kg ?kt ?ke; (case ki => wtm_at "fo i"); (case kg => (intro _ _ _ _ _; wtm_at "fo g")); (case kt => (intro _ _ _ _ _; wtm_at "fo ts")); (case ke => (intro _ _ _ _ _; wtm_at "fo e")))
  | (refine' ps_setLcO (i := 12) (by assumption) (by exact rfl) (by exact rfl) (by wtm_at "fo own") (by decide +kernel) rfl rfl rfl (sw_true rfl rfl rfl (by decide +kernel)) ?ki ?kg ?kt ?ke; (case ki => wtm_at "fo i"); (case kg => (intro _ _ _ _ _; wtm_at "fo g")); (case kt => (intro _ _ _ _ _; wtm_at "fo ts")); (case ke => (intro _ _ _ _ _; wtm_at "fo e")))
  | (refine' ps_setLcO (i := 13) (by assumption) (by exact rfl) (by exact rfl) (by wtm_at "fo own") (by decide +kernel) rfl rfl rfl (sw_true rfl rfl rfl (by decide +kernel)) ?ki ?kg ?kt ?ke; (case ki => wtm_at "fo i"); (case kg => (intro _ _ _ _ _; wtm_at "fo g")); (case kt => (intro _ _ _ _ _; wtm_at "fo ts")); (case ke => (intro _ _ _ _ _; wtm_at "fo e")))
  | (refine' ps_setLcO (i := 14) (by assumption) (by exact rfl) (by exact rfl) (by wtm_at "fo own") (by decide +kernel) rfl rfl rfl (sw_true rfl rfl rfl (by decide +kernel)) ?ki ?kg ?kt ?ke; (case ki => wtm_at "fo i"); (case kg => (intro _ _ _ _ _; wtm_at "fo g")); (case kt => (intro _ _ _ _ _; wtm_at "fo ts")); (case ke => (intro _ _ _ _ _; wtm_at "fo e")))
  | (refine' ps_setLcO (i := 15) (by assumption) (by exact rfl) (by exact rfl) (by wtm_at "fo own") (by decide +kernel) rfl rfl rfl (sw_true rfl rfl rfl (by decide +kernel)) ?ki ?kg ?kt ?ke; (case ki => wtm_at "fo i"); (case kg => (intro _ _ _ _ _; wtm_at "fo g")); (case kt => (intro _ _ _ _ _; wtm_at "fo ts")); (case ke => (intro _ _ _ _ _; wtm_at "fo e")))
  | fail "no")
local macro_rules | `(tactic| wtm_at "fo set") => `(tactic| first
  | (refine' ps_set (i := 0) (by assumption) rfl (by first | exact Or.inl rfl | exact Or.inr rfl) ?ka; (case ka => wtm_at "fo e"))
  | (refine' ps_set (i := 1) (by assumption) rfl (by first | exact Or.inl rfl | exact Or.inr rfl) ?ka; (case ka => wtm_at "fo e"))
  | (refine' ps_set (i := 2) (by assumption) rfl (by first | exact Or.inl rfl | exact Or.inr rfl) ?ka; (case ka => wtm_at "fo e"))
  | (refine' ps_set (i := 3) (by assumption) rfl (by first | exact Or.inl rfl | exact Or.inr rfl) ?ka; (case ka => wtm_at "fo e"))
  | (refine' ps_set (i := 4) (by assumption) rfl (by first | exact Or.inl rfl | exact Or.inr rfl) ?ka; (case ka => wtm_at "fo e"))
  | (refine' ps_set (i := 5) (by assumption) rfl (by first | exact Or.inl rfl | exact Or.inr rfl) ?ka; (case ka => wtm_at "fo e"))
  | (refine' ps_set (i := 6) (by assumption) rfl (by first | exact Or.inl rfl | exact Or.inr rfl) ?ka; (case ka => wtm_at "fo e"))
  | (refine' ps_set (i := 7) (by assumption) rfl (by first | exact Or.inl rfl | exact Or.inr rfl) ?ka; (case ka => wtm_at "fo e"))
  | (refine' ps_set (i := 8) (by assumption) rfl (by first | exact Or.inl rfl | exact Or.inr rfl) ?ka; (case ka => wtm_at "fo e"))
  | (refine' ps_set (i := 9) (by assumption) rfl (by first | exact Or.inl rfl | exact Or.inr rfl) ?ka; (case ka => wtm_at "fo e"))
  | (refine' ps_set (i := 10) (by assumption) rfl (by first | exact Or.inl rfl | exact Or.inr rfl) ?ka; (case ka => wtm_at "fo e"))
  | (refine' ps_set (i := 11) (by assumption) rfl (by first | exact Or.inl rfl | exact Or.inr rfl) ?ka; (case ka => wtm_at "fo e"))
  | (refine' ps_set (i := 12) (by assumption) rfl (by first | exact Or.inl rfl | exact Or.inr rfl) ?ka; (case ka => wtm_at "fo e"))
  | (refine' ps_set (i := 13) (by assumption) rfl (by first | exact Or.inl rfl | exact Or.inr rfl) ?ka; (case ka => wtm_at "fo e"))
  | fail "no")
local macro_rules | `(tactic| wtm_at "fo t") => `(tactic| first
  | ((with_reducible show PT _ (.BoolOp _ _ _) _); apply PW.pt; wtm_at "fo w")
  | ((with_reducible show PT _ (.UnaryOp .Not _ _) _); apply pt_not; wtm_at "fo t")
  | ((with_reducible show PT _ (.Compare _ _ _ _) _); wtm_at "fo tcmp")
  | (refine' pt_truthK (by assumption) (by exact rfl) ?ka (by intro _; rfl); (case ka => wtm_at "fo e"))
  | fail "no")
local macro_rules | `(tactic| wtm_at "fo gn") => `(tactic| first
  | exact pg_name (i := 0) (by assumption) rfl (by first | exact Or.inl rfl | exact Or.inr rfl)
  | exact pg_name (i := 1) (by assumption) rfl (by first | exact Or.inl rfl | exact Or.inr rfl)
  | exact pg_name (i := 2) (by assumption) rfl (by first | exact Or.inl rfl | exact Or.inr rfl)
  | exact pg_name (i := 3) (by assumption) rfl (by first | exact Or.inl rfl | exact Or.inr rfl)
  | exact pg_name (i := 4) (by assumption) rfl (by first | exact Or.inl rfl | exact Or.inr rfl)
  | exact pg_name (i := 5) (by assumption) rfl (by first | exact Or.inl rfl | exact Or.inr rfl)
  | exact pg_name (i := 6) (by assumption) rfl (by first | exact Or.inl rfl | exact Or.inr rfl)
  | exact pg_name (i := 7) (by assumption) rfl (by first | exact Or.inl rfl | exact Or.inr rfl)
  | exact pg_name (i := 8) (by assumption) rfl (by first | exact Or.inl rfl | exact Or.inr rfl)
  | exact pg_name (i := 9) (by assumption) rfl (by first | exact Or.inl rfl | exact Or.inr rfl)
  | exact pg_name (i := 10) (by assumption) rfl (by first | exact Or.inl rfl | exact Or.inr rfl)
  | exact pg_name (i := 11) (by assumption) rfl (by first | exact Or.inl rfl | exact Or.inr rfl)
  | exact pg_name (i := 12) (by assumption) rfl (by first | exact Or.inl rfl | exact Or.inr rfl)
  | exact pg_name (i := 13) (by assumption) rfl (by first | exact Or.inl rfl | exact Or.inr rfl)
  | exact pg_name (i := 14) (by assumption) rfl (by first | exact Or.inl rfl | exact Or.inr rfl)
  | exact pg_name (i := 15) (by assumption) rfl (by first | exact Or.inl rfl | exact Or.inr rfl)
  | fail "no")
local macro_rules | `(tactic| wtm_at "fo par") => `(tactic| first
  | (refine' ps_par (i := 0) (j := 1) rfl (by assumption) rfl rfl (by decide) rfl rfl ?ka (by rfl); (case ka => wtm_at "fo a"))
  | (refine' ps_par (i := 1) (j := 2) rfl (by assumption) rfl rfl (by decide) rfl rfl ?ka (by rfl); (case ka => wtm_at "fo a"))
  | (refine' ps_par (i := 2) (j := 3) rfl (by assumption) rfl rfl (by decide) rfl rfl ?ka (by rfl); (case ka => wtm_at "fo a"))
  | (refine' ps_par (i := 3) (j := 4) rfl (by assumption) rfl rfl (by decide) rfl rfl ?ka (by rfl); (case ka => wtm_at "fo a"))
  | (refine' ps_par (i := 4) (j := 5) rfl (by assumption) rfl rfl (by decide) rfl rfl ?ka (by rfl); (case ka => wtm_at "fo a"))
  | (refine' ps_par (i := 5) (j := 6) rfl (by assumption) rfl rfl (by decide) rfl rfl ?ka (by rfl); (case ka => wtm_at "fo a"))
  | (refine' ps_par (i := 6) (j := 7) rfl (by assumption) rfl rfl (by decide) rfl rfl ?ka (by rfl); (case ka => wtm_at "fo a"))
  | (refine' ps_par (i := 7) (j := 8) rfl (by assumption) rfl rfl (by decide) rfl rfl ?ka (by rfl); (case ka => wtm_at "fo a"))
  | (refine' ps_par (i := 8) (j := 9) rfl (by assumption) rfl rfl (by decide) rfl rfl ?ka (by rfl); (case ka => wtm_at "fo a"))
  | (refine' ps_par (i := 9) (j := 10) rfl (by assumption) rfl rfl (by decide) rfl rfl ?ka (by rfl); (case ka => wtm_at "fo a"))
  | (refine' ps_par (i := 10) (j := 11) rfl (by assumption) rfl rfl (by decide) rfl rfl ?ka (by rfl); (case ka => wtm_at "fo a"))
  | (refine' ps_par (i := 11) (j := 12) rfl (by assumption) rfl rfl (by decide) rfl rfl ?ka (by rfl); (case ka => wtm_at "fo a"))
  | (refine' ps_par (i := 12) (j := 13) rfl (by assumption) rfl rfl (by decide) rfl rfl ?ka (by rfl); (case ka => wtm_at "fo a"))
  | (refine' ps_par (i := 13) (j := 14) rfl (by assumption) rfl rfl (by decide) rfl rfl ?ka (by rfl); (case ka => wtm_at "fo a"))
  | (refine' ps_par (i := 14) (j := 15) rfl (by assumption) rfl rfl (by decide) rfl rfl ?ka (by rfl); (case ka => wtm_at "fo a"))
  | fail "no")
local macro_rules | `(tactic| wtm_at "fo g") => `(tactic| first
  | ((with_reducible show PG _ (.Name _ _) _); wtm_at "fo gn")
  | ((with_reducible show PG _ (.Tuple _ _ _) _); apply PG_or; (· refine' pg_tup2 (by assumption) (by exact rfl) rfl ?kg; (case kg => wtm_at "fo gs")); (· refine' pg_unl2 (by assumption) (by exact rfl) rfl ?kg; (case kg => wtm_at "fo gs")))
  | fail "no")
local macro_rules | `(tactic| wtm_at "fo gs") => `(tactic| first
  | exact pgs_nil
  | (refine' pgs_cons ?k1 ?k2; (case k1 => wtm_at "fo g"); (case k2 => wtm_at "fo gs"))
  | fail "no")
local macro_rules | `(tactic| wtm_at "fo i") => `(tactic| first
  | ((with_reducible show PI _ _ (.Call (.Name (Str.ofString "range") _) [_] _ _) _); refine' pi_range1 (by rfl) (by assumption) ?ka; (case ka => wtm_at "fo a"))
  | ((with_reducible show PI _ _ (.Call (.Name (Str.ofString "range") _) [_, _] _ _) _); refine' pi_range2 (by rfl) (by assumption) ?ka; (case ka => wtm_at "fo a"))
  | ((with_reducible show PI _ _ (.Call (.Name (Str.ofString "enumerate") _) [_] _ _) _); refine' pi_enum (by rfl) (by assumption) ?ka; (case ka => wtm_at "fo a"))
  | (refine' pi_listK (by assumption) (by exact rfl) ?ka; (case ka => wtm_at "fo e"))
  | fail "no")
local macro_rules | `(tactic| wtm_at "fo s") => `(tactic| first
  | ((with_reducible show PS _ (.While _ _ _ _) _); refine' ps_while PassesOwn.never ?kt ?kb; (case kt => wtm_at "fo t"); (case kb => wtm_at "fo ss"))
  | ((with_reducible show PS _ (.For _ _ _ _ _) _); refine' ps_for PassesOwn.never rfl ?ki ?kg ?kb; (case ki => wtm_at "fo i"); (case kg => wtm_at "fo g"); (case kb => wtm_at "fo ss"))
  | ((with_reducible show PS _ (.Assign [.Name _ _] (.ListComp _ [_] _ _) _) _); wtm_at "fo setlc")
  | ((with_reducible show PS _ (.Assign [.Name _ _] _ _) _); wtm_at "fo set")
  | ((with_reducible show PS _ (.Assign [.Tuple [.Name _ _, .Name _ _] _ _] (.Tuple [_, _] _ _) _) _); wtm_at "fo par")
  | ((with_reducible show PS _ (.Assign [.Subscript _ _ _] _ _) _); refine' ps_asg ?ka (pg_sub ?kb ?kc set_list); (case ka => wtm_at "fo e"); (case kb => wtm_at "fo e"); (case kc => wtm_at "fo e"))
  | ((with_reducible show PS _ (.Return (some _) _) _); apply ps_ret; wtm_at "fo e")
  | ((with_reducible show PS _ (.Expr _ _) _); refine' ps_expr ?ka; (case ka => wtm_at "fo e"))
  | ((with_reducible show PS _ (.If _ _ _ _) _); apply ps_if; (· wtm_at "fo t"); (· wtm_at "fo ss"); (· wtm_at "fo ss"))
  | fail "no")
local macro_rules | `(tactic| wtm_at "fo ss") => `(tactic| first
  | with_reducible exact pss_nil
  | ((with_reducible show PSs _ [_] _); apply pss_one; wtm_at "fo s")
  | (apply pss_cons; (· wtm_at "fo s"); (· wtm_at "fo ss"))
  | fail "no")
local macro_rules | `(tactic| wtm_at "fo hp") => `(tactic| first
  | assumption
  | exact upd_same
  | (refine (upd_ne ?ne).trans ?hp; (case ne => wtm_at "fo ne"); (case hp => wtm_at "fo hp"))
  | fail "no")
local macro_rules | `(tactic| wtm_at "fo ne") => `(tactic| first
  | assumption
  | (apply Ne.symm; assumption)
  | exact ne_of_none (by assumption) (by assumption)
  | exact Ne.symm (ne_of_none (by assumption) (by assumption))
  | fail "no")
local macro_rules | `(tactic| wtm_at "fo sz") => `(tactic| first
  | exact (Nat.le_of_ble_eq_true rfl : _ ≤ sizeLine)
  | exact (Nat.le_of_ble_eq_true rfl : _ < sizeLine)
  | exact Nat.lt_of_le_of_lt (m := 100000) (by first | assumption | omega | (simp; omega)) (by decide)
  | exact Nat.le_trans (m := 100000) (by first | assumption | omega | (simp; omega)) (by decide)
  | fail "no")
local macro_rules | `(tactic| wtm_at "fo r1") => `(tactic| first
  | refine ⟨(Nat.le_of_ble_eq_true rfl : _ ≤ sizeLine), fun p np => ?_⟩
  | (refine' ⟨_, _, rfl, Or.inl (SqL.of ?h), ?_⟩; (case h => wtm_at "fo hp"))
  | refine ⟨_, rfl, ?_⟩
  | refine ⟨_, _, rfl, rfl, ?_⟩
  | refine ⟨_, _, rfl, ⟨by omega, by omega, by omega, by omega⟩, ?_⟩
  | refine ⟨_, rfl, by omega, by omega, ?_⟩
  | refine Or.inl ⟨_, rfl, ?_⟩
  | refine Or.inl ⟨rfl, ?_⟩
  | refine Or.inl ⟨_, _, rfl, rfl, ?_⟩
  | (refine' Or.inl ⟨_, _, _, _, rfl, rfl, SqL.of ?h, ?a, ?_⟩; (case h => wtm_at "fo hp"); (case a => rfl))
  | (refine' ⟨_, _, _, _, rfl, rfl, ?h, ?a, ?_⟩; (case h => wtm_at "fo hp"); (case a => rfl))
  | (refine' ⟨.inl ⟨rfl, _, SqL.of ?h⟩, ?_⟩; (case h => wtm_at "fo hp"))
  | (refine' ⟨_, _, _, rfl, rfl, ?h, ?z, ?_⟩; (case h => wtm_at "fo hp"); (case z => wtm_at "fo sz"))
  | (refine' ⟨_, rfl, ⟨_, SqL.of ?h⟩, ?_⟩; (case h => wtm_at "fo hp"))
  | fail "no")
local macro_rules | `(tactic| wtm_at "fo side") => `(tactic| ((try dsimp only [CMul, CDiv]); first
  | assumption
  | decide
  | omega
  | exact ⟨by decide, by decide⟩
  | exact ⟨by omega, by omega⟩
  | decide +kernel
  | fail "no"))
local macro_rules | `(tactic| wtm_at "fo r2") => `(tactic| first
  | wtm_at "fo r1"
  | refine And.intro (by wtm_at "fo side") ?_
  | fail "no")
local macro_rules | `(tactic| wtm_at "fo r") => `(tactic| repeat wtm_at "fo r2")
local macro_rules | `(tactic| wtm_at "fo v") => `(tactic| first
  | ((with_reducible show PE _ (.Name (Str.ofString "int") _) _); exact pe_bltn (v := .ty "int") (by rfl) (by assumption) (by decide +kernel) rfl)
  | ((with_reducible show PE _ (.Name (Str.ofString "list") _) _); exact pe_bltn (v := .ty "list") (by rfl) (by assumption) (by decide +kernel) rfl)
  | ((with_reducible show PE _ (.Name (Str.ofString "MOST_PLACES") _) _); exact pe_glob (v := .int 12) (by rfl) (by assumption) ⟨_, rfl⟩)
  | fail "no")
local macro_rules | `(tactic| wtm_at "fo e") => `(tactic| first
  | ((with_reducible show PE _ (.BoolOp .And [_] _) _); apply pe_one; wtm_at "fo e")
  | ((with_reducible show PE _ (.BoolOp .And _ _) _); apply pe_and; (· wtm_at "fo e"); (· wtm_at "fo e"))
  | ((with_reducible show PE _ (.Compare _ [.IsNot] [.Constant (.bool true) _ _] _) _); refine' pe_cmpR op_notT ?ka ?kb (nomark _); (case ka => wtm_at "fo e"); (case kb => wtm_at "fo e"))
  | ((with_reducible show PE _ (.Compare _ [.LtE, .LtE] _ _) _); refine' pe_chain op_le op_le ?ka ?kb ?kc; (case ka => wtm_at "fo e"); (case kb => wtm_at "fo e"); (case kc => wtm_at "fo e"))
  | ((with_reducible show PE _ (.Call (.Name (Str.ofString "isinstance") _) _ _ _) _); refine' pe_callB (call_isiK' (by assumption) (by exact rfl)) (by rfl) (by assumption) (by decide +kernel) ?ka; (case ka => wtm_at "fo a"))
  | ((with_reducible show PE _ (.Call (.Attribute _ (Str.ofString "bit_length") _) [] [] _) _); refine' pe_bits ?ka; (case ka => wtm_at "fo e"))
  | fail "no")
local macro_rules | `(tactic| wtm_at "fo t") => `(tactic| first
  | ((with_reducible show PT _ (.Compare _ [.IsNot] [.Constant (.bool true) _ _] _) _); refine' pt_cmpR op_notT ?ka ?kb (nomark _); (case ka => wtm_at "fo e"); (case kb => wtm_at "fo e"))
  | ((with_reducible show PT _ (.Compare _ [.Lt, .Lt, .LtE] _ _) _); refine' pt_chain3 op_lt op_lt op_le ?ka ?kb ?kc ?kd; (case ka => wtm_at "fo e"); (case kb => wtm_at "fo e"); (case kc => wtm_at "fo e"); (case kd => wtm_at "fo e"))
  | fail "no")
local macro_rules | `(tactic| wtm_at "fo s") => `(tactic| first
  | ((with_reducible show PS _ (.Raise _ _ _) _); exact ps_never)
  | ((with_reducible show PS _ (.Continue _) _); exact ps_continue)
  | ((with_reducible show PS _ (.AugAssign (.Subscript _ _ _) .BitOr _ _) _); refine' ps_augS ?ka ?kb get_list ?kc ip_or set_list; (case ka => wtm_at "fo e"); (case kb => wtm_at "fo e"); (case kc => wtm_at "fo e"))
  | ((with_reducible show PS _ (.Assign [.Tuple _ _ _] (.Name _ _) _) _); refine' ps_asg ?ka ?kb; (case ka => wtm_at "fo e"); (case kb => wtm_at "fo g"))
  | fail "no")
local macro_rules | `(tactic| wtm_at "fo lc") => `(tactic| (refine' pe_lcN (by assumption) (by exact rfl) (by exact rfl) (by wtm_at "fo own") (by kernel_rfl!) rfl ?ki ?kg ?kt ?ke; (case ki => wtm_at "fo i"); (case kg => (intro _ _ _ _ _; wtm_at "fo g")); (case kt => (intro _ _ _ _ _; wtm_at "fo ts")); (case ke => (intro _ _ _ _ _; wtm_at "fo e"))))
local macro_rules | `(tactic| wtm_at "fo s") => `(tactic| ((with_reducible show PS _ (.Assign [.Tuple _ _ _] (.Call _ _ _ _) _) _); refine' ps_asg ?ka ?kb; (case ka => wtm_at "fo e"); (case kb => wtm_at "fo g")))
local macro_rules | `(tactic| wtm_at "fo cmp") => `(tactic| ((with_reducible show PE _ (.Compare _ [.In] _ _) _); refine' pe_cmpR (op_inK (by assumption) (by exact rfl)) ?ka ?kb rfl; (case ka => wtm_at "fo e"); (case kb => wtm_at "fo e")))
local macro_rules | `(tactic| wtm_at "fo call") => `(tactic| ((with_reducible show PE _ (.Call (.Name (Str.ofString "list") _) [.Call (.Name (Str.ofString "range") _) [_] _ _] _ _) _); refine' pe_listRg rfl (by rfl) (by assumption) (prg_1 (by rfl) (by assumption) ?ka); (case ka => wtm_at "fo e")))
local macro_rules | `(tactic| wtm_at "fo call") => `(tactic| ((with_reducible show PE _ (.Call (.Name (Str.ofString "min") _) [_] _ _) _); refine' pe_callB (call_minK (by assumption) (by exact rfl) rfl) (by rfl) (by assumption) (by decide +kernel) ?ka; (case ka => wtm_at "fo a")))
local macro_rules | `(tactic| wtm_at "fo i") => `(tactic| ((with_reducible show PI _ _ (.Call (.Name (Str.ofString "reversed") _) [_] _ _) _); refine' pi_reversed (by rfl) (by assumption) ?ka; (case ka => wtm_at "fo a")))
local macro_rules | `(tactic| wtm_at "fo s") => `(tactic| ((with_reducible show PS _ (.AugAssign (.Name _ _) .BitXor _ _) _); first | (refine' ps_aug (i := 2) (by assumption) rfl (by first | exact Or.inl rfl | exact Or.inr rfl) ?ka ip_xor; (case ka => wtm_at "fo e")) | fail "no"))
local macro_rules | `(tactic| wtm_at "fo call") => `(tactic| (refine' pe_calG (by assumption) (by assumption) (by decide) (by assumption) (by rfl) ?ka; (case ka => wtm_at "fo a")))
local macro_rules | `(tactic| wtm_at "fo meth") => `(tactic| ((with_reducible show PE _ (.Call (.Attribute _ (Str.ofString "count") _) _ _ _) _); refine' pe_cntK (by assumption) (by exact rfl) ?ka ?kb; (case ka => wtm_at "fo e"); (case kb => wtm_at "fo a")))
local macro_rules | `(tactic| wtm_at "fo call") => `(tactic| ((with_reducible show PE _ (.Call (.Name (Str.ofString "sorted") _) [_] _ _) _); refine' pe_callB (cr_sortedB (by assumption) (by exact rfl) (Room.units (by assumption))) (by rfl) (by assumption) (by decide +kernel) ?ka; (case ka => wtm_at "fo a")))
local macro_rules | `(tactic| wtm_at "fo v") => `(tactic| first
  | exact pv 16
  | exact pv 17
  | exact pv 18
  | exact pv 19
  | fail "no")
local macro_rules | `(tactic| wtm_at "fo own") => `(tactic| first
  | ((show _ = [16]); kernel_rfl!)
  | ((show _ = [17]); kernel_rfl!)
  | ((show _ = [18]); kernel_rfl!)
  | ((show _ = [19]); kernel_rfl!)
  | ((show _ = [15, 16]); kernel_rfl!)
  | ((show _ = [16, 17]); kernel_rfl!)
  | ((show _ = [17, 18]); kernel_rfl!)
  | ((show _ = [18, 19]); kernel_rfl!)
  | fail "no")
local macro_rules | `(tactic| wtm_at "fo set") => `(tactic| first
  | (refine' ps_set (i := 14) (by assumption) rfl (by first | exact Or.inl rfl | exact Or.inr rfl) ?ka; (case ka => wtm_at "fo e"))
  | (refine' ps_set (i := 15) (by assumption) rfl (by first | exact Or.inl rfl | exact Or.inr rfl) ?ka; (case ka => wtm_at "fo e"))
  | (refine' ps_set (i := 16) (by assumption) rfl (by first | exact Or.inl rfl | exact Or.inr rfl) ?ka; (case ka => wtm_at "fo e"))
  | (refine' ps_set (i := 17) (by assumption) rfl (by first | exact Or.inl rfl | exact Or.inr rfl) ?ka; (case ka => wtm_at "fo e"))
  | (refine' ps_set (i := 18) (by assumption) rfl (by first | exact Or.inl rfl | exact Or.inr rfl) ?ka; (case ka => wtm_at "fo e"))
  | (refine' ps_set (i := 19) (by assumption) rfl (by first | exact Or.inl rfl | exact Or.inr rfl) ?ka; (case ka => wtm_at "fo e"))
  | fail "no")
local macro_rules | `(tactic| wtm_at "fo setlc") => `(tactic| first
  | (refine' ps_setLcO (i := 16) (by assumption) (by exact rfl) (by exact rfl) (by wtm_at "fo own") (by decide +kernel) rfl rfl rfl (sw_true rfl rfl rfl (by decide +kernel)) ?ki ?kg ?kt ?ke; (case ki => wtm_at "fo i"); (case kg => (intro _ _ _ _ _; wtm_at "fo g")); (case kt => (intro _ _ _ _ _; wtm_at "fo ts")); (case ke => (intro _ _ _ _ _; wtm_at "fo e")))
  | (refine' ps_setLcO (i := 17) (by assumption) (by exact rfl) (by exact rfl) (by wtm_at "fo own") (by decide +kernel) rfl rfl rfl (sw_true rfl rfl rfl (by decide +kernel)) ?ki ?kg ?kt ?ke; (case ki => wtm_at "fo i"); (case kg => (intro _ _ _ _ _; wtm_at "fo g")); (case kt => (intro _ _ _ _ _; wtm_at "fo ts")); (case ke => (intro _ _ _ _ _; wtm_at "fo e")))
  | (refine' ps_setLcO (i := 18) (by assumption) (by exact rfl) (by exact rfl) (by wtm_at "fo own") (by decide +kernel) rfl rfl rfl (sw_true rfl rfl rfl (by decide +kernel)) ?ki ?kg ?kt ?ke; (case ki => wtm_at "fo i"); (case kg => (intro _ _ _ _ _; wtm_at "fo g")); (case kt => (intro _ _ _ _ _; wtm_at "fo ts")); (case ke => (intro _ _ _ _ _; wtm_at "fo e")))
  | (refine' ps_setLcO (i := 19) (by assumption) (by exact rfl) (by exact rfl) (by wtm_at "fo own") (by decide +kernel) rfl rfl rfl (sw_true rfl rfl rfl (by decide +kernel)) ?ki ?kg ?kt ?ke; (case ki => wtm_at "fo i"); (case kg => (intro _ _ _ _ _; wtm_at "fo g")); (case kt => (intro _ _ _ _ _; wtm_at "fo ts")); (case ke => (intro _ _ _ _ _; wtm_at "fo e")))
  | fail "no")
local macro_rules | `(tactic| wtm_at "fo gn") => `(tactic| first
  | exact pg_name (i := 16) (by assumption) rfl (by first | exact Or.inl rfl | exact Or.inr rfl)
  | exact pg_name (i := 17) (by assumption) rfl (by first | exact Or.inl rfl | exact Or.inr rfl)
  | exact pg_name (i := 18) (by assumption) rfl (by first | exact Or.inl rfl | exact Or.inr rfl)
  | exact pg_name (i := 19) (by assumption) rfl (by first | exact Or.inl rfl | exact Or.inr rfl)
  | fail "no")
local macro_rules | `(tactic| wtm_at "fo s") => `(tactic| ((with_reducible show PS _ (.Assign [.Tuple _ _ _] (.Tuple _ _ _) _) _); refine' ps_asg ?ka ?kb; (case ka => wtm_at "fo e"); (case kb => wtm_at "fo g")))
local macro_rules | `(tactic| wtm_at "fo e") => `(tactic| first
  | ((with_reducible show PE _ (.UnaryOp .Invert _ _) _); apply pe_un un_inv; wtm_at "fo e")
  | ((with_reducible show PE _ (.BoolOp .Or [_] _) _); apply pe_one; wtm_at "fo e")
  | ((with_reducible show PE _ (.BoolOp .Or _ _) _); apply pe_or; (· wtm_at "fo e"); (· wtm_at "fo e"))
  | ((with_reducible show PE _ (.BinOp _ .Mult _ _) _); apply pe_op opMulB <;> wtm_at "fo e")
  | ((with_reducible show PE _ (.BinOp _ .BitOr _ _) _); apply pe_op op_or <;> wtm_at "fo e")
  | ((with_reducible show PE _ (.Compare _ [.Is] [.Constant .none _ _] _) _); refine' pe_cmpR op_isN ?ka ?kb (nomark _); (case ka => wtm_at "fo e"); (case kb => wtm_at "fo e"))
  | fail "no")
local macro_rules | `(tactic| wtm_at "fo t") => `(tactic| first
  | ((with_reducible show PT _ (.Compare _ [.Is] [.Constant .none _ _] _) _); refine' pt_cmpR op_isN ?ka ?kb (nomark _); (case ka => wtm_at "fo e"); (case kb => wtm_at "fo e"))
  | ((with_reducible show PT _ (.Compare _ [.IsNot] [.Constant .none _ _] _) _); refine' pt_cmpR op_notN ?ka ?kb (nomark _); (case ka => wtm_at "fo e"); (case kb => wtm_at "fo e"))
  | fail "no")
local macro_rules | `(tactic| wtm_at "fo i") => `(tactic| first
  | ((with_reducible show PI _ _ (.Call (.Name (Str.ofString "enumerate") _) [_, _] [] _) _); refine' pi_enumC (by assumption) (by exact rfl) (by rfl) (by assumption) ?ka; (case ka => wtm_at "fo a"))
  | ((with_reducible show PI _ _ (.Call (.Name (Str.ofString "enumerate") _) [_] [_] _) _); refine' pi_enumS (by assumption) (by exact rfl) (by rfl) (by assumption) ?ka ?kb; (case ka => wtm_at "fo a"); (case kb => wtm_at "fo k"))
  | fail "no")
local macro_rules | `(tactic| wtm_at "fo own") => `(tactic| first
  | ((show _ = [2, 4]); kernel_rfl!)
  | ((show _ = [4, 2]); kernel_rfl!)
  | fail "no")
local macro_rules | `(tactic| wtm_at "fo v") => `(tactic| ((with_reducible show PE _ (.Name (Str.ofString "tuple") _) _); exact pe_bltn (v := .ty "tuple") (by rfl) (by assumption) (by decide +kernel) rfl))
local macro_rules | `(tactic| wtm_at "fo slice") => `(tactic| ((with_reducible show PE _ (.Subscript _ (.Slice none none (some _) _) _) _); refine' pe_stepK2 (by assumption) (by exact rfl) ?ka ?kb; (case ka => wtm_at "fo e"); (case kb => wtm_at "fo e")))
local macro_rules | `(tactic| wtm_at "fo i") => `(tactic| ((with_reducible show PI _ _ (.Name (Str.ofString "_law_marks") _) _); refine' pi_keys ?ka; (case ka => wtm_at "fo e")))
local macro_rules | `(tactic| wtm_at "fo s") => `(tactic| ((with_reducible show PS _ (.For _ (.Name (Str.ofString "_law_marks") _) _ _ _) _); refine' ps_lock (ps_for PassesOwn.never rfl ?ki ?kg ?kb); (case ki => wtm_at "fo i"); (case kg => wtm_at "fo g"); (case kb => wtm_at "fo ss")))
local macro_rules | `(tactic| wtm_at "fo s") => `(tactic| ((with_reducible show PS _ (.Assign [.Subscript (.Name (Str.ofString "_law_there") _) _ _] _ _) _); refine' ps_dput (hu_of (by assumption)) ?ka ?kb ?kc (by rfl); (case ka => wtm_at "fo e"); (case kb => wtm_at "fo e"); (case kc => wtm_at "fo e")))
local macro_rules | `(tactic| wtm_at "fo e") => `(tactic| ((with_reducible show PE _ (.Subscript (.Name (Str.ofString "_law_marks") _) _ _) _); refine' pe_dget (u1 (Room.units (by assumption))) ?ka ?kb (fun _ _ => rfl); (case ka => wtm_at "fo e"); (case kb => wtm_at "fo e")))
local macro_rules | `(tactic| wtm_at "fo e") => `(tactic| ((with_reducible show PE _ (.Dict [] [] _) _); exact pe_dnewK))
local macro_rules | `(tactic| wtm_at "fo meth") => `(tactic| ((with_reducible show PE _ (.Call (.Attribute _ (Str.ofString "get") _) [_, _] [] _) _); refine' pe_dget2 (hu_of (by assumption)) ?ka ?kb ?kc ⟨by rfl, by rfl, by rfl, by rfl⟩; (case ka => wtm_at "fo e"); (case kb => wtm_at "fo e"); (case kc => wtm_at "fo e")))
local macro_rules | `(tactic| wtm_at "fo call") => `(tactic| ((with_reducible show PE _ (.Call (.Name (Str.ofString "list") _) [.Call (.Attribute _ (Str.ofString "values") _) [] [] _] [] _) _); refine' pe_listVals rfl (by rfl) (by assumption) ?ka; (case ka => wtm_at "fo e")))
local macro_rules | `(tactic| wtm_at "fo call") => `(tactic| ((with_reducible show PE _ (.Call (.Name (Str.ofString "len") _) [.Call (.Name (Str.ofString "set") _) _ _ _] _ _) _); refine' pe_lenSetL rfl (by rfl) (by assumption) (by rfl) (by assumption) ?ka; (case ka => wtm_at "fo e")))
local macro_rules | `(tactic| wtm_at "fo call") => `(tactic| ((with_reducible show PE _ (.Call (.Name (Str.ofString "len") _) [.Name (Str.ofString "_law_there") _] _ _) _); refine' pe_callB call_lenD (by rfl) (by assumption) PySem.boot_len ?ka; (case ka => wtm_at "fo a")))
variable {P : Program} {w : World} {K : PySem.W.Frag} {mg : Str → Option Value} {base : Heap}
/-! ### _law_crowd_right -/
@[irreducible] def spCrowd : Sp := fun vs H Q _ => ∃ (q kq : Addr) (n m : Nat) (es fs : List Edge), vs = [.int n, .ref q, .int m, .ref kq] ∧ 1 ≤ n ∧ n ≤ 5 ∧ Pairs H q es ∧ Simp n es ∧ es.length ≤ 200 ∧ 1 ≤ m ∧ m ≤ 4 ∧ Pairs H kq fs ∧ Simp m fs ∧ fs.length ≤ 200 ∧ Shrinks m fs ∧
  ∀ H', Same H H' → Q (.bl true) H'
theorem call_crowd {q kq : Addr} {n m : Nat} {es fs : List Edge} {H : Hp} {Q : VK} {E : XK} (a1 : 1 ≤ n) (a2 : n ≤ 5) (a3 : Pairs H q es) (a4 : Simp n es) (a5 : es.length ≤ 200) (b1 : 1 ≤ m) (b2 : m ≤ 4) (b3 : Pairs H kq fs) (b4 : Simp m fs) (b5 : fs.length ≤ 200) (c : Shrinks m fs)
    (fin : ∀ H', Same H H' → Q (.bl true) H') : spCrowd [.int n, .ref q, .int m, .ref kq] H Q E := by
  unfold spCrowd
  exact ⟨q, kq, n, m, es, fs, rfl, a1, a2, a3, a4, a5, b1, b2, b3, b4, b5, c, fin⟩
set_option maxHeartbeats 8000000 in
theorem ok_crowd {f : Addr} {fd : FuncData} (F : Fun K "_law_crowd_right" "_law_crowd_right" s_law_crowd_right f fd) (mr : mg "range" = none) (ml : mg "list" = none) (mn : mg "len" = none) (ms : mg "set" = none)
    (C : Cal P w K mg base "_law_lots" 3 ["_law_crowd", "_law_knots", "_law_spots", "_law_near_here"] spLots) (C2 : Cal P w K mg base "_law_near" 1 ["_law_size", "_law_sides"] spNear) (C3 : Cal P w K mg base "_law_hangs" 1 ["_law_size", "_law_sides"] spHangs) :
    FnOk P w K mg base CX0 4 f fd ["_law_size", "_law_sides", "_law_crowd", "_law_knots"] spCrowd := by
  refine F.ok sc_law_crowd_right (fun vs H Q E h => ?_) (fun cdv A outer s H vs Q E hr h => ?_)
  · unfold spCrowd at h
    obtain ⟨q, kq, n, m, es, fs, rfl, _⟩ := h
    rfl
  · have nd := sc_law_crowd_right.nd
    have hS := sc_law_crowd_right
    have hKM : KMark K := ⟨⟩
    refine' mk_body ?body ?rd
    case body =>
      show PSs _ [_, _, _, _, _] _
      wtm_at "fo ss"
    case rd =>
     unfold spCrowd at h
     obtain ⟨q, kq, n, m, es, fs, rfl, a1, a2, a3, a4, a5, b1, b2, b3, b4, b5, hsh, fin⟩ := h
     wtm_at "fo r"
     intro l nl
     rw [rgV_all]
     have sm1 : Same H (upd H l (.lst ((allM n).map V.int))) := same_upd (Same.refl _) nl
     have hl1 : (upd H l (.lst ((allM n).map V.int))) l = some (iL (allM n)) := upd_same
     generalize upd H l (.lst ((allM n).map V.int)) = H1 at *
     wtm_at "fo r"
     refine call_near (by omega) (a3.same sm1) a5 (fun e he => ?_) (fun p H2 sm2 np hL => ?_)
     · have := a4.rng e he
       exact ⟨this.1, this.2.1, this.2.2.1, this.2.2.2.1⟩
     have sm12 := sm1.trans sm2
     refine call_lots b1 b2 a2 (b3.same sm12) b4 b5 (sm2 _ _ hl1) (inNet_all n) a4 hL (fun d ts f H3 sm3 nd3 hd hnd hts htl hf => ?_)
     have sm13 := sm12.trans sm3
     wtm_at "fo r"
     refine call_hangs (by omega) (a3.same sm13) a4 a5 (fun t g H4 sm4 nt ht hg => ?_)
     have sm14 := sm13.trans sm4
     have hd4 := sm4 _ _ hd
     have key : ∀ x ∈ ts, ∀ y ∈ ts, (f x = f y ↔ g (plc x 1) = g (plc y 1)) := fun x hx y hy => by
       have hX := (hts x).mp hx
       have hY := (hts y).mp hy
       rw [hf x hx y hy, crowd_join a4 b4 b1 hsh hX hY]
       exact (hg _ _ (hX.at (by omega) (by omega)) (hY.at (by omega) (by omega))).symm
     have hgi : ∀ t ∈ ts, ∀ t' ∈ ts, f t' = f t → g (plc t' 1) = g (plc t 1) := fun t ht t' ht' e => (key t' ht' t ht).mp e
     wtm_at "fo r"
     intro L nL
     have sm5 : Same H4 (upd H4 L (.dK [])) := same_upd (Same.refl _) nL
     have hL5 : (upd H4 L (.dK [])) L = some (.dK (kvI [])) := upd_same
     have hd5 := sm5 _ _ hd4
     have hLd : L ≠ d := (ne_of_none hd4 nL).symm
     have ht5 := sm5 _ _ ht
     generalize upd H4 L (.dK []) = H5 at *
     have htd : t ≠ d := ne_of ht5 hd5 (by intro e; cases e)
     refine ⟨d, _, hd5, trivial, fun od => ?_⟩
     have sb6 : SameBut d H5 (upd H5 d (.frz od (.dT (kvT ts f)))) := fun b o hb e => by rw [upd_ne hb]; exact e
     have hd6 : (upd H5 d (.frz od (.dT (kvT ts f)))) d = some (.frz od (.dT (kvT ts f))) := upd_same
     generalize upd H5 d (.frz od (.dT (kvT ts f))) = H6 at *
     refine ⟨_, rfl, d, od, rfl, Or.inr ⟨kvT ts f, hd6, ?_⟩⟩
     refine for_it (walk_keysT (kvs := kvT ts f)) (fun j σ H7 => ∃ y7 ps, σ = [some (.int n), some (.ref q), some (.int m), some (.ref kq), some (.ref d), some (.ref t), some (.ref L), y7] ∧ SameBut d H4 H7 ∧ H7 d = some (.frz od (.dT (kvT ts f))) ∧ H7 L = some (.dK (kvI ps)) ∧ Thr f (fun x => g (plc x 1)) (ts.take j) ps) ?_ ?_ ?_ ?_
     · exact ⟨none, [], rfl, fun b o hb e => sb6 b o hb (sm5 _ _ e), hd6, sb6 _ _ hLd hL5, Thr.nil⟩
     · rintro j σ H7 _ ⟨y7, ps, rfl, sb7, hd7, _⟩
       exact hd7
     · rintro j x σ H7 H8 hjl ⟨y7, ps, rfl, sb7, hd7, hL7, hT7⟩ ⟨eH, k, v, q0, hkv, rfl, hq0⟩
       subst eH
       unfold kvT at hkv
       rw [List.getElem?_map] at hkv
       cases htj : ts[j]? with
       | none => rw [htj] at hkv; cases hkv
       | some x0 =>
       rw [htj] at hkv
       obtain ⟨rfl, rfl⟩ : k = keyT x0 ∧ v = V.int (f x0) := by
         have := Option.some.inj hkv
         exact ⟨(congrArg Prod.fst this).symm, (congrArg Prod.snd this).symm⟩
       have hx0 := List.mem_of_getElem? htj
       have hX := (hts x0).mp hx0
       have htk : ts.take (j + 1) = ts.take j ++ [x0] := by rw [List.take_add_one, htj]; rfl
       have hg1 : DGet H8 d (.ref q0) (some (.int (f x0))) := .inr ⟨kvT ts f, keyT x0, q0, .inr ⟨od, hd7⟩, rfl, hq0, (val_kvT hx0).symm⟩
       have hc : ∀ t' ∈ ts.take j, f t' = f x0 → g (plc t' 1) = g (plc x0 1) := fun t' h e => hgi x0 hx0 t' (List.mem_of_mem_take h) e
       have ht8 := sb7 _ _ htd ht
       rw [keyT_V] at hq0
       have hp0 : x0[0]? = some (plc x0 1) := plc_get (i := 1) (by omega) (by have := hX.len; omega)
       have hpr := allM_mem.mp (hX.at (i := 1) (by omega) (by omega))
       have hgl := mkL_get (g := g) (show (plc x0 1).toNat ≤ n by omega)
       rw [show (((plc x0 1).toNat : Nat) : Int) = plc x0 1 by omega] at hgl
       have hval : (valV (kvI ps) (Sum.inl (f x0))).getD (.int (g (plc x0 1))) = .int (g (plc x0 1)) := hT7.val hc
       obtain ⟨ps2, hput, hT8⟩ : ∃ ps', putK (kvI ps) (Sum.inl (f x0)) (.int (g (plc x0 1))) = kvI ps' ∧ Thr f (fun x => g (plc x 1)) (ts.take j ++ [x0]) ps' := hT7.put hc
       rw [← htk] at hT8
       have hpl : ps.length ≤ 625 := Nat.le_trans hT7.len (Nat.le_trans (List.take_sublist j ts).length_le htl)
       refine ⟨_, rfl, L, rfl, .inl ⟨_, .inl hL7⟩, _, rfl, _, rfl, d, _, rfl, hg1, ?_⟩
       have at0 : atI (x0.map V.int) 0 = some (.int (plc x0 1)) := at_of (j := 0) rfl (by rw [List.getElem?_map, hp0]; rfl)
       have at1 : atI ((mkL n g).map V.int) (plc x0 1) = some (.int (g (plc x0 1))) := at_of (j := (plc x0 1).toNat) (by omega) (by rw [List.getElem?_map, hgl]; rfl)
       refine ⟨_, rfl, _, rfl, Or.inr (Or.inl ⟨q0, _, 0, .int (plc x0 1), rfl, rfl, SqT.of hq0, at0, Or.inl ⟨t, _, plc x0 1, .int (g (plc x0 1)), rfl, rfl, SqL.of ht8, at1, _, DGet.k (k := Sum.inl (f x0)) hL7, ?_⟩⟩)⟩
       rw [hval]
       refine ⟨_, rfl, _, rfl, Or.inr (Or.inl ⟨q0, _, 0, .int (plc x0 1), rfl, rfl, SqT.of hq0, at0, Or.inl ⟨t, _, plc x0 1, .int (g (plc x0 1)), rfl, rfl, SqL.of ht8, at1, Or.inl ⟨rfl, _, rfl, ?_⟩⟩⟩)⟩
       refine ifF (by simp) ?_
       refine ⟨_, rfl, _, rfl, Or.inr (Or.inl ⟨q0, _, 0, .int (plc x0 1), rfl, rfl, SqT.of hq0, at0, Or.inl ⟨t, _, plc x0 1, .int (g (plc x0 1)), rfl, rfl, SqL.of ht8, at1, ?_⟩⟩)⟩
       refine ⟨_, rfl, _, rfl, _, rfl, d, _, rfl, hg1, L, _, rfl, DPut.k (k := Sum.inl (f x0)) hL7 ?_, ?_⟩
       · unfold kvI
         rw [List.length_map]
         exact Nat.lt_of_le_of_lt hpl (by decide)
       rw [hput]
       refine ⟨_, ps2, rfl, fun b o hb e => ?_, ?_, upd_same, hT8⟩
       · rw [upd_ne (ne_of_none e nL)]
         exact sb7 b o hb e
       · rw [upd_ne hLd.symm]
         exact hd7
     · rintro σ H7 ⟨y7, ps, rfl, sb7, hd7, hL7, hT7⟩
       have hkl : (kvT ts f).length = ts.length := by unfold kvT; rw [List.length_map]
       rw [hkl, List.take_length] at hT7
       refine ⟨hd7, ?_⟩
       have sm8 := sb7.locked hd4
       have hL8 : (upd H7 d (.dT (kvT ts f))) L = some (.dK (kvI ps)) := by rw [upd_ne hLd]; exact hL7
       generalize upd H7 d (.dT (kvT ts f)) = H8 at *
       have hvn := hT7.vals fun a ha b hb e => (key a ha b hb).mpr e
       have hpl : ps.length ≤ 625 := Nat.le_trans hT7.len htl
       refine ⟨_, rfl, L, kvI ps, rfl, hL8, fun v nv => ?_⟩
       have sm9 : Same H8 (upd H8 v (.lst ((kvI ps).map (·.2)))) := same_upd (Same.refl _) nv
       have hv9 : (upd H8 v (.lst ((kvI ps).map (·.2)))) v = some (.lst ((ps.map (·.2)).map V.int)) := by rw [upd_same, kvI_vals]
       generalize upd H8 v (.lst ((kvI ps).map (·.2))) = H9 at *
       refine ⟨v, ps.map (·.2), rfl, SqL.of hv9, by rw [List.length_map]; omega, hvn, _, rfl, L, kvI ps, rfl, sm9 _ _ hL8, ?_⟩
       refine Or.inl ⟨rfl, ?_⟩
       have ev : decide (V.int (((ps.map (·.2)).length : Nat) : Int) = V.int (((kvI ps).length : Nat) : Int)) = true := by
         apply decide_eq_true
         unfold kvI
         rw [List.length_map, List.length_map]
       have hfin := fin H9 ((sm14.trans sm8).trans sm9)
       rw [← ev] at hfin
       exact hfin
end
/-! piece TSWd -/
section
local macro_rules | `(tactic| wtm_at "fo a") => `(tactic| first
  | exact pa_nil
  | (refine' pa_cons ?k1 ?k2; (case k1 => wtm_at "fo e"); (case k2 => wtm_at "fo a"))
  | fail "no")
local macro_rules | `(tactic| wtm_at "fo v") => `(tactic| first
  | exact pv 0
  | exact pv 1
  | exact pv 2
  | exact pv 3
  | exact pv 4
  | exact pv 5
  | exact pv 6
  | exact pv 7
  | exact pv 8
  | exact pv 9
  | exact pv 10
  | exact pv 11
  | exact pv 12
  | exact pv 13
  | exact pv 14
  | exact pv 15
  | fail "no")
local macro_rules | `(tactic| wtm_at "fo e") => `(tactic| first
  | with_reducible exact pe_int
  | with_reducible exact pe_bl
  | with_reducible exact pe_non
  | with_reducible exact pe_str
  | ((with_reducible show PE _ (.Name _ _) _); wtm_at "fo v")
  | ((with_reducible show PE _ (.BinOp _ .Add _ _) _); apply pe_op opAddB <;> wtm_at "fo e")
  | ((with_reducible show PE _ (.BinOp _ .Sub _ _) _); apply pe_op op_sub <;> wtm_at "fo e")
  | ((with_reducible show PE _ (.BinOp _ .Mult _ _) _); apply pe_op op_mul <;> wtm_at "fo e")
  | ((with_reducible show PE _ (.BinOp _ .Mod _ _) _); apply pe_op op_mod <;> wtm_at "fo e")
  | ((with_reducible show PE _ (.BinOp _ .FloorDiv _ _) _); apply pe_op op_fdiv <;> wtm_at "fo e")
  | ((with_reducible show PE _ (.BinOp _ .Pow _ _) _); apply pe_op op_powW <;> wtm_at "fo e")
  | ((with_reducible show PE _ (.BinOp _ .LShift _ _) _); apply pe_op op_shl <;> wtm_at "fo e")
  | ((with_reducible show PE _ (.BinOp _ .RShift _ _) _); apply pe_op op_shr <;> wtm_at "fo e")
  | ((with_reducible show PE _ (.BinOp _ .BitAnd _ _) _); apply pe_op op_and <;> wtm_at "fo e")
  | ((with_reducible show PE _ (.List _ _) _); apply pe_lst; wtm_at "fo a")
  | ((with_reducible show PE _ (.Tuple _ _ _) _); apply pe_tup; wtm_at "fo a")
  | ((with_reducible show PE _ (.ListComp _ [_] _ _) _); wtm_at "fo lc")
  | ((with_reducible show PE _ (.IfExp _ _ _ _) _); apply pe_ifExp; (· wtm_at "fo t"); (· wtm_at "fo e"); (· wtm_at "fo e"))
  | ((with_reducible show PE _ (.UnaryOp .USub _ _) _); apply pe_un un_neg; wtm_at "fo e")
  | ((with_reducible show PE _ (.Call (.Name _ _) [] (_ :: _) _) _); wtm_at "fo kcall")
  | ((with_reducible show PE _ (.Call (.Name _ _) _ _ _) _); wtm_at "fo call")
  | ((with_reducible show PE _ (.Call (.Attribute _ _ _) _ _ _) _); wtm_at "fo meth")
  | ((with_reducible show PE _ (.Compare _ _ _ _) _); wtm_at "fo cmp")
  | ((with_reducible show PE _ (.Subscript _ (.Slice _ _ _ _) _) _); wtm_at "fo slice")
  | ((with_reducible show PE _ (.Subscript _ _ _) _); refine' pe_ix (ix_seqK (by assumption) (by exact rfl)) ?ka ?kb (fun _ _ => rfl); (case ka => wtm_at "fo e"); (case kb => wtm_at "fo e"))
  | fail "no")
local macro_rules | `(tactic| wtm_at "fo own") => `(tactic| first
  | ((show _ = [0]); kernel_rfl!)
  | ((show _ = [1]); kernel_rfl!)
  | ((show _ = [2]); kernel_rfl!)
  | ((show _ = [3]); kernel_rfl!)
  | ((show _ = [4]); kernel_rfl!)
  | ((show _ = [5]); kernel_rfl!)
  | ((show _ = [6]); kernel_rfl!)
  | ((show _ = [7]); kernel_rfl!)
  | ((show _ = [8]); kernel_rfl!)
  | ((show _ = [9]); kernel_rfl!)
  | ((show _ = [10]); kernel_rfl!)
  | ((show _ = [11]); kernel_rfl!)
  | ((show _ = [12]); kernel_rfl!)
  | ((show _ = [13]); kernel_rfl!)
  | ((show _ = [14]); kernel_rfl!)
  | ((show _ = [15]); kernel_rfl!)
  | ((show _ = [0, 1]); kernel_rfl!)
  | ((show _ = [1, 2]); kernel_rfl!)
  | ((show _ = [2, 3]); kernel_rfl!)
  | ((show _ = [3, 4]); kernel_rfl!)
  | ((show _ = [4, 5]); kernel_rfl!)
  | ((show _ = [5, 6]); kernel_rfl!)
  | ((show _ = [6, 7]); kernel_rfl!)
  | ((show _ = [7, 8]); kernel_rfl!)
  | ((show _ = [8, 9]); kernel_rfl!)
  | ((show _ = [9, 10]); kernel_rfl!)
  | ((show _ = [10, 11]); kernel_rfl!)
  | ((show _ = [11, 12]); kernel_rfl!)
  | ((show _ = [12, 13]); kernel_rfl!)
  | ((show _ = [13, 14]); kernel_rfl!)
  | ((show _ = [14, 15]); kernel_rfl!)
  | fail "no")
local macro_rules | `(tactic| wtm_at "fo ts") => `(tactic| first
  | exact pts_nil
  | (apply pts_one; wtm_at "fo t")
  | fail "no")
local macro_rules | `(tactic| wtm_at "fo lc") => `(tactic| first
  | (refine' pe_lcO (by assumption) (by exact rfl) (by exact rfl) (by wtm_at "fo own") (by decide +kernel) rfl ?ki ?kg ?kt ?ke; (case ki => wtm_at "fo i"); (case kg => (intro _ _ _ _ _; wtm_at "fo g")); (case kt => (intro _ _ _ _ _; wtm_at "fo ts")); (case ke => (intro _ _ _ _ _; wtm_at "fo e")))
  | fail "no")
local macro_rules | `(tactic| wtm_at "fo part") => `(tactic| first
  | exact po_none
  | (apply po_some; wtm_at "fo e")
  | fail "no")
local macro_rules | `(tactic| wtm_at "fo slice") => `(tactic| first
  | ((with_reducible show PE _ (.Subscript _ (.Slice _ _ none _) _) _); refine' pe_slice (sl_listK (by assumption) (by exact rfl)) ?ka ?kb ?kc; (case ka => wtm_at "fo e"); (case kb => wtm_at "fo part"); (case kc => wtm_at "fo part"))
  | ((with_reducible show PE _ (.Subscript _ (.Slice none none (some _) _) _) _); refine' pe_stepK (by assumption) (by exact rfl) ?ka ?kb; (case ka => wtm_at "fo e"); (case kb => wtm_at "fo e"))
  | fail "no")
local macro_rules | `(tactic| wtm_at "fo cmp") => `(tactic| first
  | ((with_reducible show PE _ (.Compare _ [.Lt] _ _) _); refine' pe_cmpR op_lt ?ka ?kb (nomark _); (case ka => wtm_at "fo e"); (case kb => wtm_at "fo e"))
  | ((with_reducible show PE _ (.Compare _ [.LtE] _ _) _); refine' pe_cmpR op_le ?ka ?kb (nomark _); (case ka => wtm_at "fo e"); (case kb => wtm_at "fo e"))
  | ((with_reducible show PE _ (.Compare _ [.Gt] _ _) _); refine' pe_cmpR op_gt ?ka ?kb (nomark _); (case ka => wtm_at "fo e"); (case kb => wtm_at "fo e"))
  | ((with_reducible show PE _ (.Compare _ [.GtE] _ _) _); refine' pe_cmpR op_ge ?ka ?kb (nomark _); (case ka => wtm_at "fo e"); (case kb => wtm_at "fo e"))
  | ((with_reducible show PE _ (.Compare _ [.Eq] _ _) _); refine' pe_cmpR (op_eqK (by assumption) (by exact rfl) (Room.units (by assumption))) ?ka ?kb (nomark _); (case ka => wtm_at "fo e"); (case kb => wtm_at "fo e"))
  | ((with_reducible show PE _ (.Compare _ [.NotEq] _ _) _); refine' pe_cmpR (op_neK (by assumption) (by exact rfl) (Room.units (by assumption))) ?ka ?kb (nomark _); (case ka => wtm_at "fo e"); (case kb => wtm_at "fo e"))
  | fail "no")
local macro_rules | `(tactic| wtm_at "fo tcmp") => `(tactic| first
  | ((with_reducible show PT _ (.Compare _ [.Lt] _ _) _); refine' pt_cmpR op_lt ?ka ?kb (nomark _); (case ka => wtm_at "fo e"); (case kb => wtm_at "fo e"))
  | ((with_reducible show PT _ (.Compare _ [.LtE] _ _) _); refine' pt_cmpR op_le ?ka ?kb (nomark _); (case ka => wtm_at "fo e"); (case kb => wtm_at "fo e"))
  | ((with_reducible show PT _ (.Compare _ [.Gt] _ _) _); refine' pt_cmpR op_gt ?ka ?kb (nomark _); (case ka => wtm_at "fo e"); (case kb => wtm_at "fo e"))
  | ((with_reducible show PT _ (.Compare _ [.GtE] _ _) _); refine' pt_cmpR op_ge ?ka ?kb (nomark _); (case ka => wtm_at "fo e"); (case kb => wtm_at "fo e"))
  | ((with_reducible show PT _ (.Compare _ [.Eq] _ _) _); refine' pt_cmpR (op_eqK (by assumption) (by exact rfl) (Room.units (by assumption))) ?ka ?kb (nomark _); (case ka => wtm_at "fo e"); (case kb => wtm_at "fo e"))
  | ((with_reducible show PT _ (.Compare _ [.NotEq] _ _) _); refine' pt_cmpR (op_neK (by assumption) (by exact rfl) (Room.units (by assumption))) ?ka ?kb (nomark _); (case ka => wtm_at "fo e"); (case kb => wtm_at "fo e"))
  | ((with_reducible show PT _ (.Compare _ [.In] _ _) _); refine' pt_cmpR (op_inK (by assumption) (by exact rfl)) ?ka ?kb rfl; (case ka => wtm_at "fo e"); (case kb => wtm_at "fo e"))
  | ((with_reducible show PT _ (.Compare _ [.NotIn] _ _) _); refine' pt_cmpR (op_notInK (by assumption) (by exact rfl)) ?ka ?kb rfl; (case ka => wtm_at "fo e"); (case kb => wtm_at "fo e"))
  | fail "no")
local macro_rules | `(tactic| wtm_at "fo w") => `(tactic| first
  | ((with_reducible show PW _ (.BoolOp .And [_] _) _); apply pw_and1; wtm_at "fo t")
  | ((with_reducible show PW _ (.BoolOp .And _ _) _); apply pw_and; (· wtm_at "fo t"); (· wtm_at "fo w"))
  | ((with_reducible show PW _ (.BoolOp .Or [_] _) _); apply pw_or1; wtm_at "fo t")
  | ((with_reducible show PW _ (.BoolOp .Or _ _) _); apply pw_or; (· wtm_at "fo t"); (· wtm_at "fo w"))
  | fail "no")
local macro_rules | `(tactic| wtm_at "fo meth") => `(tactic| first
  | ((with_reducible show PE _ (.Call (.Attribute _ (Str.ofString "append") _) _ _ _) _); refine' pe_bm PySem.F.plainAttrs_list PySem.F.slot_list_append PySem.F.type_list_append mt_append ?ka ?kb; (case ka => wtm_at "fo e"); (case kb => wtm_at "fo a"))
  | ((with_reducible show PE _ (.Call (.Attribute _ (Str.ofString "pop") _) [_] _ _) _); refine' pe_bm PySem.F.plainAttrs_list PySem.F.slot_list_pop PySem.F.type_list_pop mt_popAt ?ka ?kb; (case ka => wtm_at "fo e"); (case kb => wtm_at "fo a"))
  | ((with_reducible show PE _ (.Call (.Attribute _ (Str.ofString "pop") _) [] _ _) _); refine' pe_bm0 PySem.F.plainAttrs_list PySem.F.slot_list_pop PySem.F.type_list_pop mt_pop ?ka; (case ka => wtm_at "fo e"))
  | fail "no")
local macro_rules | `(tactic| wtm_at "fo k") => `(tactic| first
  | exact pk_nil
  | (refine' pk_cons ?k1 ?k2; (case k1 => wtm_at "fo e"); (case k2 => wtm_at "fo k"))
  | fail "no")
local macro_rules | `(tactic| wtm_at "fo kcall") => `(tactic| first
  | (refine' pe_kcal (by assumption) (by assumption) (by decide) (by rfl) ?ka; (case ka => wtm_at "fo k"))
  | fail "no")
local macro_rules | `(tactic| wtm_at "fo call") => `(tactic| first
  | ((with_reducible show PE _ (.Call (.Name (Str.ofString "int") _) _ _ _) _); refine' pe_callTy call_intB (by rfl) (by assumption) (by decide +kernel) ?ka; (case ka => wtm_at "fo a"))
  | ((with_reducible show PE _ (.Call (.Name (Str.ofString "len") _) _ _ _) _); refine' pe_callB (call_lenK (by assumption) (by exact rfl)) (by rfl) (by assumption) PySem.boot_len ?ka; (case ka => wtm_at "fo a"))
  | ((with_reducible show PE _ (.Call (.Name (Str.ofString "list") _) [.Call (.Name (Str.ofString "range") _) [_, _] _ _] _ _) _); refine' pe_listRg rfl (by rfl) (by assumption) (prg_2 (by rfl) (by assumption) ?ka ?kb); (case ka => wtm_at "fo e"); (case kb => wtm_at "fo e"))
  | ((with_reducible show PE _ (.Call (.Name (Str.ofString "list") _) _ _ _) _); refine' pe_callTy (call_listK (by assumption) (by exact rfl)) (by rfl) (by assumption) (by decide +kernel) ?ka; (case ka => wtm_at "fo a"))
  | ((with_reducible show PE _ (.Call (.Name (Str.ofString "min") _) [_, _] _ _) _); refine' pe_callB (call_min2 rfl) (by rfl) (by assumption) (by decide +kernel) ?ka; (case ka => wtm_at "fo a"))
  | ((with_reducible show PE _ (.Call (.Name (Str.ofString "sorted") _) [_] _ _) _); refine' pe_callB (cr_sortedK (by assumption) (by exact rfl)) (by rfl) (by assumption) (by decide +kernel) ?ka; (case ka => wtm_at "fo a"))
  | ((with_reducible show PE _ (.Call (.Name (Str.ofString "repr") _) [_] _ _) _); refine' pe_callB (call_reprK (by assumption) (by exact rfl) (by assumption) (Room.units (by assumption))) (by rfl) (by assumption) (by decide +kernel) ?ka; (case ka => wtm_at "fo a"))
  | (refine' pe_cal (by assumption) (by assumption) (by decide) (by rfl) ?ka; (case ka => wtm_at "fo a"))
  | fail "no")
local macro_rules | `(tactic| wtm_at "fo setlc") => `(tactic| first
  | (refine' ps_setLcO (i := 0) (by assumption) (by exact rfl) (by exact rfl) (by wtm_at "fo own") (by decide +kernel) rfl rfl rfl (sw_true rfl rfl rfl (by decide +kernel)) ?ki ?kg ?kt ?ke; (case ki => wtm_at "fo i"); (case kg => (intro _ _ _ _ _; wtm_at "fo g")); (case kt => (intro _ _ _ _ _; wtm_at "fo ts")); (case ke => (intro _ _ _ _ _; wtm_at "fo e")))
  | (refine' ps_setLcO (i := 1) (by assumption) (by exact rfl) (by exact rfl) (by wtm_at "fo own") (by decide +kernel) rfl rfl rfl (sw_true rfl rfl rfl (by decide +kernel)) ?ki ?kg ?kt ?ke; (case ki => wtm_at "fo i"); (case kg => (intro _ _ _ _ _; wtm_at "fo g")); (case kt => (intro _ _ _ _ _; wtm_at "fo ts")); (case ke => (intro _ _ _ _ _; wtm_at "fo e")))
  | (refine' ps_setLcO (i := 2) (by assumption) (by exact rfl) (by exact rfl) (by wtm_at "fo own") (by decide +kernel) rfl rfl rfl (sw_true rfl rfl rfl (by decide +kernel)) ?ki ?kg ?kt ?ke; (case ki => wtm_at "fo i"); (case kg => (intro _ _ _ _ _; wtm_at "fo g")); (case kt => (intro _ _ _ _ _; wtm_at "fo ts")); (case ke => (intro _ _ _ _ _; wtm_at "fo e")))
  | (refine' ps_setLcO (i := 3) (by assumption) (by exact rfl) (by exact rfl) (by wtm_at "fo own") (by decide +kernel) rfl rfl rfl (sw_true rfl rfl rfl (by decide +kernel)) ?ki ?kg ?kt ?ke; (case ki => wtm_at "fo i"); (case kg => (intro _ _ _ _ _; wtm_at "fo g")); (case kt => (intro _ _ _ _ _; wtm_at "fo ts")); (case ke => (intro _ _ _ _ _; wtm_at "fo e")))
  | (refine' ps_setLcO (i := 4) (by assumption) (by exact rfl) (by exact rfl) (by wtm_at "fo own") (by decide +kernel) rfl rfl rfl (sw_true rfl rfl rfl (by decide +kernel)) ?ki ?kg ?kt ?ke; (case ki => wtm_at "fo i"); (case kg => (intro _ _ _ _ _; wtm_at "fo g")); (case kt => (intro _ _ _ _ _; wtm_at "fo ts")); (case ke => (intro _ _ _ _ _; wtm_at "fo e")))
  | (refine' ps_setLcO (i := 5) (by assumption) (by exact rfl) (by exact rfl) (by wtm_at "fo own") (by decide +kernel) rfl rfl rfl (sw_true rfl rfl rfl (by decide +kernel)) ?ki ?kg ?kt ?ke; (case ki => wtm_at "fo i"); (case kg => (intro _ _ _ _ _; wtm_at "fo g")); (case kt => (intro _ _ _ _ _; wtm_at "fo ts")); (case ke => (intro _ _ _ _ _; wtm_at "fo e")))
  | (refine' ps_setLcO (i := 6) (by assumption) (by exact rfl) (by exact rfl) (by wtm_at "fo own") (by decide +kernel) rfl rfl rfl (sw_true rfl rfl rfl (by decide +kernel)) ?ki ?kg ?kt ?ke; (case ki => wtm_at "fo i"); (case kg => (intro _ _ _ _ _; wtm_at "fo g")); (case kt => (intro _ _ _ _ _; wtm_at "fo ts")); (case ke => (intro _ _ _ _ _; wtm_at "fo e")))
  | (refine' ps_setLcO (i := 7) (by assumption) (by exact rfl) (by exact rfl) (by wtm_at "fo own") (by decide +kernel) rfl rfl rfl (sw_true rfl rfl rfl (by decide +kernel)) ?ki ?kg ?kt ?ke; (case ki => wtm_at "fo i"); (case kg => (intro _ _ _ _ _; wtm_at "fo g")); (case kt => (intro _ _ _ _ _; wtm_at "fo ts")); (case ke => (intro _ _ _ _ _; wtm_at "fo e")))
  | (refine' ps_setLcO (i := 8) (by assumption) (by exact rfl) (by exact rfl) (by wtm_at "fo own") (by decide +kernel) rfl rfl rfl (sw_true rfl rfl rfl (by decide +kernel)) ?ki ?kg ?kt ?ke; (case ki => wtm_at "fo i"); (case kg => (intro _ _ _ _ _; wtm_at "fo g")); (case kt => (intro _ _ _ _ _; wtm_at "fo ts")); (case ke => (intro _ _ _ _ _; wtm_at "fo e")))
  | (refine' ps_setLcO (i := 9) (by assumption) (by exact rfl) (by exact rfl) (by wtm_at "fo own") (by decide +kernel) rfl rfl rfl (sw_true rfl rfl rfl (by decide +kernel)) ?ki ?kg ?kt ?ke; (case ki => wtm_at "fo i"); (case kg => (intro _ _ _ _ _; wtm_at "fo g")); (case kt => (intro _ _ _ _ _; wtm_at "fo ts")); (case ke => (intro _ _ _ _ _; wtm_at "fo e")))
  | (refine' ps_setLcO (i := 10) (by assumption) (by exact rfl) (by exact rfl) (by wtm_at "fo own") (by decide +kernel) rfl rfl rfl (sw_true rfl rfl rfl (by decide +kernel)) ?ki ?kg ?kt ?ke; (case ki => wtm_at "fo i"); (case kg => (intro _ _ _ _ _; wtm_at "fo g")); (case kt => (intro _ _ _ _ _; wtm_at "fo ts")); (case ke => (intro _ _ _ _ _; wtm_at "fo e")))
  | (refine' ps_setLcO (i := 11) (by assumption) (by exact rfl) (by exact rfl) (by wtm_at "fo own") (by decide +kernel) rfl rfl rfl (sw_true rfl rfl rfl (by decide +kernel)) ?ki ?kg ?kt ?ke; (case ki => wtm_at "fo i"); (case kg => (intro _ _ _ _ _; wtm_at "fo g")); (case kt => (intro _ _ _ _ _; wtm_at "fo ts")); (case ke => (intro _ _ _ _ _; wtm_at "fo e")))
  | (refine' ps_setLcO (i := 12) (by assumption) (by exact rfl) (by exact rfl) (by wtm_at "fo own") (by decide +kernel) rfl rfl rfl (sw_true rfl rfl rfl (by decide +kernel)) ?ki ?kg ?kt ?ke; (case ki => wtm_at "fo i"); (case kg => (intro _ _ _ _ _; wtm_at "fo g")); (case kt => (intro _ _ _ _ _; wtm_at "fo ts")); (case ke => (intro _ _ _ _ _; wtm_at "fo e")))
  | (refine' ps_setLcO (i := 13) (by assumption) (by exact rfl) (by exact rfl) (by wtm_at "fo own") (by decide +kernel) rfl rfl rfl (sw_true rfl rfl rfl (by decide +kernel)) ?ki ?kg ?kt ?ke; (case ki => wtm_at "fo i"); (case kg => (intro _ _ _ _ _; wtm_at "fo g")); (case kt => (intro _ _ _ _ _; wtm_at "fo ts")); (case ke => (intro _ _ _ _ _; wtm_at "fo e")))
  | (refine' ps_setLcO (i := 14) (by assumption) (by exact rfl) (by exact rfl) (by wtm_at "fo own") (by decide +kernel) rfl rfl rfl (sw_true rfl rfl rfl (by decide +kernel)) ?ki ?kg ?kt ?ke; (case ki => wtm_at "fo i"); (case kg => (intro _ _ _ _ _; wtm_at "fo g")); (case kt => (intro _ _ _ _ _; wtm_at "fo ts")); (case ke => (intro _ _ _ _ _; wtm_at "fo e")))
  | (refine' ps_setLcO (i := 15) (by assumption) (by exact rfl) (by exact rfl) (by wtm_at "fo own") (by decide +kernel) rfl rfl rfl (sw_true rfl rfl rfl (by decide +kernel)) ?ki ?kg ?kt ?ke; (case ki => wtm_at "fo i"); (case kg => (intro _ _ _ _ _; wtm_at "fo g")); (case kt => (intro _ _ _ _ _; wtm_at "fo ts")); (case ke => (intro _ _ _ _ _; wtm_at "fo e")))
  | fail "no")
local macro_rules | `(tactic| wtm_at "fo set") => `(tactic| first
  | (refine' ps_set (i := 0) (by assumption) rfl (by first | exact Or.inl rfl | exact Or.inr rfl) ?ka; (case ka => wtm_at "fo e"))
  | (refine' ps_set (i := 1) (by assumption) rfl (by first | exact Or.inl rfl | exact Or.inr rfl) ?ka; (case ka => wtm_at "fo e"))
  | (refine' ps_set (i := 2) (by assumption) rfl (by first | exact Or.inl rfl | exact Or.inr rfl) ?ka; (case ka => wtm_at "fo e"))
  | (refine' ps_set (i := 3) (by assumption) rfl (by first | exact Or.inl rfl | exact Or.inr rfl) ?ka; (case ka => wtm_at "fo e"))
  | (refine' ps_set (i := 4) (by assumption) rfl (by first | exact Or.inl rfl | exact Or.inr rfl) ?ka; (case ka => wtm_at "fo e"))
  | (refine' ps_set (i := 5) (by assumption) rfl (by first | exact Or.inl rfl | exact Or.inr rfl) ?ka; (case ka => wtm_at "fo e"))
  | (refine' ps_set (i := 6) (by assumption) rfl (by first | exact Or.inl rfl | exact Or.inr rfl) ?ka; (case ka => wtm_at "fo e"))
  | (refine' ps_set (i := 7) (by assumption) rfl (by first | exact Or.inl rfl | exact Or.inr rfl) ?ka; (case ka => wtm_at "fo e"))
  | (refine' ps_set (i := 8) (by assumption) rfl (by first | exact Or.inl rfl | exact Or.inr rfl) ?ka; (case ka => wtm_at "fo e"))
  | (refine' ps_set (i := 9) (by assumption) rfl (by first | exact Or.inl rfl | exact Or.inr rfl) ?ka; (case ka => wtm_at "fo e"))
  | (refine' ps_set (i := 10) (by assumption) rfl (by first | exact Or.inl rfl | exact Or.inr rfl) ?ka; (case ka => wtm_at "fo e"))
  | (refine' ps_set (i := 11) (by assumption) rfl (by first | exact Or.inl rfl | exact Or.inr rfl) ?ka; (case ka => wtm_at "fo e"))
  | (refine' ps_set (i := 12) (by assumption) rfl (by first | exact Or.inl rfl | exact Or.inr rfl) ?ka; (case ka => wtm_at "fo e"))
  | (refine' ps_set (i := 13) (by assumption) rfl (by first | exact Or.inl rfl | exact Or.inr rfl) ?ka; (case ka => wtm_at "fo e"))
  | fail "no")
local macro_rules | `(tactic| wtm_at "fo t") => `(tactic| first
  | ((with_reducible show PT _ (.BoolOp _ _ _) _); apply PW.pt; wtm_at "fo w")
  | ((with_reducible show PT _ (.UnaryOp .Not _ _) _); apply pt_not; wtm_at "fo t")
  | ((with_reducible show PT _ (.Compare _ _ _ _) _); wtm_at "fo tcmp")
  | (refine' pt_truthK (by assumption) (by exact rfl) ?ka (by intro _; rfl); (case ka => wtm_at "fo e"))
  | fail "no")
local macro_rules | `(tactic| wtm_at "fo gn") => `(tactic| first
  | exact pg_name (i := 0) (by assumption) rfl (by first | exact Or.inl rfl | exact Or.inr rfl)
  | exact pg_name (i := 1) (by assumption) rfl (by first | exact Or.inl rfl | exact Or.inr rfl)
  | exact pg_name (i := 2) (by assumption) rfl (by first | exact Or.inl rfl | exact Or.inr rfl)
  | exact pg_name (i := 3) (by assumption) rfl (by first | exact Or.inl rfl | exact Or.inr rfl)
  | exact pg_name (i := 4) (by assumption) rfl (by first | exact Or.inl rfl | exact Or.inr rfl)
  | exact pg_name (i := 5) (by assumption) rfl (by first | exact Or.inl rfl | exact Or.inr rfl)
  | exact pg_name (i := 6) (by assumption) rfl (by first | exact Or.inl rfl | exact Or.inr rfl)
  | exact pg_name (i := 7) (by assumption) rfl (by first | exact Or.inl rfl | exact Or.inr rfl)
  | exact pg_name (i := 8) (by assumption) rfl (by first | exact Or.inl rfl | exact Or.inr rfl)
  | exact pg_name (i := 9) (by assumption) rfl (by first | exact Or.inl rfl | exact Or.inr rfl)
  | exact pg_name (i := 10) (by assumption) rfl (by first | exact Or.inl rfl | exact Or.inr rfl)
  | exact pg_name (i := 11) (by assumption) rfl (by first | exact Or.inl rfl | exact Or.inr rfl)
  | exact pg_name (i := 12) (by assumption) rfl (by first | exact Or.inl rfl | exact Or.inr rfl)
  | exact pg_name (i := 13) (by assumption) rfl (by first | exact Or.inl rfl | exact Or.inr rfl)
  | exact pg_name (i := 14) (by assumption) rfl (by first | exact Or.inl rfl | exact Or.inr rfl)
  | exact pg_name (i := 15) (by assumption) rfl (by first | exact Or.inl rfl | exact Or.inr rfl)
  | fail "no")
local macro_rules | `(tactic| wtm_at "fo par") => `(tactic| first
  | (refine' ps_par (i := 0) (j := 1) rfl (by assumption) rfl rfl (by decide) rfl rfl ?ka (by rfl); (case ka => wtm_at "fo a"))
  | (refine' ps_par (i := 1) (j := 2) rfl (by assumption) rfl rfl (by decide) rfl rfl ?ka (by rfl); (case ka => wtm_at "fo a"))
  | (refine' ps_par (i := 2) (j := 3) rfl (by assumption) rfl rfl (by decide) rfl rfl ?ka (by rfl); (case ka => wtm_at "fo a"))
  | (refine' ps_par (i := 3) (j := 4) rfl (by assumption) rfl rfl (by decide) rfl rfl ?ka (by rfl); (case ka => wtm_at "fo a"))
  | (refine' ps_par (i := 4) (j := 5) rfl (by assumption) rfl rfl (by decide) rfl rfl ?ka (by rfl); (case ka => wtm_at "fo a"))
  | (refine' ps_par (i := 5) (j := 6) rfl (by assumption) rfl rfl (by decide) rfl rfl ?ka (by rfl); (case ka => wtm_at "fo a"))
  | (refine' ps_par (i := 6) (j := 7) rfl (by assumption) rfl rfl (by decide) rfl rfl ?ka (by rfl); (case ka => wtm_at "fo a"))
  | (refine' ps_par (i := 7) (j := 8) rfl (by assumption) rfl rfl (by decide) rfl rfl ?ka (by rfl); (case ka => wtm_at "fo a"))
  | (refine' ps_par (i := 8) (j := 9) rfl (by assumption) rfl rfl (by decide) rfl rfl ?ka (by rfl); (case ka => wtm_at "fo a"))
  | (refine' ps_par (i := 9) (j := 10) rfl (by assumption) rfl rfl (by decide) rfl rfl ?ka (by rfl); (case ka => wtm_at "fo a"))
  | (refine' ps_par (i := 10) (j := 11) rfl (by assumption) rfl rfl (by decide) rfl rfl ?ka (by rfl); (case ka => wtm_at "fo a"))
  | (refine' ps_par (i := 11) (j := 12) rfl (by assumption) rfl rfl (by decide) rfl rfl ?ka (by rfl); (case ka => wtm_at "fo a"))
  | (refine' ps_par (i := 12) (j := 13) rfl (by assumption) rfl rfl (by decide) rfl rfl ?ka (by rfl); (case ka => wtm_at "fo a"))
  | (refine' ps_par (i := 13) (j := 14) rfl (by assumption) rfl rfl (by decide) rfl rfl ?ka (by rfl); (case ka => wtm_at "fo a"))
  | (refine' ps_par (i := 14) (j := 15) rfl (by assumption) rfl rfl (by decide) rfl rfl ?ka (by rfl); (case ka => wtm_at "fo a"))
  | fail "no")
local macro_rules | `(tactic| wtm_at "fo g") => `(tactic| first
  | ((with_reducible show PG _ (.Name _ _) _); wtm_at "fo gn")
  | ((with_reducible show PG _ (.Tuple _ _ _) _); apply PG_or; (· refine' pg_tup2 (by assumption) (by exact rfl) rfl ?kg; (case kg => wtm_at "fo gs")); (· refine' pg_unl2 (by assumption) (by exact rfl) rfl ?kg; (case kg => wtm_at "fo gs")))
  | fail "no")
local macro_rules | `(tactic| wtm_at "fo gs") => `(tactic| first
  | exact pgs_nil
  | (refine' pgs_cons ?k1 ?k2; (case k1 => wtm_at "fo g"); (case k2 => wtm_at "fo gs"))
  | fail "no")
local macro_rules | `(tactic| wtm_at "fo i") => `(tactic| first
  | ((with_reducible show PI _ _ (.Call (.Name (Str.ofString "range") _) [_] _ _) _); refine' pi_range1 (by rfl) (by assumption) ?ka; (case ka => wtm_at "fo a"))
  | ((with_reducible show PI _ _ (.Call (.Name (Str.ofString "range") _) [_, _] _ _) _); refine' pi_range2 (by rfl) (by assumption) ?ka; (case ka => wtm_at "fo a"))
  | ((with_reducible show PI _ _ (.Call (.Name (Str.ofString "enumerate") _) [_] _ _) _); refine' pi_enum (by rfl) (by assumption) ?ka; (case ka => wtm_at "fo a"))
  | (refine' pi_listK (by assumption) (by exact rfl) ?ka; (case ka => wtm_at "fo e"))
  | fail "no")
local macro_rules | `(tactic| wtm_at "fo s") => `(tactic| first
  | ((with_reducible show PS _ (.While _ _ _ _) _); refine' ps_while PassesOwn.never ?kt ?kb; (case kt => wtm_at "fo t"); (case kb => wtm_at "fo ss"))
  | ((with_reducible show PS _ (.For _ _ _ _ _) _); refine' ps_for PassesOwn.never rfl ?ki ?kg ?kb; (case ki => wtm_at "fo i"); (case kg => wtm_at "fo g"); (case kb => wtm_at "fo ss"))
  | ((with_reducible show PS _ (.Assign [.Name _ _] (.ListComp _ [_] _ _) _) _); wtm_at "fo setlc")
  | ((with_reducible show PS _ (.Assign [.Name _ _] _ _) _); wtm_at "fo set")
  | ((with_reducible show PS _ (.Assign [.Tuple [.Name _ _, .Name _ _] _ _] (.Tuple [_, _] _ _) _) _); wtm_at "fo par")
  | ((with_reducible show PS _ (.Assign [.Subscript _ _ _] _ _) _); refine' ps_asg ?ka (pg_sub ?kb ?kc set_list); (case ka => wtm_at "fo e"); (case kb => wtm_at "fo e"); (case kc => wtm_at "fo e"))
  | ((with_reducible show PS _ (.Return (some _) _) _); apply ps_ret; wtm_at "fo e")
  | ((with_reducible show PS _ (.Expr _ _) _); refine' ps_expr ?ka; (case ka => wtm_at "fo e"))
  | ((with_reducible show PS _ (.If _ _ _ _) _); apply ps_if; (· wtm_at "fo t"); (· wtm_at "fo ss"); (· wtm_at "fo ss"))
  | fail "no")
local macro_rules | `(tactic| wtm_at "fo ss") => `(tactic| first
  | with_reducible exact pss_nil
  | ((with_reducible show PSs _ [_] _); apply pss_one; wtm_at "fo s")
  | (apply pss_cons; (· wtm_at "fo s"); (· wtm_at "fo ss"))
  | fail "no")
local macro_rules | `(tactic| wtm_at "fo hp") => `(tactic| first
  | assumption
  | exact upd_same
  | (refine (upd_ne ?ne).trans ?hp; (case ne => wtm_at "fo ne"); (case hp => wtm_at "fo hp"))
  | fail "no")
local macro_rules | `(tactic| wtm_at "fo ne") => `(tactic| first
  | assumption
  | (apply Ne.symm; assumption)
  | exact ne_of_none (by assumption) (by assumption)
  | exact Ne.symm (ne_of_none (by assumption) (by assumption))
  | fail "no")
local macro_rules | `(tactic| wtm_at "fo sz") => `(tactic| first
  | exact (Nat.le_of_ble_eq_true rfl : _ ≤ sizeLine)
  | exact (Nat.le_of_ble_eq_true rfl : _ < sizeLine)
  | exact Nat.lt_of_le_of_lt (m := 100000) (by first | assumption | omega | (simp; omega)) (by decide)
  | exact Nat.le_trans (m := 100000) (by first | assumption | omega | (simp; omega)) (by decide)
  | fail "no")
local macro_rules | `(tactic| wtm_at "fo r1") => `(tactic| first
  | refine ⟨(Nat.le_of_ble_eq_true rfl : _ ≤ sizeLine), fun p np => ?_⟩
  | (refine' ⟨_, _, rfl, Or.inl (SqL.of ?h), ?_⟩; (case h => wtm_at "fo hp"))
  | refine ⟨_, rfl, ?_⟩
  | refine ⟨_, _, rfl, rfl, ?_⟩
  | refine ⟨_, _, rfl, ⟨by omega, by omega, by omega, by omega⟩, ?_⟩
  | refine ⟨_, rfl, by omega, by omega, ?_⟩
  | refine Or.inl ⟨_, rfl, ?_⟩
  | refine Or.inl ⟨rfl, ?_⟩
  | refine Or.inl ⟨_, _, rfl, rfl, ?_⟩
  | (refine' Or.inl ⟨_, _, _, _, rfl, rfl, SqL.of ?h, ?a, ?_⟩; (case h => wtm_at "fo hp"); (case a => rfl))
  | (refine' ⟨_, _, _, _, rfl, rfl, ?h, ?a, ?_⟩; (case h => wtm_at "fo hp"); (case a => rfl))
  | (refine' ⟨.inl ⟨rfl, _, SqL.of ?h⟩, ?_⟩; (case h => wtm_at "fo hp"))
  | (refine' ⟨_, _, _, rfl, rfl, ?h, ?z, ?_⟩; (case h => wtm_at "fo hp"); (case z => wtm_at "fo sz"))
  | (refine' ⟨_, rfl, ⟨_, SqL.of ?h⟩, ?_⟩; (case h => wtm_at "fo hp"))
  | fail "no")
local macro_rules | `(tactic| wtm_at "fo side") => `(tactic| ((try dsimp only [CMul, CDiv]); first
  | assumption
  | decide
  | omega
  | exact ⟨by decide, by decide⟩
  | exact ⟨by omega, by omega⟩
  | decide +kernel
  | fail "no"))
local macro_rules | `(tactic| wtm_at "fo r2") => `(tactic| first
  | wtm_at "fo r1"
  | refine And.intro (by wtm_at "fo side") ?_
  | fail "no")
local macro_rules | `(tactic| wtm_at "fo r") => `(tactic| repeat wtm_at "fo r2")
local macro_rules | `(tactic| wtm_at "fo v") => `(tactic| first
  | ((with_reducible show PE _ (.Name (Str.ofString "int") _) _); exact pe_bltn (v := .ty "int") (by rfl) (by assumption) (by decide +kernel) rfl)
  | ((with_reducible show PE _ (.Name (Str.ofString "list") _) _); exact pe_bltn (v := .ty "list") (by rfl) (by assumption) (by decide +kernel) rfl)
  | ((with_reducible show PE _ (.Name (Str.ofString "MOST_PLACES") _) _); exact pe_glob (v := .int 12) (by rfl) (by assumption) ⟨_, rfl⟩)
  | fail "no")
local macro_rules | `(tactic| wtm_at "fo e") => `(tactic| first
  | ((with_reducible show PE _ (.BoolOp .And [_] _) _); apply pe_one; wtm_at "fo e")
  | ((with_reducible show PE _ (.BoolOp .And _ _) _); apply pe_and; (· wtm_at "fo e"); (· wtm_at "fo e"))
  | ((with_reducible show PE _ (.Compare _ [.IsNot] [.Constant (.bool true) _ _] _) _); refine' pe_cmpR op_notT ?ka ?kb (nomark _); (case ka => wtm_at "fo e"); (case kb => wtm_at "fo e"))
  | ((with_reducible show PE _ (.Compare _ [.LtE, .LtE] _ _) _); refine' pe_chain op_le op_le ?ka ?kb ?kc; (case ka => wtm_at "fo e"); (case kb => wtm_at "fo e"); (case kc => wtm_at "fo e"))
  | ((with_reducible show PE _ (.Call (.Name (Str.ofString "isinstance") _) _ _ _) _); refine' pe_callB (call_isiK' (by assumption) (by exact rfl)) (by rfl) (by assumption) (by decide +kernel) ?ka; (case ka => wtm_at "fo a"))
  | ((with_reducible show PE _ (.Call (.Attribute _ (Str.ofString "bit_length") _) [] [] _) _); refine' pe_bits ?ka; (case ka => wtm_at "fo e"))
  | fail "no")
local macro_rules | `(tactic| wtm_at "fo t") => `(tactic| first
  | ((with_reducible show PT _ (.Compare _ [.IsNot] [.Constant (.bool true) _ _] _) _); refine' pt_cmpR op_notT ?ka ?kb (nomark _); (case ka => wtm_at "fo e"); (case kb => wtm_at "fo e"))
  | ((with_reducible show PT _ (.Compare _ [.Lt, .Lt, .LtE] _ _) _); refine' pt_chain3 op_lt op_lt op_le ?ka ?kb ?kc ?kd; (case ka => wtm_at "fo e"); (case kb => wtm_at "fo e"); (case kc => wtm_at "fo e"); (case kd => wtm_at "fo e"))
  | fail "no")
local macro_rules | `(tactic| wtm_at "fo s") => `(tactic| first
  | ((with_reducible show PS _ (.Raise _ _ _) _); exact ps_never)
  | ((with_reducible show PS _ (.Continue _) _); exact ps_continue)
  | ((with_reducible show PS _ (.AugAssign (.Subscript _ _ _) .BitOr _ _) _); refine' ps_augS ?ka ?kb get_list ?kc ip_or set_list; (case ka => wtm_at "fo e"); (case kb => wtm_at "fo e"); (case kc => wtm_at "fo e"))
  | ((with_reducible show PS _ (.Assign [.Tuple _ _ _] (.Name _ _) _) _); refine' ps_asg ?ka ?kb; (case ka => wtm_at "fo e"); (case kb => wtm_at "fo g"))
  | fail "no")
local macro_rules | `(tactic| wtm_at "fo lc") => `(tactic| (refine' pe_lcN (by assumption) (by exact rfl) (by exact rfl) (by wtm_at "fo own") (by kernel_rfl!) rfl ?ki ?kg ?kt ?ke; (case ki => wtm_at "fo i"); (case kg => (intro _ _ _ _ _; wtm_at "fo g")); (case kt => (intro _ _ _ _ _; wtm_at "fo ts")); (case ke => (intro _ _ _ _ _; wtm_at "fo e"))))
local macro_rules | `(tactic| wtm_at "fo s") => `(tactic| ((with_reducible show PS _ (.Assign [.Tuple _ _ _] (.Call _ _ _ _) _) _); refine' ps_asg ?ka ?kb; (case ka => wtm_at "fo e"); (case kb => wtm_at "fo g")))
local macro_rules | `(tactic| wtm_at "fo cmp") => `(tactic| ((with_reducible show PE _ (.Compare _ [.In] _ _) _); refine' pe_cmpR (op_inK (by assumption) (by exact rfl)) ?ka ?kb rfl; (case ka => wtm_at "fo e"); (case kb => wtm_at "fo e")))
local macro_rules | `(tactic| wtm_at "fo call") => `(tactic| ((with_reducible show PE _ (.Call (.Name (Str.ofString "list") _) [.Call (.Name (Str.ofString "range") _) [_] _ _] _ _) _); refine' pe_listRg rfl (by rfl) (by assumption) (prg_1 (by rfl) (by assumption) ?ka); (case ka => wtm_at "fo e")))
local macro_rules | `(tactic| wtm_at "fo call") => `(tactic| ((with_reducible show PE _ (.Call (.Name (Str.ofString "min") _) [_] _ _) _); refine' pe_callB (call_minK (by assumption) (by exact rfl) rfl) (by rfl) (by assumption) (by decide +kernel) ?ka; (case ka => wtm_at "fo a")))
local macro_rules | `(tactic| wtm_at "fo i") => `(tactic| ((with_reducible show PI _ _ (.Call (.Name (Str.ofString "reversed") _) [_] _ _) _); refine' pi_reversed (by rfl) (by assumption) ?ka; (case ka => wtm_at "fo a")))
local macro_rules | `(tactic| wtm_at "fo s") => `(tactic| ((with_reducible show PS _ (.AugAssign (.Name _ _) .BitXor _ _) _); first | (refine' ps_aug (i := 2) (by assumption) rfl (by first | exact Or.inl rfl | exact Or.inr rfl) ?ka ip_xor; (case ka => wtm_at "fo e")) | fail "no"))
local macro_rules | `(tactic| wtm_at "fo call") => `(tactic| (refine' pe_calG (by assumption) (by assumption) (by decide) (by assumption) (by rfl) ?ka; (case ka => wtm_at "fo a")))
local macro_rules | `(tactic| wtm_at "fo meth") => `(tactic| ((with_reducible show PE _ (.Call (.Attribute _ (Str.ofString "count") _) _ _ _) _); refine' pe_cntK (by assumption) (by exact rfl) ?ka ?kb; (case ka => wtm_at "fo e"); (case kb => wtm_at "fo a")))
local macro_rules | `(tactic| wtm_at "fo call") => `(tactic| ((with_reducible show PE _ (.Call (.Name (Str.ofString "sorted") _) [_] _ _) _); refine' pe_callB (cr_sortedB (by assumption) (by exact rfl) (Room.units (by assumption))) (by rfl) (by assumption) (by decide +kernel) ?ka; (case ka => wtm_at "fo a")))
local macro_rules | `(tactic| wtm_at "fo v") => `(tactic| first
  | exact pv 16
  | exact pv 17
  | exact pv 18
  | exact pv 19
  | fail "no")
local macro_rules | `(tactic| wtm_at "fo own") => `(tactic| first
  | ((show _ = [16]); kernel_rfl!)
  | ((show _ = [17]); kernel_rfl!)
  | ((show _ = [18]); kernel_rfl!)
  | ((show _ = [19]); kernel_rfl!)
  | ((show _ = [15, 16]); kernel_rfl!)
  | ((show _ = [16, 17]); kernel_rfl!)
  | ((show _ = [17, 18]); kernel_rfl!)
  | ((show _ = [18, 19]); kernel_rfl!)
  | fail "no")
local macro_rules | `(tactic| wtm_at "fo set") => `(tactic| first
  | (refine' ps_set (i := 14) (by assumption) rfl (by first | exact Or.inl rfl | exact Or.inr rfl) ?ka; (case ka => wtm_at "fo e"))
  | (refine' ps_set (i := 15) (by assumption) rfl (by first | exact Or.inl rfl | exact Or.inr rfl) ?ka; (case ka => wtm_at "fo e"))
  | (refine' ps_set (i := 16) (by assumption) rfl (by first | exact Or.inl rfl | exact Or.inr rfl) ?ka; (case ka => wtm_at "fo e"))
  | (refine' ps_set (i := 17) (by assumption) rfl (by first | exact Or.inl rfl | exact Or.inr rfl) ?ka; (case ka => wtm_at "fo e"))
  | (refine' ps_set (i := 18) (by assumption) rfl (by first | exact Or.inl rfl | exact Or.inr rfl) ?ka; (case ka => wtm_at "fo e"))
  | (refine' ps_set (i := 19) (by assumption) rfl (by first | exact Or.inl rfl | exact Or.inr rfl) ?ka; (case ka => wtm_at "fo e"))
  | fail "no")
local macro_rules | `(tactic| wtm_at "fo setlc") => `(tactic| first
  | (refine' ps_setLcO (i := 16) (by assumption) (by exact rfl) (by exact rfl) (by wtm_at "fo own") (by decide +kernel) rfl rfl rfl (sw_true rfl rfl rfl (by decide +kernel)) ?ki ?kg ?kt ?ke; (case ki => wtm_at "fo i"); (case kg => (intro _ _ _ _ _; wtm_at "fo g")); (case kt => (intro _ _ _ _ _; wtm_at "fo ts")); (case ke => (intro _ _ _ _ _; wtm_at "fo e")))
  | (refine' ps_setLcO (i := 17) (by assumption) (by exact rfl) (by exact rfl) (by wtm_at "fo own") (by decide +kernel) rfl rfl rfl (sw_true rfl rfl rfl (by decide +kernel)) ?ki ?kg ?kt ?ke; (case ki => wtm_at "fo i"); (case kg => (intro _ _ _ _ _; wtm_at "fo g")); (case kt => (intro _ _ _ _ _; wtm_at "fo ts")); (case ke => (intro _ _ _ _ _; wtm_at "fo e")))
  | (refine' ps_setLcO (i := 18) (by assumption) (by exact rfl) (by exact rfl) (by wtm_at "fo own") (by decide +kernel) rfl rfl rfl (sw_true rfl rfl rfl (by decide +kernel)) ?ki ?kg ?kt ?ke; (case ki => wtm_at "fo i"); (case kg => (intro _ _ _ _ _; wtm_at "fo g")); (case kt => (intro _ _ _ _ _; wtm_at "fo ts")); (case ke => (intro _ _ _ _ _; wtm_at "fo e")))
  | (refine' ps_setLcO (i := 19) (by assumption) (by exact rfl) (by exact rfl) (by wtm_at "fo own") (by decide +kernel) rfl rfl rfl (sw_true rfl rfl rfl (by decide +kernel)) ?ki ?kg ?kt ?ke; (case ki => wtm_at "fo i"); (case kg => (intro _ _ _ _ _; wtm_at "fo g")); (case kt => (intro _ _ _ _ _; wtm_at "fo ts")); (case ke => (intro _ _ _ _ _; wtm_at "fo e")))
  | fail "no")
local macro_rules | `(tactic| wtm_at "fo gn") => `(tactic| first
  | exact pg_name (i := 16) (by assumption) rfl (by first | exact Or.inl rfl | exact Or.inr rfl)
  | exact pg_name (i := 17) (by assumption) rfl (by first | exact Or.inl rfl | exact Or.inr rfl)
  | exact pg_name (i := 18) (by assumption) rfl (by first | exact Or.inl rfl | exact Or.inr rfl)
  | exact pg_name (i := 19) (by assumption) rfl (by first | exact Or.inl rfl | exact Or.inr rfl)
  | fail "no")
local macro_rules | `(tactic| wtm_at "fo s") => `(tactic| ((with_reducible show PS _ (.Assign [.Tuple _ _ _] (.Tuple _ _ _) _) _); refine' ps_asg ?ka ?kb; (case ka => wtm_at "fo e"); (case kb => wtm_at "fo g")))
local macro_rules | `(tactic| wtm_at "fo e") => `(tactic| first
  | ((with_reducible show PE _ (.UnaryOp .Invert _ _) _); apply pe_un un_inv; wtm_at "fo e")
  | ((with_reducible show PE _ (.BoolOp .Or [_] _) _); apply pe_one; wtm_at "fo e")
  | ((with_reducible show PE _ (.BoolOp .Or _ _) _); apply pe_or; (· wtm_at "fo e"); (· wtm_at "fo e"))
  | ((with_reducible show PE _ (.BinOp _ .Mult _ _) _); apply pe_op opMulB <;> wtm_at "fo e")
  | ((with_reducible show PE _ (.BinOp _ .BitOr _ _) _); apply pe_op op_or <;> wtm_at "fo e")
  | ((with_reducible show PE _ (.Compare _ [.Is] [.Constant .none _ _] _) _); refine' pe_cmpR op_isN ?ka ?kb (nomark _); (case ka => wtm_at "fo e"); (case kb => wtm_at "fo e"))
  | fail "no")
local macro_rules | `(tactic| wtm_at "fo t") => `(tactic| first
  | ((with_reducible show PT _ (.Compare _ [.Is] [.Constant .none _ _] _) _); refine' pt_cmpR op_isN ?ka ?kb (nomark _); (case ka => wtm_at "fo e"); (case kb => wtm_at "fo e"))
  | ((with_reducible show PT _ (.Compare _ [.IsNot] [.Constant .none _ _] _) _); refine' pt_cmpR op_notN ?ka ?kb (nomark _); (case ka => wtm_at "fo e"); (case kb => wtm_at "fo e"))
  | fail "no")
local macro_rules | `(tactic| wtm_at "fo i") => `(tactic| first
  | ((with_reducible show PI _ _ (.Call (.Name (Str.ofString "enumerate") _) [_, _] [] _) _); refine' pi_enumC (by assumption) (by exact rfl) (by rfl) (by assumption) ?ka; (case ka => wtm_at "fo a"))
  | ((with_reducible show PI _ _ (.Call (.Name (Str.ofString "enumerate") _) [_] [_] _) _); refine' pi_enumS (by assumption) (by exact rfl) (by rfl) (by assumption) ?ka ?kb; (case ka => wtm_at "fo a"); (case kb => wtm_at "fo k"))
  | fail "no")
local macro_rules | `(tactic| wtm_at "fo own") => `(tactic| first
  | ((show _ = [2, 4]); kernel_rfl!)
  | ((show _ = [4, 2]); kernel_rfl!)
  | fail "no")
local macro_rules | `(tactic| wtm_at "fo v") => `(tactic| ((with_reducible show PE _ (.Name (Str.ofString "tuple") _) _); exact pe_bltn (v := .ty "tuple") (by rfl) (by assumption) (by decide +kernel) rfl))
local macro_rules | `(tactic| wtm_at "fo slice") => `(tactic| ((with_reducible show PE _ (.Subscript _ (.Slice none none (some _) _) _) _); refine' pe_stepK2 (by assumption) (by exact rfl) ?ka ?kb; (case ka => wtm_at "fo e"); (case kb => wtm_at "fo e")))
variable {P : Program} {w : World} {K : PySem.W.Frag} {mg : Str → Option Value} {base : Heap}
def mkSig {X : Cx} {b : List Stmt} {t : TS} (h : PSs X b t) : PSigma fun t => PSs X b t := ⟨t, h⟩
set_option maxHeartbeats 32000000 in
noncomputable def derLaw (f : Addr) (cdv : Value) (A : Around) (outer : List Env) (s0 : Shared) (H : Hp) (E : XK) (hr : Room 5 (A.deeper (envOfC "law" (defScope s_law) s0.heap.objs.size f cdv))) (hgd : A.guards = some []) (mr : mg "range" = none) (mi : mg "int" = none) (ml : mg "list" = none)
    (C0 : Cal P w K mg base "_law_draws" 1 ["_law_cell"] spDraws) (C1 : Cal P w K mg base "_law_web" 3 ["_law_draws_here", "_law_size", "_law_kind"] spWeb)
    (C4 : Cal P w K mg base "_law_next" 1 ["_law_draws_here"] spNext)
    (C5 : CalG P w K mg base "_law_ends_right" 5 ["_law_size", "_law_sides", "_law_crowd", "_law_knots"] spEnds2)
    (C6 : Cal P w K mg base "_law_crowd_right" 4 ["_law_size", "_law_sides", "_law_crowd", "_law_knots"] spCrowd)
    (C9 : Cal P w K mg base "may_go" 4 ["people", "ties", "places", "lines", "standing"] spMayGo) :
    PSigma fun t => PSs (cxOf CX0 P w K mg base ["_law_script", "_law_draws_here", "_law_cell", "_law_kind", "_law_size", "_law_sides", "_law_crowd", "_law_ring", "_law_knots", "_law_round_now", "_law_spot"] "law" (defScope s_law) f cdv A outer s0 H E).nox (defBody s_law) t := by
  have nd := sc_law.nd
  have hS := sc_law
  have hKM : KMark K := ⟨⟩
  refine' mkSig ?h
  case h =>
    show PSs _ [_, _, _, _, _, _] _
    wtm_at "fo ss"
end
/-! piece TSW -/
section
/-! ### law -/
theorem cut4 (ns : List Int) : (cutV (ns.map V.int) none (some 4)).length ≤ 4 := by
  unfold cutV
  rw [List.length_take]
  refine Nat.le_trans (Nat.min_le_left _ _) (Nat.le_trans (Nat.sub_le _ _) ?_)
  unfold HT.sIx
  simp only [show ¬ (4 : Int) < 0 by decide, if_false]
  omega
theorem Pairs.but {H H' : Hp} {d p : Addr} {k : Int} {es : List Edge} (h : Pairs H p es) (s : SameBut d H H') (hd : Dr H d k) : Pairs H' p es := by
  obtain ⟨rs, hp⟩ := PsAt.of h
  exact (hp.but s hd).pairs
theorem call_webZ {d : Addr} {k kd z : Int} {H : Hp} {Q : VK} {E : XK} (n : Nat) (hz : z = (n : Int)) (hd : Dr H d k) (hk : k ≤ 900000) (hn : 1 ≤ n) (hn2 : n ≤ 12) (h0 : 0 ≤ kd) (h2 : kd ≤ 2)
    (fin : ∀ p H' k' fs, Simp n fs → (kd = 1 → Shrinks n fs) → fs.length ≤ 200 → SameBut d H H' → H p = none → Pairs H' p fs → Dr H' d k' → k' ≤ k + 2000 → Q (.ref p) H') : spWeb [.ref d, .int z, .int kd] H Q E := by
  subst hz
  exact call_web hd hk hn hn2 h0 h2 fin
theorem call_ends2Z {q kq : Addr} {y z : Int} {es fs : List Edge} {H : Hp} {Q : VK} {E : XK} (n m : Nat) (hy : y = (n : Int)) (hz : z = (m : Int)) (a1 : 1 ≤ n) (a2 : n ≤ 5) (a3 : Pairs H q es) (a4 : Simp n es) (a5 : es.length ≤ 200) (b1 : 1 ≤ m) (b2 : m ≤ 4) (b3 : Pairs H kq fs) (b4 : Simp m fs) (b5 : fs.length ≤ 200)
    (fin : ∀ H', Same H H' → Q (.bl true) H') : spEnds2 [.int y, .ref q, .int z, .ref kq] H Q E := by
  subst hy hz
  exact call_ends2 a1 a2 a3 a4 a5 b1 b2 b3 b4 b5 fin
theorem call_crowdZ {q kq : Addr} {y z : Int} {es fs : List Edge} {H : Hp} {Q : VK} {E : XK} (n m : Nat) (hy : y = (n : Int)) (hz : z = (m : Int)) (a1 : 1 ≤ n) (a2 : n ≤ 5) (a3 : Pairs H q es) (a4 : Simp n es) (a5 : es.length ≤ 200) (b1 : 1 ≤ m) (b2 : m ≤ 4) (b3 : Pairs H kq fs) (b4 : Simp m fs) (b5 : fs.length ≤ 200) (c : Shrinks m fs)
    (fin : ∀ H', Same H H' → Q (.bl true) H') : spCrowd [.int y, .ref q, .int z, .ref kq] H Q E := by
  subst hy hz
  exact call_crowd a1 a2 a3 a4 a5 b1 b2 b3 b4 b5 c fin
variable {P : Program} {w : World} {K : PySem.W.Frag} {mg : Str → Option Value} {base : Heap}
set_option maxHeartbeats 16000000 in
theorem ok_law {f : Addr} {fd : FuncData} (F : Fun K "law" "law" s_law f fd) (mr : mg "range" = none) (mi : mg "int" = none) (ml : mg "list" = none)
    (C0 : Cal P w K mg base "_law_draws" 1 ["_law_cell"] spDraws) (C1 : Cal P w K mg base "_law_web" 3 ["_law_draws_here", "_law_size", "_law_kind"] spWeb)
    (C4 : Cal P w K mg base "_law_next" 1 ["_law_draws_here"] spNext)
    (C5 : CalG P w K mg base "_law_ends_right" 5 ["_law_size", "_law_sides", "_law_crowd", "_law_knots"] spEnds2)
    (C6 : Cal P w K mg base "_law_crowd_right" 4 ["_law_size", "_law_sides", "_law_crowd", "_law_knots"] spCrowd)
    (C9 : Cal P w K mg base "may_go" 4 ["people", "ties", "places", "lines", "standing"] spMayGo) :
    FnG P w K mg base CX0 6 f fd ["_law_script"] (spLaw K) := by
  refine okG F sc_law (fun vs H Q E h => ?_) (fun cdv A outer s0 H vs Q E hr hgd h => ?_)
  · unfold spLaw at h
    obtain ⟨a, ns, rfl, _⟩ := h
    rfl
  · have nd := sc_law.nd
    have hS := sc_law
    have hKM : KMark K := ⟨⟩
    refine ⟨_, (derLaw (P := P) (w := w) (K := K) (mg := mg) (base := base) f cdv A outer s0 H E hr hgd mr mi ml C0 C1 C4 C5 C6 C9).2, ?_⟩
    unfold derLaw mkSig
    dsimp only
    next =>
     unfold spLaw at h
     obtain ⟨a, ns, rfl, hq, hl, fin⟩ := h
     wtm_at "fo r"
     refine ⟨a, _, rfl, hq, fun p1 np1 => ?_⟩
     have hc1 := cut4 ns
     have hc2 : ∀ x ∈ cutV (ns.map V.int) none (some 4), ∃ i, x = V.int i := fun x hx => cutInt hx
     generalize cutV (ns.map V.int) none (some 4) = xs at *
     wtm_at "fo r"
     rename_i p2 np2
     have h12 : p1 ≠ p2 := ne_of_none upd_same np2
     refine Or.inr ⟨p1, p2, xs, [.int 0], rfl, rfl, by rw [upd_ne h12]; exact upd_same, upd_same, ?_, fun c nc => ?_⟩
     · exact Nat.le_trans (m := 100) (by simp; omega) (by decide)
     have hxs : ∀ x ∈ xs ++ [V.int 0], ∃ i, x = V.int i := by
       intro x hx
       rcases List.mem_append.mp hx with hx | hx
       · exact hc2 x hx
       · exact ⟨0, by simpa using hx⟩
     have hlx : (xs ++ [V.int 0]).length ≤ 7 := by simp; omega
     generalize xs ++ [V.int 0] = zs at *
     generalize (upd (upd H p1 (.lst xs)) p2 (.lst [.int 0])) = H0 at *
     refine ⟨c, rfl, ⟨_, SqL.of upd_same⟩, fun D nD => ?_⟩
     have hcD : c ≠ D := ne_of_none upd_same nD
     refine lc_list (K := K) (xs := zs) (fun i H1 => H1 c = some (.lst zs) ∧ ∃ rs : List Addr, H1 D = some (.lst (rs.map V.ref)) ∧ rs.length = i ∧ rs.Nodup ∧ ∀ r ∈ rs, Dr H1 r 0) ?_ ?_ ?_ ?_
     · exact ⟨by rw [upd_ne hcD]; exact upd_same, [], upd_same, rfl, List.nodup_nil, by simp⟩
     · rintro i H1 _ ⟨hc, _⟩
       exact SqL.of hc
     · rintro i x H1 hx ⟨hc, rs, hD, hln, hnd, hdr⟩
       obtain ⟨z, rfl⟩ := hxs x (List.mem_of_getElem? hx)
       have hi : i < zs.length := (List.getElem?_eq_some_iff.mp hx).1
       refine ⟨rfl, ?_⟩
       wtm_at "fo r"
       refine call_draws (fun p ca cb np => ?_)
       have hDp : D ≠ p := ne_of_none hD np
       have hcp : c ≠ p := ne_of_none hc np
       refine ⟨rs.map V.ref, ?_, ?_, ?_, rs ++ [p], ?_, ?_, ?_, ?_⟩
       · rw [upd_ne hDp]
         exact hD
       · rw [List.length_map, hln]
         exact Nat.lt_of_lt_of_le (m := 7) (by omega) (by decide)
       · rw [upd_ne hcD, upd_ne hcp]
         exact hc
       · rw [upd_same, List.map_append]
         rfl
       · rw [List.length_append, hln]
         rfl
       · refine List.nodup_append.mpr ⟨hnd, by simp, ?_⟩
         intro x hx y hy e
         rw [List.mem_singleton.mp hy] at e
         obtain ⟨_, _, h2, _⟩ := hdr x hx
         rw [e, np] at h2
         cases h2
       · intro r hr
         rcases List.mem_append.mp hr with hr | hr
         · obtain ⟨x1, x2, h2, h3⟩ := hdr r hr
           refine ⟨x1, x2, ?_, h3⟩
           have e1 : r ≠ p := ne_of_none h2 np
           have e2 : r ≠ D := ((hdr r hr).ne_refs hD).symm
           rw [upd_ne e2, upd_ne e1]
           exact h2
         · rw [List.mem_singleton.mp hr]
           refine ⟨ca, cb, ?_, by omega⟩
           rw [upd_ne hDp.symm]
           exact upd_same
     · rintro H1 ⟨hc, rs, hD, hln, hnd, hdr⟩
       wtm_at "fo r"
       refine ⟨⟨_, SqL.of hD⟩, ?_⟩
       refine for_list (K := K) (xs := rs.map V.ref) (fun i σ H2 => ∃ y1 y3 y4 y5 y6, σ = [some (.ref a), y1, none, y3, y4, y5, y6, none, none, none, none] ∧ H2 D = some (.lst (rs.map V.ref)) ∧ ∀ j r, i ≤ j → rs[j]? = some r → Dr H2 r 0) ?_ ?_ ?_ ?_
       · exact ⟨none, none, none, none, none, rfl, hD, fun j r _ hr => hdr r (List.mem_of_getElem? hr)⟩
       · rintro i σ H2 _ ⟨y1, y3, y4, y5, y6, rfl, hD2, hdr2⟩
         exact SqL.of hD2
       · rintro i x σ H2 hx ⟨y1, y3, y4, y5, y6, rfl, hD2, hdr2⟩
         obtain ⟨d, hr, rfl⟩ := ref_at hx
         have hd2 := hdr2 i d (Nat.le_refl i) hr
         have hDd : D ≠ d := hd2.ne_refs hD2
         wtm_at "fo r"
         refine for_range (fun i4 σ H3 => ∃ y3 y4 y5 y6 k3, σ = [some (.ref a), some (.ref d), none, y3, y4, y5, y6, none, none, none, none] ∧ SameBut d H2 H3 ∧ Dr H3 d k3 ∧ k3 ≤ 10000 * (i4 : Int) ∧ 0 ≤ k3) ?_ ?_ ?_
         · exact ⟨y3, y4, y5, y6, 0, rfl, SameBut.refl d H2, hd2, by omega, by omega⟩
         · rintro i4 σ H3 hi4 ⟨y3, y4, y5, y6, k3, rfl, sb3, hd3, hk3, hk03⟩
           have hi4' : i4 < 3 := by simpa using hi4
           wtm_at "fo r"
           refine call_next hd3 (by omega) (fun z1 H4 hz1 sb4 hd4 => ?_)
           have g1 := Int.emod_nonneg z1 (show (5 : Int) ≠ 0 by decide)
           have g2 := Int.emod_lt_of_pos z1 (show (0 : Int) < 5 by decide)
           obtain ⟨n, hn⟩ : ∃ n : Nat, 1 + z1 % 5 = (n : Int) := ⟨(1 + z1 % 5).toNat, by omega⟩
           wtm_at "fo r"
           refine call_webZ (kd := 0 + (i4 : Int)) n hn hd4 (by omega) (by omega) (by omega) (by omega) (by omega) (fun q H5 k5 es hS5 _ hl5 sb5 nq5 hq5 hd5 hk5 => ?_)
           have hk05 : 0 ≤ k5 := hd5.elim fun _ ⟨_, _, h0⟩ => h0
           wtm_at "fo r"
           refine call_next hd5 (by omega) (fun z2 H6 hz2 sb6 hd6 => ?_)
           have g3 := Int.emod_nonneg z2 (show (3 : Int) ≠ 0 by decide)
           have g4 := Int.emod_lt_of_pos z2 (show (0 : Int) < 3 by decide)
           obtain ⟨m, hm⟩ : ∃ m : Nat, 1 + z2 % 3 = (m : Int) := ⟨(1 + z2 % 3).toNat, by omega⟩
           have hq6 := hq5.but sb6 hd5
           wtm_at "fo r"
           refine call_next hd6 (by omega) (fun z3 H7 hz3 sb7 hd7 => ?_)
           have g5 := Int.emod_nonneg z3 (show (3 : Int) ≠ 0 by decide)
           have g6 := Int.emod_lt_of_pos z3 (show (0 : Int) < 3 by decide)
           wtm_at "fo r"
           refine call_webZ (kd := z3 % 3) m hm hd7 (by omega) (by omega) (by omega) (by omega) (by omega) (fun kq H8 k8 fs hS8 _ hl8 sb8 nq8 hq8 hd8 hk8 => ?_)
           have hk08 : 0 ≤ k8 := hd8.elim fun _ ⟨_, _, h0⟩ => h0
           have hq8' := (hq6.but sb7 hd6).but sb8 hd7
           refine call_ends2Z n m hn hm (by omega) (by omega) hq8' hS5 hl5 (by omega) (by omega) hq8 hS8 hl8 (fun H9 sm9 => ?_)
           refine ⟨true, rfl, ifF rfl ?_⟩
           have hd9 := hd8.same sm9
           have hq9 := hq8'.same sm9
           wtm_at "fo r"
           refine call_webZ (kd := 1) m hm hd9 (by omega) (by omega) (by omega) (by omega) (by omega) (fun kq2 H10 k10 fs2 hS10 hZ10 hl10 sb10 nq10 hq10 hd10 hk10 => ?_)
           have hk010 : 0 ≤ k10 := hd10.elim fun _ ⟨_, _, h0⟩ => h0
           refine call_crowdZ n m hn hm (by omega) (by omega) (hq9.but sb10 hd9) hS5 hl5 (by omega) (by omega) hq10 hS10 hl10 (hZ10 rfl) (fun H11 sm11 => ?_)
           refine ⟨true, rfl, ifF rfl ?_⟩
           exact ⟨_, _, _, _, k10, rfl, (((((((sb3.trans sb4).trans sb5).trans sb6).trans sb7).trans sb8).trans (Same.but d sm9)).trans sb10).trans (Same.but d sm11), hd10.same sm11, by omega, hk010⟩
         · rintro σ H3 ⟨y3, y4, y5, y6, k3, rfl, sb3, hd3, hk3, hk03⟩
           refine ⟨_, y3, y4, y5, y6, rfl, sb3 D _ hDd hD2, fun j r hj hr2 => ?_⟩
           have hne : r ≠ d := fun e => by
             rw [e] at hr2
             have := nd_ix hnd hr2 hr
             omega
           obtain ⟨x1, x2, h2, h3⟩ := hdr2 j r (by omega) hr2
           exact ⟨x1, x2, sb3 r _ hne h2, h3⟩
       · rintro σ H2 ⟨y1, y3, y4, y5, y6, rfl, hD2, hdr2⟩
         clear hdr2 hD2
         wtm_at "fo r"
         rename_i r1 n1 r2 n2 r3 n3 r4 n4 q nq t1 nt1 x1 m1 x2 m2 x3 m3 xq mxq
         have hq0 : PsAt (upd _ q (.lst [.ref r1, .ref r2, .ref r3, .ref r4])) q [r1, r2, r3, r4] ring4 := (((((RowAt.nil H2).snoc (a := 1) (b := 2) n1).snoc (a := 2) (b := 3) n2).snoc (a := 3) (b := 4) n3).snoc (a := 4) (b := 1) n4).net nq
         generalize upd _ q (.lst [.ref r1, .ref r2, .ref r3, .ref r4]) = G1 at *
         clear n1 n2 n3 n4 nq
         have s1 : Same G1 (upd G1 t1 (.tup [.int 4, .ref q])) := same_upd (Same.refl _) nt1
         have ht1 : (upd G1 t1 (.tup [.int 4, .ref q])) t1 = some (.tup [.int 4, .ref q]) := upd_same
         have hq1 := hq0.same s1
         generalize upd G1 t1 (.tup [.int 4, .ref q]) = G2 at *
         clear s1 nt1 hq0
         have hx : PsAt (upd _ xq (.lst [.ref x1, .ref x2, .ref x3])) xq [x1, x2, x3] more3 := ((((RowAt.nil G2).snoc (a := 1) (b := 5) m1).snoc (a := 2) (b := 5) m2).snoc (a := 4) (b := 5) m3).net mxq
         have s2 : Same G2 (upd _ xq (.lst [.ref x1, .ref x2, .ref x3])) := (((same_upd (o := .lst [.int 1, .int 5]) (Same.refl G2) m1).trans (same_upd (o := .lst [.int 2, .int 5]) (Same.refl _) m2)).trans (same_upd (o := .lst [.int 4, .int 5]) (Same.refl _) m3)).trans (same_upd (o := .lst [.ref x1, .ref x2, .ref x3]) (Same.refl _) mxq)
         have hq2 := hq1.same s2
         have ht1b := s2 _ _ ht1
         generalize upd _ xq (.lst [.ref x1, .ref x2, .ref x3]) = G3 at *
         clear s2 m1 m2 m3 mxq hq1 ht1
         refine Or.inr ⟨q, xq, _, _, rfl, rfl, hq2.hD, hx.hD, (by decide : 4 + 3 ≤ sizeLine), fun z2 nz2 => ?_⟩
         have hcat := hq2.cat hx nz2
         have s3 : Same G3 (upd G3 z2 (.lst ([r1, r2, r3, r4].map V.ref ++ [x1, x2, x3].map V.ref))) := same_upd (Same.refl _) nz2
         have hq3 := hq2.same s3
         have ht1c := s3 _ _ ht1b
         generalize upd G3 z2 _ = G4 at *
         clear s3 nz2 hq2 ht1b hx
         wtm_at "fo r"
         rename_i t2 nt2
         have s4 : Same G4 (upd G4 t2 (.tup [.int 5, .ref z2])) := same_upd (Same.refl _) nt2
         have ht2 : (upd G4 t2 (.tup [.int 5, .ref z2])) t2 = some (.tup [.int 5, .ref z2]) := upd_same
         have hq4 := hq3.same s4
         have ht1d := s4 _ _ ht1c
         have hcat4 := hcat.same s4
         generalize upd G4 t2 (.tup [.int 5, .ref z2]) = G5 at *
         clear s4 nt2 hq3 ht1c hcat
         have hcut : cutV ([r1, r2, r3, r4].map V.ref) none (some 2) = ([r1, r2, r3, r4].map V.ref).take 2 := cut_to _ (k := 2) (by simp)
         refine ⟨q, _, rfl, SqL.of hq4.hD, fun c3 nc3 => ?_⟩
         rw [hcut]
         have htw := hq4.take 2 nc3
         have s5 : Same G5 (upd G5 c3 (.lst (([r1, r2, r3, r4].map V.ref).take 2))) := same_upd (Same.refl _) nc3
         have hq5 := hq4.same s5
         have ht1e := s5 _ _ ht1d
         have ht2e := s5 _ _ ht2
         have hcat5 := hcat4.same s5
         generalize upd G5 c3 (.lst (([r1, r2, r3, r4].map V.ref).take 2)) = G6 at *
         clear s5 nc3 hq4 ht1d ht2 hcat4 hcut
         wtm_at "fo r"
         rename_i t3 nt3 L nL
         have s6 : Same G6 (upd G6 t3 (.tup [.int 4, .ref c3])) := same_upd (Same.refl _) nt3
         have ht3 : (upd G6 t3 (.tup [.int 4, .ref c3])) t3 = some (.tup [.int 4, .ref c3]) := upd_same
         generalize upd G6 t3 (.tup [.int 4, .ref c3]) = G7 at *
         have s7 : Same G7 (upd G7 L (.lst [.ref t1, .ref t2, .ref t3])) := same_upd (Same.refl _) nL
         have hL : (upd G7 L (.lst [.ref t1, .ref t2, .ref t3])) L = some (.lst ([t1, t2, t3].map V.ref)) := upd_same
         have s67 := s6.trans s7
         have ht3' := s7 _ _ ht3
         generalize upd G7 L (.lst [.ref t1, .ref t2, .ref t3]) = G8 at *
         have hring := hq5.same s67
         have hNets : ∀ r ∈ [t1, t2, t3], NetT 1 5 (fun _ _ => True) G8 r := fun r hr => by
           simp only [List.mem_cons, List.not_mem_nil, or_false] at hr
           rcases hr with rfl | rfl | rfl
           · exact ⟨4, q, ring4, s67 _ _ ht1e, hring.pairs, simp_ring4, by decide, by decide, by decide, trivial⟩
           · exact ⟨5, z2, ring4 ++ more3, s67 _ _ ht2e, (hcat5.same s67).pairs, simp_more, by decide, by decide, by decide, trivial⟩
           · exact ⟨4, c3, ring4.take 2, ht3', (htw.same s67).pairs, simp_two, by decide, by decide, by decide, trivial⟩
         clear s6 s7 s67 ht3 ht3' nt3 nL hq5 ht1e ht2e hcat5 htw
         refine ⟨⟨_, SqL.of hL⟩, ?_⟩
         refine for_list (K := K) (xs := [t1, t2, t3].map V.ref) (fun i σ I => ∃ y4 y5 y6 y8, σ = [some (.ref a), y1, none, y3, y4, y5, y6, some (.ref q), y8, none, none] ∧ Same G8 I) ?_ ?_ ?_ ?_
         · exact ⟨_, _, _, _, rfl, Same.refl _⟩
         · rintro i σ I _ ⟨y4, y5, y6, y8, rfl, smI⟩
           exact SqL.of (smI _ _ hL)
         · rintro i x σ I hx ⟨y4, y5, y6, y8, rfl, smI⟩
           obtain ⟨r, hr, rfl⟩ := ref_at hx
           obtain ⟨n, qn, es, hrT, hqn, hSn, hln, hn1, hn5, _⟩ := (hNets r (List.mem_of_getElem? hr)).same smI
           refine Or.inl ⟨r, [.int (n : Int), .ref qn], rfl, SqT.of hrT, rfl, .int (n : Int), [.ref qn], rfl, .ref qn, [], rfl, rfl, ?_⟩
           wtm_at "fo r"
           rename_i e0 ne0 u1 nu1 v1 nv1 vq nvq u2 nu2 w1 nw1 w2 nw2 wq nwq u3 nu3 M nM
           have he0 : PsAt (upd I e0 (.lst [])) e0 [] [] := PsAt.nil upd_same
           have k1 : Same I (upd I e0 (.lst [])) := same_upd (Same.refl _) ne0
           generalize upd I e0 (.lst []) = J1 at *
           have k2 : Same J1 (upd J1 u1 (.tup [.int 2, .ref e0])) := same_upd (Same.refl _) nu1
           have hu1 : (upd J1 u1 (.tup [.int 2, .ref e0])) u1 = some (.tup [.int 2, .ref e0]) := upd_same
           have he02 := he0.same k2
           generalize upd J1 u1 (.tup [.int 2, .ref e0]) = J2 at *
           have hv : PsAt (upd _ vq (.lst [.ref v1])) vq [v1] tie1 := ((RowAt.nil J2).snoc (a := 1) (b := 2) nv1).net nvq
           have k3 : Same J2 (upd _ vq (.lst [.ref v1])) := (same_upd (o := .lst [.int 1, .int 2]) (Same.refl J2) nv1).trans (same_upd (o := .lst [.ref v1]) (Same.refl _) nvq)
           generalize upd _ vq (.lst [.ref v1]) = J3 at *
           have k4 : Same J3 (upd J3 u2 (.tup [.int 2, .ref vq])) := same_upd (Same.refl _) nu2
           have hu2 : (upd J3 u2 (.tup [.int 2, .ref vq])) u2 = some (.tup [.int 2, .ref vq]) := upd_same
           have hv4 := hv.same k4
           generalize upd J3 u2 (.tup [.int 2, .ref vq]) = J4 at *
           have hw : PsAt (upd _ wq (.lst [.ref w1, .ref w2])) wq [w1, w2] tie2 := (((RowAt.nil J4).snoc (a := 1) (b := 2) nw1).snoc (a := 3) (b := 2) nw2).net nwq
           have k5 : Same J4 (upd _ wq (.lst [.ref w1, .ref w2])) := ((same_upd (o := .lst [.int 1, .int 2]) (Same.refl J4) nw1).trans (same_upd (o := .lst [.int 3, .int 2]) (Same.refl _) nw2)).trans (same_upd (o := .lst [.ref w1, .ref w2]) (Same.refl _) nwq)
           generalize upd _ wq (.lst [.ref w1, .ref w2]) = J5 at *
           have k6 : Same J5 (upd J5 u3 (.tup [.int 3, .ref wq])) := same_upd (Same.refl _) nu3
           have hu3 : (upd J5 u3 (.tup [.int 3, .ref wq])) u3 = some (.tup [.int 3, .ref wq]) := upd_same
           have hw6 := hw.same k6
           generalize upd J5 u3 (.tup [.int 3, .ref wq]) = J6 at *
           have k7 : Same J6 (upd J6 M (.lst [.ref u1, .ref u2, .ref u3])) := same_upd (Same.refl _) nM
           have hM : (upd J6 M (.lst [.ref u1, .ref u2, .ref u3])) M = some (.lst ([u1, u2, u3].map V.ref)) := upd_same
           generalize upd J6 M (.lst [.ref u1, .ref u2, .ref u3]) = J7 at *
           have k67 := k6.trans k7
           have k47 := (k4.trans k5).trans k67
           have k57 := k5.trans k67
           have k27 := (k3.trans k47)
           have kI7 : Same I J7 := k1.trans (k2.trans k27)
           have hTies : ∀ r ∈ [u1, u2, u3], NetT 1 4 (fun m fs => fs = [] ∨ Shrinks m fs) J7 r := fun r hr => by
             simp only [List.mem_cons, List.not_mem_nil, or_false] at hr
             rcases hr with rfl | rfl | rfl
             · exact ⟨2, e0, [], k27 _ _ hu1, (he02.same k27).pairs, simp_none 2, by decide, by decide, by decide, .inl rfl⟩
             · exact ⟨2, vq, tie1, k57 _ _ hu2, (hv4.same k57).pairs, simp_tie1, by decide, by decide, by decide, .inr shr_tie1⟩
             · exact ⟨3, wq, tie2, k7 _ _ hu3, (hw6.same k7).pairs, simp_tie2, by decide, by decide, by decide, .inr shr_tie2⟩
           clear k1 k2 k3 k4 k5 k6 k7 k67 k47 k57 k27 hu1 hu2 hu3 hw hv he0 he02 hv4 hw6 ne0 nu1 nv1 nvq nu2 nw1 nw2 nwq nu3 nM
           refine ⟨⟨_, SqL.of hM⟩, ?_⟩
           have hqnJ := hqn.same kI7
           refine for_list (K := K) (xs := [u1, u2, u3].map V.ref) (fun i σ I2 => ∃ y6 y8, σ = [some (.ref a), y1, none, y3, some (.int (n : Int)), some (.ref qn), y6, some (.ref q), y8, none, none] ∧ Same J7 I2) ?_ ?_ ?_ ?_
           · exact ⟨_, _, rfl, Same.refl _⟩
           · rintro i σ I2 _ ⟨y6, y8, rfl, smJ⟩
             exact SqL.of (smJ _ _ hM)
           · rintro i x σ I2 hx2 ⟨y6, y8, rfl, smJ⟩
             obtain ⟨r2, hr2, rfl⟩ := ref_at hx2
             obtain ⟨m, qm, fs, hrT2, hqm, hSm, hlm, hm1, hm4, hZ⟩ := (hTies r2 (List.mem_of_getElem? hr2)).same smJ
             refine Or.inl ⟨r2, [.int (m : Int), .ref qm], rfl, SqT.of hrT2, rfl, .int (m : Int), [.ref qm], rfl, .ref qm, [], rfl, rfl, ?_⟩
             have hqn2 := hqnJ.same smJ
             wtm_at "fo r"
             refine call_ends2 hn1 hn5 hqn2 hSn hln hm1 hm4 hqm hSm hlm (fun I3 smI3 => ?_)
             refine ⟨true, rfl, ifF rfl ?_⟩
             have hqm3 := hqm.same smI3
             wtm_at "fo r"
             rename_i z nz
             have sz : Same I3 (upd I3 z (.lst [])) := same_upd (Same.refl _) nz
             have hzz : (upd I3 z (.lst [])) z = some (.lst []) := upd_same
             generalize upd I3 z (.lst []) = I4 at *
             have hqm4 := hqm3.same sz
             have sm4 := (smJ.trans smI3).trans sz
             refine Or.inr ⟨dE fs, .list [], dp_dE hqm4, .lst (SqL.of hzz) .nil, (dok_dE (hSm.small (by omega))).shaped (by decide), rfl, _, rfl, ?_⟩
             by_cases hfs : fs = []
             · subst hfs
               refine ifF (by rfl) ?_
               refine ifF rfl ?_
               exact ⟨_, _, rfl, sm4⟩
             · refine ite2 (fun _ => ?_) (fun _ => ?_)
               · wtm_at "fo r"
                 refine call_crowd hn1 hn5 ((hqn2.same smI3).same sz) hSn hln hm1 hm4 hqm4 hSm hlm (hZ.resolve_left hfs) (fun I5 sm5 => ?_)
                 refine ⟨true, rfl, ifF rfl ?_⟩
                 exact ⟨_, _, rfl, sm4.trans sm5⟩
               · refine ifF rfl ?_
                 exact ⟨_, _, rfl, sm4⟩
           · rintro σ I2 ⟨y6, y8, rfl, smJ⟩
             exact ⟨_, _, _, _, rfl, (smI.trans kI7).trans smJ⟩
         · rintro σ I ⟨y4, y5, y6, y8, rfl, smI⟩
           have hring2 := hring.same smI
           clear hNets hL hring smI
           wtm_at "fo r"
           rename_i f1 nf1 f2 nf2 f3 nf3 f4 nf4 fq nfq
           have hf : PsAt (upd _ fq (.lst [.ref f1, .ref f2, .ref f3, .ref f4])) fq [f1, f2, f3, f4] tie4 := (((((RowAt.nil I).snoc (a := 1) (b := 2) nf1).snoc (a := 2) (b := 3) nf2).snoc (a := 3) (b := 1) nf3).snoc (a := 3) (b := 4) nf4).net nfq
           have sf : Same I (upd _ fq (.lst [.ref f1, .ref f2, .ref f3, .ref f4])) := ((((same_upd (o := .lst [.int 1, .int 2]) (Same.refl I) nf1).trans (same_upd (o := .lst [.int 2, .int 3]) (Same.refl _) nf2)).trans (same_upd (o := .lst [.int 3, .int 1]) (Same.refl _) nf3)).trans (same_upd (o := .lst [.int 3, .int 4]) (Same.refl _) nf4)).trans (same_upd (o := .lst [.ref f1, .ref f2, .ref f3, .ref f4]) (Same.refl _) nfq)
           have hring3 := hring2.same sf
           generalize upd _ fq (.lst [.ref f1, .ref f2, .ref f3, .ref f4]) = I1 at *
           clear nf1 nf2 nf3 nf4 nfq sf hring2
           dsimp only [tNil]
           refine call_crowdZ 4 4 rfl rfl (by decide) (by decide) hring3.pairs simp_ring4 (by decide) (by decide) (by decide) hf.pairs simp_tie4 (by decide) shr_tie4 (fun I2 sm2 => ?_)
           refine ⟨true, rfl, ifF rfl ?_⟩
           have hring4 := hring3.same sm2
           clear hring3 hf sm2
           wtm_at "fo r"
           refine call_ends2Z 4 4 rfl rfl (by decide) (by decide) hring4.pairs simp_ring4 (by decide) (by decide) (by decide) hring4.pairs simp_ring4 (by decide) (fun I3 sm3 => ?_)
           refine ⟨true, rfl, ifF rfl ?_⟩
           clear hring4 sm3
           wtm_at "fo r"
           refine for_range (fun i σ I4 => ∃ y4 y9, σ = [some (.ref a), y1, none, y3, y4, y5, y6, some (.ref q), y8, y9, none]) ⟨_, _, rfl⟩ ?_ ?_
           · rintro i σ I4 hi ⟨y4', y9, rfl⟩
             have hi' : i < 9 := by simpa using hi
             obtain ⟨N, hN⟩ : ∃ N : Nat, (4 : Int) + (i : Int) = (N : Int) := ⟨4 + i, by omega⟩
             obtain ⟨hSN, hON, hMN⟩ := ring_facts N (by omega) (by omega)
             rw [hN]
             wtm_at "fo r"
             intro D nD
             have hcnt : ((N : Int) + 1 - 1).toNat = N := by omega
             refine lc_range (lo := 1) (fun j I5 => Same I4 I5 ∧ ∃ rs, PsAt I5 D rs ((List.range j).map fun (k : Nat) => ((k : Int) + 1, ((k : Int) + 1) % (N : Int) + 1))) ?_ ?_ ?_
             · exact ⟨same_upd (Same.refl _) nD, [], PsAt.nil upd_same⟩
             · rintro j I5 hj ⟨sm5, rsj, hP5⟩
               rw [hcnt] at hj
               refine ⟨rfl, ?_⟩
               wtm_at "fo r"
               rename_i r nr
               have hDr : D ≠ r := ne_of_none hP5.hD nr
               refine ⟨rsj.map V.ref, by rw [upd_ne hDr]; exact hP5.hD, ?_, same_upd (same_upd sm5 (sm5.free nr)) nD, rsj ++ [r], ?_⟩
               · rw [List.length_map, hP5.len, List.length_map, List.length_range]
                 exact Nat.lt_of_le_of_lt (m := 100) (by omega) (by decide)
               · refine (hP5.push nr (1 + (j : Int), (1 + (j : Int)) % (N : Int) + 1)).cong ?_
                 rw [List.range_succ, List.map_append, Int.add_comm 1 (j : Int)]
                 rfl
             · rintro I5 ⟨sm5, rsj, hP5⟩
               rw [hcnt] at hP5
               have hP5 : PsAt I5 D rsj (ringM N) := hP5
               wtm_at "fo r"
               intro al nal
               rw [rgV_all]
               have s6 : Same I5 (upd I5 al (.lst ((allM N).map V.int))) := same_upd (Same.refl _) nal
               have hal : (upd I5 al (.lst ((allM N).map V.int))) al = some (iL (allM N)) := upd_same
               generalize upd I5 al (.lst ((allM N).map V.int)) = I6 at *
               have hP6 := (hP5.same s6).pairs
               have hrl : (ringM N).length ≤ 200 := by unfold ringM; rw [List.length_map, List.length_range]; omega
               have hal2 : (allM N).length = N := by unfold allM; simp
               dsimp only [tNil]
               refine call_maygo (by omega) (by omega) hP6 hSN hrl (by omega) (by omega) hP6 hSN hrl hal ⟨hal2, fun x hx => allM_mem.mp hx⟩ hON (fun p9 rs9 I7 sm7 np9 hP7 => ?_)
               rw [hMN] at hP7
               wtm_at "fo r"
               rename_i z nz
               refine Or.inr ⟨dE [], .list [], dp_dE (hP7.ps.same (same_upd (Same.refl _) nz)).pairs, .lst (SqL.of upd_same) .nil, rfl, rfl, _, rfl, ?_⟩
               refine ifF (by rfl) ?_
               exact ⟨_, _, rfl⟩
           · rintro σ I4 ⟨y4', y9, rfl⟩
             exact fin I4
end
/-! piece ZE -/
section
/-! ### what the top has written -/
def HasDef (K : PySem.W.Frag) (x : Str) (st : Stmt) (f : Addr) (fd : FuncData) : Prop := PySem.W.nsIn K mainGlobals x = some (some (.ref f)) ∧ Fun K x x st f fd
theorem hasDef_mk {K : PySem.W.Frag} {x : Str} {st : Stmt} {f : Addr} {oc : Value} {od an : Option Addr} {osl : Array (Option Value)} {kV doc pm cdv ct : Value} (a : PySem.W.nsIn K mainGlobals x = some (some (.ref f)))
    (l : K.lookup f = some ⟨oc, od, .func (PySem.W.fnOf x x (defArgs st) (defBody st) (defScope st) .none kV doc pm an cdv ct), osl⟩) (c : PySem.W.codeIn K cdv x = true) (k : PySem.W.keepIn K (.ref f) = true) :
    ∃ f fd, HasDef K x st f fd := ⟨f, _, a, fun_mk l c k⟩
theorem cal_of {P : Program} {w : World} {K : PySem.W.Frag} {mg : Str → Option Value} {base h : Heap} {x : Str} {st : Stmt} {f : Addr} {fd : FuncData} {k : Nat} {ps : List Str} {sp : Sp} (X : K.In h) (G : h.Ns mainGlobals mg) (D : HasDef K x st f fd)
    (hb : Binds K fd ps []) (F : FnOk P w K mg base CX0 k f fd ps sp) : Cal P w K mg base x k ps sp := ⟨f, fd, F, PySem.W.mg_of X G D.1, D.2.kp, hb⟩
theorem calG_of {P : Program} {w : World} {K : PySem.W.Frag} {mg : Str → Option Value} {base h : Heap} {x : Str} {st : Stmt} {f : Addr} {fd : FuncData} {k : Nat} {ps : List Str} {sp : Sp} (X : K.In h) (G : h.Ns mainGlobals mg) (D : HasDef K x st f fd)
    (hb : Binds K fd ps []) (F : FnG P w K mg base CX0 k f fd ps sp) : CalG P w K mg base x k ps sp := ⟨f, fd, F, PySem.W.mg_of X G D.1, D.2.kp, hb⟩
theorem kcal_of {P : Program} {w : World} {K : PySem.W.Frag} {mg : Str → Option Value} {base h : Heap} {x : Str} {st : Stmt} {f : Addr} {fd : FuncData} {k : Nat} {ps ks : List Str} {g : List Value → List Value → List Value} {gV : List V → List V → List V} {sp : Sp} (X : K.In h) (G : h.Ns mainGlobals mg) (D : HasDef K x st f fd)
    (hb : KBinds K fd ps ks g gV) (F : FnOk P w K mg base CX0 k f fd ps sp) : KCal P w K mg base x k ps ks g gV sp := ⟨f, fd, F, PySem.W.mg_of X G D.1, D.2.kp, hb⟩
set_option maxHeartbeats 0 in
theorem all_mk {l : PySem.W.OpenLaw} {w : World} {K : PySem.W.Frag} {h : Heap} {mg : Str → Option Value} {fa : Addr} {tk : Tok} (X : K.In h) (G : h.Ns mainGlobals mg) (hfa : mg "law" = some (.ref fa))
    (d_is_place : ∃ f fd, HasDef K "is_place" s_is_place f fd)
    (d_read_net : ∃ f fd, HasDef K "read_net" s_read_net f fd)
    (d_read_folds : ∃ f fd, HasDef K "read_folds" s_read_folds f fd)
    (d_whole_lot : ∃ f fd, HasDef K "whole_lot" s_whole_lot f fd)
    (d_members : ∃ f fd, HasDef K "members" s_members f fd)
    (d_first_target : ∃ f fd, HasDef K "first_target" s_first_target f fd)
    (d_fold_around : ∃ f fd, HasDef K "fold_around" s_fold_around f fd)
    (d_goals_behind : ∃ f fd, HasDef K "goals_behind" s_goals_behind f fd)
    (d_fold_map : ∃ f fd, HasDef K "fold_map" s_fold_map f fd)
    (d_left_after : ∃ f fd, HasDef K "left_after" s_left_after f fd)
    (d_full_order : ∃ f fd, HasDef K "full_order" s_full_order f fd)
    (d_order_around : ∃ f fd, HasDef K "_order_around" s_order_around f fd)
    (d_may_go : ∃ f fd, HasDef K "may_go" s_may_go f fd)
    (d_read_nets : ∃ f fd, HasDef K "_read_nets" s_read_nets f fd)
    (d_check_places : ∃ f fd, HasDef K "_check_places" s_check_places f fd)
    (d_check_standing : ∃ f fd, HasDef K "_check_standing" s_check_standing f fd)
    (d_parted_pair : ∃ f fd, HasDef K "_parted_pair" s_parted_pair f fd)
    (d_law_draws : ∃ f fd, HasDef K "_law_draws" s_law_draws f fd)
    (d_law_next : ∃ f fd, HasDef K "_law_next" s_law_next f fd)
    (d_law_shuffled : ∃ f fd, HasDef K "_law_shuffled" s_law_shuffled f fd)
    (d_law_grown : ∃ f fd, HasDef K "_law_grown" s_law_grown f fd)
    (d_law_web : ∃ f fd, HasDef K "_law_web" s_law_web f fd)
    (d_law_near : ∃ f fd, HasDef K "_law_near" s_law_near f fd)
    (d_law_stands : ∃ f fd, HasDef K "_law_stands" s_law_stands f fd)
    (d_law_let : ∃ f fd, HasDef K "_law_let" s_law_let f fd)
    (d_law_lots : ∃ f fd, HasDef K "_law_lots" s_law_lots f fd)
    (d_law_ends_right : ∃ f fd, HasDef K "_law_ends_right" s_law_ends_right f fd)
    (d_law_hangs : ∃ f fd, HasDef K "_law_hangs" s_law_hangs f fd)
    (d_law_crowd_right : ∃ f fd, HasDef K "_law_crowd_right" s_law_crowd_right f fd)
    (d_law : ∃ f fd, HasDef K "law" s_law f fd)
    (z_int : PySem.W.nsIn K mainGlobals "int" = some none)
    (z_range : PySem.W.nsIn K mainGlobals "range" = some none)
    (z_list : PySem.W.nsIn K mainGlobals "list" = some none)
    (z_len : PySem.W.nsIn K mainGlobals "len" = some none)
    (z_repr : PySem.W.nsIn K mainGlobals "repr" = some none)
    (z_enumerate : PySem.W.nsIn K mainGlobals "enumerate" = some none)
    (z_isinstance : PySem.W.nsIn K mainGlobals "isinstance" = some none)
    (z_reversed : PySem.W.nsIn K mainGlobals "reversed" = some none)
    (z_tuple : PySem.W.nsIn K mainGlobals "tuple" = some none)
    (z_dict : PySem.W.nsIn K mainGlobals "dict" = some none)
    (z_set : PySem.W.nsIn K mainGlobals "set" = some none)
    (z_min : PySem.W.nsIn K mainGlobals "min" = some none)
    (z_most : PySem.W.nsIn K mainGlobals "MOST_PLACES" = some (some (.int 12 tk))) :
    ∃ fd : FuncData, (∀ (s : Shared) (v : Value), BindsTo s fd ⟨[v], []⟩ [("_law_script", v)]) ∧ ∀ base : Heap, K.In base → base.Ns mainGlobals mg → FnG l.prog w K mg base CX0 6 fa fd ["_law_script"] (spLaw K) := by
  obtain ⟨f_is_place, fd_is_place, e_is_place⟩ := d_is_place
  have b_is_place := e_is_place.2.binds (ps := ["place", "places"]) fun _ _ _ _ _ _ us hl => match us, hl with | [_, _], _ => rfl
  obtain ⟨f_read_net, fd_read_net, e_read_net⟩ := d_read_net
  have b_read_net := e_read_net.2.binds (ps := ["places", "lines"]) fun _ _ _ _ _ _ us hl => match us, hl with | [_, _], _ => rfl
  obtain ⟨f_read_folds, fd_read_folds, e_read_folds⟩ := d_read_folds
  have b_read_folds := e_read_folds.2.binds (ps := ["near", "order"]) fun _ _ _ _ _ _ us hl => match us, hl with | [_, _], _ => rfl
  obtain ⟨f_whole_lot, fd_whole_lot, e_whole_lot⟩ := d_whole_lot
  have b_whole_lot := e_whole_lot.2.binds (ps := ["near"]) fun _ _ _ _ _ _ us hl => match us, hl with | [_], _ => rfl
  obtain ⟨f_members, fd_members, e_members⟩ := d_members
  have b_members := e_members.2.binds (ps := ["lot"]) fun _ _ _ _ _ _ us hl => match us, hl with | [_], _ => rfl
  obtain ⟨f_first_target, fd_first_target, e_first_target⟩ := d_first_target
  have b_first_target := e_first_target.2.binds (ps := ["near", "lot", "place"]) fun _ _ _ _ _ _ us hl => match us, hl with | [_, _, _], _ => rfl
  obtain ⟨f_fold_around, fd_fold_around, e_fold_around⟩ := d_fold_around
  have b_fold_around := e_fold_around.2.binds (ps := ["near", "held"]) fun _ _ _ _ _ _ us hl => match us, hl with | [_, _], _ => rfl
  obtain ⟨f_goals_behind, fd_goals_behind, e_goals_behind⟩ := d_goals_behind
  have b_goals_behind := e_goals_behind.2.binds (ps := ["near", "pairs"]) fun _ _ _ _ _ _ us hl => match us, hl with | [_, _], _ => rfl
  obtain ⟨f_fold_map, fd_fold_map, e_fold_map⟩ := d_fold_map
  have b_fold_map := e_fold_map.2.binds (ps := ["places", "lines", "order"]) fun _ _ _ _ _ _ us hl => match us, hl with | [_, _, _], _ => rfl
  obtain ⟨f_left_after, fd_left_after, e_left_after⟩ := d_left_after
  have b_left_after := e_left_after.2.binds (ps := ["places", "lines", "order"]) fun _ _ _ _ _ _ us hl => match us, hl with | [_, _, _], _ => rfl
  obtain ⟨f_full_order, fd_full_order, e_full_order⟩ := d_full_order
  have b_full_order := e_full_order.2.binds (ps := ["places", "lines"]) fun _ _ _ _ _ _ us hl => match us, hl with | [_, _], _ => rfl
  obtain ⟨f_order_around, fd_order_around, e_order_around⟩ := d_order_around
  have b_order_around := e_order_around.2.binds (ps := ["near", "held"]) fun _ _ _ _ _ _ us hl => match us, hl with | [_, _], _ => rfl
  obtain ⟨f_may_go, fd_may_go, e_may_go⟩ := d_may_go
  have b_may_go := e_may_go.2.binds (ps := ["people", "ties", "places", "lines", "standing"]) fun _ _ _ _ _ _ us hl => match us, hl with | [_, _, _, _, _], _ => rfl
  obtain ⟨f_read_nets, fd_read_nets, e_read_nets⟩ := d_read_nets
  have b_read_nets := e_read_nets.2.binds (ps := ["people", "ties", "places", "lines"]) fun _ _ _ _ _ _ us hl => match us, hl with | [_, _, _, _], _ => rfl
  obtain ⟨f_check_places, fd_check_places, e_check_places⟩ := d_check_places
  have b_check_places := e_check_places.2.binds (ps := ["knows", "near", "standing"]) fun _ _ _ _ _ _ us hl => match us, hl with | [_, _, _], _ => rfl
  obtain ⟨f_check_standing, fd_check_standing, e_check_standing⟩ := d_check_standing
  have b_check_standing := e_check_standing.2.binds (ps := ["knows", "near", "standing"]) fun _ _ _ _ _ _ us hl => match us, hl with | [_, _, _], _ => rfl
  obtain ⟨f_parted_pair, fd_parted_pair, e_parted_pair⟩ := d_parted_pair
  have b_parted_pair := e_parted_pair.2.binds (ps := ["knows", "near", "standing"]) fun _ _ _ _ _ _ us hl => match us, hl with | [_, _, _], _ => rfl
  obtain ⟨f_law_draws, fd_law_draws, e_law_draws⟩ := d_law_draws
  have b_law_draws := e_law_draws.2.binds (ps := ["_law_cell"]) fun _ _ _ _ _ _ us hl => match us, hl with | [_], _ => rfl
  obtain ⟨f_law_next, fd_law_next, e_law_next⟩ := d_law_next
  have b_law_next := e_law_next.2.binds (ps := ["_law_draws_here"]) fun _ _ _ _ _ _ us hl => match us, hl with | [_], _ => rfl
  obtain ⟨f_law_shuffled, fd_law_shuffled, e_law_shuffled⟩ := d_law_shuffled
  have b_law_shuffled := e_law_shuffled.2.binds (ps := ["_law_draws_here", "_law_things"]) fun _ _ _ _ _ _ us hl => match us, hl with | [_, _], _ => rfl
  obtain ⟨f_law_grown, fd_law_grown, e_law_grown⟩ := d_law_grown
  have b_law_grown := e_law_grown.2.binds (ps := ["_law_draws_here", "_law_size", "_law_sides", "_law_start"]) fun _ _ _ _ _ _ us hl => match us, hl with | [_, _, _, _], _ => rfl
  obtain ⟨f_law_web, fd_law_web, e_law_web⟩ := d_law_web
  have b_law_web := e_law_web.2.binds (ps := ["_law_draws_here", "_law_size", "_law_kind"]) fun _ _ _ _ _ _ us hl => match us, hl with | [_, _, _], _ => rfl
  obtain ⟨f_law_near, fd_law_near, e_law_near⟩ := d_law_near
  have b_law_near := e_law_near.2.binds (ps := ["_law_size", "_law_sides"]) fun _ _ _ _ _ _ us hl => match us, hl with | [_, _], _ => rfl
  obtain ⟨f_law_stands, fd_law_stands, e_law_stands⟩ := d_law_stands
  have b_law_stands := e_law_stands.2.binds (ps := ["_law_crowd", "_law_knots", "_law_spots", "_law_near_here"]) fun _ _ _ _ _ _ us hl => match us, hl with | [_, _, _, _], _ => rfl
  obtain ⟨f_law_let, fd_law_let, e_law_let⟩ := d_law_let
  have b_law_let := e_law_let.2.binds (ps := ["_law_near_here", "_law_friends", "_law_row", "_law_spot"]) fun _ _ _ _ _ _ us hl => match us, hl with | [_, _, _, _], _ => rfl
  obtain ⟨f_law_lots, fd_law_lots, e_law_lots⟩ := d_law_lots
  have b_law_lots := e_law_lots.2.binds (ps := ["_law_crowd", "_law_knots", "_law_spots", "_law_near_here"]) fun _ _ _ _ _ _ us hl => match us, hl with | [_, _, _, _], _ => rfl
  obtain ⟨f_law_ends_right, fd_law_ends_right, e_law_ends_right⟩ := d_law_ends_right
  have b_law_ends_right := e_law_ends_right.2.binds (ps := ["_law_size", "_law_sides", "_law_crowd", "_law_knots"]) fun _ _ _ _ _ _ us hl => match us, hl with | [_, _, _, _], _ => rfl
  obtain ⟨f_law_hangs, fd_law_hangs, e_law_hangs⟩ := d_law_hangs
  have b_law_hangs := e_law_hangs.2.binds (ps := ["_law_size", "_law_sides"]) fun _ _ _ _ _ _ us hl => match us, hl with | [_, _], _ => rfl
  obtain ⟨f_law_crowd_right, fd_law_crowd_right, e_law_crowd_right⟩ := d_law_crowd_right
  have b_law_crowd_right := e_law_crowd_right.2.binds (ps := ["_law_size", "_law_sides", "_law_crowd", "_law_knots"]) fun _ _ _ _ _ _ us hl => match us, hl with | [_, _, _, _], _ => rfl
  obtain ⟨f_law, fd_law, e_law⟩ := d_law
  have b_law := e_law.2.binds (ps := ["_law_script"]) fun _ _ _ _ _ _ us hl => match us, hl with | [_], _ => rfl
  have m_int := PySem.W.mg_none_of X G z_int
  have m_range := PySem.W.mg_none_of X G z_range
  have m_list := PySem.W.mg_none_of X G z_list
  have m_len := PySem.W.mg_none_of X G z_len
  have m_repr := PySem.W.mg_none_of X G z_repr
  have m_enumerate := PySem.W.mg_none_of X G z_enumerate
  have m_isinstance := PySem.W.mg_none_of X G z_isinstance
  have m_reversed := PySem.W.mg_none_of X G z_reversed
  have m_tuple := PySem.W.mg_none_of X G z_tuple
  have m_dict := PySem.W.mg_none_of X G z_dict
  have m_set := PySem.W.mg_none_of X G z_set
  have m_min := PySem.W.mg_none_of X G z_min
  have m_most := PySem.W.mg_of X G z_most
  have e := hfa.symm.trans (PySem.W.mg_of X G e_law.1)
  cases e
  refine ⟨fd_law, fun s v => ?_, fun base _ _ => ?_⟩
  · obtain ⟨oc, od, kV, doc, pm, an, cdv, ct, osl, rfl, lk, hcd⟩ := e_law.2.ex
    exact .of_eq rfl
  have c_next := cal_of X G e_law_next b_law_next (ok_next (P := l.prog) (w := w) (K := K) (mg := mg) (base := base) e_law_next.2 m_int)
  have c_draws := cal_of X G e_law_draws b_law_draws (ok_draws (P := l.prog) (w := w) (K := K) (mg := mg) (base := base) e_law_draws.2 m_int)
  have c_shuf := cal_of X G e_law_shuffled b_law_shuffled (ok_shuf (P := l.prog) (w := w) (K := K) (mg := mg) (base := base) e_law_shuffled.2 m_int m_list m_len c_next)
  have c_grown := cal_of X G e_law_grown b_law_grown (ok_grown (P := l.prog) (w := w) (K := K) (mg := mg) (base := base) e_law_grown.2 m_range m_list m_int c_next)
  have c_web := cal_of X G e_law_web b_law_web (ok_web (P := l.prog) (w := w) (K := K) (mg := mg) (base := base) e_law_web.2 m_range m_list m_int m_min c_next c_shuf c_grown)
  have c_isp := cal_of X G e_is_place b_is_place (ok_isplace (P := l.prog) (w := w) (K := K) (mg := mg) (base := base) e_is_place.2 m_isinstance m_int)
  have c_mem := cal_of X G e_members b_members (ok_members (P := l.prog) (w := w) (K := K) (mg := mg) (base := base) e_members.2 m_range)
  have c_read := cal_of X G e_read_net b_read_net (ok_read (P := l.prog) (w := w) (K := K) (mg := mg) (base := base) e_read_net.2 m_isinstance m_int m_list m_range m_enumerate m_len m_most c_isp)
  have c_whole := cal_of X G e_whole_lot b_whole_lot (ok_whole (P := l.prog) (w := w) (K := K) (mg := mg) (base := base) e_whole_lot.2 m_len)
  have c_first := cal_of X G e_first_target b_first_target (ok_first (P := l.prog) (w := w) (K := K) (mg := mg) (base := base) e_first_target.2 m_enumerate)
  have c_goals := cal_of X G e_goals_behind b_goals_behind (ok_goals (P := l.prog) (w := w) (K := K) (mg := mg) (base := base) e_goals_behind.2 m_range m_list m_len m_reversed)
  have c_rfolds := cal_of X G e_read_folds b_read_folds (ok_rfolds (P := l.prog) (w := w) (K := K) (mg := mg) (base := base) e_read_folds.2 m_isinstance m_list m_enumerate m_len c_whole c_first c_isp)
  have c_fmap := cal_of X G e_fold_map b_fold_map (ok_fmap (P := l.prog) (w := w) (K := K) (mg := mg) (base := base) e_fold_map.2 c_read c_rfolds c_goals)
  have c_left := cal_of X G e_left_after b_left_after (ok_left (P := l.prog) (w := w) (K := K) (mg := mg) (base := base) e_left_after.2 c_read c_rfolds c_mem)
  have c_around := cal_of X G e_fold_around b_fold_around (ok_around (P := l.prog) (w := w) (K := K) (mg := mg) (base := base) e_fold_around.2 c_whole c_first c_mem)
  have c_oa := cal_of X G e_order_around b_order_around (ok_oa (P := l.prog) (w := w) (K := K) (mg := mg) (base := base) e_order_around.2 c_around)
  have c_full := cal_of X G e_full_order b_full_order (ok_full (P := l.prog) (w := w) (K := K) (mg := mg) (base := base) e_full_order.2 c_read c_oa)
  have c_nets := cal_of X G e_read_nets b_read_nets (ok_nets (P := l.prog) (w := w) (K := K) (mg := mg) (base := base) e_read_nets.2 c_read)
  have c_checkp := cal_of X G e_check_places b_check_places (ok_checkp (P := l.prog) (w := w) (K := K) (mg := mg) (base := base) e_check_places.2 m_isinstance m_list m_len m_enumerate c_isp)
  have c_pair := cal_of X G e_parted_pair b_parted_pair (ok_pair (P := l.prog) (w := w) (K := K) (mg := mg) (base := base) e_parted_pair.2 m_enumerate c_mem)
  have c_checks := cal_of X G e_check_standing b_check_standing (ok_checks (P := l.prog) (w := w) (K := K) (mg := mg) (base := base) e_check_standing.2 c_checkp c_pair)
  have c_maygo := cal_of X G e_may_go b_may_go (ok_maygo (P := l.prog) (w := w) (K := K) (mg := mg) (base := base) e_may_go.2 m_enumerate c_nets c_checks c_mem)
  have c_near := cal_of X G e_law_near b_law_near (ok_near (P := l.prog) (w := w) (K := K) (mg := mg) (base := base) e_law_near.2 m_range)
  have c_let := cal_of X G e_law_let b_law_let (ok_let (P := l.prog) (w := w) (K := K) (mg := mg) (base := base) e_law_let.2 m_len)
  have c_stands := cal_of X G e_law_stands b_law_stands (ok_stands (P := l.prog) (w := w) (K := K) (mg := mg) (base := base) e_law_stands.2 m_range c_let)
  have c_lots := cal_of X G e_law_lots b_law_lots (ok_lots (P := l.prog) (w := w) (K := K) (mg := mg) (base := base) e_law_lots.2 m_range m_dict m_tuple m_enumerate c_stands)
  have c_hangs := cal_of X G e_law_hangs b_law_hangs (ok_hangs (P := l.prog) (w := w) (K := K) (mg := mg) (base := base) e_law_hangs.2 m_range m_list)
  have c_crowd := cal_of X G e_law_crowd_right b_law_crowd_right (ok_crowd (P := l.prog) (w := w) (K := K) (mg := mg) (base := base) e_law_crowd_right.2 m_range m_list m_len m_set c_lots c_near c_hangs)
  have c_ends2 := calG_of X G e_law_ends_right b_law_ends_right (ok_ends2 (P := l.prog) (w := w) (K := K) (mg := mg) (base := base) e_law_ends_right.2 m_repr m_range m_list m_len m_set m_tuple c_lots c_near c_full c_fmap c_left)
  exact ok_law (P := l.prog) (w := w) (K := K) (mg := mg) (base := base) e_law.2 m_range m_int m_list c_draws c_web c_next c_ends2 c_crowd c_maygo
theorem walkL {l : PySem.W.OpenLaw} {q : Program} {loose : List Str} {XP : (Str → Option Value) → Heap → Prop} {YP : World → Heap → Prop} {d : DefRec} {K : Params → PySem.W.Frag} (hn : l.most = some 63) (hdf : d.params.defaults = [])
    (hY : ∀ (w : World) (h : Heap), YP w h → (K w.params).In h)
    (F : ∀ (w : World) (mg : Str → Option Value) (fa : Addr) (h : Heap), (K w.params).In h → h.Ns mainGlobals mg → mg d.name = some (.ref fa) →
      ∃ fd : FuncData, (∀ (s : Shared) (u : Value), BindsTo s fd ⟨[u], []⟩ [("_law_script", u)]) ∧ ∀ base : Heap, (K w.params).In base → base.Ns mainGlobals mg → FnG l.prog w (K w.params) mg base CX0 6 fa fd ["_law_script"] (spLaw (K w.params))) :
    PySem.W.WalkO q loose XP YP l.row.toRowW d [] (fun f vs => PySem.call f vs) :=
  walkG (n := 63) (k := 6) (x := "_law_script") (sp := fun w => spLaw (K w.params)) hn (by decide) hdf ⟨rfl, by decide, by decide⟩ hY F fun w H a ns hl _ hS => by
    unfold spLaw
    exact ⟨a, ns, rfl, hS, Nat.le_trans hl (by decide), fun _ => rfl⟩
end
end Fo
open PySem PySem.W PyProof.Rows
set_option maxHeartbeats 0 in
theorem PySem.Challenge.cw_foldednets_k42_whole_standings_by_ends_holds : PySem.Challenge.rw_foldednets_k42_whole_standings_by_ends.Holds := by
  w_on; o_law; k_head; (case hw => w_witness2)
  k_fill
  refine Fo.walkL (l := PySem.Challenge.rw_foldednets_k42_whole_standings_by_ends) rfl rfl (fun w h Y => PySem.W.kIn_of Y) ?F
  case F =>
    intro w mg fa h KX G hmg
    refine' Fo.all_mk KX G hmg ?d0 ?d1 ?d2 ?d3 ?d4 ?d5 ?d6 ?d7 ?d8 ?d9 ?d10 ?d11 ?d12 ?d13 ?d14 ?d15 ?d16 ?d17 ?d18 ?d19 ?d20 ?d21 ?d22 ?d23 ?d24 ?d25 ?d26 ?d27 ?d28 ?d29 ?z_int ?z_range ?z_list ?z_len ?z_repr ?z_enumerate ?z_isinstance ?z_reversed ?z_tuple ?z_dict ?z_set ?z_min ?z_most
    (case d0 => refine' Fo.hasDef_mk ?a ?l ?c ?k; (case a => k_is); (case l => k_is); (case c => k_is); (case k => k_is))
    (case d1 => refine' Fo.hasDef_mk ?a ?l ?c ?k; (case a => k_is); (case l => k_is); (case c => k_is); (case k => k_is))
    (case d2 => refine' Fo.hasDef_mk ?a ?l ?c ?k; (case a => k_is); (case l => k_is); (case c => k_is); (case k => k_is))
    (case d3 => refine' Fo.hasDef_mk ?a ?l ?c ?k; (case a => k_is); (case l => k_is); (case c => k_is); (case k => k_is))
    (case d4 => refine' Fo.hasDef_mk ?a ?l ?c ?k; (case a => k_is); (case l => k_is); (case c => k_is); (case k => k_is))
    (case d5 => refine' Fo.hasDef_mk ?a ?l ?c ?k; (case a => k_is); (case l => k_is); (case c => k_is); (case k => k_is))
    (case d6 => refine' Fo.hasDef_mk ?a ?l ?c ?k; (case a => k_is); (case l => k_is); (case c => k_is); (case k => k_is))
    (case d7 => refine' Fo.hasDef_mk ?a ?l ?c ?k; (case a => k_is); (case l => k_is); (case c => k_is); (case k => k_is))
    (case d8 => refine' Fo.hasDef_mk ?a ?l ?c ?k; (case a => k_is); (case l => k_is); (case c => k_is); (case k => k_is))
    (case d9 => refine' Fo.hasDef_mk ?a ?l ?c ?k; (case a => k_is); (case l => k_is); (case c => k_is); (case k => k_is))
    (case d10 => refine' Fo.hasDef_mk ?a ?l ?c ?k; (case a => k_is); (case l => k_is); (case c => k_is); (case k => k_is))
    (case d11 => refine' Fo.hasDef_mk ?a ?l ?c ?k; (case a => k_is); (case l => k_is); (case c => k_is); (case k => k_is))
    (case d12 => refine' Fo.hasDef_mk ?a ?l ?c ?k; (case a => k_is); (case l => k_is); (case c => k_is); (case k => k_is))
    (case d13 => refine' Fo.hasDef_mk ?a ?l ?c ?k; (case a => k_is); (case l => k_is); (case c => k_is); (case k => k_is))
    (case d14 => refine' Fo.hasDef_mk ?a ?l ?c ?k; (case a => k_is); (case l => k_is); (case c => k_is); (case k => k_is))
    (case d15 => refine' Fo.hasDef_mk ?a ?l ?c ?k; (case a => k_is); (case l => k_is); (case c => k_is); (case k => k_is))
    (case d16 => refine' Fo.hasDef_mk ?a ?l ?c ?k; (case a => k_is); (case l => k_is); (case c => k_is); (case k => k_is))
    (case d17 => refine' Fo.hasDef_mk ?a ?l ?c ?k; (case a => k_is); (case l => k_is); (case c => k_is); (case k => k_is))
    (case d18 => refine' Fo.hasDef_mk ?a ?l ?c ?k; (case a => k_is); (case l => k_is); (case c => k_is); (case k => k_is))
    (case d19 => refine' Fo.hasDef_mk ?a ?l ?c ?k; (case a => k_is); (case l => k_is); (case c => k_is); (case k => k_is))
    (case d20 => refine' Fo.hasDef_mk ?a ?l ?c ?k; (case a => k_is); (case l => k_is); (case c => k_is); (case k => k_is))
    (case d21 => refine' Fo.hasDef_mk ?a ?l ?c ?k; (case a => k_is); (case l => k_is); (case c => k_is); (case k => k_is))
    (case d22 => refine' Fo.hasDef_mk ?a ?l ?c ?k; (case a => k_is); (case l => k_is); (case c => k_is); (case k => k_is))
    (case d23 => refine' Fo.hasDef_mk ?a ?l ?c ?k; (case a => k_is); (case l => k_is); (case c => k_is); (case k => k_is))
    (case d24 => refine' Fo.hasDef_mk ?a ?l ?c ?k; (case a => k_is); (case l => k_is); (case c => k_is); (case k => k_is))
    (case d25 => refine' Fo.hasDef_mk ?a ?l ?c ?k; (case a => k_is); (case l => k_is); (case c => k_is); (case k => k_is))
    (case d26 => refine' Fo.hasDef_mk ?a ?l ?c ?k; (case a => k_is); (case l => k_is); (case c => k_is); (case k => k_is))
    (case d27 => refine' Fo.hasDef_mk ?a ?l ?c ?k; (case a => k_is); (case l => k_is); (case c => k_is); (case k => k_is))
    (case d28 => refine' Fo.hasDef_mk ?a ?l ?c ?k; (case a => k_is); (case l => k_is); (case c => k_is); (case k => k_is))
    (case d29 => refine' Fo.hasDef_mk ?a ?l ?c ?k; (case a => k_is); (case l => k_is); (case c => k_is); (case k => k_is))
    (case z_int => k_is)
    (case z_range => k_is)
    (case z_list => k_is)
    (case z_len => k_is)
    (case z_repr => k_is)
    (case z_enumerate => k_is)
    (case z_isinstance => k_is)
    (case z_reversed => k_is)
    (case z_tuple => k_is)
    (case z_dict => k_is)
    (case z_set => k_is)
    (case z_min => k_is)
    (case z_most => k_is)
#print axioms PySem.Challenge.cw_foldednets_k42_whole_standings_by_ends_holds
